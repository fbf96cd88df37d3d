/-
  The law file's do.
-/
import Derived.Test.YtgbicdbmmjleoaaTrRef
import Derived.Test.YtgbicdbmmjleoaaTrPut
namespace Go.Proofs.Ytgbicdbmmjleoaa
open Go.RowKit

set_option maxHeartbeats 2000000 in
theorem do_calls (v : Value) (l : List Pr) (z : Int) (p : List UInt8) (m : Int) (s : List UInt8) (w : World) (ht : TreeV w v l) (hm : l.length ≤ 99999) :
    Calls Try.prog 10 #[v, .agg #[.int .i64 z, .string ⟨p.toArray⟩, .int .i64 m, .string ⟨s.toArray⟩]] w fun e w' => ∃ u, e = .returned u ∧ TreeV w' u (doL l (z, (p, m), s)) ∧ Below w.heap.size w w' := by
  have hB0 := below_alloc w (.cells #[.int .i64 z, .string ⟨p.toArray⟩, .int .i64 m, .string ⟨s.toArray⟩] 33)
  have hX := Cx.new w 33 [.int .i64 z, .string ⟨p.toArray⟩, .int .i64 m, .string ⟨s.toArray⟩]
  obtain ⟨c0, c1, c2, c3⟩ := hX.op
  have KP := Lib.hid (tput_calls v l p m s _ (ht.below hB0) hm)
  have KD := Lib.hid (tdrop_calls v l p m _ (ht.below hB0) hm)
  have HS := Lib.hid (ht.below hB0)
  clear ht hX
  by_cases h1 : z = 1
  · subst h1
    have e : doL l (1, (p, m), s) = putL l ((p, m), s) := rfl
    rw [e]
    go_enter Try.func10, Try.ntmps10
    go_wp2_with fail
    refine KP.out.mono ?_
    rintro e w1 ⟨u, rfl, ho, hB1⟩
    have HO := Lib.hid ho
    clear ho
    go_wp2_with fail
    go_ret
    exact ⟨_, rfl, HO.out, below2 hB0 hB1⟩
  · have h1d : (z == 1) = false := by rw [beq_eq_false_iff_ne]; exact h1
    by_cases h2 : z = 2
    · subst h2
      have e : doL l (2, (p, m), s) = dropL l (p, m) := rfl
      rw [e]
      go_enter Try.func10, Try.ntmps10
      go_wp2_with fail
      refine KD.out.mono ?_
      rintro e w1 ⟨u, rfl, ho, hB1⟩
      have HO := Lib.hid ho
      clear ho
      go_wp2_with fail
      go_ret
      exact ⟨_, rfl, HO.out, below2 hB0 hB1⟩
    · have h2d : (z == 2) = false := by rw [beq_eq_false_iff_ne]; exact h2
      have e : doL l (z, (p, m), s) = l := by
        unfold doL
        rw [if_neg h1, if_neg h2]
      rw [e]
      go_enter Try.func10, Try.ntmps10
      go_wp2_with fail
      go_ret
      exact ⟨_, rfl, HS.out, hB0⟩

end Go.Proofs.Ytgbicdbmmjleoaa
