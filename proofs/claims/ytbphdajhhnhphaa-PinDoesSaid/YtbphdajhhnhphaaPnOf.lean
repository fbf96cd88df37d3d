/-
  pin: Of, Drop.
-/
import Derived.Test.YtbphdajhhnhphaaPnFind
import Derived.Test.YtbphdajhhnhphaaPnIs
import Derived.Test.YtbphdajhhnhphaaPnCat
namespace Go.Proofs.Ytbphdajhhnhphaa
set_option maxRecDepth 100000
open Go.RowKit

set_option maxHeartbeats 4000000 in
theorem pnOf_calls (v : Value) (l : List Pn) (s : Int) (w : World) (h : Pns w v l) (hl : l.length ≤ 1000000) :
    Calls Try.prog 13 #[v, .int .i64 s] w fun e w' => e = .returned (.tuple #[.int .i64 ((ofN l s).getD 0), .bool (ofN l s).isSome]) ∧ Below w.heap.size w w' := by
  obtain ⟨ao, cap, rfl⟩ := h.form
  have HH := Lib.hid h
  have K := find_calls _ entersHolds _ _ (holds_calls s) _ l w h hl
  obtain ⟨k, hk⟩ : ∃ k, whereN (holdsP s) l = k := ⟨_, rfl⟩
  have hle : k ≤ l.length := hk ▸ whereN_le _ _
  rw [hk] at K
  have HK := Lib.hid K
  have HW := Lib.hid hk
  clear K h hk
  by_cases hlt : k < l.length
  · have HO := Lib.hid (ofN_at (l := l) (s := s) (by rw [HW.out]; exact hlt))
    have he : ((k : Int) == (l.length : Int)) = false := by rw [beq_eq_false_iff_ne]; omega
    obtain ⟨b, off, rfl, x0, x1⟩ := pns_at HH.out hlt
    have hlk : l[whereN (holdsP s) l]'(by rw [HW.out]; exact hlt) = l[k] := by simp only [HW.out]
    have HO2 := Lib.hid (hlk ▸ HO.out : ofN l s = some l[k].2)
    have HX := Lib.hid (fun W (hB : Below w.heap.size w W) => look_below hB x1)
    generalize l[k].2 = a at *
    clear x0 x1 HO hlk
    rw [HO2.out]
    go_enter Try.func13, Try.ntmps13
    go_wp2_with fail
    refine HK.out.mono ?_
    rintro e w1 ⟨rfl, hB⟩
    have x1 := HX.out _ hB
    go_wp2_with fail
    go_ret2
    exact ⟨rfl, hB⟩
  · obtain rfl : k = l.length := by omega
    have he : ((l.length : Int) == (l.length : Int)) = true := by simp
    rw [ofN_out HW.out]
    go_enter Try.func13, Try.ntmps13
    go_wp2_with fail
    refine HK.out.mono ?_
    rintro e w1 ⟨rfl, hB⟩
    go_wp2_with fail
    go_ret2
    exact ⟨rfl, hB⟩

end Go.Proofs.Ytbphdajhhnhphaa
