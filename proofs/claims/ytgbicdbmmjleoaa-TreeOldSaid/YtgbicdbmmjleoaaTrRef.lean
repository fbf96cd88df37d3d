/-
  The document's own trees: Get, Do.
-/
import Derived.Test.YtgbicdbmmjleoaaTrFrom
import Derived.Test.YtgbicdbmmjleoaaNdRefP
import Derived.Test.YtgbicdbmmjleoaaNdRefI
namespace Go.Proofs.Ytgbicdbmmjleoaa
open Go.RowKit

/-- A step: its kind, its pair. -/
abbrev Stp := Int × Pr
def doL (l : List Pr) (o : Stp) : List Pr := if o.1 = 1 then putL l o.2 else if o.1 = 2 then dropL l o.2.1 else l
theorem doL_rises {l : List Pr} (h : Rises l) (o : Stp) : Rises (doL l o) := by
  unfold doL
  split
  · exact put_rises h _
  · split
    · exact drop_rises h _
    · exact h
theorem doL_le (l : List Pr) (o : Stp) : (doL l o).length ≤ l.length + 1 := by
  unfold doL
  split
  · exact putL_le l o.2
  · split
    · have := dropL_length l o.2.1
      split at this <;> omega
    · omega

set_option maxHeartbeats 2000000 in
theorem refGet_calls (v : Value) (l : List Pr) (p : List UInt8) (m : Int) (w : World) (hs : Prs w v l) (hm : l.length ≤ 100000) :
    Calls Try.prog 13 #[v, .agg #[.string ⟨p.toArray⟩, .int .i64 m]] w fun e w' => e = .returned (.tuple #[.string ⟨(getS l (p, m)).toArray⟩, .bool (hereB l (p, m))]) ∧ Below w.heap.size w w' := by
  have hB0 := below_alloc w (.cells #[.string ⟨p.toArray⟩, .int .i64 m] 24)
  have KF := refFind_calls _ l p m _ (hs.below hB0) (by omega)
  obtain ⟨ao, cap, rfl⟩ := hs.form
  obtain ⟨k0, k1, _⟩ := (kbox_new w p m).two
  cases hh : hereB l (p, m) with
  | true =>
    have hlt := hereB_lt hh
    have HG := Lib.hid (getS_here hh)
    obtain ⟨i, hi⟩ : ∃ i, placeN l (p, m) = i := ⟨_, rfl⟩
    simp only [hi] at HG
    rw [hi] at hlt
    rw [hh, hi] at KF
    have K := Lib.hid KF
    obtain ⟨b, off, rfl, _, _, c2⟩ := hs.at hlt
    obtain ⟨t, ht⟩ : ∃ t, l[i].2 = t := ⟨_, rfl⟩
    rw [ht] at HG c2
    clear KF hh hi hs ht
    go_enter Try.func13, Try.ntmps13
    go_wp2_with fail
    refine K.out.mono ?_
    rintro e w1 ⟨rfl, hB1⟩
    have c2' := look_below (below2 hB0 hB1) c2
    go_wp2_with fail
    go_ret2
    exact ⟨by rw [HG.out]; rfl, below2 hB0 hB1⟩
  | false =>
    have HG := Lib.hid (getS_not hh)
    rw [hh] at KF
    have K := Lib.hid KF
    clear KF hh hs
    go_enter Try.func13, Try.ntmps13
    go_wp2_with fail
    refine K.out.mono ?_
    rintro e w1 ⟨rfl, hB1⟩
    go_wp2_with fail
    go_ret2
    exact ⟨by rw [HG.out]; rfl, below2 hB0 hB1⟩

theorem Cx.op {w : World} {b : Nat} {t : TypeId} {v0 v1 v2 v3 : Value} (h : Cx w b t [v0, v1, v2, v3]) : w.cell? ⟨b, 0, none⟩ = some v0 ∧ w.cell? ⟨b, 1, none⟩ = some v1 ∧ w.cell? ⟨b, 2, none⟩ = some v2 ∧ w.cell? ⟨b, 3, none⟩ = some v3 :=
  ⟨h.cell rfl, h.cell rfl, h.cell rfl, h.cell rfl⟩

set_option maxHeartbeats 2000000 in
theorem refDo_calls (v : Value) (l : List Pr) (z : Int) (p : List UInt8) (m : Int) (s : List UInt8) (w : World) (hs : Prs w v l) (hm : l.length ≤ 100000) :
    Calls Try.prog 11 #[v, .agg #[.int .i64 z, .string ⟨p.toArray⟩, .int .i64 m, .string ⟨s.toArray⟩]] w fun e w' => ∃ u, e = .returned u ∧ Prs w' u (doL l (z, (p, m), s)) ∧ Below w.heap.size w w' := by
  have hB0 := below_alloc w (.cells #[.int .i64 z, .string ⟨p.toArray⟩, .int .i64 m, .string ⟨s.toArray⟩] 33)
  have hX := Cx.new w 33 [.int .i64 z, .string ⟨p.toArray⟩, .int .i64 m, .string ⟨s.toArray⟩]
  obtain ⟨c0, c1, c2, c3⟩ := hX.op
  have KP := Lib.hid (refPut_calls v l p m s _ (hs.below hB0) hm)
  have KD := Lib.hid (refDrop_calls v l p m _ (hs.below hB0) hm)
  have HS := Lib.hid (hs.below hB0)
  obtain ⟨ao, n, cap, rfl⟩ := hs.any
  clear hs hX
  by_cases h1 : z = 1
  · subst h1
    have e : doL l (1, (p, m), s) = putL l ((p, m), s) := rfl
    rw [e]
    go_enter Try.func11, Try.ntmps11
    go_wp2_with fail
    refine KP.out.mono ?_
    rintro e w1 ⟨a1, n1, k1, rfl, ho, hB1⟩
    have HO := Lib.hid ho.prs
    clear ho
    go_wp2_with fail
    go_ret
    exact ⟨_, rfl, HO.out, below2 hB0 hB1⟩
  · have h1d : (z == 1) = false := by rw [beq_eq_false_iff_ne]; exact h1
    by_cases h2 : z = 2
    · subst h2
      have e : doL l (2, (p, m), s) = dropL l (p, m) := rfl
      rw [e]
      go_enter Try.func11, Try.ntmps11
      go_wp2_with fail
      refine KD.out.mono ?_
      rintro e w1 ⟨a1, n1, k1, rfl, ho, hB1⟩
      have HO := Lib.hid ho.prs
      clear ho
      go_wp2_with fail
      go_ret
      exact ⟨_, rfl, HO.out, below2 hB0 hB1⟩
    · have h2d : (z == 2) = false := by rw [beq_eq_false_iff_ne]; exact h2
      have e : doL l (z, (p, m), s) = l := by
        unfold doL
        rw [if_neg h1, if_neg h2]
      rw [e]
      go_enter Try.func11, Try.ntmps11
      go_wp2_with fail
      go_ret
      exact ⟨_, rfl, HS.out, hB0⟩

end Go.Proofs.Ytgbicdbmmjleoaa
