/-
  The document's own Whole.
-/
import Derived.Test.YtinbeapkhmcifaaDoorChWhole
import Derived.Test.YtinbeapkhmcifaaDoorMeRefI
namespace Go.Proofs.YtinbeapkhmcifaaDoor
set_option maxRecDepth 100000
open Go.RowKit Go.Maps
attribute [local go_sem] app_mk

theorem rwhole_bad (z d : Int) (u : Value) (cs : List Int) (v : Value) (w : World) (hu : Ints w u cs) (hcs : cs.length ≤ 1000000) (hb : metaB z d cs = false) :
    Calls Tryd.prog 15 #[MV z d u, v] w fun e w' => e = .returned (.tuple #[.string ⟨#[]⟩, .int .i64 1]) ∧ Below w.heap.size w w' := by
  obtain ⟨ao, cap, rfl⟩ := hu.form
  have hB0 := below_alloc w (.cells #[.int .i64 z, .int .i64 d, .slice ao cs.length cap] 24)
  have K := Lib.hid (rIs_calls z d _ cs _ (hu.below hB0) hcs)
  rw [hb] at K
  have HB0 := Lib.hid hB0
  clear hu hB0 hb
  go_enter Tryd.func15, Tryd.ntmps15
  go_wp2_with fail
  refine K.out.mono ?_
  rintro e w1 ⟨rfl, hB1⟩
  go_wp2_with fail
  go_ret2
  exact ⟨rfl, below2 HB0.out hB1⟩

set_option maxHeartbeats 4000000 in
theorem rwhole_ok (z d : Int) (u : Value) (cs : List Int) (v : Value) (l : List (List UInt8)) (w : World) (hu : Ints w u cs) (hb : metaB z d cs = true) (h : Strs w v l) (hl : l.length ≤ 1000000) (hm : LenL 1000000 l) :
    Calls Tryd.prog 15 #[MV z d u, v] w fun e w' => e = .returned (.tuple #[.string ⟨(wholeT z d cs l).toArray⟩, .int .i64 (wholeE z d cs l)]) ∧ Below w.heap.size w w' := by
  have hmb := metaB_iff.1 hb
  have hcs : cs.length ≤ 16 := by omega
  obtain ⟨ao, cap, rfl⟩ := hu.form
  obtain ⟨av, vc, rfl⟩ := h.form
  have hB0 := below_alloc w (.cells #[.int .i64 z, .int .i64 d, .slice ao cs.length cap] 24)
  have K := Lib.hid (rIs_calls z d _ cs _ (hu.below hB0) (by omega))
  rw [hb] at K
  have HB0 := Lib.hid hB0
  have HU := Lib.hid (hu.below hB0)
  have HS := Lib.hid (h.below hB0)
  have HX0 := Lib.hid (Cx.new w 24 [.int .i64 z, .int .i64 d, .slice ao cs.length cap])
  have HMB := Lib.hid hb
  clear h hu hB0 hmb hb
  go_enter Tryd.func15, Tryd.ntmps15
  go_wp2_with fail
  refine K.out.mono ?_
  rintro e w2 ⟨rfl, hB1⟩
  have HU2 := Lib.hid (HU.out.below hB1)
  have HS2 := Lib.hid (HS.out.below hB1)
  have HB := Lib.hid (below2 HB0.out hB1)
  have HX2 := Lib.hid (HX0.out.below hB1)
  clear hB1 K HB0 HX0 HU HS
  go_wp2_with fail
  go_loopw [6, 7] (fun q x wr => ∃ (k : Nat) (r : List UInt8), x = .int .i64 k ∧ q = .string ⟨r.toArray⟩ ∧ Hid (r = (gotL l (cs.take k)).flatten) ∧ k ≤ cs.length ∧ Hid (allB l (cs.take k) = true) ∧ Hid (Below w2.heap.size w2 wr)) (fun _ x _ => cs.length - (intOf x).toNat)
  case atStart => exact ⟨0, [], rfl, rfl, Lib.hid rfl, Nat.zero_le _, Lib.hid rfl, Lib.hid (Below.refl _ _)⟩
  case round =>
    obtain ⟨k, r, rfl, rfl, hr, hk, hA, hB⟩ := hrel
    obtain ⟨c0, c1, c2, _, _, _, _⟩ := (HX2.out.below hB.out).three
    have hle := got_le hm (cs.take k)
    rw [List.length_take, ← hr.out] at hle
    by_cases hlt : k < cs.length
    · obtain ⟨b2, off, rfl, hc⟩ := (HU2.out.below hB.out).at hlt
      have hsn := got_snoc l hlt
      have hal := fun h => all_snoc hA.out hlt h
      have han := fun h => all_not (l := l) hlt h
      have hst := HS2.out.below hB.out
      have hol := of_le hm cs[k]
      generalize cs[k] = c at *
      have KF := Lib.hid (find_calls _ l c wr hst hl hm)
      clear hst
      cases hh : hasSum l c with
      | false =>
        have HN := Lib.hid (whole_lacks HMB.out (han hh))
        rw [hh] at KF
        clear hal han hsn hle hh
        go_wp2_with fail
        refine KF.out.mono ?_
        rintro e w3 ⟨rfl, hB3⟩
        go_wp2_with fail
        go_ret2
        exact ⟨by rw [HN.out.1, HN.out.2]; rfl, below3 HB.out hB.out hB3⟩
      | true =>
        have HA := Lib.hid (hal hh)
        have HS := Lib.hid (show r ++ ofSum l c = (gotL l (cs.take (k + 1))).flatten by rw [hsn, List.flatten_append, ← hr.out]; simp)
        rw [hh] at KF
        clear hal han hsn hh
        go_wp2_with fail
        refine KF.out.mono ?_
        rintro e w3 ⟨rfl, hB3⟩
        go_wp2_with fail
        go_roundw
        case rel => exact ⟨k + 1, r ++ ofSum l c, by go_num, rfl, HS, by omega, HA, Lib.hid (below2 hB.out hB3)⟩
        case measure => simp [intOf]; omega
    · obtain rfl : k = cs.length := by omega
      rw [List.take_length] at hr hA
      by_cases hz : ((gotL l cs).flatten.length : Int) = z
      · have HW := Lib.hid (whole_is HMB.out hA.out hz)
        have hne : ((r.length : Int) != z) = false := by rw [hr.out, bne_eq_false_iff_eq]; exact hz
        clear hz hle
        go_wp2_with fail
        go_ret2
        exact ⟨by rw [HW.out.1, HW.out.2, ← hr.out]; rfl, below2 HB.out hB.out⟩
      · have HW := Lib.hid (whole_other HMB.out hz)
        have hne : ((r.length : Int) != z) = true := by rw [hr.out, bne_iff_ne]; exact hz
        clear hz hle
        go_wp2_with fail
        go_ret2
        exact ⟨by rw [HW.out.1, HW.out.2]; rfl, below2 HB.out hB.out⟩

theorem rwhole_calls (z d : Int) (u : Value) (cs : List Int) (v : Value) (l : List (List UInt8)) (w : World) (hu : Ints w u cs) (hcs : cs.length ≤ 1000000) (h : Strs w v l) (hl : l.length ≤ 1000000) (hm : LenL 1000000 l) :
    Calls Tryd.prog 15 #[MV z d u, v] w fun e w' => e = .returned (.tuple #[.string ⟨(wholeT z d cs l).toArray⟩, .int .i64 (wholeE z d cs l)]) ∧ Below w.heap.size w w' := by
  cases hb : metaB z d cs with
  | true => exact rwhole_ok z d u cs v l w hu hb h hl hm
  | false =>
    obtain ⟨e1, e2⟩ := whole_bad (l := l) hb
    rw [e1, e2]
    exact rwhole_bad z d u cs v w hu hcs hb

end Go.Proofs.YtinbeapkhmcifaaDoor
