/-
  The walk of CursorRanges.
-/
import Derived.Test.YthngeponcdeneaaGreatDoorPks11
namespace Go.Proofs.YthngeponcdeneaaGreatDoor
set_option maxRecDepth 100000
open Go.RowKit

set_option maxHeartbeats 16000000 in
theorem cursorRanges_walk (v : Value) (l : List Pr) (a c : Ky) (d : List UInt8) (w : World) (hs : Prs w v l) (hk : l.length ≤ maxLen) (hti : TimesK l) (ha : a.1.length ≤ reachBytes) (hc : c.1.length ≤ reachBytes) (hd : d.length ≤ reachBytes) (hml : Ml w) :
    Calls Tryz.prog 4 #[v, KV a, KV c, .string ⟨d.toArray⟩] w fun e w' => e = .returned (.bool true) ∧ Below w.heap.size w w' := by
  obtain ⟨ao, cap, rfl⟩ := hs.form
  obtain ⟨p, n⟩ := a
  obtain ⟨q, m⟩ := c
  dsimp only [KV]
  have hk' : l.length ≤ 9223372036854775807 := by unfold maxLen at hk; exact hk
  have hd' : d.length ≤ 9223372036854775807 := by unfold reachBytes at hd; omega
  dsimp only at ha hc
  obtain ⟨wb, hwb⟩ : ∃ x, x = (w.alloc (.cells #[.string ⟨p.toArray⟩, .int .i64 n] 39)).alloc (.cells #[.string ⟨q.toArray⟩, .int .i64 m] 39) := ⟨_, rfl⟩
  have hB0 := below_alloc2 w (.cells #[.string ⟨p.toArray⟩, .int .i64 n] 39) (.cells #[.string ⟨q.toArray⟩, .int .i64 m] 39)
  have hka : KBox wb w.heap.size (p, n) := by
    rw [hwb]
    exact (kbox_new w p n).below (below_alloc _ _)
  have hkc : KBox wb (w.heap.size + 1) (q, m) := by
    have h := kbox_new (w.alloc (.cells #[.string ⟨p.toArray⟩, .int .i64 n] 39)) q m
    rw [World.size_alloc] at h
    rw [hwb]
    exact h
  rw [← hwb] at hB0
  have CB := cuFar_calls _ l d wb (hs.below hB0) hk' hd'
  have hw1 := hwb.symm
  have HS := Lib.hid (And.intro (hs.below hB0) (And.intro hka (And.intro hkc (And.intro hB0 (And.intro hti (hml.below hB0))))))
  clear hk hk' hd' hs hka hkc hB0 hti hml hwb
  cases hb : cuFarB l d with
  | true =>
    rw [hb] at CB
    have K := Lib.hid CB
    clear CB hb
    go_enter Tryz.func4, Tryz.ntmps4
    go_wp2_with fail
    refine K.out.mono ?_
    rintro e w1 ⟨rfl, rfl⟩
    go_wp2_with fail
    go_ret
    exact ⟨rfl, HS.out.2.2.2.1⟩
  | false =>
    rw [hb] at CB
    have K := Lib.hid CB
    obtain ⟨hg1, hg2, hg3, hg4⟩ := puts_good hb HS.out.2.2.2.2.1
    have hl8 := (cuFar_not hb).1
    obtain ⟨a0, a1, _⟩ := HS.out.2.1.two
    obtain ⟨b0, b1, _⟩ := HS.out.2.2.1.two
    clear CB
    by_cases hfar : 500 < p.length + q.length
    · have hfi : decide ((500 : Int) < (p.length : Int) + (q.length : Int)) = true := by rw [decide_eq_true_eq]; omega
      have hpq : (p.length : Int) + (q.length : Int) ≤ 9223372036854775807 := by unfold reachBytes at ha hc; omega
      go_enter Tryz.func4, Tryz.ntmps4
      go_wp2_with fail
      refine K.out.mono ?_
      rintro e w1 ⟨rfl, rfl⟩
      go_wp2_with fail
      go_ret
      exact ⟨rfl, HS.out.2.2.2.1⟩
    · have hfi : decide ((500 : Int) < (p.length : Int) + (q.length : Int)) = false := by rw [decide_eq_false_iff_not]; omega
      have hpq : (p.length : Int) + (q.length : Int) ≤ 9223372036854775807 := by unfold reachBytes at ha hc; omega
      have KL := Lib.hid (laidT_calls _ l wb HS.out.1 (by omega))
      obtain ⟨L, hL⟩ : ∃ L, putsL l = L := ⟨_, rfl⟩
      rw [hL] at KL hg1 hg2 hg3
      obtain ⟨E, hE⟩ : ∃ E, underE d = E := ⟨_, rfl⟩
      have KU := Lib.hid (fun v W (ht : TreeV W v L) (hm : Ml W) => cUnder_calls v L d W ht hg1 hg2 hg3 hg4 hm)
      have KA := Lib.hid (fun v W (ht : TreeV W v L) => all_calls v L W ht (by omega) hg1.timed)
      have KR := Lib.hid (fun v W (hp : Prs W v L) => refUnd_calls v L d W hp hg2 hg3 hg4)
      have KG := Lib.hid (fun v W (ht : TreeV W v L) => cRange_calls v L (p, n) (q, m) W ht hg1 hg2 hg3)
      have KH := Lib.hid (fun v W (hp : Prs W v L) => refRange_calls v L (p, n) (q, m) W hp hg2)
      have KS := Lib.hid (fun va vb X W (h1 : Prs W va X) (h2 : Prs W vb X) (hx : X.length ≤ 1000) => cuSame_calls va vb X W h1 h2 (by omega))
      have HLE := Lib.hid (And.intro (underR_le L d) (And.intro (rangeL_le L (p, n) (q, m)) hg2))
      rw [hE] at KU KR
      clear hL hE hg1 hg3 hg4 hb hl8
      go_enter Tryz.func4, Tryz.ntmps4
      go_wp2_with fail
      refine K.out.mono ?_
      rintro e w1 ⟨rfl, rfl⟩
      go_wp2_with fail
      refine KL.out.mono ?_
      rintro e w2 ⟨t, rfl, ht, hB2⟩
      obtain ⟨tp, rfl⟩ := ht.val
      have H2 := Lib.hid (And.intro ht (And.intro (HS.out.2.1.below hB2) (And.intro (HS.out.2.2.1.below hB2) (And.intro (HS.out.2.2.2.2.2.below hB2) (below2 HS.out.2.2.2.1 hB2)))))
      have K3 := Lib.hid (KU.out _ _ ht H2.out.2.2.2.1)
      clear ht hB2
      go_wp2_with fail
      refine K3.out.mono ?_
      rintro e w3 ⟨a3, n3, c3, rfl, ho3, hB3⟩
      have H3 := Lib.hid (And.intro ho3.prs hB3)
      have K4 := Lib.hid (KA.out _ _ (H2.out.1.below hB3))
      clear ho3 hB3 K3
      go_wp2_with fail
      refine K4.out.mono ?_
      rintro e w4 ⟨u4, rfl, ho4, hB4⟩
      obtain ⟨a4, n4, c4, rfl⟩ := ho4.prs.any
      have H4 := Lib.hid hB4
      have K5 := Lib.hid (KR.out _ _ ho4.prs)
      clear ho4 hB4 K4
      go_wp2_with fail
      refine K5.out.mono ?_
      rintro e w5 ⟨a5, n5, c5, rfl, ho5, hB5⟩
      have H5 := Lib.hid (And.intro ho5.prs (And.intro (H3.out.1.below (below2 H4.out hB5)) (below2 H3.out.2 (below2 H4.out hB5))))
      clear ho5 hB5 K5
      have hka := H2.out.2.1.below H5.out.2.2
      have hkc := H2.out.2.2.1.below H5.out.2.2
      have HT : Hid (∀ W, Below w5.heap.size w5 W → W.cell? ⟨w.heap.size, 0, none⟩ = some (.string ⟨p.toArray⟩) ∧ W.cell? ⟨w.heap.size, 1, none⟩ = some (.int .i64 n) ∧ W.cell? ⟨w.heap.size + 1, 0, none⟩ = some (.string ⟨q.toArray⟩) ∧ W.cell? ⟨w.heap.size + 1, 1, none⟩ = some (.int .i64 m)) :=
        Lib.hid (fun W hB => ⟨(hka.below hB).two.1, (hka.below hB).two.2.1, (hkc.below hB).two.1, (hkc.below hB).two.2.1⟩)
      have hbr : Below w5.heap.size w5 w5.drew := drew_below _
      have KW := Lib.hid (fun W (hB : Below w5.heap.size w5 W) => walked_calls W ((H2.out.2.2.2.1.below H5.out.2.2).below hB))
      have KT := Lib.hid (fun W (hB : Below w5.heap.size w5 W) => KA.out _ W ((H2.out.1.below H5.out.2.2).below hB))
      have KQ := Lib.hid (fun W (hB : Below w5.heap.size w5 W) => KG.out _ W ((H2.out.1.below H5.out.2.2).below hB))
      clear hka hkc a0 a1 b0 b1
      go_wp2_with fail
      go_region_held3 (fun w' => w'.cell? ⟨w.heap.size, 0, none⟩ = some (.string ⟨p.toArray⟩) ∧ w'.cell? ⟨w.heap.size, 1, none⟩ = some (.int .i64 n) ∧ w'.cell? ⟨w.heap.size + 1, 0, none⟩ = some (.string ⟨q.toArray⟩) ∧ w'.cell? ⟨w.heap.size + 1, 1, none⟩ = some (.int .i64 m)) (first | exact HT.out _ hbr) (first
        | ((with_reducible refine (KW.out _ hbr).mono ?_); rintro e w6 ⟨rfl, hB6⟩; have hbr := below2 hbr hB6)
        | ((with_reducible refine (KS.out _ _ _ _ (H5.out.2.1.below hbr) (H5.out.1.below hbr) (by have := HLE.out; omega)).mono ?_); rintro e w7 ⟨rfl, hB7⟩; have hbr := below2 hbr hB7)
        | ((with_reducible refine (KQ.out _ hbr).mono ?_); rintro e w8 ⟨a8, n8, c8, rfl, ho8, hB8⟩; have hbr := below2 hbr hB8; (try have HA := Lib.hid (HA.out.below hB8)); (try have HR := Lib.hid (HR.out.below hB8)); have HG := Lib.hid ho8.prs; clear ho8)
        | ((with_reducible refine (KT.out _ hbr).mono ?_); rintro e w9 ⟨u9, rfl, ho9, hB9⟩; obtain ⟨a9, n9, c9, rfl⟩ := ho9.prs.any; have hbr := below2 hbr hB9; (try have HG := Lib.hid (HG.out.below hB9)); have HA := Lib.hid ho9.prs; clear ho9)
        | ((with_reducible refine (KH.out _ _ HA.out).mono ?_); rintro e w10 ⟨a10, n10, c10, rfl, ho10, hB10⟩; have hbr := below2 hbr hB10; (try have HG := Lib.hid (HG.out.below hB10)); have HR := Lib.hid ho10.prs; clear ho10)
        | ((with_reducible refine (KS.out _ _ _ _ HG.out HR.out (by have := HLE.out; omega)).mono ?_); rintro e w11 ⟨rfl, hB11⟩; have hbr := below2 hbr hB11))
      all_goals
        go_wp2_with fail
        go_ret
        exact ⟨rfl, below2 H2.out.2.2.2.2 (below2 H5.out.2.2 hbr)⟩

end Go.Proofs.YthngeponcdeneaaGreatDoor
