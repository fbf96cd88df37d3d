/-
  The walk of PathBack.
-/
import Derived.Test.YtifgcfgpkhgfoaaDoorPPaths
namespace Go.Proofs.YtifgcfgpkhgfoaaDoor
open Go.RowKit

set_option maxRecDepth 100000 in
set_option maxHeartbeats 4000000 in
theorem back_some {s : List UInt8} {l : List (List UInt8)} (hn : namesOf s = some l) (h0 : l ≠ []) (w : World) (hm : Ml w) :
    Calls Tryd.prog 6 #[.string ⟨s.toArray⟩] w fun e w' => e = .returned (.bool true) ∧ Below w.heap.size w w' := by
  obtain ⟨hf, hg, hs⟩ := names_fine hn
  obtain ⟨hp, hj⟩ := back hn h0
  obtain ⟨hu1, hu2, hdp⟩ := under_back hn h0
  have hpl := (names_fine hp).2.2
  have hbl := (nm_ne (hf _ (List.getLast_mem h0)).1).2.2.2
  have hds : depthOf s = l.length := by simp [depthOf, hn]
  have hll := (names_len hn).1
  have e1 := Lib.hid hn
  have e2 := Lib.hid h0
  have c1 := parent_some hn h0
  have c2 := base_some hn h0
  generalize gl l.dropLast = p at c1 hj hu1 hu2 hdp hpl
  generalize l.getLast h0 = b at c2 hj hbl
  have e3 := Lib.hid hj
  have e4 := Lib.hid hu1
  have e5 := Lib.hid hu2
  have E6 : depthOf p = (l.length : Int) - 1 := by omega
  have e6 := Lib.hid E6
  have e7 := Lib.hid hds
  have hd : decide ((500 : Int) < s.length) = false := by simp; omega
  have C1 := Lib.hid c1
  have C2 := Lib.hid c2
  clear hn h0 hf hg hj hu1 hu2 hdp hds c1 c2 E6 hp
  go_enter Tryd.func6, Tryd.ntmps6
  go_wp2_with fail
  refine (C1.out _ hm).mono ?_
  rintro e w1 ⟨rfl, hB1⟩
  have hm1 := hm.below hB1
  go_wp2_with fail
  refine (C2.out _ hm1).mono ?_
  rintro e w2 ⟨rfl, hB2⟩
  have hm2 := hm1.below hB2
  go_wp2_with fail
  refine (Join_some e3.out (by omega) (by omega) _ hm2).mono ?_
  rintro e w3 ⟨rfl, hB3⟩
  have hm3 := hm2.below hB3
  go_wp2_with fail
  refine (paths_calls _ hm3).mono ?_
  rintro e w4 ⟨rfl, hB4⟩
  have hm4 := hm3.below hB4
  go_wp2_with fail
  refine (under_calls p s (by omega) (by omega) _ hm4).mono ?_
  rintro e w5 ⟨rfl, hB5⟩
  have hm5 := hm4.below hB5
  rw [e4.out]
  go_wp2_with fail
  refine (under_calls s p (by omega) (by omega) _ hm5).mono ?_
  rintro e w6 ⟨rfl, hB6⟩
  have hm6 := hm5.below hB6
  rw [e5.out]
  go_wp2_with fail
  refine (depth_calls p (by omega) _ hm6).mono ?_
  rintro e w7 ⟨rfl, hB7⟩
  have hm7 := hm6.below hB7
  rw [e6.out]
  go_wp2_with fail
  refine (depth_calls s (by omega) _ hm7).mono ?_
  rintro e w8 ⟨rfl, hB8⟩
  rw [e7.out]
  go_wp2_with fail
  go_ret
  exact ⟨rfl, below3 (below3 hB1 hB2 hB3) (below3 hB4 hB5 hB6) (below2 hB7 hB8)⟩

set_option maxRecDepth 100000 in
set_option maxHeartbeats 2000000 in
theorem back_none {s : List UInt8} (h : ∀ l, namesOf s = some l → l = []) (hl : s.length ≤ 500) (w : World) (hm : Ml w) :
    Calls Tryd.prog 6 #[.string ⟨s.toArray⟩] w fun e w' => e = .returned (.bool true) ∧ Below w.heap.size w w' := by
  have hd : decide ((500 : Int) < s.length) = false := by simp; omega
  have e0 := Lib.hid h
  by_cases h0 : s = []
  · subst h0
    clear h
    go_enter Tryd.func6, Tryd.ntmps6
    go_wp2_with fail
    refine (parent_none e0.out (by decide) _ hm).mono ?_
    rintro e w1 ⟨rfl, hB1⟩
    have hm1 := hm.below hB1
    go_wp2_with fail
    refine (base_none e0.out (by decide) _ hm1).mono ?_
    rintro e w2 ⟨rfl, hB2⟩
    have hm2 := hm1.below hB2
    go_wp2_with fail
    refine (paths_calls _ hm2).mono ?_
    rintro e w3 ⟨rfl, hB3⟩
    go_wp2_with fail
    go_ret
    exact ⟨rfl, below3 hB1 hB2 hB3⟩
  · have hp : isP s = false := by
      cases hn : namesOf s with
      | none => exact isP_none hn
      | some l =>
        have := h l hn
        subst this
        have := (names_fine hn).2.1
        exact absurd this.symm h0
    have b0 : (s == []) = false := by simpa using h0
    have e1 := Lib.hid hp
    clear h h0 hp
    go_enter Tryd.func6, Tryd.ntmps6
    go_wp2_with fail
    refine (parent_none e0.out (by omega) _ hm).mono ?_
    rintro e w1 ⟨rfl, hB1⟩
    have hm1 := hm.below hB1
    go_wp2_with fail
    refine (base_none e0.out (by omega) _ hm1).mono ?_
    rintro e w2 ⟨rfl, hB2⟩
    have hm2 := hm1.below hB2
    go_wp2_with fail
    refine (paths_calls _ hm2).mono ?_
    rintro e w3 ⟨rfl, hB3⟩
    have hm3 := hm2.below hB3
    go_wp2_with fail
    refine (is_calls s (by omega) _ hm3).mono ?_
    rintro e w4 ⟨rfl, hB4⟩
    rw [e1.out]
    go_wp2_with fail
    go_ret
    exact ⟨rfl, below3 hB1 hB2 (below2 hB3 hB4)⟩

set_option maxHeartbeats 2000000 in
theorem back_walk (s : List UInt8) (w : World) (hl : s.length ≤ reachBytes) (hm : Ml w) :
    Calls Tryd.prog 6 #[.string ⟨s.toArray⟩] w fun e w' => e = .returned (.bool true) ∧ Below w.heap.size w w' := by
  unfold reachBytes at hl
  by_cases h5 : 500 < s.length
  · go_enter Tryd.func6, Tryd.ntmps6
    go_wp2_with fail
    go_ret
    exact ⟨rfl, Below.refl _ _⟩
  · by_cases h : ∀ l, namesOf s = some l → l = []
    · exact back_none h (by omega) w hm
    · cases hn : namesOf s with
      | none => exact absurd (fun l e => by rw [hn] at e; cases e) h
      | some l =>
        by_cases h0 : l = []
        · exact absurd (fun l' e => by rw [hn] at e; cases e; exact h0) h
        · exact back_some hn h0 w hm

end Go.Proofs.YtifgcfgpkhgfoaaDoor
