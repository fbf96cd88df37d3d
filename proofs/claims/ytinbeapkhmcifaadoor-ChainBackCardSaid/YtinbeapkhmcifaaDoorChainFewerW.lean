/-
  The walk of ChainFewer.
-/
import Derived.Test.YtinbeapkhmcifaaDoorChLaw
namespace Go.Proofs.YtinbeapkhmcifaaDoor
set_option maxRecDepth 100000
open Go.RowKit
attribute [local go_sem] ext_take

theorem chainFewer_far (s : List UInt8) (n m : Int) (w : World) (h : 500 < s.length ∨ m < n) (hl : s.length ≤ 9223372036854775807) :
    Calls Tryd.prog 7 #[.string ⟨s.toArray⟩, .int .i64 n, .int .i64 m] w fun e w' => e = .returned (.bool true) ∧ Below w.heap.size w w' := by
  by_cases h1 : 500 < s.length
  · clear h
    go_enter Tryd.func7, Tryd.ntmps7
    go_wp2_with fail
    go_ret
    exact ⟨rfl, Below.refl _ _⟩
  · have h2 : m < n := by omega
    have h3 : s.length ≤ 500 := by omega
    clear h h1
    go_enter Tryd.func7, Tryd.ntmps7
    go_wp2_with fail
    go_ret
    exact ⟨rfl, Below.refl _ _⟩

/-- Cut, in slice's form. -/
theorem ccut_form {s : List UInt8} {n : Int} {E : Int} {L : List (List UInt8)} (hE : E = cutE s n) (hL : L = cutL s n) (w : World) :
    Calls Tryd.prog 10 #[.string ⟨s.toArray⟩, .int .i64 n] w fun e w' => ∃ ao cap, e = .returned (.tuple #[.slice ao L.length cap, .int .i64 E]) ∧ Strs w' (.slice ao L.length cap) L ∧ Below w.heap.size w w' := by
  subst hE
  subst hL
  refine (ccut_calls s n w).mono fun e w' ⟨v, h1, h2, h3⟩ => ?_
  obtain ⟨ao, cap, rfl⟩ := (strs_own h2).form
  exact ⟨ao, cap, h1, strs_own h2, h3⟩

set_option maxHeartbeats 2000000 in
theorem chainFewer_no (s : List UInt8) (n m : Int) (w : World) (h : s.length ≤ 500) (hnm : n ≤ m) (hT : TabOk w) (E F : Int) (hE : E = cutE s n) (hF : F = cutE s m) (h0 : E ≠ 0 ∨ F ≠ 0) :
    Calls Tryd.prog 7 #[.string ⟨s.toArray⟩, .int .i64 n, .int .i64 m] w fun e w' => e = .returned (.bool true) ∧ Below w.heap.size w w' := by
  obtain ⟨L, hL⟩ : ∃ L, L = cutL s n := ⟨_, rfl⟩
  obtain ⟨M, hM⟩ : ∃ M, M = cutL s m := ⟨_, rfl⟩
  have K1 := Lib.hid (ccut_form hE hL w)
  have K2 := Lib.hid (ccut_form hF hM)
  have HT := Lib.hid hT
  clear hL hM hT
  by_cases hE0 : E ≠ 0
  · have hne : (E != 0) = true := by rw [bne_iff_ne]; exact hE0
    clear hE hF h0 hE0
    go_enter Tryd.func7, Tryd.ntmps7
    go_wp2_with fail
    refine K1.out.mono ?_
    rintro e w1 ⟨a1, c1, rfl, _, hB1⟩
    go_wp2_with fail
    refine (K2.out _).mono ?_
    rintro e w2 ⟨a2, c2, rfl, _, hB2⟩
    have HB := Lib.hid (below2 hB1 hB2)
    go_wp2_with fail
    refine (chKnown_calls _ (HT.out.below HB.out)).mono ?_
    rintro e w3 ⟨rfl, hB3⟩
    go_wp2_with fail
    go_ret
    exact ⟨rfl, below2 HB.out hB3⟩
  · have hE0 : E = 0 := Classical.not_not.1 hE0
    have hF0 : F ≠ 0 := h0.resolve_left (fun x => x hE0)
    have hm : 4000 < m := by
      rcases cut_cases s n with ⟨e1, _⟩ | ⟨e1, _⟩ | ⟨_, _, e3, _, e4⟩
      · omega
      · omega
      · rcases cut_cases s m with ⟨f1, _, f2⟩ | ⟨f1, _, _, _, f2⟩ | ⟨f1, _⟩
        · omega
        · omega
        · omega
    have hne : (E != 0) = false := by rw [bne_eq_false_iff_eq]; exact hE0
    have hnf : (F != 0) = true := by rw [bne_iff_ne]; exact hF0
    have hd : decide ((4000 : Int) < m) = true := by rw [decide_eq_true_eq]; exact hm
    clear hE hF h0 hE0 hF0 hm
    go_enter Tryd.func7, Tryd.ntmps7
    go_wp2_with fail
    refine K1.out.mono ?_
    rintro e w1 ⟨a1, c1, rfl, _, hB1⟩
    go_wp2_with fail
    refine (K2.out _).mono ?_
    rintro e w2 ⟨a2, c2, rfl, _, hB2⟩
    have HB := Lib.hid (below2 hB1 hB2)
    go_wp2_with fail
    refine (chKnown_calls _ (HT.out.below HB.out)).mono ?_
    rintro e w3 ⟨rfl, hB3⟩
    go_wp2_with fail
    go_ret
    exact ⟨rfl, below2 HB.out hB3⟩

set_option maxHeartbeats 4000000 in
theorem chainFewer_main (s : List UInt8) (n m : Int) (w : World) (h : s.length ≤ 500) (hnm : n ≤ m) (hT : TabOk w) (L M : List (List UInt8)) (hL : L = cutL s n) (hM : M = cutL s m) (hE : 0 = cutE s n) (hF : 0 = cutE s m)
    (hl : M.length ≤ L.length) (hl6 : L.length ≤ 16) (hz : L.length = 0 ∨ ∃ (p q : List UInt8) (h1 : 0 < L.length) (h2 : 0 < M.length), L[0] = p ∧ M[0] = q ∧ p.length ≤ q.length ∧ q.length ≤ 500 ∧ q.take p.length = p) :
    Calls Tryd.prog 7 #[.string ⟨s.toArray⟩, .int .i64 n, .int .i64 m] w fun e w' => e = .returned (.bool true) ∧ Below w.heap.size w w' := by
  have K1 := Lib.hid (ccut_form hE hL w)
  have K2 := Lib.hid (ccut_form hF hM)
  have HT := Lib.hid hT
  clear hL hM hT hE hF
  rcases hz with hz | ⟨p, q, h1, h2, hp, hq, hpq, hqb, htk⟩
  · have hz2 : M.length = 0 := by omega
    rw [hz] at K1
    rw [hz2] at K2
    clear hz hz2 hl hl6
    go_enter Tryd.func7, Tryd.ntmps7
    go_wp2_with fail
    refine K1.out.mono ?_
    rintro e w1 ⟨a1, c1, rfl, _, hB1⟩
    go_wp2_with fail
    refine (K2.out _).mono ?_
    rintro e w2 ⟨a2, c2, rfl, _, hB2⟩
    have HB := Lib.hid (below2 hB1 hB2)
    have KK := Lib.hid (fun W (hW : Below w2.heap.size w2 W) => chKnown_calls W (HT.out.below (below2 HB.out hW)))
    have hbr : Below w2.heap.size w2 w2.drew := drew_below _
    clear hB1 hB2
    go_wp2_with fail
    refine wp_region_held_drew (S := (fun _ => True)) (by kernel_rfl) (trivial) (fun hHeld => ?_)
    refine wpAnyH_ready (rs := [0]) (by kernel_rfl) (by simp) ?_
    refine AllReadyH.cons (o := ⟨_, _, _, _, _, _⟩) rfl (fun K hK => ?_) AllReadyH.nil
    go_simp
    ((with_reducible refine (KK.out _ hbr).mono ?_); rintro e w3 ⟨rfl, hB3⟩; have hbr := below2 hbr hB3)
    refine hK.out _ _ (trivial) (fun hHeld => ?_)
    clear hK K
    try simp only [Act.put, List.setIfInBounds_toArray, List.set_cons_zero, List.set_cons_succ]
    refine wpAnyH_take (i := 1) (oi := ⟨_, _, _, _, _, _⟩) (v := ?_) rfl (by kernel_rfl) (by kernel_rfl) (by kernel_rfl) (fun _ _ _ h => h) (Or.inl ⟨by rfl, ?_⟩) hHeld ?_
    rotate_left
    · (intro w hSw; (try dsimp only at hSw); go_simp; try with_reducible rfl)
    try simp only [Act.put, List.setIfInBounds_toArray, List.set_cons_zero, List.set_cons_succ]
    refine wpAnyH_take (i := 2) (oi := ⟨_, _, _, _, _, _⟩) (v := ?_) rfl (by kernel_rfl) (by kernel_rfl) (by kernel_rfl) (fun _ _ _ h => h) (Or.inl ⟨by rfl, ?_⟩) hHeld ?_
    rotate_left
    · (intro w hSw; (try dsimp only at hSw); go_simp; try with_reducible rfl)
    try simp only [Act.put, List.setIfInBounds_toArray, List.set_cons_zero, List.set_cons_succ]
    refine wpAnyH_take (i := 3) (oi := ⟨_, _, _, _, _, _⟩) (v := ?_) rfl (by kernel_rfl) (by kernel_rfl) (by kernel_rfl) (fun _ _ _ h => h) (Or.inl ⟨by rfl, ?_⟩) hHeld ?_
    rotate_left
    · (intro w hSw; (try dsimp only at hSw); go_simp; try with_reducible rfl)
    try simp only [Act.put, List.setIfInBounds_toArray, List.set_cons_zero, List.set_cons_succ]
    refine wpAnyH_take (i := 4) (oi := ⟨_, _, _, _, _, _⟩) (v := ?_) rfl (by kernel_rfl) (by kernel_rfl) (by kernel_rfl) (fun _ _ _ h => h) (Or.inl ⟨by rfl, ?_⟩) hHeld ?_
    rotate_left
    · (intro w hSw; (try dsimp only at hSw); go_simp; try with_reducible rfl)
    try simp only [Act.put, List.setIfInBounds_toArray, List.set_cons_zero, List.set_cons_succ]
    refine wpAnyH_take (i := 5) (oi := ⟨_, _, _, _, _, _⟩) (v := ?_) rfl (by kernel_rfl) (by kernel_rfl) (by kernel_rfl) (fun _ _ _ h => h) (Or.inl ⟨by rfl, ?_⟩) hHeld ?_
    rotate_left
    · (intro w hSw; (try dsimp only at hSw); go_simp; try with_reducible rfl)
    try simp only [Act.put, List.setIfInBounds_toArray, List.set_cons_zero, List.set_cons_succ]
    refine wpAnyH_take (i := 6) (oi := ⟨_, _, _, _, _, _⟩) (v := ?_) rfl (by kernel_rfl) (by kernel_rfl) (by kernel_rfl) (fun _ _ _ h => h) (Or.inl ⟨by rfl, ?_⟩) hHeld ?_
    rotate_left
    · (intro w hSw; (try dsimp only at hSw); go_simp; try with_reducible rfl)
    try simp only [Act.put, List.setIfInBounds_toArray, List.set_cons_zero, List.set_cons_succ]
    refine wpAnyH_take (i := 7) (oi := ⟨_, _, _, _, _, _⟩) (v := ?_) rfl (by kernel_rfl) (by kernel_rfl) (by kernel_rfl) (fun _ _ _ h => h) (Or.inl ⟨by rfl, ?_⟩) hHeld ?_
    rotate_left
    · (intro w hSw; (try dsimp only at hSw); go_simp; try with_reducible rfl)
    try simp only [Act.put, List.setIfInBounds_toArray, List.set_cons_zero, List.set_cons_succ]
    refine wpAnyH_take (i := 8) (oi := ⟨_, _, _, _, _, _⟩) (v := ?_) rfl (by kernel_rfl) (by kernel_rfl) (by kernel_rfl) (fun _ _ _ h => h) (Or.inl ⟨by rfl, ?_⟩) hHeld ?_
    rotate_left
    · (intro w hSw; (try dsimp only at hSw); go_simp; try with_reducible rfl)
    try simp only [Act.put, List.setIfInBounds_toArray, List.set_cons_zero, List.set_cons_succ]
    refine wpAnyH_take (i := 9) (oi := ⟨_, _, _, _, _, _⟩) (v := ?_) rfl (by kernel_rfl) (by kernel_rfl) (by kernel_rfl) (fun _ _ _ h => h) (Or.inl ⟨by rfl, ?_⟩) hHeld ?_
    rotate_left
    · (intro w hSw; (try dsimp only at hSw); go_simp; try with_reducible rfl)
    try simp only [Act.put, List.setIfInBounds_toArray, List.set_cons_zero, List.set_cons_succ]
    refine wpAnyH_take (i := 10) (oi := ⟨_, _, _, _, _, _⟩) (v := ?_) rfl (by kernel_rfl) (by kernel_rfl) (by kernel_rfl) (fun _ _ _ h => h) (Or.inl ⟨by rfl, ?_⟩) hHeld ?_
    rotate_left
    · (intro w hSw; (try dsimp only at hSw); go_simp; try with_reducible rfl)
    try simp only [Act.put, List.setIfInBounds_toArray, List.set_cons_zero, List.set_cons_succ]
    refine wpAnyH_take (i := 11) (oi := ⟨_, _, _, _, _, _⟩) (v := ?_) rfl (by kernel_rfl) (by kernel_rfl) (by kernel_rfl) (fun _ _ _ h => h) (Or.inl ⟨by rfl, ?_⟩) hHeld ?_
    rotate_left
    · (intro w hSw; (try dsimp only at hSw); go_simp; try with_reducible rfl)
    try simp only [Act.put, List.setIfInBounds_toArray, List.set_cons_zero, List.set_cons_succ]
    refine wpAnyH_take (i := 12) (oi := ⟨_, _, _, _, _, _⟩) (v := ?_) rfl (by kernel_rfl) (by kernel_rfl) (by kernel_rfl) (fun _ _ _ h => h) (Or.inl ⟨by rfl, ?_⟩) hHeld ?_
    rotate_left
    · (intro w hSw; (try dsimp only at hSw); go_simp; try with_reducible rfl)
    try simp only [Act.put, List.setIfInBounds_toArray, List.set_cons_zero, List.set_cons_succ]
    refine wpAnyH_take (i := 13) (oi := ⟨_, _, _, _, _, _⟩) (v := undef) rfl (by kernel_rfl) (by kernel_rfl) (by kernel_rfl) (fun _ _ _ h => h) (Or.inr ⟨by rfl, rfl⟩) hHeld ?_
    try simp only [Act.put, List.setIfInBounds_toArray, List.set_cons_zero, List.set_cons_succ]
    refine wpAnyH_take (i := 14) (oi := ⟨_, _, _, _, _, _⟩) (v := undef) rfl (by kernel_rfl) (by kernel_rfl) (by kernel_rfl) (fun _ _ _ h => h) (Or.inr ⟨by rfl, rfl⟩) hHeld ?_
    try simp only [Act.put, List.setIfInBounds_toArray, List.set_cons_zero, List.set_cons_succ]
    refine wpAnyH_take (i := 15) (oi := ⟨_, _, _, _, _, _⟩) (v := undef) rfl (by kernel_rfl) (by kernel_rfl) (by kernel_rfl) (fun _ _ _ h => h) (Or.inr ⟨by rfl, rfl⟩) hHeld ?_
    try simp only [Act.put, List.setIfInBounds_toArray, List.set_cons_zero, List.set_cons_succ]
    refine wpAnyH_take (i := 16) (oi := ⟨_, _, _, _, _, _⟩) (v := undef) rfl (by kernel_rfl) (by kernel_rfl) (by kernel_rfl) (fun _ _ _ h => h) (Or.inr ⟨by rfl, rfl⟩) hHeld ?_
    try simp only [Act.put, List.setIfInBounds_toArray, List.set_cons_zero, List.set_cons_succ]
    refine wpAnyH_take (i := 17) (oi := ⟨_, _, _, _, _, _⟩) (v := undef) rfl (by kernel_rfl) (by kernel_rfl) (by kernel_rfl) (fun _ _ _ h => h) (Or.inr ⟨by rfl, rfl⟩) hHeld ?_
    try simp only [Act.put, List.setIfInBounds_toArray, List.set_cons_zero, List.set_cons_succ]
    refine wpAnyH_take (i := 18) (oi := ⟨_, _, _, _, _, _⟩) (v := undef) rfl (by kernel_rfl) (by kernel_rfl) (by kernel_rfl) (fun _ _ _ h => h) (Or.inr ⟨by rfl, rfl⟩) hHeld ?_
    try simp only [Act.put, List.setIfInBounds_toArray, List.set_cons_zero, List.set_cons_succ]
    refine wpAnyH_take (i := 19) (oi := ⟨_, _, _, _, _, _⟩) (v := undef) rfl (by kernel_rfl) (by kernel_rfl) (by kernel_rfl) (fun _ _ _ h => h) (Or.inr ⟨by rfl, rfl⟩) hHeld ?_
    try simp only [Act.put, List.setIfInBounds_toArray, List.set_cons_zero, List.set_cons_succ]
    refine wpAnyH_take (i := 20) (oi := ⟨_, _, _, _, _, _⟩) (v := undef) rfl (by kernel_rfl) (by kernel_rfl) (by kernel_rfl) (fun _ _ _ h => h) (Or.inr ⟨by rfl, rfl⟩) hHeld ?_
    try simp only [Act.put, List.setIfInBounds_toArray, List.set_cons_zero, List.set_cons_succ]
    refine wpAnyH_take (i := 21) (oi := ⟨_, _, _, _, _, _⟩) (v := undef) rfl (by kernel_rfl) (by kernel_rfl) (by kernel_rfl) (fun _ _ _ h => h) (Or.inr ⟨by rfl, rfl⟩) hHeld ?_
    try simp only [Act.put, List.setIfInBounds_toArray, List.set_cons_zero, List.set_cons_succ]
    refine wpAnyH_take (i := 22) (oi := ⟨_, _, _, _, _, _⟩) (v := undef) rfl (by kernel_rfl) (by kernel_rfl) (by kernel_rfl) (fun _ _ _ h => h) (Or.inr ⟨by rfl, rfl⟩) hHeld ?_
    try simp only [Act.put, List.setIfInBounds_toArray, List.set_cons_zero, List.set_cons_succ]
    refine wpAnyH_take (i := 23) (oi := ⟨_, _, _, _, _, _⟩) (v := undef) rfl (by kernel_rfl) (by kernel_rfl) (by kernel_rfl) (fun _ _ _ h => h) (Or.inr ⟨by rfl, rfl⟩) hHeld ?_
    try simp only [Act.put, List.setIfInBounds_toArray, List.set_cons_zero, List.set_cons_succ]
    refine wpAnyH_take (i := 24) (oi := ⟨_, _, _, _, _, _⟩) (v := undef) rfl (by kernel_rfl) (by kernel_rfl) (by kernel_rfl) (fun _ _ _ h => h) (Or.inr ⟨by rfl, rfl⟩) hHeld ?_
    try simp only [Act.put, List.setIfInBounds_toArray, List.set_cons_zero, List.set_cons_succ]
    refine wpAnyH_take (i := 25) (oi := ⟨_, _, _, _, _, _⟩) (v := undef) rfl (by kernel_rfl) (by kernel_rfl) (by kernel_rfl) (fun _ _ _ h => h) (Or.inr ⟨by rfl, rfl⟩) hHeld ?_
    try simp only [Act.put, List.setIfInBounds_toArray, List.set_cons_zero, List.set_cons_succ]
    refine wpAnyH_take (i := 26) (oi := ⟨_, _, _, _, _, _⟩) (v := undef) rfl (by kernel_rfl) (by kernel_rfl) (by kernel_rfl) (fun _ _ _ h => h) (Or.inr ⟨by rfl, rfl⟩) hHeld ?_
    try simp only [Act.put, List.setIfInBounds_toArray, List.set_cons_zero, List.set_cons_succ]
    refine wpAnyH_take (i := 27) (oi := ⟨_, _, _, _, _, _⟩) (v := undef) rfl (by kernel_rfl) (by kernel_rfl) (by kernel_rfl) (fun _ _ _ h => h) (Or.inr ⟨by rfl, rfl⟩) hHeld ?_
    try simp only [Act.put, List.setIfInBounds_toArray, List.set_cons_zero, List.set_cons_succ]
    refine wpAnyH_take (i := 28) (oi := ⟨_, _, _, _, _, _⟩) (v := undef) rfl (by kernel_rfl) (by kernel_rfl) (by kernel_rfl) (fun _ _ _ h => h) (Or.inr ⟨by rfl, rfl⟩) hHeld ?_
    try simp only [Act.put, List.setIfInBounds_toArray, List.set_cons_zero, List.set_cons_succ]
    refine wpAnyH_take (i := 29) (oi := ⟨_, _, _, _, _, _⟩) (v := undef) rfl (by kernel_rfl) (by kernel_rfl) (by kernel_rfl) (fun _ _ _ h => h) (Or.inr ⟨by rfl, rfl⟩) hHeld ?_
    try simp only [Act.put, List.setIfInBounds_toArray, List.set_cons_zero, List.set_cons_succ]
    refine wpAnyH_take (i := 30) (oi := ⟨_, _, _, _, _, _⟩) (v := undef) rfl (by kernel_rfl) (by kernel_rfl) (by kernel_rfl) (fun _ _ _ h => h) (Or.inr ⟨by rfl, rfl⟩) hHeld ?_
    try simp only [Act.put, List.setIfInBounds_toArray, List.set_cons_zero, List.set_cons_succ]
    refine wpAnyH_take (i := 31) (oi := ⟨_, _, _, _, _, _⟩) (v := undef) rfl (by kernel_rfl) (by kernel_rfl) (by kernel_rfl) (fun _ _ _ h => h) (Or.inr ⟨by rfl, rfl⟩) hHeld ?_
    try simp only [Act.put, List.setIfInBounds_toArray, List.set_cons_zero, List.set_cons_succ]
    refine wpAnyH_take (i := 32) (oi := ⟨_, _, _, _, _, _⟩) (v := undef) rfl (by kernel_rfl) (by kernel_rfl) (by kernel_rfl) (fun _ _ _ h => h) (Or.inr ⟨by rfl, rfl⟩) hHeld ?_
    try simp only [Act.put, List.setIfInBounds_toArray, List.set_cons_zero, List.set_cons_succ]
    refine wpAnyH_take (i := 33) (oi := ⟨_, _, _, _, _, _⟩) (v := undef) rfl (by kernel_rfl) (by kernel_rfl) (by kernel_rfl) (fun _ _ _ h => h) (Or.inr ⟨by rfl, rfl⟩) hHeld ?_
    try simp only [Act.put, List.setIfInBounds_toArray, List.set_cons_zero, List.set_cons_succ]
    refine wpAnyH_take (i := 34) (oi := ⟨_, _, _, _, _, _⟩) (v := undef) rfl (by kernel_rfl) (by kernel_rfl) (by kernel_rfl) (fun _ _ _ h => h) (Or.inr ⟨by rfl, rfl⟩) hHeld ?_
    try simp only [Act.put, List.setIfInBounds_toArray, List.set_cons_zero, List.set_cons_succ]
    refine wpAnyH_take (i := 35) (oi := ⟨_, _, _, _, _, _⟩) (v := undef) rfl (by kernel_rfl) (by kernel_rfl) (by kernel_rfl) (fun _ _ _ h => h) (Or.inr ⟨by rfl, rfl⟩) hHeld ?_
    try simp only [Act.put, List.setIfInBounds_toArray, List.set_cons_zero, List.set_cons_succ]
    refine wpAnyH_take (i := 36) (oi := ⟨_, _, _, _, _, _⟩) (v := undef) rfl (by kernel_rfl) (by kernel_rfl) (by kernel_rfl) (fun _ _ _ h => h) (Or.inr ⟨by rfl, rfl⟩) hHeld ?_
    try simp only [Act.put, List.setIfInBounds_toArray, List.set_cons_zero, List.set_cons_succ]
    refine wpAnyH_take (i := 37) (oi := ⟨_, _, _, _, _, _⟩) (v := undef) rfl (by kernel_rfl) (by kernel_rfl) (by kernel_rfl) (fun _ _ _ h => h) (Or.inr ⟨by rfl, rfl⟩) hHeld ?_
    try simp only [Act.put, List.setIfInBounds_toArray, List.set_cons_zero, List.set_cons_succ]
    refine wpAnyH_take (i := 38) (oi := ⟨_, _, _, _, _, _⟩) (v := undef) rfl (by kernel_rfl) (by kernel_rfl) (by kernel_rfl) (fun _ _ _ h => h) (Or.inr ⟨by rfl, rfl⟩) hHeld ?_
    try simp only [Act.put, List.setIfInBounds_toArray, List.set_cons_zero, List.set_cons_succ]
    refine wpAnyH_take (i := 39) (oi := ⟨_, _, _, _, _, _⟩) (v := undef) rfl (by kernel_rfl) (by kernel_rfl) (by kernel_rfl) (fun _ _ _ h => h) (Or.inr ⟨by rfl, rfl⟩) hHeld ?_
    try simp only [Act.put, List.setIfInBounds_toArray, List.set_cons_zero, List.set_cons_succ]
    refine wpAnyH_take (i := 40) (oi := ⟨_, _, _, _, _, _⟩) (v := undef) rfl (by kernel_rfl) (by kernel_rfl) (by kernel_rfl) (fun _ _ _ h => h) (Or.inr ⟨by rfl, rfl⟩) hHeld ?_
    try simp only [Act.put, List.setIfInBounds_toArray, List.set_cons_zero, List.set_cons_succ]
    refine wpAnyH_take (i := 41) (oi := ⟨_, _, _, _, _, _⟩) (v := ?_) rfl (by kernel_rfl) (by kernel_rfl) (by kernel_rfl) (fun _ _ _ h => h) (Or.inl ⟨by rfl, ?_⟩) hHeld ?_
    rotate_left
    · (intro w hSw; (try dsimp only at hSw); go_simp; try with_reducible rfl)
    try simp only [Act.put, List.setIfInBounds_toArray, List.set_cons_zero, List.set_cons_succ]
    refine wpAnyH_take (i := 42) (oi := ⟨_, _, _, _, _, _⟩) (v := ?_) rfl (by kernel_rfl) (by kernel_rfl) (by kernel_rfl) (fun _ _ _ h => h) (Or.inl ⟨by rfl, ?_⟩) hHeld ?_
    rotate_left
    · (intro w hSw; (try dsimp only at hSw); go_simp; try with_reducible rfl)
    try simp only [Act.put, List.setIfInBounds_toArray, List.set_cons_zero, List.set_cons_succ]
    refine wpAnyH_take (i := 43) (oi := ⟨_, _, _, _, _, _⟩) (v := ?_) rfl (by kernel_rfl) (by kernel_rfl) (by kernel_rfl) (fun _ _ _ h => h) (Or.inl ⟨by rfl, ?_⟩) hHeld ?_
    rotate_left
    · (intro w hSw; (try dsimp only at hSw); go_simp; try with_reducible rfl)
    try simp only [Act.put, List.setIfInBounds_toArray, List.set_cons_zero, List.set_cons_succ]
    refine wpAnyH_done (by kernel_rfl) ?_ _
    go_wp2_with fail
    go_ret
    exact ⟨rfl, below2 HB.out hbr⟩
  · obtain ⟨nL, hnL⟩ : ∃ x, x = L.length := ⟨_, rfl⟩
    obtain ⟨nM, hnM⟩ : ∃ x, x = M.length := ⟨_, rfl⟩
    have HN := Lib.hid (And.intro hnL hnM)
    rw [← hnL] at K1
    rw [← hnM] at K2
    have g1 : 0 < nL := by omega
    have g2 : 0 < nM := by omega
    have g3 : nM ≤ nL := by omega
    have g4 : nL ≤ 16 := by omega
    have d1 : ((nL : Int) == 0) = false := by rw [beq_eq_false_iff_ne]; omega
    have d2 : decide ((0 : Int) < (nM : Int)) = true := by rw [decide_eq_true_eq]; omega
    have d3 : decide (nM ≤ nL) = true := by rw [decide_eq_true_eq]; omega
    have d4 : decide (p.length ≤ q.length) = true := by rw [decide_eq_true_eq]; omega
    have HP := Lib.hid hp
    have HQ := Lib.hid hq
    clear hnL hnM hl hl6 hp hq
    go_enter Tryd.func7, Tryd.ntmps7
    go_wp2_with fail
    refine K1.out.mono ?_
    rintro e w1 ⟨a1, c1, rfl, ht1, hB1⟩
    go_wp2_with fail
    refine (K2.out _).mono ?_
    rintro e w2 ⟨a2, c2, rfl, ht2, hB2⟩
    have HB := Lib.hid (below2 hB1 hB2)
    obtain ⟨b1, o1, rfl, x1⟩ := (ht1.below hB2).at h1
    obtain ⟨b2, o2, rfl, x2⟩ := ht2.at h2
    rw [HP.out] at x1
    rw [HQ.out] at x2
    have KK := Lib.hid (fun W (hW : Below w2.heap.size w2 W) => chKnown_calls W (HT.out.below (below2 HB.out hW)))
    have HX := Lib.hid (fun W (hW : Below w2.heap.size w2 W) => And.intro (look_below hW x1) (look_below hW x2))
    have hbr : Below w2.heap.size w2 w2.drew := drew_below _
    clear hB1 hB2 ht1 ht2
    go_wp2_with fail
    go_region_held3 (fun W => W.cell? ⟨b1, o1, none⟩ = some (.string ⟨p.toArray⟩) ∧ W.cell? ⟨b2, o2, none⟩ = some (.string ⟨q.toArray⟩)) (first | exact HX.out _ hbr) (first
      | ((with_reducible refine (KK.out _ hbr).mono ?_); rintro e w3 ⟨rfl, hB3⟩; have hbr := below2 hbr hB3))
    all_goals
      go_wp2_with fail
      go_ret
      exact ⟨rfl, below2 HB.out hbr⟩

theorem chainFewer_walk (s : List UInt8) (n m : Int) (w : World) (hl : s.length ≤ 9223372036854775807) (hT : TabOk w) :
    Calls Tryd.prog 7 #[.string ⟨s.toArray⟩, .int .i64 n, .int .i64 m] w fun e w' => e = .returned (.bool true) ∧ Below w.heap.size w w' := by
  by_cases h1 : 500 < s.length ∨ m < n
  · exact chainFewer_far s n m w h1 hl
  by_cases h2 : cutE s n ≠ 0 ∨ cutE s m ≠ 0
  · exact chainFewer_no s n m w (by omega) (by omega) hT _ _ rfl rfl h2
  have e1 : cutE s n = 0 := Classical.not_not.1 fun x => h2 (.inl x)
  have e2 : cutE s m = 0 := Classical.not_not.1 fun x => h2 (.inr x)
  have f1 : cutL s n = chopN n.toNat s ∧ 1 ≤ n := by
    rcases cut_cases s n with ⟨x, _⟩ | ⟨x, _⟩ | ⟨_, x, y, _⟩
    · omega
    · omega
    · exact ⟨x, y⟩
  have f2 : cutL s m = chopN m.toNat s := by
    rcases cut_cases s m with ⟨x, _⟩ | ⟨x, _⟩ | ⟨_, x, _⟩
    · omega
    · omega
    · exact x
  have hnm : n.toNat ≤ m.toNat := by omega
  have hn0 : 0 < n.toNat := by omega
  have hm0 : 0 < m.toNat := by omega
  refine chainFewer_main s n m w (by omega) (by omega) hT _ _ rfl rfl e1.symm e2.symm ?_ (cut_few s n) ?_
  · rw [f1.1, f2, chop_len, chop_len, cnt_le hm0]
    exact Nat.le_trans ((cnt_le hn0).1 (Nat.le_refl _)) (Nat.mul_le_mul_left _ hnm)
  · rw [f1.1, f2]
    by_cases hs : s.length = 0
    · left
      rw [chop_len]
      have := (cnt_le (m := s.length) (k := 0) hn0).2 (by omega)
      omega
    · right
      have g1 : 0 < (chopN n.toNat s).length := by rw [chop_len]; exact (cnt_lt hn0).2 (by omega)
      have g2 : 0 < (chopN m.toNat s).length := by rw [chop_len]; exact (cnt_lt hm0).2 (by omega)
      refine ⟨s.take n.toNat, s.take m.toNat, g1, g2, ?_, ?_, ?_, ?_, ?_⟩
      · rw [show (chopN n.toNat s)[0] = (s.drop (0 * n.toNat)).take n.toNat from pcs_get _ _ _ _ g1]; simp
      · rw [show (chopN m.toNat s)[0] = (s.drop (0 * m.toNat)).take m.toNat from pcs_get _ _ _ _ g2]; simp
      · rw [List.length_take, List.length_take]; omega
      · rw [List.length_take]; omega
      · rw [List.take_take, List.length_take]
        have e : min (min n.toNat s.length) m.toNat = min n.toNat s.length := by omega
        rw [e, take_min]

end Go.Proofs.YtinbeapkhmcifaaDoor
