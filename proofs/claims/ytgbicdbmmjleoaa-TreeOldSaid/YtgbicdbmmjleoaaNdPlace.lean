/-
  node: the closure that Find hands on; place; Find.
-/
import Derived.Test.YtgbicdbmmjleoaaPrs
import Derived.Test.YtgbicdbmmjleoaaKyCmp
import Derived.Deep.RegionHeld3
namespace Go.Proofs.Ytgbicdbmmjleoaa
open Go.RowKit

/-- A box that holds a key. -/
def KBox (w : World) (g : Nat) (k : Ky) : Prop := Cx w g 24 [.string ⟨k.1.toArray⟩, .int .i64 k.2]

set_option maxHeartbeats 1000000 in
theorem find1_calls (x : Pr) (k : Ky) (g : Nat) (w : World) (hk : KBox w g k) :
    Calls Try.prog 43 #[.agg #[.string ⟨x.1.1.toArray⟩, .int .i64 x.1.2, .string ⟨x.2.toArray⟩], .pointer (some ⟨g, 0, none⟩)] w fun e w' => e = .returned (.bool (lessK x.1 k)) ∧ Below w.heap.size w w' := by
  obtain ⟨⟨p, n⟩, s⟩ := x
  obtain ⟨q, m⟩ := k
  dsimp only
  have hk1 := hk.below (below_alloc w (.cells #[.string ⟨p.toArray⟩, .int .i64 n, .string ⟨s.toArray⟩] 31))
  obtain ⟨c0, c1, _, _, hg⟩ := hk1.two
  dsimp only at c0 c1
  go_enter Try.func43, Try.ntmps43
  go_wp2_with fail
  refine (kLess_calls p q n m _).mono ?_
  rintro e w1 ⟨rfl, hB⟩
  go_wp2_with fail
  go_ret
  exact ⟨rfl, below2 (below_alloc w _) hB⟩

/-- So far all stand ahead. -/
def aheadTo (l : List Pr) (k : Ky) (n : Nat) : Prop := ∀ i (h : i < l.length), i < n → lessK l[i].1 k = true
theorem aheadTo_succ {l : List Pr} {k : Ky} {n : Nat} (h : aheadTo l k n) (hn : n < l.length) (h1 : lessK l[n].1 k = true) : aheadTo l k (n + 1) := by
  intro i hi h2
  by_cases e : i = n
  · subst e; exact h1
  · exact h i hi (by omega)
theorem aheadTo_here {l : List Pr} {k : Ky} {n : Nat} (h : aheadTo l k n) (hn : n < l.length) (h1 : lessK l[n].1 k = false) : placeN l k = n :=
  placeN_is (by omega) (fun i hi => h i (by omega) hi) (fun _ => h1)
theorem aheadTo_end {l : List Pr} {k : Ky} {n : Nat} (h : aheadTo l k n) (hn : n = l.length) : placeN l k = n :=
  placeN_is (by omega) (fun i hi => h i (by omega) hi) (fun _ => by omega)

set_option maxHeartbeats 2000000 in
theorem place_calls (v : Value) (l : List Pr) (k : Ky) (g : Nat) (w : World) (hs : Prs w v l) (hk : KBox w g k) (hm : l.length ≤ 1000000) :
    Calls Try.prog 42 #[v, .func (.func 43) #[] #[.pointer (some ⟨g, 0, none⟩)]] w fun e w' => e = .returned (.int .i64 (placeN l k)) ∧ Below w.heap.size w w' := by
  obtain ⟨ao, cap, rfl⟩ := hs.form
  have HS := Lib.hid hs
  have HK := Lib.hid hk
  clear hs hk
  go_enter Try.func42, Try.ntmps42
  go_wp2_with fail
  go_loopw [5] (fun i wr => ∃ n : Nat, n ≤ l.length ∧ i = .int .i64 n ∧ aheadTo l k n ∧ Below w.heap.size w wr) (fun i _ => l.length - (intOf i).toNat)
  case atStart => exact ⟨0, Nat.zero_le _, rfl, fun i _ h => by omega, Below.refl _ _⟩
  case round =>
    obtain ⟨n, hn, rfl, hf, hB⟩ := hrel
    by_cases hlt : n < l.length
    · obtain ⟨b, off, rfl, c0, c1, c2⟩ := (HS.out.below hB).at hlt
      obtain ⟨x, hx⟩ : ∃ x, l[n] = x := ⟨_, rfl⟩
      rw [hx] at c0 c1 c2
      have HX := Lib.hid hx
      clear hx
      have KC := find1_calls x k g _ (HK.out.below hB)
      cases hle : lessK x.1 k with
      | true =>
        have HL := Lib.hid hle
        rw [hle] at KC
        have K := Lib.hid KC
        clear KC hle
        go_wp2_with fail
        refine K.out.mono ?_
        rintro e w1 ⟨rfl, hB1⟩
        go_wp2_with fail
        go_roundw
        case rel => exact ⟨n + 1, by omega, by go_num, aheadTo_succ hf hlt (by rw [HX.out]; exact HL.out), below2 hB hB1⟩
        case measure => simp [intOf]; omega
      | false =>
        have HL := Lib.hid hle
        rw [hle] at KC
        have K := Lib.hid KC
        clear KC hle
        go_wp2_with fail
        refine K.out.mono ?_
        rintro e w1 ⟨rfl, hB1⟩
        have HR := Lib.hid (aheadTo_here hf hlt (by rw [HX.out]; exact HL.out))
        go_wp2_with fail
        go_ret
        exact ⟨by rw [HR.out]; rfl, below2 hB hB1⟩
    · obtain rfl : n = l.length := by omega
      have HR := Lib.hid (aheadTo_end hf rfl)
      go_wp2_with fail
      go_ret
      exact ⟨by rw [HR.out]; rfl, hB⟩

theorem kbox_new (w : World) (p : List UInt8) (n : Int) : KBox (w.alloc (.cells #[.string ⟨p.toArray⟩, .int .i64 n] 24)) w.heap.size (p, n) := Cx.new w _ [.string ⟨p.toArray⟩, .int .i64 n]
/-- Two keys are the same, or their paths are unlike, or their times alone. -/
theorem key_cases (q p : List UInt8) (z m : Int) : (decide (((q, z) : Ky) = (p, m)) = true ∧ (q == p) = true ∧ (z == m) = true) ∨ (decide (((q, z) : Ky) = (p, m)) = false ∧ (q == p) = false) ∨ (decide (((q, z) : Ky) = (p, m)) = false ∧ (q == p) = true ∧ (z == m) = false) := by
  by_cases h1 : q = p
  · by_cases h2 : z = m
    · left; simp [h1, h2]
    · right; right; simp [h1, h2]
  · right; left; simp [h1]

set_option maxHeartbeats 4000000 in
theorem find_calls (v : Value) (l : List Pr) (p : List UInt8) (m : Int) (w : World) (hs : Prs w v l) (hm : l.length ≤ 1000000) :
    Calls Try.prog 37 #[v, .agg #[.string ⟨p.toArray⟩, .int .i64 m]] w fun e w' => e = .returned (.tuple #[.int .i64 (placeN l (p, m)), .bool (hereB l (p, m))]) ∧ Below w.heap.size w w' := by
  obtain ⟨ao, cap, rfl⟩ := hs.form
  have hB0 := below_alloc w (.cells #[.string ⟨p.toArray⟩, .int .i64 m] 24)
  have KP := place_calls _ l (p, m) _ _ (hs.below hB0) (kbox_new w p m) hm
  have HS := Lib.hid hs
  have HK := Lib.hid (kbox_new w p m)
  clear hs
  obtain ⟨n, hn⟩ : ∃ n, placeN l (p, m) = n := ⟨_, rfl⟩
  have hnl : n ≤ l.length := by rw [← hn]; exact placeN_le l _
  rw [hn] at KP
  rw [hn]
  have HN := Lib.hid hn
  have K := Lib.hid KP
  clear KP hn
  by_cases hlt : n < l.length
  · obtain ⟨⟨⟨q, z⟩, s⟩, hx⟩ : ∃ x, l[n] = x := ⟨_, rfl⟩
    have hh : hereB l (p, m) = decide (((q, z) : Ky) = (p, m)) := by
      have := hereB_at (l := l) (k := (p, m)) (by rw [HN.out]; exact hlt)
      simp only [HN.out, hx] at this
      exact this
    have HX := Lib.hid hx
    clear hx
    rcases key_cases q p z m with ⟨he, e1, e2⟩ | ⟨he, e1⟩ | ⟨he, e1, e2⟩
    all_goals
      rw [he] at hh
      have HH := Lib.hid hh
      clear hh he
      go_enter Try.func37, Try.ntmps37
      go_wp2_with fail
      refine K.out.mono ?_
      rintro e w1 ⟨rfl, hB1⟩
      obtain ⟨k0, k1, _⟩ := (HK.out.below hB1).two
      obtain ⟨b, off, rfl, c0, c1, c2⟩ := (HS.out.below (below2 hB0 hB1)).at hlt
      rw [HX.out] at c0 c1 c2
      dsimp only at c0 c1 k0 k1
      clear c2
      go_wp2_with fail
      go_region_held3 (fun w' => w'.cell? ⟨b, off + n * 3, none⟩ = some (.string ⟨q.toArray⟩) ∧ w'.cell? ⟨b, off + n * 3 + 1, none⟩ = some (.int .i64 z) ∧ w'.cell? ⟨w.heap.size, 0, none⟩ = some (.string ⟨p.toArray⟩) ∧ w'.cell? ⟨w.heap.size, 1, none⟩ = some (.int .i64 m)) (first | exact ⟨c0, c1, k0, k1⟩) (first | fail)
      all_goals
        go_wp2_with fail
        go_ret2
        exact ⟨by rw [HH.out]; rfl, below3 hB0 hB1 (drew_below _)⟩
  · have hnl2 : n = l.length := by omega
    have HH := Lib.hid (hereB_end (HN.out.trans hnl2))
    clear hnl2
    go_enter Try.func37, Try.ntmps37
    go_wp2_with fail
    refine K.out.mono ?_
    rintro e w1 ⟨rfl, hB1⟩
    go_wp2_with fail
    refine wp_region_held_drew (S := (fun _ => True)) (by kernel_rfl) (trivial) (fun hHeld => ?_)
    refine wpAnyH_take (i := 0) (oi := ⟨_, _, _, _, _, _⟩) (v := ?_) rfl (by kernel_rfl) (by kernel_rfl) (by kernel_rfl) (fun _ _ _ h => h) (Or.inl ⟨by rfl, ?_⟩) hHeld ?_
    rotate_left
    · (intro w hSw; (try dsimp only at hSw); go_simp; try with_reducible rfl)
    try simp only [Act.put, List.setIfInBounds_toArray, List.set_cons_zero, List.set_cons_succ]
    refine wpAnyH_take (i := 1) (oi := ⟨_, _, _, _, _, _⟩) (v := ?_) rfl (by kernel_rfl) (by kernel_rfl) (by kernel_rfl) (fun _ _ _ h => h) (Or.inl ⟨by rfl, ?_⟩) hHeld ?_
    rotate_left
    · (intro w hSw; (try dsimp only at hSw); go_simp; try with_reducible rfl)
    try simp only [Act.put, List.setIfInBounds_toArray, List.set_cons_zero, List.set_cons_succ]
    refine wpAnyH_take (i := 2) (oi := ⟨_, _, _, _, _, _⟩) (v := ?_) rfl (by kernel_rfl) (by kernel_rfl) (by kernel_rfl) (fun _ _ _ h => h) (Or.inl ⟨by rfl, ?_⟩) hHeld ?_
    rotate_left
    · (intro w hSw; (try dsimp only at hSw); go_simp; try with_reducible rfl)
    try simp only [Act.put, List.setIfInBounds_toArray, List.set_cons_zero, List.set_cons_succ]
    refine wpAnyH_take (i := 3) (oi := ⟨_, _, _, _, _, _⟩) (v := ?_) rfl (by kernel_rfl) (by kernel_rfl) (by kernel_rfl) (fun _ _ _ h => h) (Or.inl ⟨by rfl, ?_⟩) hHeld ?_
    rotate_left
    · (intro w hSw; (try dsimp only at hSw); go_simp; try with_reducible rfl)
    try simp only [Act.put, List.setIfInBounds_toArray, List.set_cons_zero, List.set_cons_succ]
    refine wpAnyH_take (i := 4) (oi := ⟨_, _, _, _, _, _⟩) (v := ?_) rfl (by kernel_rfl) (by kernel_rfl) (by kernel_rfl) (fun _ _ _ h => h) (Or.inl ⟨by rfl, ?_⟩) hHeld ?_
    rotate_left
    · (intro w hSw; (try dsimp only at hSw); go_simp; try with_reducible rfl)
    try simp only [Act.put, List.setIfInBounds_toArray, List.set_cons_zero, List.set_cons_succ]
    refine wpAnyH_take (i := 5) (oi := ⟨_, _, _, _, _, _⟩) (v := ?_) rfl (by kernel_rfl) (by kernel_rfl) (by kernel_rfl) (fun _ _ _ h => h) (Or.inl ⟨by rfl, ?_⟩) hHeld ?_
    rotate_left
    · (intro w hSw; (try dsimp only at hSw); go_simp; try with_reducible rfl)
    try simp only [Act.put, List.setIfInBounds_toArray, List.set_cons_zero, List.set_cons_succ]
    refine wpAnyH_take (i := 6) (oi := ⟨_, _, _, _, _, _⟩) (v := undef) rfl (by kernel_rfl) (by kernel_rfl) (by kernel_rfl) (fun _ _ _ h => h) (Or.inr ⟨by rfl, rfl⟩) hHeld ?_
    try simp only [Act.put, List.setIfInBounds_toArray, List.set_cons_zero, List.set_cons_succ]
    refine wpAnyH_take (i := 7) (oi := ⟨_, _, _, _, _, _⟩) (v := undef) rfl (by kernel_rfl) (by kernel_rfl) (by kernel_rfl) (fun _ _ _ h => h) (Or.inr ⟨by rfl, rfl⟩) hHeld ?_
    try simp only [Act.put, List.setIfInBounds_toArray, List.set_cons_zero, List.set_cons_succ]
    refine wpAnyH_take (i := 8) (oi := ⟨_, _, _, _, _, _⟩) (v := undef) rfl (by kernel_rfl) (by kernel_rfl) (by kernel_rfl) (fun _ _ _ h => h) (Or.inr ⟨by rfl, rfl⟩) hHeld ?_
    try simp only [Act.put, List.setIfInBounds_toArray, List.set_cons_zero, List.set_cons_succ]
    refine wpAnyH_take (i := 9) (oi := ⟨_, _, _, _, _, _⟩) (v := undef) rfl (by kernel_rfl) (by kernel_rfl) (by kernel_rfl) (fun _ _ _ h => h) (Or.inr ⟨by rfl, rfl⟩) hHeld ?_
    try simp only [Act.put, List.setIfInBounds_toArray, List.set_cons_zero, List.set_cons_succ]
    refine wpAnyH_take (i := 10) (oi := ⟨_, _, _, _, _, _⟩) (v := undef) rfl (by kernel_rfl) (by kernel_rfl) (by kernel_rfl) (fun _ _ _ h => h) (Or.inr ⟨by rfl, rfl⟩) hHeld ?_
    try simp only [Act.put, List.setIfInBounds_toArray, List.set_cons_zero, List.set_cons_succ]
    refine wpAnyH_take (i := 11) (oi := ⟨_, _, _, _, _, _⟩) (v := undef) rfl (by kernel_rfl) (by kernel_rfl) (by kernel_rfl) (fun _ _ _ h => h) (Or.inr ⟨by rfl, rfl⟩) hHeld ?_
    try simp only [Act.put, List.setIfInBounds_toArray, List.set_cons_zero, List.set_cons_succ]
    refine wpAnyH_take (i := 12) (oi := ⟨_, _, _, _, _, _⟩) (v := undef) rfl (by kernel_rfl) (by kernel_rfl) (by kernel_rfl) (fun _ _ _ h => h) (Or.inr ⟨by rfl, rfl⟩) hHeld ?_
    try simp only [Act.put, List.setIfInBounds_toArray, List.set_cons_zero, List.set_cons_succ]
    refine wpAnyH_take (i := 13) (oi := ⟨_, _, _, _, _, _⟩) (v := ?_) rfl (by kernel_rfl) (by kernel_rfl) (by kernel_rfl) (fun _ _ _ h => h) (Or.inl ⟨by rfl, ?_⟩) hHeld ?_
    rotate_left
    · (intro w hSw; (try dsimp only at hSw); go_simp; try with_reducible rfl)
    try simp only [Act.put, List.setIfInBounds_toArray, List.set_cons_zero, List.set_cons_succ]
    refine wpAnyH_take (i := 14) (oi := ⟨_, _, _, _, _, _⟩) (v := ?_) rfl (by kernel_rfl) (by kernel_rfl) (by kernel_rfl) (fun _ _ _ h => h) (Or.inl ⟨by rfl, ?_⟩) hHeld ?_
    rotate_left
    · (intro w hSw; (try dsimp only at hSw); go_simp; try with_reducible rfl)
    try simp only [Act.put, List.setIfInBounds_toArray, List.set_cons_zero, List.set_cons_succ]
    refine wpAnyH_take (i := 15) (oi := ⟨_, _, _, _, _, _⟩) (v := ?_) rfl (by kernel_rfl) (by kernel_rfl) (by kernel_rfl) (fun _ _ _ h => h) (Or.inl ⟨by rfl, ?_⟩) hHeld ?_
    rotate_left
    · (intro w hSw; (try dsimp only at hSw); go_simp; try with_reducible rfl)
    try simp only [Act.put, List.setIfInBounds_toArray, List.set_cons_zero, List.set_cons_succ]
    refine wpAnyH_done (by kernel_rfl) ?_ _
    go_wp2_with fail
    go_ret2
    exact ⟨by rw [HH.out]; rfl, below3 hB0 hB1 (drew_below _)⟩

end Go.Proofs.Ytgbicdbmmjleoaa
