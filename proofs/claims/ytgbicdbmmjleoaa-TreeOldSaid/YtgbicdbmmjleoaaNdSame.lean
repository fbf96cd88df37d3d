/-
  The document's own Same, Big of pairs.
-/
import Derived.Test.YtgbicdbmmjleoaaPrs
import Derived.Test.YtgbicdbmmjleoaaNilApp
import Derived.Deep.RegionHeld3
namespace Go.Proofs.Ytgbicdbmmjleoaa
open Go.RowKit

/-- The first k pairs are the same. -/
def sameTo (a b : List Pr) (k : Nat) : Prop := a.take k = b.take k
theorem sameTo_succ {a b : List Pr} {k : Nat} (h : sameTo a b k) (ha : k < a.length) (hb : k < b.length) (he : a[k] = b[k]) : sameTo a b (k + 1) := by
  unfold sameTo at h ⊢
  rw [List.take_succ_eq_append_getElem ha, List.take_succ_eq_append_getElem hb, h, he]
theorem sameTo_all {a b : List Pr} (hl : a.length = b.length) (h : sameTo a b a.length) : decide (a = b) = true := by
  unfold sameTo at h
  rw [List.take_length, hl, List.take_length] at h
  simp [h]
theorem pair_cases (p q : List UInt8) (n m : Int) (s t : List UInt8) : (((p, n), s) = (((q, m), t) : Pr) ∧ (p == q) = true ∧ (n == m) = true ∧ (s == t) = true) ∨ (((p, n), s) ≠ (((q, m), t) : Pr) ∧ (p == q) = false) ∨ (((p, n), s) ≠ (((q, m), t) : Pr) ∧ (p == q) = true ∧ (n == m) = false) ∨ (((p, n), s) ≠ (((q, m), t) : Pr) ∧ (p == q) = true ∧ (n == m) = true ∧ (s == t) = false) := by
  by_cases h1 : p = q
  · by_cases h2 : n = m
    · by_cases h3 : s = t
      · left; simp [h1, h2, h3]
      · right; right; right; simp [h1, h2, h3]
    · right; right; left; simp [h1, h2]
  · right; left; simp [h1]

set_option maxHeartbeats 4000000 in
theorem same_calls (va vb : Value) (a b : List Pr) (w : World) (ha : Prs w va a) (hb : Prs w vb b) (hm : a.length ≤ 100000) :
    Calls Try.prog 16 #[va, vb] w fun e w' => e = .returned (.bool (decide (a = b))) ∧ Below w.heap.size w w' := by
  obtain ⟨aa, ca, rfl⟩ := ha.form
  obtain ⟨ab, cb, rfl⟩ := hb.form
  have HA := Lib.hid ha
  have HB := Lib.hid hb
  clear ha hb
  by_cases hl : a.length = b.length
  · have hne : ((a.length : Int) != (b.length : Int)) = false := by simp [hl]
    have HL := Lib.hid hl
    have hle1 : a.length ≤ b.length := by omega
    have hle2 : b.length ≤ a.length := by omega
    clear hl
    go_enter Try.func16, Try.ntmps16
    go_wp2_with fail
    go_loopw [5] (fun i wr => ∃ k : Nat, k ≤ a.length ∧ i = .int .i64 k ∧ sameTo a b k ∧ Below w.heap.size w wr) (fun i _ => a.length - (intOf i).toNat)
    case atStart => exact ⟨0, Nat.zero_le _, rfl, by simp [sameTo], Below.refl _ _⟩
    case round =>
      obtain ⟨k, hk, rfl, hf, hB⟩ := hrel
      by_cases hlt : k < a.length
      · have hlt2 : k < b.length := by omega
        obtain ⟨b1, o1, rfl, c0, c1, c2⟩ := (HA.out.below hB).at hlt
        obtain ⟨b2, o2, rfl, d0, d1, d2⟩ := (HB.out.below hB).at hlt2
        obtain ⟨⟨⟨p, n⟩, s⟩, hx⟩ : ∃ x, a[k] = x := ⟨_, rfl⟩
        obtain ⟨⟨⟨q, m⟩, t⟩, hy⟩ : ∃ x, b[k] = x := ⟨_, rfl⟩
        rw [hx] at c0 c1 c2
        rw [hy] at d0 d1 d2
        dsimp only at c0 c1 c2 d0 d1 d2
        have HX := Lib.hid (And.intro hx hy)
        clear hx hy
        rcases pair_cases p q n m s t with ⟨he, e1, e2, e3⟩ | ⟨he, e1⟩ | ⟨he, e1, e2⟩ | ⟨he, e1, e2, e3⟩
        · have HR := Lib.hid (sameTo_succ hf hlt hlt2 (by rw [HX.out.1, HX.out.2, he]))
          clear he hf
          go_wp2_with fail
          go_region_held3 (fun w' => w'.cell? ⟨b1, o1 + k * 3, none⟩ = some (.string ⟨p.toArray⟩) ∧ w'.cell? ⟨b1, o1 + k * 3 + 1, none⟩ = some (.int .i64 n) ∧ w'.cell? ⟨b1, o1 + k * 3 + 2, none⟩ = some (.string ⟨s.toArray⟩) ∧ w'.cell? ⟨b2, o2 + k * 3, none⟩ = some (.string ⟨q.toArray⟩) ∧ w'.cell? ⟨b2, o2 + k * 3 + 1, none⟩ = some (.int .i64 m) ∧ w'.cell? ⟨b2, o2 + k * 3 + 2, none⟩ = some (.string ⟨t.toArray⟩)) (first | exact ⟨c0, c1, c2, d0, d1, d2⟩) (first | fail)
          all_goals
            go_wp2_with fail
            go_roundw
            case rel => exact ⟨k + 1, by omega, by go_num, HR.out, below2 hB (drew_below _)⟩
            case measure => simp [intOf]; omega
        all_goals
          have HR := Lib.hid (show decide (a = b) = false by
            rw [decide_eq_false_iff_not]
            intro e
            have h : a[k] = b[k] := by subst e; rfl
            rw [HX.out.1, HX.out.2] at h
            exact he h)
          clear he hf
          go_wp2_with fail
          go_region_held3 (fun w' => w'.cell? ⟨b1, o1 + k * 3, none⟩ = some (.string ⟨p.toArray⟩) ∧ w'.cell? ⟨b1, o1 + k * 3 + 1, none⟩ = some (.int .i64 n) ∧ w'.cell? ⟨b1, o1 + k * 3 + 2, none⟩ = some (.string ⟨s.toArray⟩) ∧ w'.cell? ⟨b2, o2 + k * 3, none⟩ = some (.string ⟨q.toArray⟩) ∧ w'.cell? ⟨b2, o2 + k * 3 + 1, none⟩ = some (.int .i64 m) ∧ w'.cell? ⟨b2, o2 + k * 3 + 2, none⟩ = some (.string ⟨t.toArray⟩)) (first | exact ⟨c0, c1, c2, d0, d1, d2⟩) (first | fail)
          all_goals
            go_wp2_with fail
            go_ret
            exact ⟨by rw [HR.out]; rfl, below2 hB (drew_below _)⟩
      · obtain rfl : k = a.length := by omega
        have HR := Lib.hid (sameTo_all HL.out hf)
        clear hf
        go_wp2_with fail
        go_ret
        exact ⟨by rw [HR.out]; rfl, hB⟩
  · have hne : ((a.length : Int) != (b.length : Int)) = true := by rw [bne_iff_ne]; omega
    have HR := Lib.hid (show decide (a = b) = false by
      rw [decide_eq_false_iff_not]
      intro e
      exact hl (by rw [e]))
    clear hl
    go_enter Try.func16, Try.ntmps16
    go_wp2_with fail
    go_ret
    exact ⟨by rw [HR.out]; rfl, Below.refl _ _⟩

/-- None of the first k pairs is too great. -/
def smallTo (l : List Pr) (k : Nat) : Prop := (l.take k).any (fun x => decide (200 < x.1.1.length) || decide (300 < x.2.length)) = false
theorem smallTo_succ {l : List Pr} {k : Nat} (h : smallTo l k) (hk : k < l.length) (h1 : l[k].1.1.length ≤ 200) (h2 : l[k].2.length ≤ 300) : smallTo l (k + 1) := by
  unfold smallTo at h ⊢
  rw [List.take_succ_eq_append_getElem hk, List.any_append, h]
  simp [h1, h2]
theorem big_not {l : List Pr} (hl : l.length ≤ 80) (h : smallTo l l.length) : bigP l = false := by
  unfold smallTo at h
  rw [List.take_length] at h
  unfold bigP
  rw [h]
  simp [hl]
theorem big_one {l : List Pr} {k : Nat} (hk : k < l.length) (h : 200 < l[k].1.1.length ∨ 300 < l[k].2.length) : bigP l = true := by
  unfold bigP
  have : l.any (fun x => decide (200 < x.1.1.length) || decide (300 < x.2.length)) = true := List.any_eq_true.2 ⟨l[k], List.getElem_mem hk, by simpa using h⟩
  simp [this]
theorem big_len {l : List Pr} (h : 80 < l.length) : bigP l = true := by
  unfold bigP
  simp [h]
theorem small_facts {l : List Pr} (h : bigP l = false) : l.length ≤ 80 := by
  unfold bigP at h
  simp only [Bool.or_eq_false_iff, decide_eq_false_iff_not] at h
  omega

set_option maxHeartbeats 2000000 in
theorem big_calls (v : Value) (l : List Pr) (w : World) (hs : Prs w v l) (hm : l.length ≤ 9223372036854775807) :
    Calls Try.prog 21 #[v] w fun e w' => e = .returned (.bool (bigP l)) ∧ w = w' := by
  obtain ⟨ao, cap, rfl⟩ := hs.form
  have HS := Lib.hid hs
  clear hs
  by_cases h80 : 80 < l.length
  · have HR := Lib.hid (big_len h80)
    go_enter Try.func21, Try.ntmps21
    go_wp2_with fail
    go_loop [3] (fun i => i = .int .i64 0) (fun _ => 0)
    case atStart => rfl
    case round =>
      subst hrel
      go_wp2_with fail
      go_ret
      exact ⟨by rw [HR.out]; rfl, rfl⟩
  · have h81 : l.length ≤ 80 := by omega
    clear hm
    go_enter Try.func21, Try.ntmps21
    go_wp2_with fail
    go_loop [3] (fun i => ∃ k : Nat, k ≤ l.length ∧ i = .int .i64 k ∧ smallTo l k) (fun i => l.length - (intOf i).toNat)
    case atStart => exact ⟨0, Nat.zero_le _, rfl, by simp [smallTo]⟩
    case round =>
      obtain ⟨k, hk, rfl, hf⟩ := hrel
      by_cases hlt : k < l.length
      · obtain ⟨b, off, rfl, c0, c1, c2⟩ := HS.out.at hlt
        obtain ⟨⟨⟨p, n⟩, s⟩, hx⟩ : ∃ x, l[k] = x := ⟨_, rfl⟩
        rw [hx] at c0 c1 c2
        dsimp only at c0 c1 c2
        clear c1
        have HX := Lib.hid hx
        clear hx
        by_cases h1 : 200 < p.length
        · have HR := Lib.hid (big_one hlt (.inl (by rw [HX.out]; exact h1)))
          clear hf
          go_wp2_with fail
          go_ret
          exact ⟨by rw [HR.out]; rfl, rfl⟩
        · have h1' : p.length ≤ 200 := by omega
          by_cases h2 : 300 < s.length
          · have HR := Lib.hid (big_one hlt (.inr (by rw [HX.out]; exact h2)))
            clear hf
            go_wp2_with fail
            go_ret
            exact ⟨by rw [HR.out]; rfl, rfl⟩
          · have h2' : s.length ≤ 300 := by omega
            have HR := Lib.hid (smallTo_succ hf hlt (by rw [HX.out]; exact h1') (by rw [HX.out]; exact h2'))
            clear hf
            go_wp2_with fail
            go_round
            case rel => exact ⟨k + 1, by omega, by go_num, HR.out⟩
            case measure => simp [intOf]; omega
      · obtain rfl : k = l.length := by omega
        have HR := Lib.hid (big_not (by omega) hf)
        have hd : decide ((80 : Int) < (l.length : Int)) = false := by rw [decide_eq_false_iff_not]; omega
        clear hf
        go_wp2_with fail
        go_ret
        exact ⟨by rw [HR.out]; rfl, rfl⟩

end Go.Proofs.Ytgbicdbmmjleoaa
