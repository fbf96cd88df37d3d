/-
  path.isName, path.names.
-/
import Derived.Test.YtaoiiocgnnjnnaaDoorPLib
namespace Go.Proofs.YtaoiiocgnnjnnaaDoor
open Go.RowKit

theorem idx_neg : ∀ l : List UInt8, (Lib.indexByte l 0 < 0 ↔ (l.contains 0) = false)
  | [] => by simp [Lib.indexByte]
  | b :: l => by
    have ih := idx_neg l
    have hge := Lib.indexByte_ge l 0
    unfold Lib.indexByte
    by_cases hb : b = 0
    · subst hb; simp
    · have h1 : (b == 0) = false := by simpa using hb
      have h2 : (b :: l).contains 0 = l.contains 0 := by
        rw [List.contains_cons]
        have : ((0 : UInt8) == b) = false := by simpa using fun e => hb e.symm
        rw [this, Bool.false_or]
      rw [h2, ← ih, h1]
      simp only [Bool.false_eq_true, if_false]
      split <;> rename_i h3
      · have := beq_iff_eq.1 h3; omega
      · have : ¬ Lib.indexByte l 0 = -1 := fun e => h3 (beq_iff_eq.2 e)
        omega

set_option maxHeartbeats 1000000 in
theorem isName_calls (l : List UInt8) (hl : l.length ≤ 1000000) (w : World) :
    Calls Tryd.prog 34 #[.string ⟨l.toArray⟩] w fun e w' => e = .returned (.bool (isNm l)) ∧ w = w' := by
  by_cases h1 : l = []
  · subst h1
    go_enter Tryd.func34, Tryd.ntmps34
    go_wp2_with fail
    go_ret
    exact ⟨rfl, rfl⟩
  by_cases h2 : l.length ≤ 30
  · by_cases h3 : l = [46]
    · subst h3
      go_enter Tryd.func34, Tryd.ntmps34
      go_wp2_with fail
      go_ret
      exact ⟨rfl, rfl⟩
    by_cases h4 : l = [46, 46]
    · subst h4
      go_enter Tryd.func34, Tryd.ntmps34
      go_wp2_with fail
      go_ret
      exact ⟨rfl, rfl⟩
    have H := Lib.hid (show isNm l = !(l.contains 0) by simp [isNm, h1, h2, h3, h4])
    have hi := idx_neg l
    have b1 : (l == []) = false := by simpa using h1
    have b3 : (l == [46]) = false := by simpa using h3
    have b4 : (l == [46, 46]) = false := by simpa using h4
    go_enter Tryd.func34, Tryd.ntmps34
    go_wp2_with (go_at_call 40; refine (Tryd.strings_IndexByte _ _ _).mono ?_; rintro e w1 ⟨rfl, rfl⟩)
    go_ret
    exact ⟨by rw [H.out]; simp, rfl⟩
  · have H := Lib.hid (show isNm l = false by simp [isNm, h2])
    have h3 : 30 < l.length := by omega
    have b1 : (l == []) = false := by simpa using h1
    clear h2
    go_enter Tryd.func34, Tryd.ntmps34
    go_wp2_with fail
    go_ret
    exact ⟨by rw [H.out]; rfl, rfl⟩

/-- The first k parts are names. -/
def nmTo (ls : List (List UInt8)) (k : Nat) : Prop := (ls.take k).all isNm = true
theorem nmTo_succ {ls : List (List UInt8)} {k : Nat} (h : nmTo ls k) (hk : k < ls.length) (h3 : isNm ls[k] = true) : nmTo ls (k + 1) := by
  unfold nmTo at h ⊢
  rw [List.take_succ_eq_append_getElem hk, List.all_append, h]
  simp [h3]
theorem nmTo_all {ls : List (List UInt8)} (h : nmTo ls ls.length) : ls.all isNm = true := by
  unfold nmTo at h; simpa using h
theorem nm_not {ls : List (List UInt8)} {k : Nat} (hk : k < ls.length) (h : isNm ls[k] = false) : ls.all isNm = false := by
  rw [List.all_eq_false]
  exact ⟨ls[k], List.getElem_mem hk, by simp [h]⟩

/-- A part has no more bytes than the text. -/
theorem part_le {s : List UInt8} {k : Nat} (hk : k < (cut s).length) : (cut s)[k].length ≤ s.length := by
  have h1 := gl_mass (cut_ne s)
  rw [gl_cut] at h1
  have h2 : ∀ (l : List (List UInt8)) (k : Nat) (hk : k < l.length), l[k].length + 1 ≤ mass l := by
    intro l
    induction l with
    | nil => intro k hk; simp at hk
    | cons x r ih =>
      intro k hk
      rw [mass_cons]
      cases k with
      | zero => simp
      | succ k => have := ih k (by simpa using hk); simp; omega
  have := h2 (cut s) k hk
  omega
theorem cut_len (s : List UInt8) : (cut s).length ≤ s.length + 1 := by
  have h1 := gl_mass (cut_ne s)
  rw [gl_cut] at h1
  have h2 : ∀ l : List (List UInt8), l.length ≤ mass l := by
    intro l
    induction l with
    | nil => simp
    | cons x r ih => rw [mass_cons]; simp; omega
  have := h2 (cut s)
  omega
theorem cell_part (w : World) (ls : List (List UInt8)) (t : TypeId) {k : Nat} (hk : k < ls.length) : (w.alloc (.cells (ls.map SV).toArray t)).cell? ⟨w.heap.size, k, none⟩ = some (.string ⟨ls[k].toArray⟩) := by
  rw [World.cell?_alloc_new]
  simp [List.getElem?_eq_getElem hk, SV]

set_option maxHeartbeats 1000000 in
theorem names_long (s : List UInt8) (h : 100 < s.length) (hm : s.length ≤ 9223372036854775807) (w : World) :
    Calls Tryd.prog 28 #[.string ⟨s.toArray⟩] w fun e w' => e = .returned (.tuple #[.slice none 0 0, .bool false]) ∧ w = w' := by
  go_enter Tryd.func28, Tryd.ntmps28
  go_wp2_with fail
  go_ret2
  exact ⟨rfl, rfl⟩
set_option maxHeartbeats 1000000 in
theorem names_root (w : World) :
    Calls Tryd.prog 28 #[.string ⟨#[]⟩] w fun e w' => e = .returned (.tuple #[.slice none 0 0, .bool true]) ∧ w = w' := by
  go_enter Tryd.func28, Tryd.ntmps28
  go_wp2_with fail
  go_ret2
  exact ⟨rfl, rfl⟩

set_option maxHeartbeats 2000000 in
theorem names_some (s : List UInt8) (h : s.length ≤ 100) (h0 : s ≠ []) (hall : (cut s).all isNm = true) (w : World) (hm : Ml w) :
    Calls Tryd.prog 28 #[.string ⟨s.toArray⟩] w fun e w' => e = .returned (.tuple #[.slice (some ⟨w.heap.size, 0, none⟩) (cut s).length (cut s).length, .bool true]) ∧ w' = w.alloc (.cells ((cut s).map SV).toArray 9) := by
  have b0 : (s == []) = false := by simpa using h0
  have hcl := cut_len s
  have HA := Lib.hid hall
  clear hall h0
  have hd : decide ((100 : Int) < s.length) = false := by simp; omega
  go_enter Tryd.func28, Tryd.ntmps28
  go_wp2_with (go_at_call 33; refine (split_calls s (by omega) _ hm).mono ?_; rintro e w1 ⟨rfl, rfl⟩)
  go_loop [16] (fun i => ∃ k : Nat, k ≤ (cut s).length ∧ i = .int .i64 k) (fun i => (cut s).length - (intOf i).toNat)
  case atStart => exact ⟨0, Nat.zero_le _, rfl⟩
  case round =>
    obtain ⟨k, hk, rfl⟩ := hrel
    by_cases hlt : k < (cut s).length
    · have hcell := cell_part w (cut s) 9 hlt
      have hpl := part_le hlt
      have hnm := List.all_eq_true.1 HA.out _ (List.getElem_mem hlt)
      generalize (cut s)[k] = p at hcell hpl hnm
      go_wp2_with (go_at_call 34; refine (isName_calls p (by omega) _).mono ?_; rintro e w1 ⟨rfl, rfl⟩; rw [hnm])
      go_round
      case rel => exact ⟨k + 1, by omega, by go_num⟩
      case measure => simp [intOf]; omega
    · obtain rfl : k = (cut s).length := by omega
      go_wp2_with fail
      go_ret2
      exact ⟨rfl, rfl⟩

set_option maxHeartbeats 2000000 in
theorem names_none (s : List UInt8) (h : s.length ≤ 100) (h0 : s ≠ []) (hall : (cut s).all isNm = false) (w : World) (hm : Ml w) :
    Calls Tryd.prog 28 #[.string ⟨s.toArray⟩] w fun e w' => e = .returned (.tuple #[.slice none 0 0, .bool false]) ∧ w' = w.alloc (.cells ((cut s).map SV).toArray 9) := by
  have b0 : (s == []) = false := by simpa using h0
  have hcl := cut_len s
  have HA := Lib.hid hall
  clear hall h0
  have hd : decide ((100 : Int) < s.length) = false := by simp; omega
  go_enter Tryd.func28, Tryd.ntmps28
  go_wp2_with (go_at_call 33; refine (split_calls s (by omega) _ hm).mono ?_; rintro e w1 ⟨rfl, rfl⟩)
  go_loop [16] (fun i => ∃ k : Nat, k ≤ (cut s).length ∧ i = .int .i64 k ∧ nmTo (cut s) k) (fun i => (cut s).length - (intOf i).toNat)
  case atStart => exact ⟨0, Nat.zero_le _, rfl, by simp [nmTo]⟩
  case round =>
    obtain ⟨k, hk, rfl, hn⟩ := hrel
    by_cases hlt : k < (cut s).length
    · have hcell := cell_part w (cut s) 9 hlt
      have hpl := part_le hlt
      cases hnm : isNm (cut s)[k] with
      | true =>
        have hsucc := nmTo_succ hn hlt hnm
        generalize (cut s)[k] = p at hcell hpl hnm
        go_wp2_with (go_at_call 34; refine (isName_calls p (by omega) _).mono ?_; rintro e w1 ⟨rfl, rfl⟩; rw [hnm])
        go_round
        case rel => exact ⟨k + 1, by omega, by go_num, hsucc⟩
        case measure => simp [intOf]; omega
      | false =>
        generalize (cut s)[k] = p at hcell hpl hnm
        go_wp2_with (go_at_call 34; refine (isName_calls p (by omega) _).mono ?_; rintro e w1 ⟨rfl, rfl⟩; rw [hnm])
        go_ret2
        exact ⟨rfl, rfl⟩
    · obtain rfl : k = (cut s).length := by omega
      exact absurd (nmTo_all hn) (by rw [HA.out]; simp)

/-- What names tells of a path. -/
theorem names_is {s : List UInt8} {l : List (List UInt8)} (h : namesOf s = some l) (w : World) (hm : Ml w) :
    Calls Tryd.prog 28 #[.string ⟨s.toArray⟩] w fun e w' => ∃ v, e = .returned (.tuple #[v, .bool true]) ∧ Txts w' v l ∧ Below w.heap.size w w' := by
  unfold namesOf at h
  split at h
  · cases h
  · split at h
    · rename_i h1 h2
      subst h2
      cases h
      exact (names_root w).mono fun e w' ⟨he, hw⟩ => ⟨_, he, Txts.nil _, hw ▸ Below.refl _ _⟩
    · split at h
      · rename_i h1 h2 h3
        cases h
        refine (names_some s (by omega) h2 h3 w hm).mono fun e w' ⟨he, hw⟩ => ⟨_, he, ?_, ?_⟩
        · rw [hw]; exact Txts.new w (cut s) _
        · rw [hw]; exact below_alloc w _
      · cases h
/-- What names tells of a text that is no path. -/
theorem names_not {s : List UInt8} (h : namesOf s = none) (hl : s.length ≤ 9223372036854775807) (w : World) (hm : Ml w) :
    Calls Tryd.prog 28 #[.string ⟨s.toArray⟩] w fun e w' => e = .returned (.tuple #[.slice none 0 0, .bool false]) ∧ Below w.heap.size w w' := by
  unfold namesOf at h
  split at h
  · rename_i h1
    exact (names_long s h1 hl w).mono fun e w' ⟨he, hw⟩ => ⟨he, hw ▸ Below.refl _ _⟩
  · split at h
    · cases h
    · split at h
      · cases h
      · rename_i h1 h2 h3
        exact (names_none s (by omega) h2 (by simpa using h3) w hm).mono fun e w' ⟨he, hw⟩ => ⟨he, hw ▸ below_alloc w _⟩
theorem names_len {s : List UInt8} {l : List (List UInt8)} (h : namesOf s = some l) : l.length ≤ 101 ∧ s.length ≤ 100 := by
  unfold namesOf at h
  have hc := cut_len s
  split at h
  · cases h
  · split at h
    · rename_i _ h2; cases h; subst h2; simp
    · split at h
      · cases h; omega
      · cases h

end Go.Proofs.YtaoiiocgnnjnnaaDoor
