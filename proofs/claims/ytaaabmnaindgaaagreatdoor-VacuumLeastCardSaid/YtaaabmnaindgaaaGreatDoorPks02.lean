/-
  The texts of one folder in one: PSpec, PLib, PName, PIs, PEq, PUnd, RParts, RNames.
-/
import Derived.Lib.SplitLaws
import Derived.Lib.Split
import Derived.Lib.Join
import Derived.Test.YtaaabmnaindgaaaGreatDoorPkbase
import Derived.Test.YtaaabmnaindgaaaGreatDoorShelf
import Derived.WalkMore

/-
  Paths as lists of bytes: parts, names, the walk; and what follows of them. No program in this text.
-/
namespace Go.Proofs.YtaaabmnaindgaaaGreatDoor
set_option maxRecDepth 100000

/-- The parts of a text. -/
def cut : List UInt8 → List (List UInt8)
  | [] => [[]]
  | b :: l => if b = 47 then [] :: cut l else
    match cut l with
    | [] => [[b]]
    | p :: ps => (b :: p) :: ps
/-- Parts, with a slash between two. -/
def gl : List (List UInt8) → List UInt8
  | [] => []
  | [x] => x
  | x :: y :: r => x ++ 47 :: gl (y :: r)
/-- Is a part a name? -/
def isNm (l : List UInt8) : Bool := !(l == []) && decide (l.length ≤ 30) && !(l == [46]) && !(l == [46, 46]) && !(l.contains 0)
def step (acc : List (List UInt8)) (p : List UInt8) : Option (List (List UInt8)) :=
  if p = [] ∨ p = [46] then some acc
  else if p = [46, 46] ∧ acc ≠ [] then some acc.dropLast
  else if isNm p = true then some (acc ++ [p]) else none
/-- The names of a path. -/
def namesOf (s : List UInt8) : Option (List (List UInt8)) := if 100 < s.length then none else if s = [] then some [] else if (cut s).all isNm = true then some (cut s) else none
def isP (s : List UInt8) : Bool := (namesOf s).isSome
def shut (l : List (List UInt8)) : Option (List UInt8) := if 100 < (gl l).length then none else some (gl l)
/-- The names of d are the first ones of s. -/
def underOf (d s : List UInt8) : Bool := match namesOf d, namesOf s with
  | some a, some b => a.isPrefixOf b
  | _, _ => false

theorem cut_ne (l : List UInt8) : cut l ≠ [] := by
  cases l with
  | nil => simp [cut]
  | cons b l => 
    unfold cut
    split
    · simp
    · split <;> simp
theorem cut_slash (l : List UInt8) : cut (47 :: l) = [] :: cut l := by rw [cut, if_pos rfl]
theorem cut_other {b : UInt8} (h : b ≠ 47) {l p : List UInt8} {ps : List (List UInt8)} (hc : cut l = p :: ps) : cut (b :: l) = (b :: p) :: ps := by rw [cut, if_neg h, hc]
theorem cut_form (l : List UInt8) : ∃ p ps, cut l = p :: ps := by
  cases h : cut l with
  | nil => exact absurd h (cut_ne l)
  | cons p ps => exact ⟨p, ps, rfl⟩

theorem gl_cons (b : UInt8) (p : List UInt8) (ps : List (List UInt8)) : gl ((b :: p) :: ps) = b :: gl (p :: ps) := by cases ps <;> simp [gl]
theorem gl_nil (q : List UInt8) (ps : List (List UInt8)) : gl ([] :: q :: ps) = 47 :: gl (q :: ps) := by simp [gl]
theorem gl_cut : ∀ s : List UInt8, gl (cut s) = s
  | [] => rfl
  | b :: l => by
    obtain ⟨p, ps, hc⟩ := cut_form l
    have ih := gl_cut l
    by_cases hb : b = 47
    · subst hb; rw [cut_slash, hc, gl_nil, ← hc, ih]
    · rw [cut_other hb hc, gl_cons, ← hc, ih]
theorem cut_clean : ∀ (s : List UInt8), ∀ p ∈ cut s, (47 : UInt8) ∉ p
  | [], p, hp => by simp [cut] at hp; simp [hp]
  | b :: l, p, hp => by
    obtain ⟨q, qs, hc⟩ := cut_form l
    have ih := cut_clean l
    rw [hc] at ih
    by_cases hb : b = 47
    · subst hb
      rw [cut_slash, hc] at hp
      rcases List.mem_cons.1 hp with rfl | hp
      · simp
      · exact ih p hp
    · rw [cut_other hb hc] at hp
      rcases List.mem_cons.1 hp with rfl | hp
      · have h1 := ih q (by simp)
        intro h
        rcases List.mem_cons.1 h with h | h
        · exact hb h.symm
        · exact h1 h
      · exact ih p (by simp [hp])
theorem cut_app : ∀ a b : List UInt8, cut (a ++ 47 :: b) = cut a ++ cut b
  | [], b => by simp [cut]
  | x :: a, b => by
    obtain ⟨p, ps, hc⟩ := cut_form a
    have ih := cut_app a b
    rw [hc] at ih
    by_cases hx : x = 47
    · subst hx
      rw [List.cons_append, cut_slash, cut_slash, ih, hc]; rfl
    · rw [List.cons_append, cut_other hx ih, cut_other hx hc]; rfl
theorem cut_plain : ∀ {p : List UInt8}, (47 : UInt8) ∉ p → cut p = [p]
  | [], _ => rfl
  | b :: l, h => by
    have h1 : b ≠ 47 := fun e => h (by simp [e])
    have h2 : (47 : UInt8) ∉ l := fun e => h (by simp [e])
    rw [cut_other h1 (cut_plain h2)]
/-- All bytes, and one for each part. -/
def mass (l : List (List UInt8)) : Nat := (l.map fun p => p.length + 1).sum
theorem gl_mass : ∀ {l : List (List UInt8)}, l ≠ [] → (gl l).length + 1 = mass l
  | [], h => absurd rfl h
  | [x], _ => by simp [gl, mass]
  | x :: y :: r, _ => by
    have ih := gl_mass (l := y :: r) (by simp)
    simp [gl, mass] at ih ⊢
    omega
theorem mass_cons (x : List UInt8) (l : List (List UInt8)) : mass (x :: l) = x.length + 1 + mass l := by simp [mass]
/-- Names, none with a slash. -/
def Fine (l : List (List UInt8)) : Prop := ∀ p ∈ l, isNm p = true ∧ (47 : UInt8) ∉ p
theorem Fine.nil : Fine [] := fun p hp => by simp at hp
theorem Fine.drop {l : List (List UInt8)} (h : Fine l) : Fine l.dropLast := fun p hp => h p ((List.dropLast_prefix l).subset hp)
theorem names_fine {s : List UInt8} {l : List (List UInt8)} (h : namesOf s = some l) : Fine l ∧ gl l = s ∧ s.length ≤ 100 := by
  unfold namesOf at h
  split at h
  · cases h
  · split at h
    · rename_i h1 h2
      cases h; subst h2; exact ⟨Fine.nil, rfl, by simp⟩
    · split at h
      · rename_i h1 _ h3
        cases h
        exact ⟨fun p hp => ⟨List.all_eq_true.1 h3 p hp, cut_clean s p hp⟩, gl_cut s, by omega⟩
      · cases h
theorem isP_some {s : List UInt8} (h : isP s = true) : ∃ l, namesOf s = some l := by
  unfold isP at h; exact Option.isSome_iff_exists.1 h
theorem isP_of {s : List UInt8} {l : List (List UInt8)} (h : namesOf s = some l) : isP s = true := by simp [isP, h]
theorem isP_none {s : List UInt8} (h : namesOf s = none) : isP s = false := by simp [isP, h]
theorem under_some {d s : List UInt8} {a b : List (List UInt8)} (h1 : namesOf d = some a) (h2 : namesOf s = some b) : underOf d s = a.isPrefixOf b := by simp [underOf, h1, h2]
theorem under_iff {d s : List UInt8} : underOf d s = true ↔ ∃ a b, namesOf d = some a ∧ namesOf s = some b ∧ a <+: b := by
  unfold underOf
  cases h1 : namesOf d with
  | none => simp
  | some a =>
    cases h2 : namesOf s with
    | none => simp
    | some b => simp
theorem under_self (a : List UInt8) : underOf a a = isP a := by
  cases h : namesOf a with
  | none => simp [underOf, h, isP]
  | some l => simp [underOf, h, isP]
theorem under_root (a : List UInt8) : underOf [] a = isP a := by
  have h0 : namesOf [] = some [] := rfl
  cases h : namesOf a with
  | none => simp [underOf, h0, h, isP]
  | some l => simp [underOf, h0, h, isP]
/-- What strings.Split cuts. -/
theorem split_cut : ∀ s : List UInt8, Lib.splitK [47] 0 (Lib.count s [47]) s = cut s := by
  intro s
  induction s with
  | nil => rw [Lib.count_miss (by simp [Lib.index])]; rfl
  | cons b l ih =>
    by_cases hb : b = 47
    · subst hb
      rw [Lib.count_cons_eq, cut_slash, Nat.add_comm, Lib.splitK]
      have hix : Lib.index (47 :: l) [47] = 0 := by rw [Lib.index]; simp [List.isPrefixOf]
      rw [hix]; simp [ih]
    · have hp : ([47] : List UInt8).isPrefixOf (b :: l) = false := by simp [List.isPrefixOf]; exact fun h => hb h.symm
      have hix : Lib.index (b :: l) [47] = if Lib.index l [47] == -1 then -1 else Lib.index l [47] + 1 := by rw [Lib.index, hp]; simp
      rw [Lib.count_cons_ne b 47 l hb]
      obtain ⟨p, ps, hc⟩ := cut_form l
      rw [cut_other hb hc]
      rw [hc] at ih
      cases hk : Lib.count l [47] with
      | zero =>
        rw [hk] at ih
        simp [Lib.splitK] at ih ⊢
        exact ⟨ih.1, ih.2⟩
      | succ k =>
        rw [hk] at ih
        rw [Lib.splitK] at ih ⊢
        by_cases hm : Lib.index l [47] = -1
        · rw [hix]; simp [hm] at ih ⊢; exact ⟨ih.1, ih.2⟩
        · have hge := Lib.index_ge l [47]
          have hne : (Lib.index l [47] == -1) = false := by simpa using hm
          have hix2 : Lib.index (b :: l) [47] = Lib.index l [47] + 1 := by rw [hix, hne]; rfl
          have hne2 : (Lib.index (b :: l) [47] == -1) = false := by rw [hix2, beq_eq_false_iff_ne]; omega
          rw [hne] at ih
          rw [hne2, hix2]
          obtain ⟨i, hi⟩ : ∃ i : Nat, Lib.index l [47] = i := ⟨(Lib.index l [47]).toNat, by omega⟩
          rw [hi] at ih ⊢
          have e : ((i : Int) + 1).toNat = i + 1 := by omega
          rw [e]
          simp at ih ⊢
          exact ⟨ih.1, ih.2⟩
end Go.Proofs.YtaaabmnaindgaaaGreatDoor

/-
  strings.Split at lists of bytes.
-/
namespace Go.Proofs.YtaaabmnaindgaaaGreatDoor
set_option maxRecDepth 100000
open Go.RowKit

/-- The library's variable MaxLen holds a number. -/
def Ml (w : World) : Prop := ∃ m, w.cell? ⟨0, 0, none⟩ = some (.int .i64 m)
theorem Ml.below {w w' : World} (h : Ml w) (hb : Below w.heap.size w w') : Ml w' := by
  obtain ⟨m, hm⟩ := h
  exact ⟨m, (hb.cell (p := ⟨0, 0, none⟩) (World.block_lt_of_cell? w _ hm)).trans hm⟩

theorem data_map : ∀ ls : List (List UInt8), (ls.map fun l => ByteArray.mk l.toArray).map (fun x : ByteArray => x.data.toList) = ls
  | [] => rfl
  | l :: r => by rw [List.map_cons, List.map_cons, data_map r]

theorem split_list (s : List UInt8) : (Lib.splitB ⟨#[47]⟩ 0 (Lib.countB ⟨s.toArray⟩ ⟨#[47]⟩) ⟨s.toArray⟩).map Value.string = (cut s).map SV := by
  have h := Lib.splitB_data ⟨#[47]⟩ 0 (Lib.countB ⟨s.toArray⟩ ⟨#[47]⟩) ⟨s.toArray⟩
  have e : Lib.splitK (ByteArray.mk #[47]).data.toList 0 (Lib.countB ⟨s.toArray⟩ ⟨#[47]⟩) (ByteArray.mk s.toArray).data.toList = cut s := by
    rw [← split_cut s]
  rw [e] at h
  rw [← h, List.map_map]
  apply List.map_congr_left
  intro x _
  exact (SV_data x).symm
theorem split_len (s : List UInt8) : Lib.countB ⟨s.toArray⟩ ⟨#[47]⟩ + 1 = (cut s).length := by
  have h1 := Lib.splitB_all ⟨#[47]⟩ (by decide) 0 _ ⟨s.toArray⟩ rfl
  have h2 := congrArg List.length (split_list s)
  simp only [List.length_map] at h2
  omega

theorem split_calls (s : List UInt8) (hs : s.length ≤ 1000000) (w : World) (hm : Ml w) :
    Calls Tryz.prog 125 #[.string ⟨s.toArray⟩, .string ⟨#[47]⟩] w fun e w' => e = .returned (.slice (some ⟨w.heap.size, 0, none⟩) (cut s).length (cut s).length) ∧ w' = w.alloc (.cells ((cut s).map SV).toArray 9) := by
  obtain ⟨m, hm⟩ := hm
  refine (Tryz.strings_Split ⟨s.toArray⟩ ⟨#[47]⟩ m w (by rw [size_mk]; omega) hm (by decide)).mono ?_
  rintro e w' ⟨rfl, rfl⟩
  rw [split_list, split_len]
  exact ⟨rfl, rfl⟩

end Go.Proofs.YtaaabmnaindgaaaGreatDoor

/-
  path.isName, path.names.
-/
namespace Go.Proofs.YtaaabmnaindgaaaGreatDoor
set_option maxRecDepth 100000
open Go.RowKit

theorem idx_neg : ∀ l : List UInt8, (Lib.indexByte l 0 < 0 ↔ (l.contains 0) = false)
  | [] => by simp [Lib.indexByte]
  | b :: l => by
    have ih := idx_neg l
    have hge := Lib.indexByte_ge l 0
    unfold Lib.indexByte
    by_cases hb : b = 0
    · subst hb; simp
    · have h1 : (b == 0) = false := by simpa using hb
      have h2 : (b :: l).contains 0 = l.contains 0 := by
        rw [List.contains_cons]
        have : ((0 : UInt8) == b) = false := by simpa using fun e => hb e.symm
        rw [this, Bool.false_or]
      rw [h2, ← ih, h1]
      simp only [Bool.false_eq_true, if_false]
      split <;> rename_i h3
      · have := beq_iff_eq.1 h3; omega
      · have : ¬ Lib.indexByte l 0 = -1 := fun e => h3 (beq_iff_eq.2 e)
        omega

set_option maxHeartbeats 1000000 in
theorem isName_calls (l : List UInt8) (hl : l.length ≤ 1000000) (w : World) :
    Calls Tryz.prog 126 #[.string ⟨l.toArray⟩] w fun e w' => e = .returned (.bool (isNm l)) ∧ w = w' := by
  by_cases h1 : l = []
  · subst h1
    go_enter Tryz.func126, Tryz.ntmps126
    go_wp2_with fail
    go_ret
    exact ⟨rfl, rfl⟩
  by_cases h2 : l.length ≤ 30
  · by_cases h3 : l = [46]
    · subst h3
      go_enter Tryz.func126, Tryz.ntmps126
      go_wp2_with fail
      go_ret
      exact ⟨rfl, rfl⟩
    by_cases h4 : l = [46, 46]
    · subst h4
      go_enter Tryz.func126, Tryz.ntmps126
      go_wp2_with fail
      go_ret
      exact ⟨rfl, rfl⟩
    have H := Lib.hid (show isNm l = !(l.contains 0) by simp [isNm, h1, h2, h3, h4])
    have hi := idx_neg l
    have b1 : (l == []) = false := by simpa using h1
    have b3 : (l == [46]) = false := by simpa using h3
    have b4 : (l == [46, 46]) = false := by simpa using h4
    go_enter Tryz.func126, Tryz.ntmps126
    go_wp2_with (go_at_call 147; refine (Tryz.strings_IndexByte _ _ _).mono ?_; rintro e w1 ⟨rfl, rfl⟩)
    go_ret
    exact ⟨by rw [H.out]; simp, rfl⟩
  · have H := Lib.hid (show isNm l = false by simp [isNm, h2])
    have h3 : 30 < l.length := by omega
    have b1 : (l == []) = false := by simpa using h1
    clear h2
    go_enter Tryz.func126, Tryz.ntmps126
    go_wp2_with fail
    go_ret
    exact ⟨by rw [H.out]; rfl, rfl⟩

/-- The first k parts are names. -/
def nmTo (ls : List (List UInt8)) (k : Nat) : Prop := (ls.take k).all isNm = true
theorem nmTo_succ {ls : List (List UInt8)} {k : Nat} (h : nmTo ls k) (hk : k < ls.length) (h3 : isNm ls[k] = true) : nmTo ls (k + 1) := by
  unfold nmTo at h ⊢
  rw [List.take_succ_eq_append_getElem hk, List.all_append, h]
  simp [h3]
theorem nmTo_all {ls : List (List UInt8)} (h : nmTo ls ls.length) : ls.all isNm = true := by
  unfold nmTo at h; simpa using h
/-- A part has no more bytes than the text. -/
theorem part_le {s : List UInt8} {k : Nat} (hk : k < (cut s).length) : (cut s)[k].length ≤ s.length := by
  have h1 := gl_mass (cut_ne s)
  rw [gl_cut] at h1
  have h2 : ∀ (l : List (List UInt8)) (k : Nat) (hk : k < l.length), l[k].length + 1 ≤ mass l := by
    intro l
    induction l with
    | nil => intro k hk; simp at hk
    | cons x r ih =>
      intro k hk
      rw [mass_cons]
      cases k with
      | zero => simp
      | succ k => have := ih k (by simpa using hk); simp; omega
  have := h2 (cut s) k hk
  omega
theorem cut_len (s : List UInt8) : (cut s).length ≤ s.length + 1 := by
  have h1 := gl_mass (cut_ne s)
  rw [gl_cut] at h1
  have h2 : ∀ l : List (List UInt8), l.length ≤ mass l := by
    intro l
    induction l with
    | nil => simp
    | cons x r ih => rw [mass_cons]; simp; omega
  have := h2 (cut s)
  omega
theorem cell_part (w : World) (ls : List (List UInt8)) (t : TypeId) {k : Nat} (hk : k < ls.length) : (w.alloc (.cells (ls.map SV).toArray t)).cell? ⟨w.heap.size, k, none⟩ = some (.string ⟨ls[k].toArray⟩) := by
  rw [World.cell?_alloc_new]
  simp [List.getElem?_eq_getElem hk, SV]

set_option maxHeartbeats 1000000 in
theorem names_long (s : List UInt8) (h : 100 < s.length) (hm : s.length ≤ 9223372036854775807) (w : World) :
    Calls Tryz.prog 102 #[.string ⟨s.toArray⟩] w fun e w' => e = .returned (.tuple #[.slice none 0 0, .bool false]) ∧ w = w' := by
  go_enter Tryz.func102, Tryz.ntmps102
  go_wp2_with fail
  go_ret2
  exact ⟨rfl, rfl⟩
set_option maxHeartbeats 1000000 in
theorem names_root (w : World) :
    Calls Tryz.prog 102 #[.string ⟨#[]⟩] w fun e w' => e = .returned (.tuple #[.slice none 0 0, .bool true]) ∧ w = w' := by
  go_enter Tryz.func102, Tryz.ntmps102
  go_wp2_with fail
  go_ret2
  exact ⟨rfl, rfl⟩

set_option maxHeartbeats 2000000 in
theorem names_some (s : List UInt8) (h : s.length ≤ 100) (h0 : s ≠ []) (hall : (cut s).all isNm = true) (w : World) (hm : Ml w) :
    Calls Tryz.prog 102 #[.string ⟨s.toArray⟩] w fun e w' => e = .returned (.tuple #[.slice (some ⟨w.heap.size, 0, none⟩) (cut s).length (cut s).length, .bool true]) ∧ w' = w.alloc (.cells ((cut s).map SV).toArray 9) := by
  have b0 : (s == []) = false := by simpa using h0
  have hcl := cut_len s
  have HA := Lib.hid hall
  clear hall h0
  have hd : decide ((100 : Int) < s.length) = false := by simp; omega
  go_enter Tryz.func102, Tryz.ntmps102
  go_wp2_with (go_at_call 125; refine (split_calls s (by omega) _ hm).mono ?_; rintro e w1 ⟨rfl, rfl⟩)
  go_loop [16] (fun i => ∃ k : Nat, k ≤ (cut s).length ∧ i = .int .i64 k) (fun i => (cut s).length - (intOf i).toNat)
  case atStart => exact ⟨0, Nat.zero_le _, rfl⟩
  case round =>
    obtain ⟨k, hk, rfl⟩ := hrel
    by_cases hlt : k < (cut s).length
    · have hcell := cell_part w (cut s) 9 hlt
      have hpl := part_le hlt
      have hnm := List.all_eq_true.1 HA.out _ (List.getElem_mem hlt)
      generalize (cut s)[k] = p at hcell hpl hnm
      go_wp2_with (go_at_call 126; refine (isName_calls p (by omega) _).mono ?_; rintro e w1 ⟨rfl, rfl⟩; rw [hnm])
      go_round
      case rel => exact ⟨k + 1, by omega, by go_num⟩
      case measure => simp [intOf]; omega
    · obtain rfl : k = (cut s).length := by omega
      go_wp2_with fail
      go_ret2
      exact ⟨rfl, rfl⟩

set_option maxHeartbeats 2000000 in
theorem names_none (s : List UInt8) (h : s.length ≤ 100) (h0 : s ≠ []) (hall : (cut s).all isNm = false) (w : World) (hm : Ml w) :
    Calls Tryz.prog 102 #[.string ⟨s.toArray⟩] w fun e w' => e = .returned (.tuple #[.slice none 0 0, .bool false]) ∧ w' = w.alloc (.cells ((cut s).map SV).toArray 9) := by
  have b0 : (s == []) = false := by simpa using h0
  have hcl := cut_len s
  have HA := Lib.hid hall
  clear hall h0
  have hd : decide ((100 : Int) < s.length) = false := by simp; omega
  go_enter Tryz.func102, Tryz.ntmps102
  go_wp2_with (go_at_call 125; refine (split_calls s (by omega) _ hm).mono ?_; rintro e w1 ⟨rfl, rfl⟩)
  go_loop [16] (fun i => ∃ k : Nat, k ≤ (cut s).length ∧ i = .int .i64 k ∧ nmTo (cut s) k) (fun i => (cut s).length - (intOf i).toNat)
  case atStart => exact ⟨0, Nat.zero_le _, rfl, by simp [nmTo]⟩
  case round =>
    obtain ⟨k, hk, rfl, hn⟩ := hrel
    by_cases hlt : k < (cut s).length
    · have hcell := cell_part w (cut s) 9 hlt
      have hpl := part_le hlt
      cases hnm : isNm (cut s)[k] with
      | true =>
        have hsucc := nmTo_succ hn hlt hnm
        generalize (cut s)[k] = p at hcell hpl hnm
        go_wp2_with (go_at_call 126; refine (isName_calls p (by omega) _).mono ?_; rintro e w1 ⟨rfl, rfl⟩; rw [hnm])
        go_round
        case rel => exact ⟨k + 1, by omega, by go_num, hsucc⟩
        case measure => simp [intOf]; omega
      | false =>
        generalize (cut s)[k] = p at hcell hpl hnm
        go_wp2_with (go_at_call 126; refine (isName_calls p (by omega) _).mono ?_; rintro e w1 ⟨rfl, rfl⟩; rw [hnm])
        go_ret2
        exact ⟨rfl, rfl⟩
    · obtain rfl : k = (cut s).length := by omega
      exact absurd (nmTo_all hn) (by rw [HA.out]; simp)

/-- What names tells of a path. -/
theorem names_is {s : List UInt8} {l : List (List UInt8)} (h : namesOf s = some l) (w : World) (hm : Ml w) :
    Calls Tryz.prog 102 #[.string ⟨s.toArray⟩] w fun e w' => ∃ v, e = .returned (.tuple #[v, .bool true]) ∧ Txts w' v l ∧ Below w.heap.size w w' := by
  unfold namesOf at h
  split at h
  · cases h
  · split at h
    · rename_i h1 h2
      subst h2
      cases h
      exact (names_root w).mono fun e w' ⟨he, hw⟩ => ⟨_, he, Txts.nil _, hw ▸ Below.refl _ _⟩
    · split at h
      · rename_i h1 h2 h3
        cases h
        refine (names_some s (by omega) h2 h3 w hm).mono fun e w' ⟨he, hw⟩ => ⟨_, he, ?_, ?_⟩
        · rw [hw]; exact Txts.new w (cut s) _
        · rw [hw]; exact below_alloc w _
      · cases h
/-- What names tells of a text that is no path. -/
theorem names_not {s : List UInt8} (h : namesOf s = none) (hl : s.length ≤ 9223372036854775807) (w : World) (hm : Ml w) :
    Calls Tryz.prog 102 #[.string ⟨s.toArray⟩] w fun e w' => e = .returned (.tuple #[.slice none 0 0, .bool false]) ∧ Below w.heap.size w w' := by
  unfold namesOf at h
  split at h
  · rename_i h1
    exact (names_long s h1 hl w).mono fun e w' ⟨he, hw⟩ => ⟨he, hw ▸ Below.refl _ _⟩
  · split at h
    · cases h
    · split at h
      · cases h
      · rename_i h1 h2 h3
        exact (names_none s (by omega) h2 (by simpa using h3) w hm).mono fun e w' ⟨he, hw⟩ => ⟨he, hw ▸ below_alloc w _⟩
theorem names_len {s : List UInt8} {l : List (List UInt8)} (h : namesOf s = some l) : l.length ≤ 101 ∧ s.length ≤ 100 := by
  unfold namesOf at h
  have hc := cut_len s
  split at h
  · cases h
  · split at h
    · rename_i _ h2; cases h; subst h2; simp
    · split at h
      · cases h; omega
      · cases h

end Go.Proofs.YtaaabmnaindgaaaGreatDoor

/-
  path.Is.
-/
namespace Go.Proofs.YtaaabmnaindgaaaGreatDoor
set_option maxRecDepth 100000
open Go.RowKit

theorem is_calls (s : List UInt8) (hl : s.length ≤ 9223372036854775807) (w : World) (hm : Ml w) :
    Calls Tryz.prog 69 #[.string ⟨s.toArray⟩] w fun e w' => e = .returned (.bool (isP s)) ∧ Below w.heap.size w w' := by
  cases hn : namesOf s with
  | none =>
    rw [isP_none hn]
    have H := Lib.hid hn
    clear hn
    go_enter Tryz.func69, Tryz.ntmps69
    go_wp2_with (go_at_call 102; refine (names_not H.out hl _ hm).mono ?_; rintro e w1 ⟨rfl, hB⟩)
    go_ret
    exact ⟨rfl, hB⟩
  | some l =>
    rw [isP_of hn]
    have H := Lib.hid hn
    clear hn
    go_enter Tryz.func69, Tryz.ntmps69
    go_wp2_with (go_at_call 102; refine (names_is H.out _ hm).mono ?_; rintro e w1 ⟨v, rfl, _, hB⟩)
    go_ret
    exact ⟨rfl, hB⟩

end Go.Proofs.YtaaabmnaindgaaaGreatDoor

/-
  slices.Equal at lists of bytes.
-/
namespace Go.Proofs.YtaaabmnaindgaaaGreatDoor
set_option maxRecDepth 100000
open Go.RowKit

/-- Are two rows of texts the same? -/
theorem equal_calls (va vb : Value) (la lb : List (List UInt8)) (w : World) (ha : Txts w va la) (hb : Txts w vb lb) (h1 : la.length ≤ 1000000) (h2 : lb.length ≤ 1000000) :
    Calls Tryz.prog 103 #[va, vb] w fun e w' => e = .returned (.bool (decide (la = lb))) ∧ Below w.heap.size w w' := by
  obtain ⟨aa, ca, rfl, hca, ha⟩ := ha
  obtain ⟨ab, cb, rfl, hcb, hb⟩ := hb
  by_cases hl : la.length = lb.length
  · by_cases h0 : la = []
    · subst h0
      have : lb = [] := List.eq_nil_of_length_eq_zero (by simpa using hl.symm)
      subst this
      refine (Tryz.slices_Equal_string_empty aa ab ca 0 cb w (by decide)).mono ?_
      rintro e w' ⟨rfl, rfl⟩
      exact ⟨by simp, Below.refl _ _⟩
    · have h0' : lb ≠ [] := by
        intro e; subst e; simp at hl; exact h0 hl
      obtain ⟨b1, o1, rfl, hc1⟩ := ha.resolve_left h0
      obtain ⟨b2, o2, rfl, hc2⟩ := hb.resolve_left h0'
      refine (Tryz.slices_Equal_string b1 o1 la.length ca b2 o2 lb.length cb (la.map fun l => ByteArray.mk l.toArray) (lb.map fun l => ByteArray.mk l.toArray) w (by simp) (by simp) (by omega) (by omega) ?_ ?_).mono ?_
      · intro j hj
        have hj' : j < la.length := by simpa using hj
        rw [hc1 j hj']; simp [List.getD, List.getElem?_eq_getElem hj', SV]
      · intro j hj
        have hj' : j < lb.length := by simpa using hj
        rw [hc2 j hj']; simp [List.getD, List.getElem?_eq_getElem hj', SV]
      · rintro e w' ⟨rfl, q, rfl⟩
        refine ⟨?_, drewn_below w q⟩
        congr 2
        rw [List.take_of_length_le (by simp), List.take_of_length_le (by simp)]
        have hinj : ∀ a b : List (List UInt8), (a.map fun l => ByteArray.mk l.toArray) = (b.map fun l => ByteArray.mk l.toArray) ↔ a = b := by
          intro a b
          constructor
          · intro h
            have := congrArg (List.map fun x : ByteArray => x.data.toList) h
            rwa [data_map, data_map] at this
          · rintro rfl; rfl
        simp only [hinj]
  · refine (Tryz.slices_Equal_string_lens aa ab la.length ca lb.length cb w hl).mono ?_
    rintro e w' ⟨rfl, rfl⟩
    refine ⟨?_, Below.refl _ _⟩
    have : la ≠ lb := fun e => hl (by rw [e])
    simp [this]

end Go.Proofs.YtaaabmnaindgaaaGreatDoor

/-
  path.Under.
-/
namespace Go.Proofs.YtaaabmnaindgaaaGreatDoor
set_option maxRecDepth 100000
open Go.RowKit

theorem prefix_take (a b : List (List UInt8)) : decide (a = b.take a.length) = a.isPrefixOf b := by
  cases hp : a.isPrefixOf b with
  | true =>
    have := List.prefix_iff_eq_take.1 (List.isPrefixOf_iff_prefix.1 hp)
    simpa using this
  | false =>
    rw [decide_eq_false_iff_not]
    intro e
    have := List.isPrefixOf_iff_prefix.2 (List.prefix_iff_eq_take.2 e)
    rw [hp] at this; cases this
theorem prefix_long (a b : List (List UInt8)) (h : b.length < a.length) : a.isPrefixOf b = false := by
  rw [Bool.eq_false_iff]
  intro hp
  have := (List.isPrefixOf_iff_prefix.1 hp).length_le
  omega

set_option maxHeartbeats 2000000 in
theorem under_calls (d s : List UInt8) (hl : d.length ≤ 9223372036854775807) (hl2 : s.length ≤ 9223372036854775807) (w : World) (hm : Ml w) :
    Calls Tryz.prog 71 #[.string ⟨d.toArray⟩, .string ⟨s.toArray⟩] w fun e w' => e = .returned (.bool (underOf d s)) ∧ Below w.heap.size w w' := by
  cases hn : namesOf d with
  | none =>
    have hu : underOf d s = false := by simp [underOf, hn]
    rw [hu]
    have H := Lib.hid hn
    clear hn hu
    cases hn2 : namesOf s with
    | none =>
      have H2 := Lib.hid hn2
      clear hn2
      go_enter Tryz.func71, Tryz.ntmps71
      go_wp2_with fail
      refine (names_not H.out hl _ hm).mono ?_
      rintro e w1 ⟨rfl, hB⟩
      have hm1 := hm.below hB
      go_wp2_with fail
      refine (names_not H2.out hl2 _ hm1).mono ?_
      rintro e w2 ⟨rfl, hB2⟩
      go_wp2_with fail
      go_ret
      exact ⟨rfl, below2 hB hB2⟩
    | some b =>
      have H2 := Lib.hid hn2
      clear hn2
      go_enter Tryz.func71, Tryz.ntmps71
      go_wp2_with fail
      refine (names_not H.out hl _ hm).mono ?_
      rintro e w1 ⟨rfl, hB⟩
      have hm1 := hm.below hB
      go_wp2_with fail
      refine (names_is H2.out _ hm1).mono ?_
      rintro e w2 ⟨v, rfl, hT, hB2⟩
      go_wp2_with fail
      go_ret
      exact ⟨rfl, below2 hB hB2⟩
  | some a =>
    obtain ⟨hal, _⟩ := names_len hn
    cases hn2 : namesOf s with
    | none =>
      have hu : underOf d s = false := by simp [underOf, hn, hn2]
      rw [hu]
      have H := Lib.hid hn
      have H2 := Lib.hid hn2
      clear hn hn2 hu
      go_enter Tryz.func71, Tryz.ntmps71
      go_wp2_with fail
      refine (names_is H.out _ hm).mono ?_
      rintro e w1 ⟨v, rfl, hT, hB⟩
      obtain ⟨ao, cap, rfl, hcap, _⟩ := hT
      have hm1 := hm.below hB
      go_wp2_with fail
      refine (names_not H2.out hl2 _ hm1).mono ?_
      rintro e w2 ⟨rfl, hB2⟩
      go_wp2_with fail
      go_ret
      exact ⟨rfl, below2 hB hB2⟩
    | some b =>
      obtain ⟨hbl, _⟩ := names_len hn2
      have hu := under_some hn hn2
      rw [hu]
      have H := Lib.hid hn
      have H2 := Lib.hid hn2
      clear hn hn2 hu
      by_cases hle : a.length ≤ b.length
      · have HP := Lib.hid (prefix_take a b)
        go_enter Tryz.func71, Tryz.ntmps71
        go_wp2_with fail
        refine (names_is H.out _ hm).mono ?_
        rintro e w1 ⟨v, rfl, hT, hB⟩
        have HT := Lib.hid hT
        obtain ⟨ao, cap, rfl, hcap, _⟩ := hT
        have hm1 := hm.below hB
        go_wp2_with fail
        refine (names_is H2.out _ hm1).mono ?_
        rintro e w2 ⟨v2, rfl, hT2, hB2⟩
        have HT2 := Lib.hid hT2
        obtain ⟨ao2, cap2, rfl, hcap2, hc2⟩ := hT2
        clear hc2
        go_wp2_with fail
        refine (equal_calls _ _ a (b.take a.length) _ (HT.out.below hB2) (HT2.out.take a.length hle) (by omega) (by simp; omega)).mono ?_
        rintro e w3 ⟨rfl, hB3⟩
        rw [HP.out]
        go_wp2_with fail
        go_ret
        exact ⟨rfl, below3 hB hB2 hB3⟩
      · have hlt : b.length < a.length := by omega
        have HP := Lib.hid (prefix_long a b hlt)
        clear hle
        go_enter Tryz.func71, Tryz.ntmps71
        go_wp2_with fail
        refine (names_is H.out _ hm).mono ?_
        rintro e w1 ⟨v, rfl, hT, hB⟩
        obtain ⟨ao, cap, rfl, hcap, _⟩ := hT
        have hm1 := hm.below hB
        go_wp2_with fail
        refine (names_is H2.out _ hm1).mono ?_
        rintro e w2 ⟨v2, rfl, hT2, hB2⟩
        obtain ⟨ao2, cap2, rfl, hcap2, _⟩ := hT2
        go_wp2_with fail
        go_ret
        exact ⟨by rw [HP.out]; rfl, below2 hB hB2⟩

end Go.Proofs.YtaaabmnaindgaaaGreatDoor

/-
  The document's own Parts, name.
-/
namespace Go.Proofs.YtaaabmnaindgaaaGreatDoor
set_option maxRecDepth 100000
open Go.RowKit

theorem ext_mid (s : List UInt8) (a b : Nat) : (ByteArray.mk s.toArray).extract a b = ⟨((s.take b).drop a).toArray⟩ := by
  apply ByteArray.ext
  apply Array.toList_inj.1
  rw [Lib.extract_data]
  simp [List.drop_take]
attribute [local go_sem] at_str ext_mid app_mk

/-- done are the parts that end ahead of i; the next one begins at a. -/
def PartsTo (s : List UInt8) (a i : Nat) (done : List (List UInt8)) : Prop := a ≤ i ∧ (47 : UInt8) ∉ (s.take i).drop a ∧ cut s = done ++ cut (s.drop a) ∧ done.length ≤ i
theorem partsTo_zero (s : List UInt8) : PartsTo s 0 0 [] := ⟨Nat.le_refl _, by simp, by simp, by simp⟩
theorem partsTo_slash {s : List UInt8} {a i : Nat} {done : List (List UInt8)} (h : PartsTo s a i done) (hi : i < s.length) (hs : s[i] = 47) : PartsTo s (i + 1) (i + 1) (done ++ [(s.take i).drop a]) := by
  obtain ⟨h1, h2, h3, h4⟩ := h
  refine ⟨Nat.le_refl _, by simp, ?_, by simp; omega⟩
  have e : s.drop a = (s.take i).drop a ++ 47 :: s.drop (i + 1) := by
    have : s = s.take i ++ 47 :: s.drop (i + 1) := by
      rw [← hs, ← List.drop_eq_getElem_cons hi, List.take_append_drop]
    conv => lhs; rw [this]
    rw [List.drop_append_of_le_length (by simp; omega)]
  rw [h3, e, cut_app, cut_plain h2]
  simp
theorem partsTo_other {s : List UInt8} {a i : Nat} {done : List (List UInt8)} (h : PartsTo s a i done) (hi : i < s.length) (hs : s[i] ≠ 47) : PartsTo s a (i + 1) done := by
  obtain ⟨h1, h2, h3, h4⟩ := h
  refine ⟨by omega, ?_, h3, by omega⟩
  rw [List.take_succ_eq_append_getElem hi, List.drop_append_of_le_length (by simp; omega)]
  intro hm
  rcases List.mem_append.1 hm with hm | hm
  · exact h2 hm
  · simp at hm; exact hs hm.symm
theorem partsTo_end {s : List UInt8} {a : Nat} {done : List (List UInt8)} (h : PartsTo s a s.length done) : done ++ [s.drop a] = cut s := by
  obtain ⟨h1, h2, h3, h4⟩ := h
  rw [List.take_length] at h2
  rw [h3, cut_plain h2]

set_option maxHeartbeats 4000000 in
theorem parts_calls (s : List UInt8) (h : s.length ≤ 1000000) (w : World) :
    Calls Tryz.prog 141 #[.string ⟨s.toArray⟩] w fun e w' => ∃ v, e = .returned v ∧ w'.ownsRow w.heap.size 9 1 v (cut s).length ((cut s).map SV) ∧ Below w.heap.size w w' := by
  obtain ⟨i0, hi, hz0, hz1, hz2⟩ := info_parts info9
  go_enter Tryz.func141, Tryz.ntmps141
  go_wp2_with fail
  go_loopw [3, 4, 5] (fun v a i wr => ∃ (x k : Nat) (done : List (List UInt8)), k ≤ s.length ∧ a = .int .i64 x ∧ i = .int .i64 k ∧ PartsTo s x k done ∧ wr.ownsRow w.heap.size 9 1 v done.length (done.map SV) ∧ Below w.heap.size w wr) (fun _ _ i _ => s.length - (intOf i).toNat)
  case atStart => exact ⟨0, 0, [], Nat.zero_le _, rfl, rfl, partsTo_zero s, World.ownsRow_nil _ _ _ _, Below.refl _ _⟩
  case round =>
    obtain ⟨x, k, done, hk, rfl, rfl, hp, hown, hB⟩ := hrel
    have hxk := hp.1
    have hdl := hp.2.2.2
    have HP := Lib.hid hp
    clear hp
    by_cases hlt : k < s.length
    · by_cases hs : s[k] = 47
      · have HS := Lib.hid (partsTo_slash HP.out hlt hs)
        have hb : ((s[k].toNat : Int) == 47) = true := by rw [hs]; rfl
        clear hs
        go_wp2_with (at_builtin; refine wpList_append_own _ rfl _ _ 163 rfl w.heap.size 9 i0 (.string ⟨#[]⟩) 1 16 Tryz.underlying163 hi hz0 hz1 hz2 rfl (by decide) _ _ _ rfl (hown.alloc _) ⟨wr.heap.size, 0, none⟩ 1 1 [.string ⟨((s.take k).drop x).toArray⟩] rfl rfl (cell_one_new _ _ _) (by simp [Value.oneCell']) (by unfold maxLen; omega) (by omega) (by have := hB.size; simp; omega) ?_; intro v3 w3 hown3 hg3 _)
        go_roundw
        case rel => exact ⟨k + 1, k + 1, done ++ [(s.take k).drop x], by omega, by go_num, by go_num, HS.out, by simpa [SV] using hown3, (hB.alloc hB.size _).grown hg3 (by have := hB.size; simp; omega) (fun j e => (hown.lt j e).1)⟩
        case measure => simp [intOf]; omega
      · have HS := Lib.hid (partsTo_other HP.out hlt hs)
        have hb : ((s[k].toNat : Int) == 47) = false := by
          rw [beq_eq_false_iff_ne]
          intro e
          have e2 : s[k].toNat = 47 := by omega
          exact hs (UInt8.toNat_inj.1 e2)
        clear hs
        go_wp2_with fail
        go_roundw
        case rel => exact ⟨x, k + 1, done, by omega, rfl, by go_num, HS.out, hown, hB⟩
        case measure => simp [intOf]; omega
    · obtain rfl : k = s.length := by omega
      have HE := Lib.hid (partsTo_end HP.out)
      go_wp2_with (at_builtin; refine wpList_append_own _ rfl _ _ 163 rfl w.heap.size 9 i0 (.string ⟨#[]⟩) 1 16 Tryz.underlying163 hi hz0 hz1 hz2 rfl (by decide) _ _ _ rfl (hown.alloc _) ⟨wr.heap.size, 0, none⟩ 1 1 [.string ⟨(s.drop x).toArray⟩] rfl rfl (cell_one_new _ _ _) (by simp [Value.oneCell']) (by unfold maxLen; omega) (by omega) (by have := hB.size; simp; omega) ?_; intro v3 w3 hown3 hg3 _)
      go_ret
      refine ⟨v3, rfl, ?_, (hB.alloc hB.size _).grown hg3 (by have := hB.size; simp; omega) (fun j e => (hown.lt j e).1)⟩
      rw [← HE.out]
      simpa [SV] using hown3

theorem byte_ne {b c : UInt8} (h : b ≠ c) : ((b.toNat : Int) == (c.toNat : Int)) = false := by
  rw [beq_eq_false_iff_ne]
  intro e
  have e2 : b.toNat = c.toNat := by omega
  exact h (UInt8.toNat_inj.1 e2)

/-- Among the first k bytes is no 0. -/
def noZero (l : List UInt8) (k : Nat) : Prop := (0 : UInt8) ∉ l.take k
theorem noZero_succ {l : List UInt8} {k : Nat} (h : noZero l k) (hk : k < l.length) (h0 : l[k] ≠ 0) : noZero l (k + 1) := by
  unfold noZero at h ⊢
  rw [List.take_succ_eq_append_getElem hk]
  intro hm
  rcases List.mem_append.1 hm with hm | hm
  · exact h hm
  · simp at hm; exact h0 hm.symm
theorem zero_nm {l : List UInt8} {k : Nat} (hk : k < l.length) (h0 : l[k] = 0) : isNm l = false := by
  have : l.contains 0 = true := by
    rw [List.contains_iff_mem, ← h0]; exact List.getElem_mem hk
  simp [isNm]
  intros
  simpa using this

set_option maxHeartbeats 4000000 in
theorem name_calls (l : List UInt8) (hl : l.length ≤ 1000000) (hs : (47 : UInt8) ∉ l) (w : World) :
    Calls Tryz.prog 142 #[.string ⟨l.toArray⟩] w fun e w' => e = .returned (.bool (isNm l)) ∧ w = w' := by
  go_enter Tryz.func142, Tryz.ntmps142
  go_wp2_with fail
  go_loop [3] (fun i => ∃ k : Nat, k ≤ l.length ∧ i = .int .i64 k ∧ noZero l k) (fun i => l.length - (intOf i).toNat)
  case atStart => exact ⟨0, Nat.zero_le _, rfl, by simp [noZero]⟩
  case round =>
    obtain ⟨k, hk, rfl, hn⟩ := hrel
    by_cases hlt : k < l.length
    · have b47 : ((l[k].toNat : Int) == 47) = false := byte_ne (b := l[k]) (c := 47) (fun e => hs (e ▸ List.getElem_mem hlt))
      by_cases h0 : l[k] = 0
      · have HN := Lib.hid (zero_nm hlt h0)
        have b0 : ((l[k].toNat : Int) == 0) = true := by rw [h0]; rfl
        clear h0 hs
        go_wp2_with fail
        go_ret
        exact ⟨by rw [HN.out]; rfl, rfl⟩
      · have b0 : ((l[k].toNat : Int) == 0) = false := byte_ne (b := l[k]) (c := 0) h0
        have HS := Lib.hid (noZero_succ hn hlt h0)
        clear h0 hs
        go_wp2_with fail
        go_round
        case rel => exact ⟨k + 1, by omega, by go_num, HS.out⟩
        case measure => simp [intOf]; omega
    · obtain rfl : k = l.length := by omega
      have hc : l.contains 0 = false := by
        unfold noZero at hn
        rw [List.take_length] at hn
        simpa using hn
      clear hn hs hlt
      by_cases h1 : l = []
      · subst h1
        go_wp2_with fail
        go_ret
        exact ⟨rfl, rfl⟩
      have hpos : 1 ≤ l.length := List.length_pos_iff.2 h1
      by_cases h2 : l.length ≤ 30
      · have H := Lib.hid (show isNm l = (!(l == [46]) && !(l == [46, 46])) by
          have b1 : (l == []) = false := by simpa using h1
          simp only [isNm, hc, b1, decide_eq_true h2, Bool.not_false, Bool.true_and, Bool.and_true])
        cases b3 : (l == [46]) with
        | true =>
          rw [b3] at H
          clear h1 hc
          go_wp2_with fail
          go_ret
          exact ⟨by rw [H.out]; rfl, rfl⟩
        | false =>
          rw [b3] at H
          cases b4 : (l == [46, 46]) with
          | true =>
            rw [b4] at H
            clear h1 hc
            go_wp2_with fail
            go_ret
            exact ⟨by rw [H.out]; rfl, rfl⟩
          | false =>
            rw [b4] at H
            clear h1 hc
            go_wp2_with fail
            go_ret
            exact ⟨by rw [H.out]; rfl, rfl⟩
      · have H := Lib.hid (show isNm l = false by simp [isNm, h2])
        have h3 : 30 < l.length := by omega
        clear h1 h2 hc
        go_wp2_with fail
        go_ret
        exact ⟨by rw [H.out]; rfl, rfl⟩

end Go.Proofs.YtaaabmnaindgaaaGreatDoor

/-
  The document's own names, Is.
-/
namespace Go.Proofs.YtaaabmnaindgaaaGreatDoor
set_option maxRecDepth 100000
open Go.RowKit

theorem refNames_root (w : World) :
    Calls Tryz.prog 118 #[.string ⟨#[]⟩] w fun e w' => e = .returned (.tuple #[.slice none 0 0, .bool true]) ∧ w = w' := by
  go_enter Tryz.func118, Tryz.ntmps118
  go_wp2_with fail
  go_ret2
  exact ⟨rfl, rfl⟩

set_option maxHeartbeats 4000000 in
theorem refNames_some (s : List UInt8) (h : s.length ≤ 1000000) (h0 : s ≠ []) (hall : (cut s).all isNm = true) (w : World) :
    Calls Tryz.prog 118 #[.string ⟨s.toArray⟩] w fun e w' => ∃ v, e = .returned (.tuple #[v, .bool (decide ((s.length : Int) ≤ 100))]) ∧ Txts w' v (cut s) ∧ Below w.heap.size w w' := by
  have b0 : (s == []) = false := by simpa using h0
  have hcl := cut_len s
  have HA := Lib.hid hall
  clear hall h0
  go_enter Tryz.func118, Tryz.ntmps118
  go_wp2_with (go_at_call 141; refine (parts_calls s h _).mono ?_; rintro e w1 ⟨v, rfl, hown, hB⟩; have hT := Txts.own hown; have HT := Lib.hid hT; obtain ⟨ao, cap, rfl⟩ := hT.strs.form; clear hown hT)
  go_loop [5] (fun i => ∃ k : Nat, k ≤ (cut s).length ∧ i = .int .i64 k) (fun i => (cut s).length - (intOf i).toNat)
  case atStart => exact ⟨0, Nat.zero_le _, rfl⟩
  case round =>
    obtain ⟨k, hk, rfl⟩ := hrel
    by_cases hlt : k < (cut s).length
    · obtain ⟨b, off, rfl, hcell⟩ := HT.out.strs.at hlt
      have hpl := part_le hlt
      have hcl2 := cut_clean s _ (List.getElem_mem hlt)
      have hnm := List.all_eq_true.1 HA.out _ (List.getElem_mem hlt)
      generalize (cut s)[k] = p at hcell hpl hnm hcl2
      go_wp2_with (go_at_call 142; refine (name_calls p (by omega) hcl2 _).mono ?_; rintro e w1 ⟨rfl, rfl⟩; rw [hnm])
      go_round
      case rel => exact ⟨k + 1, by omega, by go_num⟩
      case measure => simp [intOf]; omega
    · obtain rfl : k = (cut s).length := by omega
      go_wp2_with fail
      go_ret2
      exact ⟨_, rfl, HT.out, hB⟩

set_option maxHeartbeats 4000000 in
theorem refNames_none (s : List UInt8) (h : s.length ≤ 1000000) (h0 : s ≠ []) (hall : (cut s).all isNm = false) (w : World) :
    Calls Tryz.prog 118 #[.string ⟨s.toArray⟩] w fun e w' => e = .returned (.tuple #[.slice none 0 0, .bool false]) ∧ Below w.heap.size w w' := by
  have b0 : (s == []) = false := by simpa using h0
  have hcl := cut_len s
  have HA := Lib.hid hall
  clear hall h0
  go_enter Tryz.func118, Tryz.ntmps118
  go_wp2_with (go_at_call 141; refine (parts_calls s h _).mono ?_; rintro e w1 ⟨v, rfl, hown, hB⟩; have hT := Txts.own hown; have HT := Lib.hid hT; obtain ⟨ao, cap, rfl⟩ := hT.strs.form; clear hown hT)
  go_loop [5] (fun i => ∃ k : Nat, k ≤ (cut s).length ∧ i = .int .i64 k ∧ nmTo (cut s) k) (fun i => (cut s).length - (intOf i).toNat)
  case atStart => exact ⟨0, Nat.zero_le _, rfl, by simp [nmTo]⟩
  case round =>
    obtain ⟨k, hk, rfl, hn⟩ := hrel
    by_cases hlt : k < (cut s).length
    · obtain ⟨b, off, rfl, hcell⟩ := HT.out.strs.at hlt
      have hpl := part_le hlt
      have hcl2 := cut_clean s _ (List.getElem_mem hlt)
      cases hnm : isNm (cut s)[k] with
      | true =>
        have hsucc := nmTo_succ hn hlt hnm
        generalize (cut s)[k] = p at hcell hpl hnm hcl2
        go_wp2_with (go_at_call 142; refine (name_calls p (by omega) hcl2 _).mono ?_; rintro e w1 ⟨rfl, rfl⟩; rw [hnm])
        go_round
        case rel => exact ⟨k + 1, by omega, by go_num, hsucc⟩
        case measure => simp [intOf]; omega
      | false =>
        generalize (cut s)[k] = p at hcell hpl hnm hcl2
        go_wp2_with (go_at_call 142; refine (name_calls p (by omega) hcl2 _).mono ?_; rintro e w1 ⟨rfl, rfl⟩; rw [hnm])
        go_ret2
        exact ⟨rfl, hB⟩
    · obtain rfl : k = (cut s).length := by omega
      exact absurd (nmTo_all hn) (by rw [HA.out]; simp)

theorem refNames_is {s : List UInt8} {l : List (List UInt8)} (h : namesOf s = some l) (w : World) :
    Calls Tryz.prog 118 #[.string ⟨s.toArray⟩] w fun e w' => ∃ v, e = .returned (.tuple #[v, .bool true]) ∧ Txts w' v l ∧ Below w.heap.size w w' := by
  unfold namesOf at h
  split at h
  · cases h
  · split at h
    · rename_i h1 h2
      subst h2
      cases h
      exact (refNames_root w).mono fun e w' ⟨he, hw⟩ => ⟨_, he, Txts.nil _, hw ▸ Below.refl _ _⟩
    · split at h
      · rename_i h1 h2 h3
        cases h
        refine (refNames_some s (by omega) h2 h3 w).mono fun e w' ⟨v, he, hT, hB⟩ => ⟨v, ?_, hT, hB⟩
        have : decide ((s.length : Int) ≤ 100) = true := by simp; omega
        rw [he, this]
      · cases h
theorem refNames_not {s : List UInt8} (h : namesOf s = none) (hl : s.length ≤ 1000000) (w : World) :
    Calls Tryz.prog 118 #[.string ⟨s.toArray⟩] w fun e w' => ∃ ao n cap, e = .returned (.tuple #[.slice ao n cap, .bool false]) ∧ Below w.heap.size w w' := by
  by_cases h0 : s = []
  · subst h0; cases h
  cases hall : (cut s).all isNm with
  | false => exact (refNames_none s hl h0 hall w).mono fun e w' ⟨he, hB⟩ => ⟨none, 0, 0, he, hB⟩
  | true =>
    have hlen : 100 < s.length := by
      unfold namesOf at h
      split at h
      · assumption
      · cases h
    refine (refNames_some s hl h0 hall w).mono fun e w' ⟨v, he, hT, hB⟩ => ?_
    obtain ⟨ao, cap, rfl⟩ := hT.strs.form
    have : decide ((s.length : Int) ≤ 100) = false := by simp; omega
    rw [this] at he
    exact ⟨ao, _, cap, he, hB⟩

theorem refPathIs_calls (s : List UInt8) (hl : s.length ≤ 1000000) (w : World) :
    Calls Tryz.prog 97 #[.string ⟨s.toArray⟩] w fun e w' => e = .returned (.bool (isP s)) ∧ Below w.heap.size w w' := by
  cases hn : namesOf s with
  | none =>
    rw [isP_none hn]
    have H := Lib.hid hn
    clear hn
    go_enter Tryz.func97, Tryz.ntmps97
    go_wp2_with (go_at_call 118; refine (refNames_not H.out hl _).mono ?_; rintro e w1 ⟨ao, n, cap, rfl, hB⟩)
    go_ret
    exact ⟨rfl, hB⟩
  | some l =>
    rw [isP_of hn]
    have H := Lib.hid hn
    clear hn
    go_enter Tryz.func97, Tryz.ntmps97
    go_wp2_with (go_at_call 118; refine (refNames_is H.out _).mono ?_; rintro e w1 ⟨v, rfl, _, hB⟩)
    go_ret
    exact ⟨rfl, hB⟩

end Go.Proofs.YtaaabmnaindgaaaGreatDoor
