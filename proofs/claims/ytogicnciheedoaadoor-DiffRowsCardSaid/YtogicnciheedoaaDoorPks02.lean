/-
  The texts of one folder in one: PSpec.
-/
import Derived.Lib.SplitLaws
import Derived.Lib.Split
import Derived.Lib.Join

/-
  Paths as lists of bytes: parts, names, the walk; and what follows of them. No program in this text.
-/
namespace Go.Proofs.YtogicnciheedoaaDoor
set_option maxRecDepth 100000

/-- The parts of a text. -/
def cut : List UInt8 → List (List UInt8)
  | [] => [[]]
  | b :: l => if b = 47 then [] :: cut l else
    match cut l with
    | [] => [[b]]
    | p :: ps => (b :: p) :: ps
/-- Parts, with a slash between two. -/
def gl : List (List UInt8) → List UInt8
  | [] => []
  | [x] => x
  | x :: y :: r => x ++ 47 :: gl (y :: r)
/-- Is a part a name? -/
def isNm (l : List UInt8) : Bool := !(l == []) && decide (l.length ≤ 30) && !(l == [46]) && !(l == [46, 46]) && !(l.contains 0)
def step (acc : List (List UInt8)) (p : List UInt8) : Option (List (List UInt8)) :=
  if p = [] ∨ p = [46] then some acc
  else if p = [46, 46] ∧ acc ≠ [] then some acc.dropLast
  else if isNm p = true then some (acc ++ [p]) else none
def walkL : List (List UInt8) → List (List UInt8) → Option (List (List UInt8))
  | [], acc => some acc
  | p :: ps, acc => (step acc p).bind (walkL ps)
/-- The names of a path. -/
def namesOf (s : List UInt8) : Option (List (List UInt8)) := if 100 < s.length then none else if s = [] then some [] else if (cut s).all isNm = true then some (cut s) else none
def isP (s : List UInt8) : Bool := (namesOf s).isSome
def shut (l : List (List UInt8)) : Option (List UInt8) := if 100 < (gl l).length then none else some (gl l)
def normOf (s : List UInt8) : Option (List UInt8) := if 400 < s.length then none else (walkL (cut s) []).bind shut
def joinOf (d s : List UInt8) : Option (List UInt8) := if isP d = true then normOf (d ++ 47 :: s) else none
theorem cut_ne (l : List UInt8) : cut l ≠ [] := by
  cases l with
  | nil => simp [cut]
  | cons b l => 
    unfold cut
    split
    · simp
    · split <;> simp
theorem cut_slash (l : List UInt8) : cut (47 :: l) = [] :: cut l := by rw [cut, if_pos rfl]
theorem cut_other {b : UInt8} (h : b ≠ 47) {l p : List UInt8} {ps : List (List UInt8)} (hc : cut l = p :: ps) : cut (b :: l) = (b :: p) :: ps := by rw [cut, if_neg h, hc]
theorem cut_form (l : List UInt8) : ∃ p ps, cut l = p :: ps := by
  cases h : cut l with
  | nil => exact absurd h (cut_ne l)
  | cons p ps => exact ⟨p, ps, rfl⟩

theorem gl_cons (b : UInt8) (p : List UInt8) (ps : List (List UInt8)) : gl ((b :: p) :: ps) = b :: gl (p :: ps) := by cases ps <;> simp [gl]
theorem gl_nil (q : List UInt8) (ps : List (List UInt8)) : gl ([] :: q :: ps) = 47 :: gl (q :: ps) := by simp [gl]
theorem gl_cut : ∀ s : List UInt8, gl (cut s) = s
  | [] => rfl
  | b :: l => by
    obtain ⟨p, ps, hc⟩ := cut_form l
    have ih := gl_cut l
    by_cases hb : b = 47
    · subst hb; rw [cut_slash, hc, gl_nil, ← hc, ih]
    · rw [cut_other hb hc, gl_cons, ← hc, ih]
theorem cut_clean : ∀ (s : List UInt8), ∀ p ∈ cut s, (47 : UInt8) ∉ p
  | [], p, hp => by simp [cut] at hp; simp [hp]
  | b :: l, p, hp => by
    obtain ⟨q, qs, hc⟩ := cut_form l
    have ih := cut_clean l
    rw [hc] at ih
    by_cases hb : b = 47
    · subst hb
      rw [cut_slash, hc] at hp
      rcases List.mem_cons.1 hp with rfl | hp
      · simp
      · exact ih p hp
    · rw [cut_other hb hc] at hp
      rcases List.mem_cons.1 hp with rfl | hp
      · have h1 := ih q (by simp)
        intro h
        rcases List.mem_cons.1 h with h | h
        · exact hb h.symm
        · exact h1 h
      · exact ih p (by simp [hp])
theorem cut_app : ∀ a b : List UInt8, cut (a ++ 47 :: b) = cut a ++ cut b
  | [], b => by simp [cut]
  | x :: a, b => by
    obtain ⟨p, ps, hc⟩ := cut_form a
    have ih := cut_app a b
    rw [hc] at ih
    by_cases hx : x = 47
    · subst hx
      rw [List.cons_append, cut_slash, cut_slash, ih, hc]; rfl
    · rw [List.cons_append, cut_other hx ih, cut_other hx hc]; rfl
theorem cut_plain : ∀ {p : List UInt8}, (47 : UInt8) ∉ p → cut p = [p]
  | [], _ => rfl
  | b :: l, h => by
    have h1 : b ≠ 47 := fun e => h (by simp [e])
    have h2 : (47 : UInt8) ∉ l := fun e => h (by simp [e])
    rw [cut_other h1 (cut_plain h2)]
theorem cut_gl : ∀ {l : List (List UInt8)}, l ≠ [] → (∀ p ∈ l, (47 : UInt8) ∉ p) → cut (gl l) = l
  | [], h, _ => absurd rfl h
  | [x], _, h => by simp only [gl]; exact cut_plain (h x (by simp))
  | x :: y :: r, _, h => by
    simp only [gl]
    rw [cut_app, cut_plain (h x (by simp)), cut_gl (by simp) (fun p hp => h p (by simp [List.mem_cons.1 hp]))]; rfl
/-- All bytes, and one for each part. -/
def mass (l : List (List UInt8)) : Nat := (l.map fun p => p.length + 1).sum
theorem gl_mass : ∀ {l : List (List UInt8)}, l ≠ [] → (gl l).length + 1 = mass l
  | [], h => absurd rfl h
  | [x], _ => by simp [gl, mass]
  | x :: y :: r, _ => by
    have ih := gl_mass (l := y :: r) (by simp)
    simp [gl, mass] at ih ⊢
    omega
theorem mass_drop (l : List (List UInt8)) : mass l.dropLast ≤ mass l := by
  induction l with
  | nil => simp [mass]
  | cons x r ih =>
    cases r with
    | nil => simp [mass]
    | cons y r => simp [mass] at ih ⊢; omega
theorem mass_cons (x : List UInt8) (l : List (List UInt8)) : mass (x :: l) = x.length + 1 + mass l := by simp [mass]
theorem gl_le {a b : List (List UInt8)} (h : mass a ≤ mass b) (hb : b ≠ []) : (gl a).length ≤ (gl b).length := by
  cases a with
  | nil => simp [gl]
  | cons x a =>
    have h1 := gl_mass (l := x :: a) (by simp)
    have h2 := gl_mass hb
    omega

/-- Names, none with a slash. -/
def Fine (l : List (List UInt8)) : Prop := ∀ p ∈ l, isNm p = true ∧ (47 : UInt8) ∉ p
theorem Fine.nil : Fine [] := fun p hp => by simp at hp
theorem Fine.drop {l : List (List UInt8)} (h : Fine l) : Fine l.dropLast := fun p hp => h p ((List.dropLast_prefix l).subset hp)
theorem nm_ne {p : List UInt8} (h : isNm p = true) : p ≠ [] ∧ p ≠ [46] ∧ p ≠ [46, 46] ∧ p.length ≤ 30 := by
  simp [isNm] at h
  exact ⟨h.1.1.1.1, h.1.1.2, h.1.2, h.1.1.1.2⟩
theorem step_name (acc : List (List UInt8)) {p : List UInt8} (h : isNm p = true) : step acc p = some (acc ++ [p]) := by
  obtain ⟨h1, h2, h3, _⟩ := nm_ne h
  simp [step, h1, h2, h3, h]
theorem walk_app : ∀ (a b acc : List (List UInt8)), walkL (a ++ b) acc = (walkL a acc).bind (walkL b)
  | [], b, acc => by simp [walkL]
  | p :: a, b, acc => by
    simp only [List.cons_append, walkL]
    cases step acc p with
    | none => rfl
    | some r => simpa using walk_app a b r
theorem walk_names : ∀ (ps acc : List (List UInt8)), ps.all isNm = true → walkL ps acc = some (acc ++ ps)
  | [], acc, _ => by simp [walkL]
  | p :: ps, acc, h => by
    simp only [List.all_cons, Bool.and_eq_true] at h
    simp only [walkL, step_name acc h.1]
    simpa using walk_names ps (acc ++ [p]) h.2
theorem fine_all {l : List (List UInt8)} (h : Fine l) : l.all isNm = true := by
  rw [List.all_eq_true]; exact fun p hp => (h p hp).1
theorem gl_ne {l : List (List UInt8)} (h : Fine l) (hl : l ≠ []) : gl l ≠ [] := by
  intro e
  have h1 := gl_mass hl
  rw [e] at h1
  cases l with
  | nil => exact hl rfl
  | cons x r =>
    have h2 := (nm_ne (h x (by simp)).1).1
    rw [mass_cons] at h1
    cases x with
    | nil => exact h2 rfl
    | cons b x => simp at h1; omega

theorem names_gl {l : List (List UInt8)} (h : Fine l) (hl : (gl l).length ≤ 100) : namesOf (gl l) = some l := by
  cases l with
  | nil => rfl
  | cons x r =>
    have h1 := gl_ne h (by simp)
    rw [namesOf, if_neg (by omega), if_neg h1, cut_gl (by simp) (fun p hp => (h p hp).2), if_pos (fine_all h)]
theorem names_fine {s : List UInt8} {l : List (List UInt8)} (h : namesOf s = some l) : Fine l ∧ gl l = s ∧ s.length ≤ 100 := by
  unfold namesOf at h
  split at h
  · cases h
  · split at h
    · rename_i h1 h2
      cases h; subst h2; exact ⟨Fine.nil, rfl, by simp⟩
    · split at h
      · rename_i h1 _ h3
        cases h
        exact ⟨fun p hp => ⟨List.all_eq_true.1 h3 p hp, cut_clean s p hp⟩, gl_cut s, by omega⟩
      · cases h
theorem isP_of {s : List UInt8} {l : List (List UInt8)} (h : namesOf s = some l) : isP s = true := by simp [isP, h]
/-- From the root on, the parts of a path are its names. -/
theorem walk_path {s : List UInt8} {l : List (List UInt8)} (h : namesOf s = some l) : walkL (cut s) [] = some l := by
  obtain ⟨hf, hg, _⟩ := names_fine h
  by_cases hl : l = []
  · subst hl; subst hg; decide
  · rw [← hg, cut_gl hl (fun p hp => (hf p hp).2), walk_names _ _ (fine_all hf)]; simp
/-- Parent and last name. -/
theorem back {s : List UInt8} {l : List (List UInt8)} (h : namesOf s = some l) (hl : l ≠ []) : namesOf (gl l.dropLast) = some l.dropLast ∧ joinOf (gl l.dropLast) (l.getLast hl) = some s := by
  obtain ⟨hf, hg, hs⟩ := names_fine h
  have h1 : (gl l.dropLast).length ≤ 100 := by
    have := gl_le (mass_drop l) hl
    rw [hg] at this; omega
  have h2 := names_gl hf.drop h1
  refine ⟨h2, ?_⟩
  have hb := hf _ (List.getLast_mem hl)
  have hlen := (nm_ne hb.1).2.2.2
  rw [joinOf, if_pos (isP_of h2), normOf, if_neg (by simp; omega), cut_app, walk_app, walk_path h2, Option.bind_some, cut_plain hb.2]
  simp only [walkL, step_name _ hb.1, Option.bind_some]
  rw [List.dropLast_concat_getLast hl, shut, hg, if_neg (by omega)]
end Go.Proofs.YtogicnciheedoaaDoor
