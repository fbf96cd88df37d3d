/-
  Paths as lists of bytes: parts, names, the walk; and what follows of them. No program in this text.
-/
import Derived.Lib.SplitLaws
import Derived.Lib.Split
import Derived.Lib.Join
namespace Go.Proofs.YtaoiiocgnnjnnaaDoor

/-- The parts of a text. -/
def cut : List UInt8 → List (List UInt8)
  | [] => [[]]
  | b :: l => if b = 47 then [] :: cut l else
    match cut l with
    | [] => [[b]]
    | p :: ps => (b :: p) :: ps
/-- Parts, with a slash between two. -/
def gl : List (List UInt8) → List UInt8
  | [] => []
  | [x] => x
  | x :: y :: r => x ++ 47 :: gl (y :: r)
/-- Is a part a name? -/
def isNm (l : List UInt8) : Bool := !(l == []) && decide (l.length ≤ 30) && !(l == [46]) && !(l == [46, 46]) && !(l.contains 0)
def step (acc : List (List UInt8)) (p : List UInt8) : Option (List (List UInt8)) :=
  if p = [] ∨ p = [46] then some acc
  else if p = [46, 46] ∧ acc ≠ [] then some acc.dropLast
  else if isNm p = true then some (acc ++ [p]) else none
def walkL : List (List UInt8) → List (List UInt8) → Option (List (List UInt8))
  | [], acc => some acc
  | p :: ps, acc => (step acc p).bind (walkL ps)
/-- The names of a path. -/
def namesOf (s : List UInt8) : Option (List (List UInt8)) := if 100 < s.length then none else if s = [] then some [] else if (cut s).all isNm = true then some (cut s) else none
def isP (s : List UInt8) : Bool := (namesOf s).isSome
def shut (l : List (List UInt8)) : Option (List UInt8) := if 100 < (gl l).length then none else some (gl l)
def normOf (s : List UInt8) : Option (List UInt8) := if 400 < s.length then none else (walkL (cut s) []).bind shut
def joinOf (d s : List UInt8) : Option (List UInt8) := if isP d = true then normOf (d ++ 47 :: s) else none
def depthOf (s : List UInt8) : Int := match namesOf s with
  | none => -1
  | some l => l.length
/-- The names of d are the first ones of s. -/
def underOf (d s : List UInt8) : Bool := match namesOf d, namesOf s with
  | some a, some b => a.isPrefixOf b
  | _, _ => false

theorem cut_ne (l : List UInt8) : cut l ≠ [] := by
  cases l with
  | nil => simp [cut]
  | cons b l => 
    unfold cut
    split
    · simp
    · split <;> simp
theorem cut_slash (l : List UInt8) : cut (47 :: l) = [] :: cut l := by rw [cut, if_pos rfl]
theorem cut_other {b : UInt8} (h : b ≠ 47) {l p : List UInt8} {ps : List (List UInt8)} (hc : cut l = p :: ps) : cut (b :: l) = (b :: p) :: ps := by rw [cut, if_neg h, hc]
theorem cut_form (l : List UInt8) : ∃ p ps, cut l = p :: ps := by
  cases h : cut l with
  | nil => exact absurd h (cut_ne l)
  | cons p ps => exact ⟨p, ps, rfl⟩

theorem gl_cons (b : UInt8) (p : List UInt8) (ps : List (List UInt8)) : gl ((b :: p) :: ps) = b :: gl (p :: ps) := by cases ps <;> simp [gl]
theorem gl_nil (q : List UInt8) (ps : List (List UInt8)) : gl ([] :: q :: ps) = 47 :: gl (q :: ps) := by simp [gl]
theorem gl_cut : ∀ s : List UInt8, gl (cut s) = s
  | [] => rfl
  | b :: l => by
    obtain ⟨p, ps, hc⟩ := cut_form l
    have ih := gl_cut l
    by_cases hb : b = 47
    · subst hb; rw [cut_slash, hc, gl_nil, ← hc, ih]
    · rw [cut_other hb hc, gl_cons, ← hc, ih]
theorem cut_clean : ∀ (s : List UInt8), ∀ p ∈ cut s, (47 : UInt8) ∉ p
  | [], p, hp => by simp [cut] at hp; simp [hp]
  | b :: l, p, hp => by
    obtain ⟨q, qs, hc⟩ := cut_form l
    have ih := cut_clean l
    rw [hc] at ih
    by_cases hb : b = 47
    · subst hb
      rw [cut_slash, hc] at hp
      rcases List.mem_cons.1 hp with rfl | hp
      · simp
      · exact ih p hp
    · rw [cut_other hb hc] at hp
      rcases List.mem_cons.1 hp with rfl | hp
      · have h1 := ih q (by simp)
        intro h
        rcases List.mem_cons.1 h with h | h
        · exact hb h.symm
        · exact h1 h
      · exact ih p (by simp [hp])
theorem cut_app : ∀ a b : List UInt8, cut (a ++ 47 :: b) = cut a ++ cut b
  | [], b => by simp [cut]
  | x :: a, b => by
    obtain ⟨p, ps, hc⟩ := cut_form a
    have ih := cut_app a b
    rw [hc] at ih
    by_cases hx : x = 47
    · subst hx
      rw [List.cons_append, cut_slash, cut_slash, ih, hc]; rfl
    · rw [List.cons_append, cut_other hx ih, cut_other hx hc]; rfl
theorem cut_plain : ∀ {p : List UInt8}, (47 : UInt8) ∉ p → cut p = [p]
  | [], _ => rfl
  | b :: l, h => by
    have h1 : b ≠ 47 := fun e => h (by simp [e])
    have h2 : (47 : UInt8) ∉ l := fun e => h (by simp [e])
    rw [cut_other h1 (cut_plain h2)]
theorem cut_gl : ∀ {l : List (List UInt8)}, l ≠ [] → (∀ p ∈ l, (47 : UInt8) ∉ p) → cut (gl l) = l
  | [], h, _ => absurd rfl h
  | [x], _, h => by simp only [gl]; exact cut_plain (h x (by simp))
  | x :: y :: r, _, h => by
    simp only [gl]
    rw [cut_app, cut_plain (h x (by simp)), cut_gl (by simp) (fun p hp => h p (by simp [List.mem_cons.1 hp]))]; rfl
theorem gl_join : ∀ l : List (List UInt8), Lib.join l [47] = gl l
  | [] => rfl
  | [x] => by simp [Lib.join_one, gl]
  | x :: y :: r => by
    have ih := gl_join (y :: r)
    rw [Lib.join_cons] at ih ⊢
    simp [Lib.joinTail] at ih ⊢
    simp [gl, ← ih]

/-- All bytes, and one for each part. -/
def mass (l : List (List UInt8)) : Nat := (l.map fun p => p.length + 1).sum
theorem gl_mass : ∀ {l : List (List UInt8)}, l ≠ [] → (gl l).length + 1 = mass l
  | [], h => absurd rfl h
  | [x], _ => by simp [gl, mass]
  | x :: y :: r, _ => by
    have ih := gl_mass (l := y :: r) (by simp)
    simp [gl, mass] at ih ⊢
    omega
theorem mass_drop (l : List (List UInt8)) : mass l.dropLast ≤ mass l := by
  induction l with
  | nil => simp [mass]
  | cons x r ih =>
    cases r with
    | nil => simp [mass]
    | cons y r => simp [mass] at ih ⊢; omega
theorem mass_app (a b : List (List UInt8)) : mass (a ++ b) = mass a + mass b := by simp [mass]
theorem mass_cons (x : List UInt8) (l : List (List UInt8)) : mass (x :: l) = x.length + 1 + mass l := by simp [mass]
theorem gl_le {a b : List (List UInt8)} (h : mass a ≤ mass b) (hb : b ≠ []) : (gl a).length ≤ (gl b).length := by
  cases a with
  | nil => simp [gl]
  | cons x a =>
    have h1 := gl_mass (l := x :: a) (by simp)
    have h2 := gl_mass hb
    omega

/-- Names, none with a slash. -/
def Fine (l : List (List UInt8)) : Prop := ∀ p ∈ l, isNm p = true ∧ (47 : UInt8) ∉ p
theorem Fine.nil : Fine [] := fun p hp => by simp at hp
theorem Fine.drop {l : List (List UInt8)} (h : Fine l) : Fine l.dropLast := fun p hp => h p ((List.dropLast_prefix l).subset hp)
theorem Fine.snoc {l : List (List UInt8)} (h : Fine l) {p : List UInt8} (h1 : isNm p = true) (h2 : (47 : UInt8) ∉ p) : Fine (l ++ [p]) := by
  intro q hq
  rcases List.mem_append.1 hq with hq | hq
  · exact h q hq
  · simp at hq; subst hq; exact ⟨h1, h2⟩
theorem nm_ne {p : List UInt8} (h : isNm p = true) : p ≠ [] ∧ p ≠ [46] ∧ p ≠ [46, 46] ∧ p.length ≤ 30 := by
  simp [isNm] at h
  exact ⟨h.1.1.1.1, h.1.1.2, h.1.2, h.1.1.1.2⟩
theorem step_name (acc : List (List UInt8)) {p : List UInt8} (h : isNm p = true) : step acc p = some (acc ++ [p]) := by
  obtain ⟨h1, h2, h3, _⟩ := nm_ne h
  simp [step, h1, h2, h3, h]
theorem step_fine {acc r : List (List UInt8)} {p : List UInt8} (h : step acc p = some r) (ha : Fine acc) (hp : (47 : UInt8) ∉ p) : Fine r ∧ mass r ≤ mass acc + (p.length + 1) := by
  unfold step at h
  split at h
  · cases h; exact ⟨ha, by omega⟩
  · split at h
    · cases h; exact ⟨ha.drop, by have := mass_drop acc; omega⟩
    · split at h
      · rename_i hn
        cases h; exact ⟨ha.snoc hn hp, by rw [mass_app]; simp [mass]⟩
      · cases h
theorem walk_fine : ∀ {ps acc r : List (List UInt8)}, walkL ps acc = some r → Fine acc → (∀ p ∈ ps, (47 : UInt8) ∉ p) → Fine r ∧ mass r ≤ mass acc + mass ps
  | [], acc, r, h, ha, _ => by simp [walkL] at h; subst h; exact ⟨ha, by simp [mass]⟩
  | p :: ps, acc, r, h, ha, hp => by
    simp only [walkL] at h
    cases hs : step acc p with
    | none => rw [hs] at h; simp at h
    | some a1 =>
      rw [hs] at h
      obtain ⟨f1, m1⟩ := step_fine hs ha (hp p (by simp))
      obtain ⟨f2, m2⟩ := walk_fine (ps := ps) (by simpa using h) f1 (fun q hq => hp q (by simp [hq]))
      exact ⟨f2, by rw [mass_cons]; omega⟩
theorem walk_app : ∀ (a b acc : List (List UInt8)), walkL (a ++ b) acc = (walkL a acc).bind (walkL b)
  | [], b, acc => by simp [walkL]
  | p :: a, b, acc => by
    simp only [List.cons_append, walkL]
    cases step acc p with
    | none => rfl
    | some r => simpa using walk_app a b r
theorem walk_names : ∀ (ps acc : List (List UInt8)), ps.all isNm = true → walkL ps acc = some (acc ++ ps)
  | [], acc, _ => by simp [walkL]
  | p :: ps, acc, h => by
    simp only [List.all_cons, Bool.and_eq_true] at h
    simp only [walkL, step_name acc h.1]
    simpa using walk_names ps (acc ++ [p]) h.2
theorem fine_all {l : List (List UInt8)} (h : Fine l) : l.all isNm = true := by
  rw [List.all_eq_true]; exact fun p hp => (h p hp).1
theorem gl_ne {l : List (List UInt8)} (h : Fine l) (hl : l ≠ []) : gl l ≠ [] := by
  intro e
  have h1 := gl_mass hl
  rw [e] at h1
  cases l with
  | nil => exact hl rfl
  | cons x r =>
    have h2 := (nm_ne (h x (by simp)).1).1
    rw [mass_cons] at h1
    cases x with
    | nil => exact h2 rfl
    | cons b x => simp at h1; omega

theorem names_gl {l : List (List UInt8)} (h : Fine l) (hl : (gl l).length ≤ 100) : namesOf (gl l) = some l := by
  cases l with
  | nil => rfl
  | cons x r =>
    have h1 := gl_ne h (by simp)
    rw [namesOf, if_neg (by omega), if_neg h1, cut_gl (by simp) (fun p hp => (h p hp).2), if_pos (fine_all h)]
theorem names_fine {s : List UInt8} {l : List (List UInt8)} (h : namesOf s = some l) : Fine l ∧ gl l = s ∧ s.length ≤ 100 := by
  unfold namesOf at h
  split at h
  · cases h
  · split at h
    · rename_i h1 h2
      cases h; subst h2; exact ⟨Fine.nil, rfl, by simp⟩
    · split at h
      · rename_i h1 _ h3
        cases h
        exact ⟨fun p hp => ⟨List.all_eq_true.1 h3 p hp, cut_clean s p hp⟩, gl_cut s, by omega⟩
      · cases h
theorem names_inj {s t : List UInt8} {l : List (List UInt8)} (h : namesOf s = some l) (h2 : namesOf t = some l) : s = t := by
  rw [← (names_fine h).2.1, (names_fine h2).2.1]
theorem isP_some {s : List UInt8} (h : isP s = true) : ∃ l, namesOf s = some l := by
  unfold isP at h; exact Option.isSome_iff_exists.1 h
theorem isP_of {s : List UInt8} {l : List (List UInt8)} (h : namesOf s = some l) : isP s = true := by simp [isP, h]
theorem isP_none {s : List UInt8} (h : namesOf s = none) : isP s = false := by simp [isP, h]
/-- From the root on, the parts of a path are its names. -/
theorem walk_path {s : List UInt8} {l : List (List UInt8)} (h : namesOf s = some l) : walkL (cut s) [] = some l := by
  obtain ⟨hf, hg, _⟩ := names_fine h
  by_cases hl : l = []
  · subst hl; subst hg; decide
  · rw [← hg, cut_gl hl (fun p hp => (hf p hp).2), walk_names _ _ (fine_all hf)]; simp
theorem norm_path {s : List UInt8} (h : isP s = true) : normOf s = some s := by
  obtain ⟨l, hl⟩ := isP_some h
  obtain ⟨_, hg, hs⟩ := names_fine hl
  rw [normOf, if_neg (by omega), walk_path hl, Option.bind_some, shut, hg, if_neg (by omega)]
theorem norm_is {s a : List UInt8} (h : normOf s = some a) : isP a = true ∧ a.length ≤ s.length ∧ ∃ l, walkL (cut s) [] = some l ∧ a = gl l ∧ namesOf a = some l := by
  unfold normOf at h
  split at h
  · cases h
  · cases hw : walkL (cut s) [] with
    | none => rw [hw] at h; cases h
    | some l =>
      rw [hw, Option.bind_some, shut] at h
      split at h
      · cases h
      · cases h
        obtain ⟨hf, hm⟩ := walk_fine hw Fine.nil (cut_clean s)
        have hn := names_gl hf (by omega)
        refine ⟨isP_of hn, ?_, l, rfl, rfl, hn⟩
        have := gl_le (a := l) (b := cut s) (by simpa [mass] using hm) (cut_ne s)
        rwa [gl_cut] at this
theorem norm_eq {s a : List UInt8} (h : normOf s = some a) : isP s = (a == s) := by
  cases hp : isP s with
  | true =>
    rw [norm_path hp] at h
    cases h; simp
  | false =>
    symm
    rw [beq_eq_false_iff_ne]
    rintro rfl
    rw [(norm_is h).1] at hp
    cases hp
theorem norm_none {s : List UInt8} (h : normOf s = none) : isP s = false := by
  cases hp : isP s with
  | true => rw [norm_path hp] at h; cases h
  | false => rfl

/-- Parent and last name. -/
theorem back {s : List UInt8} {l : List (List UInt8)} (h : namesOf s = some l) (hl : l ≠ []) : namesOf (gl l.dropLast) = some l.dropLast ∧ joinOf (gl l.dropLast) (l.getLast hl) = some s := by
  obtain ⟨hf, hg, hs⟩ := names_fine h
  have h1 : (gl l.dropLast).length ≤ 100 := by
    have := gl_le (mass_drop l) hl
    rw [hg] at this; omega
  have h2 := names_gl hf.drop h1
  refine ⟨h2, ?_⟩
  have hb := hf _ (List.getLast_mem hl)
  have hlen := (nm_ne hb.1).2.2.2
  rw [joinOf, if_pos (isP_of h2), normOf, if_neg (by simp; omega), cut_app, walk_app, walk_path h2, Option.bind_some, cut_plain hb.2]
  simp only [walkL, step_name _ hb.1, Option.bind_some]
  rw [List.dropLast_concat_getLast hl, shut, hg, if_neg (by omega)]
theorem under_some {d s : List UInt8} {a b : List (List UInt8)} (h1 : namesOf d = some a) (h2 : namesOf s = some b) : underOf d s = a.isPrefixOf b := by simp [underOf, h1, h2]
theorem under_iff {d s : List UInt8} : underOf d s = true ↔ ∃ a b, namesOf d = some a ∧ namesOf s = some b ∧ a <+: b := by
  unfold underOf
  cases h1 : namesOf d with
  | none => simp
  | some a =>
    cases h2 : namesOf s with
    | none => simp
    | some b => simp
theorem under_trans {a b c : List UInt8} (h1 : underOf a b = true) (h2 : underOf b c = true) : underOf a c = true := by
  rw [under_iff] at *
  obtain ⟨x, y, hx, hy, hxy⟩ := h1
  obtain ⟨y', z, hy', hz, hyz⟩ := h2
  rw [hy] at hy'; cases hy'
  exact ⟨x, z, hx, hz, hxy.trans hyz⟩
theorem under_anti {a b : List UInt8} (h1 : underOf a b = true) (h2 : underOf b a = true) : a = b := by
  rw [under_iff] at *
  obtain ⟨x, y, hx, hy, hxy⟩ := h1
  obtain ⟨y', z, hy', hz, hyz⟩ := h2
  rw [hy] at hy'; cases hy'
  rw [hx] at hz; cases hz
  have : x = y := hxy.eq_of_length (Nat.le_antisymm hxy.length_le hyz.length_le)
  subst this
  exact names_inj hx hy
theorem under_self (a : List UInt8) : underOf a a = isP a := by
  cases h : namesOf a with
  | none => simp [underOf, h, isP]
  | some l => simp [underOf, h, isP]
theorem under_root (a : List UInt8) : underOf [] a = isP a := by
  have h0 : namesOf [] = some [] := rfl
  cases h : namesOf a with
  | none => simp [underOf, h0, h, isP]
  | some l => simp [underOf, h0, h, isP]
theorem under_back {s : List UInt8} {l : List (List UInt8)} (h : namesOf s = some l) (hl : l ≠ []) : underOf (gl l.dropLast) s = true ∧ underOf s (gl l.dropLast) = false ∧ depthOf (gl l.dropLast) + 1 = depthOf s := by
  obtain ⟨h2, _⟩ := back h hl
  have hpos : 0 < l.length := List.length_pos_iff.2 hl
  refine ⟨under_iff.2 ⟨_, _, h2, h, List.dropLast_prefix l⟩, ?_, ?_⟩
  · rw [Bool.eq_false_iff]
    intro hu
    obtain ⟨x, y, hx, hy, hxy⟩ := under_iff.1 hu
    rw [h] at hx; cases hx
    rw [h2] at hy; cases hy
    have := hxy.length_le
    simp at this; omega
  · simp [depthOf, h, h2]; omega
theorem joins {d s t a : List UInt8} (h : joinOf d s = some a) (hlen : d.length + s.length + t.length ≤ 300) : joinOf a t = joinOf d (s ++ 47 :: t) := by
  unfold joinOf at h
  split at h
  · rename_i hd
    obtain ⟨ha, hal, l, hw, rfl, hn⟩ := norm_is h
    simp at hal
    rw [joinOf, if_pos ha, joinOf, if_pos hd, normOf, if_neg (by simp; omega), normOf, if_neg (by simp; omega)]
    rw [cut_app, walk_app, walk_path hn]
    have e : d ++ 47 :: (s ++ 47 :: t) = (d ++ 47 :: s) ++ 47 :: t := by simp
    rw [e, cut_app, walk_app, hw]
  · cases h

/-- What strings.Split cuts. -/
theorem split_cut : ∀ s : List UInt8, Lib.splitK [47] 0 (Lib.count s [47]) s = cut s := by
  intro s
  induction s with
  | nil => rw [Lib.count_miss (by simp [Lib.index])]; rfl
  | cons b l ih =>
    by_cases hb : b = 47
    · subst hb
      rw [Lib.count_cons_eq, cut_slash, Nat.add_comm, Lib.splitK]
      have hix : Lib.index (47 :: l) [47] = 0 := by rw [Lib.index]; simp [List.isPrefixOf]
      rw [hix]; simp [ih]
    · have hp : ([47] : List UInt8).isPrefixOf (b :: l) = false := by simp [List.isPrefixOf]; exact fun h => hb h.symm
      have hix : Lib.index (b :: l) [47] = if Lib.index l [47] == -1 then -1 else Lib.index l [47] + 1 := by rw [Lib.index, hp]; simp
      rw [Lib.count_cons_ne b 47 l hb]
      obtain ⟨p, ps, hc⟩ := cut_form l
      rw [cut_other hb hc]
      rw [hc] at ih
      cases hk : Lib.count l [47] with
      | zero =>
        rw [hk] at ih
        simp [Lib.splitK] at ih ⊢
        exact ⟨ih.1, ih.2⟩
      | succ k =>
        rw [hk] at ih
        rw [Lib.splitK] at ih ⊢
        by_cases hm : Lib.index l [47] = -1
        · rw [hix]; simp [hm] at ih ⊢; exact ⟨ih.1, ih.2⟩
        · have hge := Lib.index_ge l [47]
          have hne : (Lib.index l [47] == -1) = false := by simpa using hm
          have hix2 : Lib.index (b :: l) [47] = Lib.index l [47] + 1 := by rw [hix, hne]; rfl
          have hne2 : (Lib.index (b :: l) [47] == -1) = false := by rw [hix2, beq_eq_false_iff_ne]; omega
          rw [hne] at ih
          rw [hne2, hix2]
          obtain ⟨i, hi⟩ : ∃ i : Nat, Lib.index l [47] = i := ⟨(Lib.index l [47]).toNat, by omega⟩
          rw [hi] at ih ⊢
          have e : ((i : Int) + 1).toNat = i + 1 := by omega
          rw [e]
          simp at ih ⊢
          exact ⟨ih.1, ih.2⟩

end Go.Proofs.YtaoiiocgnnjnnaaDoor
