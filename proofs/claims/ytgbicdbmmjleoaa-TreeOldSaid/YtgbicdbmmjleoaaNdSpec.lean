/-
  The plain functions of layer 9 (node): where a key stands among pairs, what is put, dropped, split and levelled. No program is named here.
-/
import Derived.Test.YtgbicdbmmjleoaaKyOrd
namespace Go.Proofs.Ytgbicdbmmjleoaa

/-- A pair: its key, its text. -/
abbrev Pr := Ky × List UInt8
/-- How many of l, from the first one on, stand ahead of k. -/
def placeN (l : List Pr) (k : Ky) : Nat := match l with | [] => 0 | x :: r => if lessK x.1 k = true then placeN r k + 1 else 0
/-- Has the pair at k's place the key k? -/
def hereB (l : List Pr) (k : Ky) : Bool := decide ((l[placeN l k]?).map (·.1) = some k)
/-- Where what stands behind k's place begins. -/
def nextN (l : List Pr) (k : Ky) : Nat := if hereB l k = true then placeN l k + 1 else placeN l k
def putL (l : List Pr) (p : Pr) : List Pr := l.take (placeN l p.1) ++ p :: l.drop (nextN l p.1)
def dropL (l : List Pr) (k : Ky) : List Pr := l.take (placeN l k) ++ l.drop (nextN l k)
/-- Do the pairs rise? -/
def riseB (l : List Pr) : Bool := match l with | [] => true | [_] => true | x :: y :: r => lessK x.1 y.1 && riseB (y :: r)
/-- The first k pairs rise. -/
def riseTo (l : List Pr) (k : Nat) : Prop := riseB (l.take k) = true
/-- Are pairs more than are looked at? -/
def bigP (l : List Pr) : Bool := decide (80 < l.length) || l.any fun x => decide (200 < x.1.1.length) || decide (300 < x.2.length)
def levE (most : Int) : Int := if most < 1 then 1 else 0
def levA (l : List Pr) (most : Int) : List Pr := if most < 1 then [] else if (l.length : Int) ≤ most then l else l.take (l.length / 2)
def levB (l : List Pr) (most : Int) : List Pr := if most < 1 then [] else if (l.length : Int) ≤ most then [] else l.drop (l.length / 2)

/-! ### Places -/

theorem placeN_le (l : List Pr) (k : Ky) : placeN l k ≤ l.length := by
  induction l with
  | nil => simp [placeN]
  | cons x r ih =>
    unfold placeN
    split
    · simp; omega
    · simp
theorem placeN_ahead {l : List Pr} {k : Ky} {i : Nat} (h : i < placeN l k) : ∃ x, l[i]? = some x ∧ lessK x.1 k = true := by
  induction l generalizing i with
  | nil => simp [placeN] at h
  | cons x r ih =>
    unfold placeN at h
    split at h
    · rename_i hx
      cases i with
      | zero => exact ⟨x, rfl, hx⟩
      | succ i => exact ih (by omega)
    · omega
/-- So far all stand ahead, and this one does not: this is the place. -/
theorem placeN_is {l : List Pr} {k : Ky} {n : Nat} (hn : n ≤ l.length) (h1 : ∀ i (h : i < n), lessK (l[i]'(by omega)).1 k = true) (h2 : ∀ (h : n < l.length), lessK l[n].1 k = false) : placeN l k = n := by
  induction l generalizing n with
  | nil => simp at hn; simp [placeN, hn]
  | cons x r ih =>
    unfold placeN
    cases n with
    | zero =>
      have := h2 (by simp)
      simp at this
      simp [this]
    | succ n =>
      have hx := h1 0 (by omega)
      simp at hx
      rw [if_pos hx]
      congr 1
      exact ih (by simpa using hn) (fun i h => by simpa using h1 (i + 1) (by omega)) (fun h => h2 (by simpa using h))
theorem nextN_le (l : List Pr) (k : Ky) : placeN l k ≤ nextN l k ∧ nextN l k ≤ l.length := by
  have h0 := placeN_le l k
  unfold nextN
  split
  · rename_i h
    unfold hereB at h
    rw [decide_eq_true_eq] at h
    by_cases hl : placeN l k < l.length
    · omega
    · rw [List.getElem?_eq_none (by omega)] at h
      cases h
  · omega
theorem hereB_at {l : List Pr} {k : Ky} (h : placeN l k < l.length) : hereB l k = decide (l[placeN l k].1 = k) := by
  unfold hereB
  rw [List.getElem?_eq_getElem h]
  simp
theorem hereB_end {l : List Pr} {k : Ky} (h : placeN l k = l.length) : hereB l k = false := by
  unfold hereB
  rw [List.getElem?_eq_none (by omega)]
  rfl
theorem hereB_lt {l : List Pr} {k : Ky} (h : hereB l k = true) : placeN l k < l.length := by
  by_cases hl : placeN l k < l.length
  · exact hl
  · rw [hereB_end (by have := placeN_le l k; omega)] at h
    cases h
theorem putL_length (l : List Pr) (p : Pr) : (putL l p).length = if hereB l p.1 = true then l.length else l.length + 1 := by
  have h0 := placeN_le l p.1
  have h1 := nextN_le l p.1
  unfold putL
  simp only [List.length_append, List.length_take, List.length_cons, List.length_drop]
  unfold nextN at h1 ⊢
  split <;> rename_i h <;> simp only [h, if_true, if_false, Bool.false_eq_true] at h1 <;> omega
theorem dropL_length (l : List Pr) (k : Ky) : (dropL l k).length = if hereB l k = true then l.length - 1 else l.length := by
  have h0 := placeN_le l k
  have h1 := nextN_le l k
  unfold dropL
  simp only [List.length_append, List.length_take, List.length_drop]
  unfold nextN at h1 ⊢
  split <;> rename_i h <;> simp only [h, if_true, if_false, Bool.false_eq_true] at h1 <;> omega
theorem putL_le (l : List Pr) (p : Pr) : (putL l p).length ≤ l.length + 1 := by
  rw [putL_length]
  split <;> omega

/-! ### Rows that rise -/

/-- Each stands ahead of all behind it. -/
abbrev Rises (l : List Pr) : Prop := l.Pairwise fun x y => lessK x.1 y.1 = true
theorem rises_iff : ∀ {l : List Pr}, riseB l = true ↔ Rises l
  | [] => by simp [riseB]
  | [x] => by simp [riseB]
  | x :: y :: r => by
    have ih := @rises_iff (y :: r)
    rw [riseB, Bool.and_eq_true, ih]
    unfold Rises
    rw [List.pairwise_cons (a := x)]
    constructor
    · rintro ⟨h1, h2⟩
      refine ⟨fun z hz => ?_, h2⟩
      rcases List.mem_cons.1 hz with rfl | hz
      · exact h1
      · exact lessK_trans h1 ((List.pairwise_cons.1 h2).1 z hz)
    · rintro ⟨h1, h2⟩
      exact ⟨h1 y (by simp), h2⟩
theorem riseTo_one (l : List Pr) : riseTo l 1 := by
  unfold riseTo
  cases l <;> simp [riseB]
theorem riseTo_succ {l : List Pr} {k : Nat} (hk : k + 1 < l.length) (h : riseTo l (k + 1)) (h1 : lessK l[k].1 l[k + 1].1 = true) : riseTo l (k + 2) := by
  unfold riseTo at h ⊢
  rw [rises_iff] at h ⊢
  rw [List.take_succ_eq_append_getElem hk]
  unfold Rises
  rw [List.pairwise_append]
  refine ⟨h, by simp, fun x hx y hy => ?_⟩
  rw [List.mem_singleton] at hy
  subst hy
  rw [List.take_succ_eq_append_getElem (by omega)] at hx h
  rcases List.mem_append.1 hx with hx | hx
  · exact lessK_trans ((List.pairwise_append.1 h).2.2 x hx _ (by simp)) h1
  · rw [List.mem_singleton] at hx
    subst hx
    exact h1
theorem riseTo_all {l : List Pr} {k : Nat} (hk : l.length ≤ k) (h : riseTo l k) : riseB l = true := by
  unfold riseTo at h
  rwa [List.take_of_length_le hk] at h
theorem rise_not {l : List Pr} {k : Nat} (hk : k + 1 < l.length) (h1 : lessK l[k].1 l[k + 1].1 = false) : riseB l = false := by
  cases h : riseB l with
  | false => rfl
  | true =>
    rw [rises_iff] at h
    have := (List.pairwise_iff_getElem.1 h) k (k + 1) (by omega) hk (by omega)
    rw [h1] at this
    cases this
theorem lessK_irrefl (k : Ky) : lessK k k = false := by
  unfold lessK
  rw [cmpK_self]
  rfl
theorem lessK_total {a b : Ky} (h : lessK a b = false) (hne : a ≠ b) : lessK b a = true := by
  unfold lessK at h ⊢
  rw [cmpK_swap a b]
  simp only [decide_eq_true_eq, decide_eq_false_iff_not] at h ⊢
  have : cmpK a b ≠ 0 := fun e => hne (cmpK_zero e)
  omega
/-- Of a row that rises: where each pair is. -/
theorem rises_place {l : List Pr} (h : Rises l) {i : Nat} (hi : i < l.length) : placeN l l[i].1 = i ∧ hereB l l[i].1 = true := by
  have h0 := List.pairwise_iff_getElem.1 h
  have e : placeN l l[i].1 = i := placeN_is (by omega) (fun j hj => h0 j i (by omega) hi hj) (fun _ => lessK_irrefl _)
  refine ⟨e, ?_⟩
  rw [hereB_at (by omega)]
  simp [e]
theorem rises_mem {l : List Pr} (h : Rises l) {x : Pr} (hx : x ∈ l) : hereB l x.1 = true ∧ l[placeN l x.1]? = some x := by
  obtain ⟨i, hi, rfl⟩ := List.getElem_of_mem hx
  obtain ⟨h1, h2⟩ := rises_place h hi
  exact ⟨h2, by rw [h1, List.getElem?_eq_getElem hi]⟩
theorem here_mem {l : List Pr} {k : Ky} (h : hereB l k = true) : ∃ x ∈ l, x.1 = k := by
  have hl := hereB_lt h
  rw [hereB_at hl, decide_eq_true_eq] at h
  exact ⟨_, List.getElem_mem hl, h⟩
/-- What stands behind k's place, but for the one there that has it, stands behind k. -/
theorem rises_behind {l : List Pr} (h : Rises l) {k : Ky} {x : Pr} (hx : x ∈ l.drop (nextN l k)) : lessK k x.1 = true := by
  obtain ⟨i, hi, rfl⟩ := List.getElem_of_mem hx
  rw [List.length_drop] at hi
  rw [List.getElem_drop]
  have h0 := List.pairwise_iff_getElem.1 h
  have hn := nextN_le l k
  have hp : placeN l k < l.length := by omega
  have h2 : lessK l[placeN l k].1 k = false := by
    cases hc : lessK l[placeN l k].1 k with
    | false => rfl
    | true =>
      exfalso
      have := placeN_is (l := l) (k := k) (n := placeN l k) (by omega) (fun j hj => by
        obtain ⟨x, e1, e2⟩ := placeN_ahead hj
        rw [List.getElem?_eq_getElem (by omega)] at e1
        cases e1
        exact e2)
      have hs : ∀ (l : List Pr) (k : Ky) (h : placeN l k < l.length), lessK (l[placeN l k]'h).1 k = false := by
        intro l k
        induction l with
        | nil => intro h; simp at h
        | cons y r ih =>
          intro h
          cases hy : lessK y.1 k with
          | true =>
            have e : placeN (y :: r) k = placeN r k + 1 := by rw [placeN, if_pos hy]
            simp only [e] at h ⊢
            simpa using ih (by simpa using h)
          | false =>
            have e : placeN (y :: r) k = 0 := by rw [placeN, if_neg (by simp [hy])]
            simp only [e]
            simpa using hy
      rw [hs l k hp] at hc
      cases hc
  by_cases he : l[placeN l k].1 = k
  · have hh : hereB l k = true := by rw [hereB_at hp]; simpa using he
    have e : nextN l k = placeN l k + 1 := by unfold nextN; rw [if_pos hh]
    have := h0 (placeN l k) (nextN l k + i) hp (by omega) (by omega)
    rwa [he] at this
  · have h3 := lessK_total h2 he
    have hh : hereB l k = false := by rw [hereB_at hp]; simpa using he
    have e : nextN l k = placeN l k := by unfold nextN; rw [if_neg (by simp [hh])]
    by_cases hi0 : i = 0
    · subst hi0
      simp only [e, Nat.add_zero]
      exact h3
    · exact lessK_trans h3 (h0 (placeN l k) (nextN l k + i) hp (by omega) (by omega))
theorem take_ahead {l : List Pr} {k : Ky} {x : Pr} (hx : x ∈ l.take (placeN l k)) : lessK x.1 k = true := by
  obtain ⟨i, hi, rfl⟩ := List.getElem_of_mem hx
  rw [List.length_take] at hi
  rw [List.getElem_take]
  obtain ⟨x, e1, e2⟩ := placeN_ahead (l := l) (k := k) (i := i) (by omega)
  rw [List.getElem?_eq_getElem (by omega)] at e1
  cases e1
  exact e2
theorem put_rises {l : List Pr} (h : Rises l) (p : Pr) : Rises (putL l p) := by
  unfold putL Rises
  rw [List.pairwise_append, List.pairwise_cons]
  refine ⟨h.sublist (List.take_sublist _ _), ⟨fun x hx => rises_behind h hx, h.sublist (List.drop_sublist _ _)⟩, fun x hx y hy => ?_⟩
  have h1 := take_ahead hx
  rcases List.mem_cons.1 hy with rfl | hy
  · exact h1
  · exact lessK_trans h1 (rises_behind h hy)
theorem drop_rises {l : List Pr} (h : Rises l) (k : Ky) : Rises (dropL l k) := by
  unfold dropL Rises
  rw [List.pairwise_append]
  exact ⟨h.sublist (List.take_sublist _ _), h.sublist (List.drop_sublist _ _), fun x hx y hy => lessK_trans (take_ahead hx) (rises_behind h hy)⟩
/-- What is there behind a put: the pair, and those of other keys. -/
theorem mem_put {l : List Pr} (h : Rises l) (p x : Pr) : x ∈ putL l p ↔ x = p ∨ (x ∈ l ∧ x.1 ≠ p.1) := by
  unfold putL
  rw [List.mem_append, List.mem_cons]
  constructor
  · rintro (hx | rfl | hx)
    · exact .inr ⟨List.mem_of_mem_take hx, fun e => by have := take_ahead hx; rw [e, lessK_irrefl] at this; cases this⟩
    · exact .inl rfl
    · exact .inr ⟨List.mem_of_mem_drop hx, fun e => by have := rises_behind h hx; rw [e, lessK_irrefl] at this; cases this⟩
  · rintro (rfl | ⟨hx, hne⟩)
    · exact .inr (.inl rfl)
    · obtain ⟨i, hi, rfl⟩ := List.getElem_of_mem hx
      by_cases h1 : i < placeN l p.1
      · left
        rw [List.mem_take_iff_getElem]
        exact ⟨i, by omega, rfl⟩
      · right; right
        rw [List.mem_drop_iff_getElem]
        refine ⟨i - nextN l p.1, ?_, ?_⟩
        all_goals
          have hni : nextN l p.1 ≤ i := by
            unfold nextN
            split
            · rename_i hh
              by_cases e : i = placeN l p.1
              · subst e
                rw [hereB_at hi, decide_eq_true_eq] at hh
                exact absurd hh hne
              · omega
            · omega
        · omega
        · congr 1; omega
theorem mem_drop {l : List Pr} (h : Rises l) (k : Ky) (x : Pr) : x ∈ dropL l k ↔ x ∈ l ∧ x.1 ≠ k := by
  have h1 := mem_put h (k, []) x
  unfold putL at h1
  unfold dropL
  rw [List.mem_append, List.mem_cons] at h1
  rw [List.mem_append]
  constructor
  · rintro (hx | hx)
    · exact ⟨List.mem_of_mem_take hx, fun e => by have := take_ahead hx; rw [e, lessK_irrefl] at this; cases this⟩
    · exact ⟨List.mem_of_mem_drop hx, fun e => by have := rises_behind h hx; rw [e, lessK_irrefl] at this; cases this⟩
  · rintro ⟨hx, hne⟩
    rcases h1.2 (.inr ⟨hx, hne⟩) with h2 | h2 | h2
    · exact .inl h2
    · subst h2
      exact absurd rfl hne
    · exact .inr h2
/-- Two rows that rise and have the same pairs are one. -/
theorem rises_same : ∀ {a b : List Pr}, Rises a → Rises b → (∀ x, x ∈ a ↔ x ∈ b) → a = b
  | [], [], _, _, _ => rfl
  | [], y :: b, _, _, h => by simpa using (h y).2 (by simp)
  | x :: a, [], _, _, h => by simpa using (h x).1 (by simp)
  | x :: a, y :: b, ha, hb, h => by
    have h1 := List.pairwise_cons.1 ha
    have h2 := List.pairwise_cons.1 hb
    have irr : ∀ {z : Pr}, lessK z.1 z.1 = true → False := fun {z} e => by rw [lessK_irrefl] at e; cases e
    have exy : x = y := by
      have hx := (h x).1 (by simp)
      have hy := (h y).2 (by simp)
      rcases List.mem_cons.1 hx with e | hx
      · exact e
      · rcases List.mem_cons.1 hy with e | hy
        · exact e.symm
        · exact (irr (lessK_trans (h1.1 _ hy) (h2.1 _ hx))).elim
    subst exy
    congr 1
    refine rises_same h1.2 h2.2 fun z => ?_
    constructor
    · intro hz
      rcases List.mem_cons.1 ((h z).1 (List.mem_cons_of_mem _ hz)) with e | hz2
      · subst e
        exact (irr (h1.1 _ hz)).elim
      · exact hz2
    · intro hz
      rcases List.mem_cons.1 ((h z).2 (List.mem_cons_of_mem _ hz)) with e | hz2
      · subst e
        exact (irr (h2.1 _ hz)).elim
      · exact hz2

/-! ### What the statements ask -/

/-- NodePuts: behind a put. -/
theorem puts_facts {l : List Pr} (h : riseB l = true) (p : Pr) : riseB (putL l p) = true ∧ hereB (putL l p) p.1 = true ∧ placeN (putL l p) p.1 < (putL l p).length ∧ (putL l p)[placeN (putL l p) p.1]? = some p ∧ (putL l p).length = (if hereB l p.1 = true then l.length else l.length + 1) ∧ ∀ x ∈ l, hereB (putL l p) x.1 = true ∧ placeN (putL l p) x.1 < (putL l p).length ∧ (x.1 = p.1 ∨ (putL l p)[placeN (putL l p) x.1]? = some x) := by
  rw [rises_iff] at h
  have h1 := put_rises h p
  have hp := rises_mem h1 ((mem_put h p p).2 (.inl rfl))
  refine ⟨rises_iff.2 h1, hp.1, hereB_lt hp.1, hp.2, putL_length l p, fun x hx => ?_⟩
  by_cases he : x.1 = p.1
  · rw [he]
    exact ⟨hp.1, hereB_lt hp.1, .inl rfl⟩
  · have hx2 := rises_mem h1 ((mem_put h p x).2 (.inr ⟨hx, he⟩))
    exact ⟨hx2.1, hereB_lt hx2.1, .inr hx2.2⟩
theorem here_not {l : List Pr} {k : Ky} (h : ∀ x ∈ l, x.1 ≠ k) : hereB l k = false := by
  cases hh : hereB l k with
  | false => rfl
  | true =>
    obtain ⟨x, hx, he⟩ := here_mem hh
    exact absurd he (h x hx)
/-- NodeDrops: behind a drop. -/
theorem drops_facts {l : List Pr} (h : riseB l = true) {i : Nat} (hi : i < l.length) : riseB (dropL l l[i].1) = true ∧ hereB (dropL l l[i].1) l[i].1 = false ∧ (dropL l l[i].1).length + 1 = l.length ∧ putL (dropL l l[i].1) l[i] = l ∧ dropL (dropL l l[i].1) l[i].1 = dropL l l[i].1 := by
  rw [rises_iff] at h
  have h1 := drop_rises h l[i].1
  have hn : hereB (dropL l l[i].1) l[i].1 = false := here_not fun x hx => ((mem_drop h _ x).1 hx).2
  refine ⟨rises_iff.2 h1, hn, ?_, rises_same (put_rises h1 _) h fun x => ?_, rises_same (drop_rises h1 _) h1 fun x => ?_⟩
  · rw [dropL_length, if_pos (rises_place h hi).2]
    omega
  · rw [mem_put h1, mem_drop h]
    constructor
    · rintro (rfl | ⟨⟨hx, _⟩, _⟩)
      · exact List.getElem_mem hi
      · exact hx
    · intro hx
      by_cases he : x.1 = l[i].1
      · left
        have e1 := (rises_mem h hx).2
        have e2 := (rises_mem h (List.getElem_mem hi)).2
        rw [he, e2] at e1
        exact (Option.some.inj e1).symm
      · exact .inr ⟨⟨hx, he⟩, he⟩
  · rw [mem_drop h1, mem_drop h]
    exact ⟨fun h => h.1, fun h => ⟨h, h.2⟩⟩

/-- Pairs put one behind the other. -/
def putsL (l : List Pr) : List Pr := l.foldl putL []
theorem putsL_succ {l : List Pr} {k : Nat} (hk : k < l.length) : putL (putsL (l.take k)) l[k] = putsL (l.take (k + 1)) := by
  unfold putsL
  rw [List.take_succ_eq_append_getElem hk, List.foldl_append]
  rfl
theorem putsL_le (l : List Pr) : (putsL l).length ≤ l.length := by
  have h : ∀ (l acc : List Pr), (l.foldl putL acc).length ≤ acc.length + l.length := by
    intro l
    induction l with
    | nil => simp
    | cons x r ih =>
      intro acc
      have h1 := ih (putL acc x)
      have h2 := putL_le acc x
      simp only [List.foldl_cons, List.length_cons]
      omega
  have := h l []
  simpa [putsL] using this
/-- The keys of the first k pairs are unlike. -/
def Unlike (l : List Pr) : Prop := l.Pairwise fun x y => x.1 ≠ y.1
theorem puts_all : ∀ (l acc : List Pr), Rises acc → Rises (l.foldl putL acc) ∧ (Unlike l → (∀ x ∈ l, ∀ y ∈ acc, x.1 ≠ y.1) → (l.foldl putL acc).length = acc.length + l.length ∧ ∀ x, x ∈ l.foldl putL acc ↔ x ∈ acc ∨ x ∈ l)
  | [], acc, h => ⟨h, fun _ _ => ⟨rfl, fun x => by simp⟩⟩
  | p :: r, acc, h => by
    obtain ⟨h1, h2⟩ := puts_all r (putL acc p) (put_rises h p)
    refine ⟨h1, fun hu hx => ?_⟩
    have hu' := List.pairwise_cons.1 hu
    have hp : ∀ y ∈ acc, y.1 ≠ p.1 := fun y hy e => hx p (by simp) y hy e.symm
    obtain ⟨h3, h4⟩ := h2 hu'.2 (fun x hxr y hy => by
      rcases (mem_put h p y).1 hy with rfl | ⟨hy, _⟩
      · exact fun e => hu'.1 x hxr e.symm
      · exact hx x (List.mem_cons_of_mem _ hxr) y hy)
    simp only [List.foldl_cons]
    refine ⟨?_, fun x => ?_⟩
    · rw [h3, putL_length, if_neg (by rw [here_not hp]; simp), List.length_cons]
      omega
    · rw [h4, mem_put h, List.mem_cons]
      constructor
      · rintro ((rfl | ⟨hx, _⟩) | hx)
        · exact .inr (.inl rfl)
        · exact .inl hx
        · exact .inr (.inr hx)
      · rintro (hx | rfl | hx)
        · exact .inl (.inr ⟨hx, hp x hx⟩)
        · exact .inl (.inl rfl)
        · exact .inr hx
/-- NodeOrder: pairs of unlike keys, put in either order. -/
theorem order_facts {l : List Pr} (hu : Unlike l) : putsL l = putsL l.reverse ∧ riseB (putsL l) = true ∧ (putsL l).length = l.length := by
  have hr : Unlike l.reverse := by
    unfold Unlike
    rw [List.pairwise_reverse]
    exact hu.imp fun h e => h e.symm
  obtain ⟨a1, a2⟩ := puts_all l [] List.Pairwise.nil
  obtain ⟨b1, b2⟩ := puts_all l.reverse [] List.Pairwise.nil
  obtain ⟨a3, a4⟩ := a2 hu (by simp)
  obtain ⟨b3, b4⟩ := b2 hr (by simp)
  refine ⟨rises_same a1 b1 fun x => (a4 x).trans (Iff.trans (by simp) (b4 x).symm), rises_iff.2 a1, ?_⟩
  unfold putsL
  rw [a3]
  simp
theorem levA_le (l : List Pr) (most : Int) : (levA l most).length ≤ l.length := by
  unfold levA
  split
  · simp
  · split
    · exact Nat.le_refl _
    · rw [List.length_take]; omega
theorem levB_le (l : List Pr) (most : Int) : (levB l most).length ≤ l.length := by
  unfold levB
  split
  · simp
  · split
    · simp
    · rw [List.length_drop]; omega
theorem levAB (l : List Pr) {most : Int} (h : ¬ most < 1) : levA l most ++ levB l most = l := by
  unfold levA levB
  rw [if_neg h, if_neg h]
  split
  · simp
  · simp

end Go.Proofs.Ytgbicdbmmjleoaa
