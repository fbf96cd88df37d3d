/-
  The texts of one folder in one: CuSpec, CuMath, CuFns, CuSpans, CuState, CuHere, CuStep, CuNew, CuPrs.
-/
import Derived.Test.YtaaabmnaindgaaaGreatDoorPks10
import Derived.Test.YtaaabmnaindgaaaGreatDoorPks02
import Derived.Test.YtaaabmnaindgaaaGreatDoorPks08
import Derived.Test.YtaaabmnaindgaaaGreatDoorPks09
import Derived.Test.YtaaabmnaindgaaaGreatDoorShelf
import Derived.Test.YtaaabmnaindgaaaGreatDoorPkbase
import Derived.WalkMore
import Derived.Deep.RegionLaw
import Derived.Deep.DeepCutAuto
import Derived.Deep.RegionHeld3

/-
  The plain functions of layer 11 (cursor): the keys at which a cursor is, the pairs that it tells, and how it gets from one to the next. No program is named here.
-/
namespace Go.Proofs.YtaaabmnaindgaaaGreatDoor

/-- The key that no other one of that path stands ahead of. -/
def cuFirst (s : List UInt8) : Ky := (s, 9223372036854775807)
def cuPast (s : List UInt8) : Ky := (s ++ [0], 9223372036854775807)
def cuBehind (k : Ky) : Ky := if k.2 = -9223372036854775808 then cuPast k.1 else (k.1, k.2 - 1)
def cuLater (a b : Ky) : Ky := if lessK a b = true then b else a
/-- The time is a number of the program's. -/
def TimeK (k : Ky) : Prop := -9223372036854775808 ≤ k.2 ∧ k.2 ≤ 9223372036854775807
def TimesK (l : List Pr) : Prop := ∀ x ∈ l, TimeK x.1

/-! ### Bytes, keys -/

theorem less_zero : ∀ p s : List UInt8, Op.bytesLess p (s ++ [0]) = !(Op.bytesLess s p)
  | [], [] => rfl
  | [], _ :: _ => rfl
  | x :: p, [] => by
    have h : ¬ x < 0 := by
      intro h
      have := UInt8.lt_iff_toNat_lt.1 h
      simp at this
    cases p <;> simp [Op.bytesLess, h]
  | x :: p, y :: s => by
    have ih := less_zero p s
    rw [List.cons_append, Op.bytesLess, Op.bytesLess, ih]
    by_cases h1 : x < y
    · have h2 : ¬ y < x := fun h => UInt8.lt_irrefl _ (UInt8.lt_trans h1 h)
      have h3 : y ≠ x := fun e => by subst e; exact UInt8.lt_irrefl _ h1
      simp [h1, h2, h3]
    · by_cases h2 : y < x
      · have h3 : x ≠ y := fun e => by subst e; exact UInt8.lt_irrefl _ h2
        simp [h1, h2, h3]
      · obtain rfl : x = y := UInt8.le_antisymm (UInt8.not_lt.1 h2) (UInt8.not_lt.1 h1)
        simp [h1]
theorem lessK_eq (a b : Ky) : lessK a b = (Op.bytesLess a.1 b.1 || (a.1 == b.1) && decide (b.2 < a.2)) := lessK_ahead a b
theorem less_cuFirst {x : Ky} (h : TimeK x) (s : List UInt8) : lessK x (cuFirst s) = Op.bytesLess x.1 s := by
  have : ¬ (9223372036854775807 : Int) < x.2 := by have := h.2; omega
  rw [lessK_eq]
  simp [cuFirst, this]
theorem less_cuPast {x : Ky} (h : TimeK x) (s : List UInt8) : lessK x (cuPast s) = !(Op.bytesLess s x.1) := by
  have : ¬ (9223372036854775807 : Int) < x.2 := by have := h.2; omega
  rw [lessK_eq, ← less_zero]
  simp [cuPast, this]
theorem less_cuBehind {x : Ky} (h : TimeK x) (k : Ky) : lessK x (cuBehind k) = !(lessK k x) := by
  unfold cuBehind
  split
  · rename_i h1
    rw [less_cuPast h, lessK_eq k x]
    have : ¬ x.2 < k.2 := by have := h.1; omega
    simp [this]
  · rw [lessK_eq, lessK_eq k x]
    cases h1 : Op.bytesLess x.1 k.1 with
    | true =>
      have h2 := less_asymm h1
      have h3 : ¬ k.1 = x.1 := fun e => by rw [e, less_irrefl] at h1; cases h1
      simp [h2, h3]
    | false =>
      by_cases he : x.1 = k.1
      · rw [he, less_irrefl]
        by_cases hx : x.2 < k.2
        · have : ¬ k.2 - 1 < x.2 := by omega
          simp [hx, this]
        · have : k.2 - 1 < x.2 := by omega
          simp [hx, this]
      · have := less_total h1 he
        simp [this, he]
theorem less_le {a b c : Ky} (h1 : lessK a b = true) (h2 : lessK c b = false) : lessK a c = true := by
  by_cases he : c = b
  · rw [he]; exact h1
  · exact lessK_trans h1 (lessK_total h2 he)
theorem less_cuLater (x a b : Ky) : lessK x (cuLater a b) = (lessK x a || lessK x b) := by
  unfold cuLater
  split
  · rename_i h
    cases hx : lessK x a with
    | true => simp [lessK_trans hx h]
    | false => rfl
  · rename_i h
    have h : lessK a b = false := by simpa using h
    cases hx : lessK x b with
    | true => simp [less_le hx h]
    | false => simp
theorem cuLater_le (a b : Ky) : lessK (cuLater a b) b = false := by
  unfold cuLater
  split
  · exact lessK_irrefl b
  · rename_i h
    simpa using h

/-! ### Places -/

theorem place_same {U : List Pr} {a b : Ky} (h : ∀ x ∈ U, lessK x.1 a = lessK x.1 b) : placeN U a = placeN U b := by
  induction U with
  | nil => rfl
  | cons x r ih =>
    unfold placeN
    rw [h x (by simp), ih (fun y hy => h y (List.mem_cons_of_mem _ hy))]
theorem tail_nil {L : List Pr} {k : Ky} (h : tailL L k = []) : ∀ x ∈ L, lessK x.1 k = true := by
  intro x hx
  unfold tailL at h
  have h1 := List.drop_eq_nil_iff.1 h
  exact take_ahead (l := L) (k := k) (by rw [List.take_of_length_le h1]; exact hx)
theorem tail_cons {L : List Pr} (hr : Rises L) {k : Ky} {x : Pr} {r : List Pr} (h : tailL L k = x :: r) : x ∈ L ∧ lessK x.1 k = false ∧ (∀ y ∈ L, lessK y.1 k = false → y = x ∨ lessK x.1 y.1 = true) ∧ L[placeN L k]? = some x := by
  unfold tailL at h
  have hlt : placeN L k < L.length := by
    rcases Nat.lt_or_ge (placeN L k) L.length with h1 | h1
    · exact h1
    · rw [List.drop_eq_nil_of_le h1] at h
      cases h
  have hg := List.drop_eq_getElem_cons hlt
  rw [h] at hg
  obtain ⟨hx, hrr⟩ := List.cons.inj hg
  have hsplit : L = L.take (placeN L k) ++ x :: r := by rw [← h, List.take_append_drop]
  refine ⟨by rw [hsplit]; simp, ?_, fun y hy hk => ?_, by rw [List.getElem?_eq_getElem hlt, hx]⟩
  · cases hl : lessK x.1 k with
    | false => rfl
    | true =>
      exfalso
      have h2 := placeN_append (fun y hy => take_ahead (l := L) (k := k) hy) (x :: r)
      rw [← hsplit] at h2
      unfold placeN at h2
      rw [if_pos hl, List.length_take] at h2
      have := placeN_le L k
      rw [placeN.eq_def L k] at *
      omega
  · rw [hsplit] at hy hr
    rcases List.mem_append.1 hy with hy | hy
    · rw [take_ahead hy] at hk
      cases hk
    · rcases List.mem_cons.1 hy with hy | hy
      · exact .inl hy
      · exact .inr ((List.pairwise_cons.1 (List.pairwise_append.1 hr).2.1).1 y hy)
theorem place_more {L : List Pr} (hr : Rises L) {k k' : Ky} {x : Pr} (hx : L[placeN L k]? = some x) (h : lessK x.1 k' = true) : placeN L k < placeN L k' := by
  rcases Nat.lt_or_ge (placeN L k) (placeN L k') with h1 | h1
  · exact h1
  · exfalso
    obtain ⟨hlt, hx⟩ := List.getElem?_eq_some_iff.1 hx
    have hlt' : placeN L k' < L.length := by omega
    obtain ⟨_, h3, _, h4⟩ := tail_cons hr (show tailL L k' = L[placeN L k'] :: L.drop (placeN L k' + 1) from List.drop_eq_getElem_cons hlt')
    rcases Nat.lt_or_eq_of_le h1 with h5 | h5
    · have h6 := List.pairwise_iff_getElem.1 hr _ _ hlt' hlt h5
      rw [hx] at h6
      rw [lessK_trans h6 h] at h3
      cases h3
    · simp only [h5, hx] at h3
      rw [h] at h3
      cases h3

/-! ### The pairs of a cursor -/

abbrev Spn := Ky × Ky
/-- The key stands in the span. -/
def inB (x : Ky) (s : Spn) : Bool := !(lessK x s.1) && lessK x s.2
/-- The pairs that a cursor tells: those whose path is put out, in one of its spans. -/
def cuL (L : List Pr) (S : List Spn) (P : List UInt8 → Bool) : List Pr := L.filter fun x => P x.1.1 && S.any (inB x.1)
/-- The spans begin one behind the other. -/
def SpsRise (S : List Spn) : Prop := ∀ (i j : Nat) (_ : i ≤ j) (h : j < S.length), lessK S[j].1 (S[i]'(by omega)).1 = false
theorem cuL_rises {L : List Pr} (h : Rises L) (S : List Spn) (P : List UInt8 → Bool) : Rises (cuL L S P) := List.Pairwise.filter _ h
theorem cuL_le (L : List Pr) (S : List Spn) (P : List UInt8 → Bool) : (cuL L S P).length ≤ L.length := List.length_filter_le _ _
theorem mem_cuL {L : List Pr} {S : List Spn} {P : List UInt8 → Bool} {x : Pr} : x ∈ cuL L S P ↔ x ∈ L ∧ P x.1.1 = true ∧ ∃ s ∈ S, inB x.1 s = true := by
  unfold cuL
  rw [List.mem_filter, Bool.and_eq_true, List.any_eq_true]
/-- Behind i spans: the place is the same, and nothing that is still to come is in one of them. -/
def Been (L : List Pr) (S : List Spn) (P : List UInt8 → Bool) (at0 k : Ky) (i : Nat) : Prop :=
  (∀ x ∈ cuL L S P, lessK x.1 k = lessK x.1 at0) ∧ ∀ x ∈ L, lessK x.1 k = false → ∀ (j : Nat) (h : j < S.length), j < i → inB x.1 S[j] = false
theorem been_start (L : List Pr) (S : List Spn) (P : List UInt8 → Bool) (k : Ky) : Been L S P k k 0 := ⟨fun _ _ => rfl, fun _ _ _ _ _ h => by omega⟩
theorem Been.place {L : List Pr} {S : List Spn} {P : List UInt8 → Bool} {at0 k : Ky} {i : Nat} (h : Been L S P at0 k i) : placeN (cuL L S P) k = placeN (cuL L S P) at0 := place_same h.1
/-- What is in a span from the i-th one on doesn't stand ahead of where that one begins. -/
theorem Been.from {L : List Pr} {S : List Spn} {P : List UInt8 → Bool} {at0 k : Ky} {i : Nat} (h : Been L S P at0 k i) (hS : SpsRise S) (hi : i < S.length) {x : Pr} (hx : x ∈ cuL L S P) (hk : lessK x.1 k = false) : lessK x.1 S[i].1 = false := by
  obtain ⟨hL, _, s, hs, hin⟩ := mem_cuL.1 hx
  obtain ⟨j, hj, rfl⟩ := List.getElem_of_mem hs
  rcases Nat.lt_or_ge j i with h1 | h1
  · rw [h.2 x hL hk j hj h1] at hin
    cases hin
  · unfold inB at hin
    rw [Bool.and_eq_true, Bool.not_eq_true'] at hin
    cases hl : lessK x.1 S[i].1 with
    | false => rfl
    | true =>
      rw [less_le hl (hS i j h1 hj)] at hin
      cases hin.1
theorem Been.later {L : List Pr} {S : List Spn} {P : List UInt8 → Bool} {at0 k : Ky} {i : Nat} (h : Been L S P at0 k i) (hS : SpsRise S) (hi : i < S.length) : Been L S P at0 (cuLater k S[i].1) i := by
  refine ⟨fun x hx => ?_, fun x hx hk j hj hji => ?_⟩
  · rw [less_cuLater, ← h.1 x hx]
    cases hk : lessK x.1 k with
    | true => rfl
    | false => rw [h.from hS hi hx hk]; rfl
  · rw [less_cuLater, Bool.or_eq_false_iff] at hk
    exact h.2 x hx hk.1 j hj hji
theorem Been.next {L : List Pr} {S : List Spn} {P : List UInt8 → Bool} {at0 k : Ky} {i : Nat} (h : Been L S P at0 k i) (hi : i < S.length) (hb : ∀ x ∈ L, lessK x.1 k = false → lessK x.1 S[i].2 = false) : Been L S P at0 k (i + 1) := by
  refine ⟨h.1, fun x hx hk j hj hji => ?_⟩
  rcases Nat.lt_or_ge j i with h1 | h1
  · exact h.2 x hx hk j hj h1
  · obtain rfl : j = i := by omega
    unfold inB
    rw [hb x hx hk, Bool.and_false]
theorem Been.past {L : List Pr} (hr : Rises L) (ht : TimesK L) {S : List Spn} {P : List UInt8 → Bool} {at0 k : Ky} {i : Nat} (h : Been L S P at0 k i) {x : Pr} {r : List Pr} (hx : tailL L k = x :: r) (hP : P x.1.1 = false) : Been L S P at0 (cuPast x.1.1) i ∧ placeN L k < placeN L (cuPast x.1.1) := by
  obtain ⟨hm, hk, hb, hg⟩ := tail_cons hr hx
  have hle : ∀ y ∈ L, lessK y.1 (cuPast x.1.1) = false → lessK y.1 k = false := by
    intro y hy h1
    rw [less_cuPast (ht y hy)] at h1
    cases hl : lessK y.1 k with
    | false => rfl
    | true =>
      have h2 := less_le hl hk
      rw [lessK_eq] at h2
      simp only [Bool.not_eq_false'] at h1
      have h3 := less_asymm h1
      have h4 : ¬ y.1.1 = x.1.1 := fun e => by rw [e, less_irrefl] at h1; cases h1
      simp [h3, h4] at h2
  refine ⟨⟨fun y hy => ?_, fun y hy h1 j hj hji => h.2 y hy (hle y hy h1) j hj hji⟩, place_more hr hg ?_⟩
  · have hyL := (mem_cuL.1 hy).1
    rw [← h.1 y hy]
    cases hl : lessK y.1 k with
    | true =>
      cases h2 : lessK y.1 (cuPast x.1.1) with
      | true => rfl
      | false => rw [hle y hyL h2] at hl; cases hl
    | false =>
      rw [less_cuPast (ht y hyL)]
      have hne : y.1.1 ≠ x.1.1 := fun e => by
        have := (mem_cuL.1 hy).2.1
        rw [e, hP] at this
        cases this
      rcases hb y hyL hl with e | h2
      · exact absurd (by rw [e]) hne
      · rw [lessK_eq] at h2
        have h3 : ¬ x.1.1 = y.1.1 := fun e => hne e.symm
        simp [h3] at h2
        simp [h2]
  · rw [less_cuPast (ht x hm), less_irrefl]
    rfl
/-- The pair that is met is the one at the place. -/
theorem Been.here {L : List Pr} (hr : Rises L) {S : List Spn} {P : List UInt8 → Bool} {at0 k : Ky} {i : Nat} (h : Been L S P at0 k i) (hi : i < S.length) (hf : lessK k S[i].1 = false) {x : Pr} {r : List Pr} (hx : tailL L k = x :: r) (ht : lessK x.1 S[i].2 = true) (hP : P x.1.1 = true) : (cuL L S P)[placeN (cuL L S P) at0]? = some x := by
  obtain ⟨hm, hk, hb, _⟩ := tail_cons hr hx
  have hin : lessK x.1 S[i].1 = false := by
    cases hl : lessK x.1 S[i].1 with
    | false => rfl
    | true => rw [less_le hl hf] at hk; cases hk
  have hU : x ∈ cuL L S P := mem_cuL.2 ⟨hm, hP, S[i], List.getElem_mem hi, by unfold inB; rw [hin, ht]; rfl⟩
  have h1 := (rises_mem (cuL_rises hr S P) hU).2
  rw [← h.place]
  rw [show placeN (cuL L S P) k = placeN (cuL L S P) x.1 from place_same fun y hy => ?_]
  · exact h1
  · cases hl : lessK y.1 k with
    | true => rw [less_le hl hk]
    | false =>
      rcases hb y (mem_cuL.1 hy).1 hl with e | h2
      · rw [e, lessK_irrefl]
      · rw [lessK_asymm h2]
theorem Been.end {L : List Pr} {S : List Spn} {P : List UInt8 → Bool} {at0 k : Ky} (h : Been L S P at0 k S.length) : placeN (cuL L S P) at0 = (cuL L S P).length := by
  rw [← h.place]
  refine placeN_full fun x hx => ?_
  cases hl : lessK x.1 k with
  | true => rfl
  | false =>
    obtain ⟨hL, _, s, hs, hin⟩ := mem_cuL.1 hx
    obtain ⟨j, hj, rfl⟩ := List.getElem_of_mem hs
    rw [h.2 x hL hl j hj hj] at hin
    cases hin

end Go.Proofs.YtaaabmnaindgaaaGreatDoor

/-
  What follows of the plain functions of layer 11: from one pair to the next; which pairs are under a path. No program is named here.
-/
namespace Go.Proofs.YtaaabmnaindgaaaGreatDoor

/-! ### From one pair to the next -/

theorem next_place {U : List Pr} (hr : Rises U) (ht : TimesK U) {i : Nat} (hi : i < U.length) : placeN U (cuBehind U[i].1) = i + 1 := by
  refine placeN_is (by omega) (fun j hj => ?_) (fun h => ?_)
  · rw [less_cuBehind (ht _ (List.getElem_mem _))]
    rcases Nat.lt_or_eq_of_le (Nat.le_of_lt_succ hj) with h | h
    · rw [lessK_asymm (List.pairwise_iff_getElem.1 hr j i _ _ h)]
      rfl
    · subst h
      rw [lessK_irrefl]
      rfl
  · rw [less_cuBehind (ht _ (List.getElem_mem _)), List.pairwise_iff_getElem.1 hr i (i + 1) hi h (by omega)]
    rfl
theorem skip_place {U : List Pr} (hr : Rises U) (ht : TimesK U) {i j : Nat} (hi : i < U.length) (hij : i ≤ j) (hj : j ≤ U.length) (h1 : ∀ (q : Nat) (h : q < U.length), i ≤ q → q < j → U[q].1.1 = U[i].1.1) (h2 : ∀ h : j < U.length, U[j].1.1 ≠ U[i].1.1) : placeN U (cuPast U[i].1.1) = j := by
  refine placeN_is hj (fun q hq => ?_) (fun h => ?_)
  · rw [less_cuPast (ht _ (List.getElem_mem _))]
    rcases Nat.lt_or_ge q i with h | h
    · have h3 := List.pairwise_iff_getElem.1 hr q i (by omega) hi h
      rw [lessK_eq] at h3
      cases h4 : Op.bytesLess U[i].1.1 U[q].1.1 with
      | false => rfl
      | true =>
        rw [less_asymm h4] at h3
        have h5 : ¬ U[q].1.1 = U[i].1.1 := fun e => by rw [e, less_irrefl] at h4; cases h4
        simp [h5] at h3
    · rw [h1 q (by omega) h hq, less_irrefl]
      rfl
  · rw [less_cuPast (ht _ (List.getElem_mem _))]
    have hne := h2 h
    have hlt : i < j := Nat.lt_of_le_of_ne hij fun e => by subst e; exact hne rfl
    have h3 := List.pairwise_iff_getElem.1 hr i j hi h hlt
    rw [lessK_eq] at h3
    have h5 : ¬ U[i].1.1 = U[j].1.1 := fun e => hne e.symm
    simp [h5] at h3
    simp [h3]
theorem TimesK.sub {L U : List Pr} (h : TimesK L) (hs : ∀ x ∈ U, x ∈ L) : TimesK U := fun x hx => h x (hs x hx)
theorem TimesK.cuL {L : List Pr} (h : TimesK L) (S : List Spn) (P : List UInt8 → Bool) : TimesK (cuL L S P) := h.sub fun _ hx => (mem_cuL.1 hx).1

/-! ### Under a path -/

def spansOf (d : List UInt8) : List Spn := if d = [] then [(cuFirst [], cuFirst (List.replicate 101 255))] else [(cuFirst d, cuPast d), (cuFirst (d ++ [47]), cuFirst (d ++ [48]))]
def underL (L : List Pr) (d : List UInt8) : List Pr := L.filter fun x => underOf d x.1.1
theorem gl_app2 : ∀ (a : List (List UInt8)) (x y : List UInt8) (r : List (List UInt8)), gl (x :: a ++ y :: r) = gl (x :: a) ++ 47 :: gl (y :: r)
  | [], x, y, r => by simp [gl]
  | z :: a, x, y, r => by
    have ih := gl_app2 a z y r
    show gl (x :: (z :: a ++ y :: r)) = gl (x :: z :: a) ++ 47 :: gl (y :: r)
    rw [List.cons_append] at ih
    rw [List.cons_append, gl, ih, gl, List.append_assoc, List.cons_append]
theorem under_form {d p : List UInt8} (h : underOf d p = true) (h0 : d ≠ []) : p = d ∨ ∃ r, p = d ++ 47 :: r := by
  obtain ⟨a, b, ha, hb, c, rfl⟩ := under_iff.1 h
  obtain ⟨_, hga, _⟩ := names_fine ha
  obtain ⟨_, hgb, _⟩ := names_fine hb
  cases c with
  | nil =>
    left
    rw [← hgb, ← hga, List.append_nil]
  | cons y r =>
    cases a with
    | nil => exact absurd hga.symm h0
    | cons x a =>
      right
      rw [← hgb, ← hga, gl_app2]
      exact ⟨_, rfl⟩
theorem under_len {d p : List UInt8} (h : underOf d p = true) : p.length ≤ 100 := by
  obtain ⟨a, b, _, hb, _⟩ := under_iff.1 h
  exact (names_fine hb).2.2
theorem less_full : ∀ (p : List UInt8) (n : Nat), p.length < n → Op.bytesLess p (List.replicate n 255) = true
  | _, 0, h => by omega
  | [], n + 1, _ => rfl
  | x :: p, n + 1, h => by
    rw [List.replicate_succ, Op.bytesLess, less_full p n (by simpa using h)]
    by_cases hx : x = 255
    · subst hx; rfl
    · have : x < 255 := by
        rw [UInt8.lt_iff_toNat_lt]
        have h1 := x.toNat_lt
        have h2 : x.toNat ≠ 255 := fun e => hx (UInt8.toNat_inj.1 e)
        show x.toNat < 255
        omega
      simp [this]
theorem less_app (d : List UInt8) : ∀ a b : List UInt8, Op.bytesLess (d ++ a) (d ++ b) = Op.bytesLess a b := by
  induction d with
  | nil => intro a b; rfl
  | cons x d ih => intro a b; simp [Op.bytesLess, ih]
theorem spans_any {d : List UInt8} {x : Ky} (hx : TimeK x) (h : underOf d x.1 = true) : (spansOf d).any (inB x) = true := by
  unfold spansOf
  split
  · rename_i h0
    have h1 := under_len h
    simp only [List.any_cons, List.any_nil, Bool.or_false]
    unfold inB
    rw [less_cuFirst hx, less_cuFirst hx, less_full x.1 101 (by omega)]
    cases x.1 <;> rfl
  · rename_i h0
    simp only [List.any_cons, List.any_nil, Bool.or_false, Bool.or_eq_true]
    rcases under_form h h0 with e | ⟨r, e⟩
    · left
      unfold inB
      rw [less_cuFirst hx, less_cuPast hx, e, less_irrefl]
      rfl
    · right
      unfold inB
      rw [less_cuFirst hx, less_cuFirst hx, e, less_app, less_app]
      cases r <;> rfl
theorem cuL_under {L : List Pr} (ht : TimesK L) (d : List UInt8) : cuL L (spansOf d) (underOf d) = underL L d := by
  unfold cuL underL
  refine List.filter_congr fun x hx => ?_
  cases h : underOf d x.1.1 with
  | false => rfl
  | true => rw [spans_any (ht x hx) h]; rfl
theorem under_first {L : List Pr} (ht : TimesK L) (d : List UInt8) : placeN (underL L d) (cuFirst d) = 0 := by
  refine placeN_zero fun x hx => ?_
  obtain ⟨hL, hu⟩ := List.mem_filter.1 hx
  rw [less_cuFirst (ht x hL)]
  by_cases h0 : d = []
  · subst h0
    cases x.1.1 <;> rfl
  · rcases under_form hu h0 with e | ⟨r, e⟩
    · rw [e]
      exact less_irrefl d
    · rw [e]
      exact less_asymm (ahead_app d 47 r)
theorem spans_rise (d : List UInt8) : SpsRise (spansOf d) := by
  unfold spansOf
  split
  · intro i j hij hj
    have e1 : j = 0 := by simpa using hj
    subst e1
    obtain rfl : i = 0 := by omega
    exact lessK_irrefl _
  · intro i j hij hj
    have hj2 : j < 2 := by simpa using hj
    have h3 : (i = 0 ∧ j = 0) ∨ (i = 1 ∧ j = 1) ∨ (i = 0 ∧ j = 1) := by omega
    rcases h3 with ⟨rfl, rfl⟩ | ⟨rfl, rfl⟩ | ⟨rfl, rfl⟩
    · exact lessK_irrefl _
    · exact lessK_irrefl _
    · show lessK (cuFirst (d ++ [47])) (cuFirst d) = false
      rw [less_cuFirst ⟨by simp [cuFirst], by simp [cuFirst]⟩]
      exact less_asymm (ahead_app d 47 [])
end Go.Proofs.YtaaabmnaindgaaaGreatDoor

/-
  cursor: first, past, behind, later.
-/
namespace Go.Proofs.YtaaabmnaindgaaaGreatDoor
set_option maxRecDepth 100000
open Go.RowKit

/-- A key as a value. -/
abbrev KV (k : Ky) : Value := .agg #[.string ⟨k.1.toArray⟩, .int .i64 k.2]

theorem cFirst_calls (s : List UInt8) (w : World) : Calls Tryz.prog 72 #[.string ⟨s.toArray⟩] w fun e w' => e = .returned (.agg #[.string ⟨s.toArray⟩, .int .i64 9223372036854775807]) ∧ Below w.heap.size w w' := by
  go_enter Tryz.func72, Tryz.ntmps72
  go_wp2_with fail
  obtain ⟨d0, d1, _⟩ := (Cx.new w 65 [.string ⟨s.toArray⟩, .int .i64 9223372036854775807]).two
  refine ret_key (p := 2) (by kernel_rfl) rfl w.heap.size _ _ rfl d0 d1 ?_
  exact ⟨rfl, below_alloc _ _⟩
set_option maxHeartbeats 1000000 in
theorem cPast_calls (s : List UInt8) (hs : s.length ≤ 1000000) (w : World) : Calls Tryz.prog 76 #[.string ⟨s.toArray⟩] w fun e w' => e = .returned (.agg #[.string ⟨(s ++ [0]).toArray⟩, .int .i64 9223372036854775807]) ∧ Below w.heap.size w w' := by
  have K := Lib.hid (fun W => cFirst_calls (s ++ [0]) W)
  have hC := Cx.new w 65 [.string ⟨#[]⟩, .int .i64 0]
  have HA : ByteArray.mk s.toArray ++ ByteArray.mk #[0] = ⟨(s ++ [0]).toArray⟩ := app_mk s [0]
  have hz : ¬ 9223372036854775807 < s.length + 1 := by omega
  go_enter Tryz.func76, Tryz.ntmps76
  go_wp2_with fail
  refine (K.out _).mono ?_
  rintro e w1 ⟨rfl, hB1⟩
  have hC1 := hC.below hB1
  obtain ⟨c0, c1, f0, f1, _⟩ := hC1.two
  go_wp2_with fail
  obtain ⟨d0, d1, _⟩ := (hC1.sets (.string ⟨(s ++ [0]).toArray⟩) (.int .i64 9223372036854775807)).two
  refine ret_key (p := 2) (by kernel_rfl) rfl w.heap.size _ _ rfl d0 d1 ?_
  exact ⟨rfl, below_sets (below2 (below_alloc _ _) hB1) (Nat.le_refl _) _ _⟩
theorem cuBehind_min (p : List UInt8) : cuBehind (p, -9223372036854775808) = (p ++ [0], 9223372036854775807) := by simp [cuBehind, cuPast]
theorem cuBehind_more (p : List UInt8) {n : Int} (h : n ≠ -9223372036854775808) : cuBehind (p, n) = (p, n - 1) := by simp [cuBehind, h]
set_option maxHeartbeats 2000000 in
theorem cBehind_calls (p : List UInt8) (n : Int) (hp : p.length ≤ 1000000) (hn : TimeK (p, n)) (w : World) : Calls Tryz.prog 79 #[.agg #[.string ⟨p.toArray⟩, .int .i64 n]] w fun e w' => e = .returned (KV (cuBehind (p, n))) ∧ Below w.heap.size w w' := by
  obtain ⟨h1, h2⟩ := hn
  dsimp only at h1 h2
  have hB0 := below_alloc w (.cells #[.string ⟨p.toArray⟩, .int .i64 n] 65)
  obtain ⟨k0, k1, _⟩ := (kbox_new w p n).two
  by_cases he : n = -9223372036854775808
  · subst he
    have K := Lib.hid (fun W => cPast_calls p hp W)
    have H := Lib.hid (cuBehind_min p)
    have hC := Cx.new (w.alloc (.cells #[.string ⟨p.toArray⟩, .int .i64 (-9223372036854775808)] 65)) 65 [.string ⟨#[]⟩, .int .i64 0]
    rw [World.size_alloc] at hC
    clear h1 h2
    go_enter Tryz.func79, Tryz.ntmps79
    go_wp2_with fail
    refine (K.out _).mono ?_
    rintro e w1 ⟨rfl, hB1⟩
    have hC1 := hC.below hB1
    obtain ⟨c0, c1, f0, f1, _⟩ := hC1.two
    go_wp2_with fail
    obtain ⟨d0, d1, _⟩ := (hC1.sets (.string ⟨(p ++ [0]).toArray⟩) (.int .i64 9223372036854775807)).two
    refine ret_key (p := 2) (by kernel_rfl) rfl (w.heap.size + 1) _ _ rfl d0 d1 ?_
    rw [H.out]
    exact ⟨rfl, below_sets (below2 (below_alloc2 _ _ _) hB1) (by omega) _ _⟩
  · have hne : decide (n = -9223372036854775808) = false := by rw [decide_eq_false_iff_not]; exact he
    have H := Lib.hid (cuBehind_more p he)
    have hlo : -9223372036854775808 ≤ n - 1 := by omega
    have hC := Cx.new (w.alloc (.cells #[.string ⟨p.toArray⟩, .int .i64 n] 65)) 65 [.string ⟨p.toArray⟩, .int .i64 (n - 1)]
    rw [World.size_alloc] at hC
    clear he
    go_enter Tryz.func79, Tryz.ntmps79
    go_wp2_with fail
    obtain ⟨d0, d1, _⟩ := hC.two
    refine ret_key (p := 2) (by kernel_rfl) rfl (w.heap.size + 1) _ _ rfl d0 d1 ?_
    rw [H.out]
    exact ⟨rfl, below_alloc2 _ _ _⟩
set_option maxHeartbeats 2000000 in
theorem cLater_calls (a b : Ky) (w : World) : Calls Tryz.prog 105 #[KV a, KV b] w fun e w' => e = .returned (KV (cuLater a b)) ∧ Below w.heap.size w w' := by
  obtain ⟨p, n⟩ := a
  obtain ⟨q, m⟩ := b
  dsimp only [KV]
  have K := Lib.hid (fun W => kLess_calls p q n m W)
  have hX := (kbox_new w p n).below (below_alloc2 _ (.cells #[.string ⟨q.toArray⟩, .int .i64 m] 65) (.cells #[.string ⟨#[]⟩, .int .i64 0] 65))
  have hY := (kbox_new (w.alloc (.cells #[.string ⟨p.toArray⟩, .int .i64 n] 65)) q m).below (below_alloc _ (.cells #[.string ⟨#[]⟩, .int .i64 0] 65))
  have hC := Cx.new ((w.alloc (.cells #[.string ⟨p.toArray⟩, .int .i64 n] 65)).alloc (.cells #[.string ⟨q.toArray⟩, .int .i64 m] 65)) 65 [.string ⟨#[]⟩, .int .i64 0]
  have hB3 := below_alloc3 w (.cells #[.string ⟨p.toArray⟩, .int .i64 n] 65) (.cells #[.string ⟨q.toArray⟩, .int .i64 m] 65) (.cells #[.string ⟨#[]⟩, .int .i64 0] 65)
  simp only [World.size_alloc] at hC hY
  have HC := Lib.hid (And.intro hX (And.intro hY (And.intro hC hB3)))
  clear hX hY hC hB3
  cases hl : lessK (p, n) (q, m) with
  | true =>
    rw [hl] at K
    have H := Lib.hid (show cuLater (p, n) (q, m) = (q, m) by simp [cuLater, hl])
    clear hl
    go_enter Tryz.func105, Tryz.ntmps105
    go_wp2_with fail
    refine (K.out _).mono ?_
    rintro e w1 ⟨rfl, hB1⟩
    have hC1 := HC.out.2.2.1.below hB1
    obtain ⟨c0, c1, f0, f1, _⟩ := hC1.two
    obtain ⟨y0, y1, _⟩ := (HC.out.2.1.below hB1).two
    go_wp2_with fail
    obtain ⟨d0, d1, _⟩ := (hC1.sets (.string ⟨q.toArray⟩) (.int .i64 m)).two
    refine ret_key (p := 4) (by kernel_rfl) rfl (w.heap.size + 1 + 1) _ _ rfl d0 d1 ?_
    rw [H.out]
    exact ⟨rfl, below_sets (below2 HC.out.2.2.2 hB1) (by omega) _ _⟩
  | false =>
    rw [hl] at K
    have H := Lib.hid (show cuLater (p, n) (q, m) = (p, n) by simp [cuLater, hl])
    clear hl
    go_enter Tryz.func105, Tryz.ntmps105
    go_wp2_with fail
    refine (K.out _).mono ?_
    rintro e w1 ⟨rfl, hB1⟩
    have hC1 := HC.out.2.2.1.below hB1
    obtain ⟨c0, c1, f0, f1, _⟩ := hC1.two
    obtain ⟨y0, y1, _⟩ := (HC.out.1.below hB1).two
    go_wp2_with fail
    obtain ⟨d0, d1, _⟩ := (hC1.sets (.string ⟨p.toArray⟩) (.int .i64 n)).two
    refine ret_key (p := 4) (by kernel_rfl) rfl (w.heap.size + 1 + 1) _ _ rfl d0 d1 ?_
    rw [H.out]
    exact ⟨rfl, below_sets (below2 HC.out.2.2.2 hB1) (by omega) _ _⟩

end Go.Proofs.YtaaabmnaindgaaaGreatDoor

/-
  cursor: the spans of a path; the closures that say which paths are put out.
-/
namespace Go.Proofs.YtaaabmnaindgaaaGreatDoor
set_option maxRecDepth 100000
open Go.RowKit

/-- A span's cells. -/
def scell (s : Spn) : List Value := [.string ⟨s.1.1.toArray⟩, .int .i64 s.1.2, .string ⟨s.2.1.toArray⟩, .int .i64 s.2.2]
def scells (S : List Spn) : List Value := S.flatMap scell
theorem scells_cons (s : Spn) (r : List Spn) : scells (s :: r) = .string ⟨s.1.1.toArray⟩ :: .int .i64 s.1.2 :: .string ⟨s.2.1.toArray⟩ :: .int .i64 s.2.2 :: scells r := rfl
theorem scells_len (S : List Spn) : (scells S).length = S.length * 4 := by
  induction S with
  | nil => rfl
  | cons x r ih => rw [scells_cons]; simp only [List.length_cons, ih]; omega
theorem scells_at (S : List Spn) (i : Nat) (h : i < S.length) : (scells S)[i * 4]? = some (.string ⟨S[i].1.1.toArray⟩) ∧ (scells S)[i * 4 + 1]? = some (.int .i64 S[i].1.2) ∧ (scells S)[i * 4 + 2]? = some (.string ⟨S[i].2.1.toArray⟩) ∧ (scells S)[i * 4 + 3]? = some (.int .i64 S[i].2.2) := by
  induction S generalizing i with
  | nil => simp at h
  | cons x r ih =>
    cases i with
    | zero => exact ⟨rfl, rfl, rfl, rfl⟩
    | succ i =>
      have h1 := ih i (by simpa using h)
      rw [scells_cons, show (i + 1) * 4 = i * 4 + 1 + 1 + 1 + 1 by omega]
      exact h1
/-- The slice v reads as these spans. -/
def Sps (w : World) (v : Value) (S : List Spn) : Prop := Rw w 4 v S.length (scells S)
theorem Sps.below {w w' : World} {v : Value} {S : List Spn} (h : Sps w v S) (hb : Below w.heap.size w w') : Sps w' v S := Rw.below h hb
theorem Sps.form {w : World} {v : Value} {S : List Spn} (h : Sps w v S) : ∃ ao cap, v = .slice ao S.length cap := Rw.form h
theorem Sps.new (w : World) (S : List Spn) (t : TypeId) : Sps (w.alloc (.cells (scells S).toArray t)) (.slice (some ⟨w.heap.size, 0, none⟩) S.length S.length) S := by
  refine ⟨scells_len S, _, _, rfl, Nat.le_refl _, .inr ⟨_, 0, rfl, fun j hj => ?_⟩⟩
  rw [Nat.zero_add, World.cell?_alloc_new]
  simp [List.getElem?_eq_getElem hj]
theorem Sps.at {w : World} {ao : Option Addr} {n cap : Nat} {S : List Spn} (h : Sps w (.slice ao n cap) S) {k : Nat} (hk : k < S.length) :
    ∃ b off, ao = some ⟨b, off, none⟩ ∧ w.cell? ⟨b, off + k * 4, none⟩ = some (.string ⟨S[k].1.1.toArray⟩) ∧ w.cell? ⟨b, off + k * 4 + 1, none⟩ = some (.int .i64 S[k].1.2) ∧ w.cell? ⟨b, off + k * 4 + 2, none⟩ = some (.string ⟨S[k].2.1.toArray⟩) ∧ w.cell? ⟨b, off + k * 4 + 3, none⟩ = some (.int .i64 S[k].2.2) := by
  obtain ⟨hl, ao', cap', he, _, hc⟩ := h
  cases he
  rcases hc with h0 | ⟨b, off, rfl, hc⟩
  · omega
  · have h2 := scells_len S
    obtain ⟨e1, e2, e3, e4⟩ := scells_at S k hk
    refine ⟨b, off, rfl, ?_, ?_, ?_, ?_⟩
    · rw [hc (k * 4) (by omega), ← e1, List.getElem?_eq_getElem (by omega)]
    · rw [Nat.add_assoc, hc (k * 4 + 1) (by omega), ← e2, List.getElem?_eq_getElem (by omega)]
    · rw [Nat.add_assoc, hc (k * 4 + 2) (by omega), ← e3, List.getElem?_eq_getElem (by omega)]
    · rw [Nat.add_assoc, hc (k * 4 + 3) (by omega), ← e4, List.getElem?_eq_getElem (by omega)]

theorem repeat_calls (w : World) : Calls Tryz.prog 104 #[.string ⟨#[255]⟩, .int .i64 101] w fun e w' => e = .returned (.string ⟨(List.replicate 101 255).toArray⟩) ∧ Below w.heap.size w w' := by
  refine (Tryz.strings_Repeat ⟨#[255]⟩ 101 w (by decide) (by decide)).mono ?_
  rintro e w' ⟨rfl, hB⟩
  exact ⟨rfl, hB⟩

set_option maxHeartbeats 4000000 in
theorem spans_root (w : World) : Calls Tryz.prog 73 #[.string ⟨#[]⟩] w fun e w' => ∃ ao cap, e = .returned (.slice ao (spansOf []).length cap) ∧ (Sps w' (.slice ao (spansOf []).length cap) (spansOf []) ∧ ∃ b, ao = some ⟨b, 0, none⟩ ∧ w.heap.size ≤ b) ∧ Below w.heap.size w w' := by
  obtain ⟨q, hq⟩ : ∃ q : List UInt8, List.replicate 101 255 = q := ⟨_, rfl⟩
  have KR := Lib.hid (fun W => repeat_calls W)
  rw [hq] at KR
  have hs : spansOf [] = [(([], 9223372036854775807), (q, 9223372036854775807))] := by simp [spansOf, cuFirst, hq]
  have H := Lib.hid hs
  have KF := Lib.hid (fun s W => cFirst_calls s W)
  have KN := Lib.hid (fun W => cFirst_calls [] W)
  clear hq hs
  go_enter Tryz.func73, Tryz.ntmps73
  go_wp2_with fail
  refine (KN.out _).mono ?_
  rintro e w1 ⟨rfl, hB1⟩
  go_wp2_with fail
  refine (KR.out _).mono ?_
  rintro e w2 ⟨rfl, hB2⟩
  go_wp2_with fail
  refine (KF.out q _).mono ?_
  rintro e w3 ⟨rfl, hB3⟩
  go_wp2_with fail
  go_ret
  rw [H.out]
  exact ⟨_, _, rfl, ⟨Sps.new _ _ _, _, rfl, (below3 hB1 hB2 hB3).size⟩, below2 (below3 hB1 hB2 hB3) (below_alloc _ _)⟩

set_option maxHeartbeats 4000000 in
theorem spans_more (d : List UInt8) (h0 : d ≠ []) (hd : d.length ≤ 1000) (w : World) : Calls Tryz.prog 73 #[.string ⟨d.toArray⟩] w fun e w' => ∃ ao cap, e = .returned (.slice ao (spansOf d).length cap) ∧ (Sps w' (.slice ao (spansOf d).length cap) (spansOf d) ∧ ∃ b, ao = some ⟨b, 0, none⟩ ∧ w.heap.size ≤ b) ∧ Below w.heap.size w w' := by
  have hs : spansOf d = [((d, 9223372036854775807), (d ++ [0], 9223372036854775807)), ((d ++ [47], 9223372036854775807), (d ++ [48], 9223372036854775807))] := by simp [spansOf, cuFirst, cuPast, h0]
  have H := Lib.hid hs
  have KF := Lib.hid (fun s W => cFirst_calls s W)
  have KP := Lib.hid (fun W => cPast_calls d (by omega) W)
  have HA : ByteArray.mk d.toArray ++ ByteArray.mk #[47] = ⟨(d ++ [47]).toArray⟩ := app_mk d [47]
  have HA2 : ByteArray.mk d.toArray ++ ByteArray.mk #[48] = ⟨(d ++ [48]).toArray⟩ := app_mk d [48]
  have hz : ¬ 9223372036854775807 < d.length + 1 := by omega
  have hn : (d == []) = false := by simp [h0]
  clear hs h0
  go_enter Tryz.func73, Tryz.ntmps73
  go_wp2_with fail
  refine (KF.out d _).mono ?_
  rintro e w1 ⟨rfl, hB1⟩
  go_wp2_with fail
  refine (KP.out _).mono ?_
  rintro e w2 ⟨rfl, hB2⟩
  go_wp2_with fail
  refine (KF.out (d ++ [47]) _).mono ?_
  rintro e w3 ⟨rfl, hB3⟩
  go_wp2_with fail
  refine (KF.out (d ++ [48]) _).mono ?_
  rintro e w4 ⟨rfl, hB4⟩
  go_wp2_with fail
  go_ret
  rw [H.out]
  exact ⟨_, _, rfl, ⟨Sps.new _ _ _, _, rfl, (below2 (below3 hB1 hB2 hB3) hB4).size⟩, below2 (below2 (below3 hB1 hB2 hB3) hB4) (below_alloc _ _)⟩
theorem spansN_calls (d : List UInt8) (hd : d.length ≤ 1000) (w : World) : Calls Tryz.prog 73 #[.string ⟨d.toArray⟩] w fun e w' => ∃ ao cap, e = .returned (.slice ao (spansOf d).length cap) ∧ (Sps w' (.slice ao (spansOf d).length cap) (spansOf d) ∧ ∃ b, ao = some ⟨b, 0, none⟩ ∧ w.heap.size ≤ b) ∧ Below w.heap.size w w' := by
  by_cases h0 : d = []
  · subst h0
    exact spans_root w
  · exact spans_more d h0 hd w
/-! ### Which paths are put out -/

/-- The function value p says of a path whether it is put out. -/
def Puts (w : World) (p : Value) (P : List UInt8 → Bool) : Prop :=
  ∃ f xs, p = .func (.func f) #[] xs ∧ (∀ s W, (callFunc f (#[s] ++ xs)).run Tryz.prog W = .ok (.enter f (#[s] ++ xs)) W) ∧ ∀ s W, s.length ≤ 1000000 → Below w.heap.size w W → Calls Tryz.prog f (#[.string ⟨s.toArray⟩] ++ xs) W fun e w' => e = .returned (.bool (P s)) ∧ Below W.heap.size W w'

end Go.Proofs.YtaaabmnaindgaaaGreatDoor

/-
  cursor: a cursor in memory.
-/
namespace Go.Proofs.YtaaabmnaindgaaaGreatDoor
set_option maxRecDepth 100000
open Go.RowKit

/-- What a cursor needs that it never turns: a tree, spans, what is put out. -/
def Base (w0 : World) (L : List Pr) (S : List Spn) (P : List UInt8 → Bool) (tv sv pv : Value) : Prop := TreeV w0 tv L ∧ Sps w0 sv S ∧ Puts w0 pv P
theorem Base.below {w w' : World} {L : List Pr} {S : List Spn} {P : List UInt8 → Bool} {tv sv pv : Value} (h : Base w L S P tv sv pv) (hb : Below w.heap.size w w') : Base w' L S P tv sv pv := by
  obtain ⟨h1, h2, f, xs, h3, h4, h5⟩ := h
  exact ⟨h1.below hb, h2.below hb, f, xs, h3, h4, fun s W hs hB => h5 s W hs (below2 hb hB)⟩
/-- A cursor's block. -/
def CBox (w : World) (g : Nat) (tv sv pv : Value) (k : Ky) : Prop := Cx w g 135 [tv, .string ⟨k.1.toArray⟩, .int .i64 k.2, sv, pv]
theorem CBox.cells {w : World} {g : Nat} {tv sv pv : Value} {k : Ky} (h : CBox w g tv sv pv k) : w.cell? ⟨g, 0, none⟩ = some tv ∧ w.cell? ⟨g, 1, none⟩ = some (.string ⟨k.1.toArray⟩) ∧ w.cell? ⟨g, 2, none⟩ = some (.int .i64 k.2) ∧ w.cell? ⟨g, 3, none⟩ = some sv ∧ w.cell? ⟨g, 4, none⟩ = some pv ∧ w.frozen? ⟨g, 1, none⟩ = false ∧ w.frozen? ⟨g, 2, none⟩ = false ∧ g < w.heap.size :=
  ⟨Cx.cell h rfl, Cx.cell h rfl, Cx.cell h rfl, Cx.cell h rfl, Cx.cell h rfl, Cx.frozen h _, Cx.frozen h _, Cx.lt h⟩
theorem CBox.set {w : World} {g : Nat} {tv sv pv : Value} {k : Ky} (h : CBox w g tv sv pv k) (k' : Ky) : CBox ((w.setCell ⟨g, 1, none⟩ (.string ⟨k'.1.toArray⟩)).setCell ⟨g, 2, none⟩ (.int .i64 k'.2)) g tv sv pv k' := Cx.set (Cx.set h 1 _) 2 _
theorem CBox.below {w w' : World} {g : Nat} {tv sv pv : Value} {k : Ky} (h : CBox w g tv sv pv k) (hb : Below w.heap.size w w') : CBox w' g tv sv pv k := Cx.below h hb
theorem CBox.new (w : World) (tv sv pv : Value) (k : Ky) : CBox (w.alloc (.cells #[tv, .string ⟨k.1.toArray⟩, .int .i64 k.2, sv, pv] 135)) w.heap.size tv sv pv k := Cx.new w _ [tv, .string ⟨k.1.toArray⟩, .int .i64 k.2, sv, pv]

/-- A pair as a value. -/
abbrev PV (x : Pr) : Value := .agg #[.string ⟨x.1.1.toArray⟩, .int .i64 x.1.2, .string ⟨x.2.toArray⟩]
/-- The pair at a place, or zeros. -/
def hereP (U : List Pr) (i : Nat) : Pr := U[i]?.getD (([], 0), [])
theorem hereP_at {U : List Pr} {i : Nat} {x : Pr} (h : U[i]? = some x) : hereP U i = x ∧ i < U.length := ⟨by simp [hereP, h], (List.getElem?_eq_some_iff.1 h).1⟩
theorem hereP_none {U : List Pr} {i : Nat} (h : i = U.length) : hereP U i = (([], 0), []) := by simp [hereP, h]

theorem pair_size2 : (Tryz.prog.info? 67).map (·.size) = some 3 := by kernel_rfl
theorem pair_agg (w : World) : (isAgg 67).run Tryz.prog w = .ok true w := by kernel_rfl
theorem load_pr (w : World) (g : Nat) (x : Pr) (t : TypeId) (h : Cx w g t (pcell x)) : (loadVar 67 ⟨g, 0, none⟩).run Tryz.prog w = .ok (PV x) w :=
  load_many (cs := pcell x) (pair_agg w) pair_size2 (cells_box h)
/-- A pair and a bool are what comes out of a call. -/
theorem ret_pair2 {fn : Func} {p q : Tmp} {R : Ending → World → Prop} {a : Act} {w : World} (h : fn.results = #[.cell p 67, .tmp q]) (hd : a.defers = []) (g : Nat) (x : Pr) (v2 : Value) (hp : a.tmps.getD p undef = .pointer (some ⟨g, 0, none⟩))
    (hq : a.tmps.getD q undef = v2) (hc : Cx w g 67 (pcell x)) (hR : R (.returned (.tuple #[PV x, v2])) w) : bodyPost Tryz.prog fn R .ret a w := by
  refine bodyPost_ret (v := .tuple #[PV x, v2]) ?_ hd hR
  have hp' : a.tmps[p]?.getD undef = .pointer (some ⟨g, 0, none⟩) := by simpa using hp
  have hq' : a.tmps[q]?.getD undef = v2 := by simpa using hq
  simp [results, h, hp', hq', asAddr, load_pr w g x _ hc]

end Go.Proofs.YtaaabmnaindgaaaGreatDoor

/-
  cursor: here.
-/
namespace Go.Proofs.YtaaabmnaindgaaaGreatDoor
set_option maxRecDepth 100000
open Go.RowKit

/-- Behind a path's pairs it stands where it stood: not ahead of its span. -/
theorem past_behind {L : List Pr} (ht : TimesK L) (hr : Rises L) {k f : Ky} {x : Pr} {r : List Pr} (h : tailL L k = x :: r) (hf : lessK k f = false) : lessK (cuPast x.1.1) f = false := by
  obtain ⟨hm, hk, _⟩ := tail_cons hr h
  cases hl : lessK (cuPast x.1.1) f with
  | false => rfl
  | true =>
    have h1 : lessK x.1 (cuPast x.1.1) = true := by rw [less_cuPast (ht x hm), less_irrefl]; rfl
    rw [less_le (lessK_trans h1 hl) hf] at hk
    cases hk

/-- Where a cursor is. -/
def atOf (w : World) (g : Nat) : Ky := match w.cell? ⟨g, 1, none⟩, w.cell? ⟨g, 2, none⟩ with
  | some (.string b), some (.int _ n) => (b.data.toList, n)
  | _, _ => ([], 0)
theorem CBox.atOf {w : World} {g : Nat} {tv sv pv : Value} {k : Ky} (h : CBox w g tv sv pv k) : atOf w g = k := by
  obtain ⟨_, c1, c2, _⟩ := h.cells
  unfold Proofs.YtaaabmnaindgaaaGreatDoor.atOf
  rw [c1, c2]
theorem TreeV.val {w : World} {v : Value} {l : List Pr} (h : TreeV w v l) : ∃ p, v = .pointer p := by
  obtain ⟨_, ⟨rfl, _⟩ | ⟨g, u, rfl, _⟩⟩ := h
  · exact ⟨_, rfl⟩
  · exact ⟨_, rfl⟩

set_option maxHeartbeats 8000000 in
theorem here_calls (w0 w : World) (L : List Pr) (S : List Spn) (P : List UInt8 → Bool) (tv sv pv : Value) (g : Nat) (k : Ky) (hb : Base w0 L S P tv sv pv) (hr : SpsRise S) (ht : TimesK L) (hm : L.length ≤ 1000) (hp : ∀ x ∈ L, x.1.1.length ≤ 1000) (hs1 : S.length ≤ 1000) (hB : Below w0.heap.size w0 w) (hg : w0.heap.size ≤ g) (hc : CBox w g tv sv pv k) :
    Calls Tryz.prog 75 #[.pointer (some ⟨g, 0, none⟩)] w fun e w' => ∃ k', placeN (cuL L S P) k' = placeN (cuL L S P) k ∧ e = .returned (.tuple #[PV (hereP (cuL L S P) (placeN (cuL L S P) k)), .bool (decide (placeN (cuL L S P) k < (cuL L S P).length))]) ∧ CBox w' g tv sv pv k' ∧ Keeps g w w' := by
  obtain ⟨htr, hs, f, xs, rfl, hf, hpu⟩ := hb
  obtain ⟨aS, cS, rfl⟩ := hs.form
  obtain ⟨tp, rfl⟩ := htr.val
  obtain ⟨sn, hsn⟩ : ∃ s, S.length = s := ⟨_, rfl⟩
  have HN := Lib.hid hs
  have KL := Lib.hid (fun a b W => cLater_calls a b W)
  have KF := Lib.hid (fun (k2 : Ky) W (hB : Below w0.heap.size w0 W) => from_calls _ L k2.1 k2.2 1 W (htr.below hB) (by omega))
  have HP := Lib.hid (And.intro hp (And.intro ht (And.intro hf hpu)))
  have hC0 := Cx.new w 67 (pcell (([], 0), []))
  have hc1 := hc.below (below_alloc w (.cells (pcell (([], 0), [])).toArray 67))
  have HC := Lib.hid (And.intro hc1 (And.intro hC0 (And.intro hB (And.intro hc.lt (And.intro hr htr)))))
  obtain ⟨c0, c1, c2, c3, c4, f1, f2, hlt⟩ := hc.cells
  clear hc hC0 hc1 hB hr htr hs hp ht hf hpu
  rw [hsn] at c3 hs1 HN HC ⊢
  have HS := Lib.hid (And.intro HN.out hsn)
  clear hsn HN
  go_enter Tryz.func75, Tryz.ntmps75
  go_wp2_with fail
  go_step3
  go_wp2_with fail
  go_step3
  go_wp2_with fail
  go_loopw [15] (fun i wr => ∃ (n : Nat) (k1 : Ky), n ≤ sn ∧ i = .int .i64 n ∧ Been L S P k k1 n ∧ CBox wr g (.pointer tp) (.slice aS sn cS) (.func (.func f) #[] xs) k1 ∧ Cx wr w.heap.size 67 (pcell (([], 0), [])) ∧ Keeps g w wr) (fun i _ => sn - (intOf i).toNat)
  case atStart => exact ⟨0, k, Nat.zero_le _, rfl, been_start _ _ _ _, HC.out.1, HC.out.2.1, Keeps.below g (below_alloc _ _)⟩
  case round =>
    obtain ⟨n, k1, hn, rfl, hbe, hcb, hz, hke⟩ := hrel
    have hBw := hke.on HC.out.2.2.1 hg HC.out.2.2.1.size
    by_cases hlt2 : n < sn
    · obtain ⟨b, off, rfl, s0, s1, s2, s3⟩ := (HS.out.1.below hBw).at (k := n) (by rw [HS.out.2]; exact hlt2)
      obtain ⟨⟨⟨p1, m1⟩, ⟨p2, m2⟩⟩, hsp⟩ : ∃ s, S[n]'(by rw [HS.out.2]; exact hlt2) = s := ⟨_, rfl⟩
      rw [hsp] at s0 s1 s2 s3
      dsimp only at s0 s1 s2 s3
      obtain ⟨d0, d1, d2, d3, d4, e1, e2, hlt3⟩ := hcb.cells
      go_wp2_with fail
      have hY := Cx.new wr 169 [.string ⟨p1.toArray⟩, .int .i64 m1, .string ⟨p2.toArray⟩, .int .i64 m2]
      have hcb2 := hcb.below (below_alloc wr (.cells #[.string ⟨p1.toArray⟩, .int .i64 m1, .string ⟨p2.toArray⟩, .int .i64 m2] 169))
      have HW := Lib.hid (And.intro hcb2 (And.intro hY (hz.below (below_alloc wr (.cells #[.string ⟨p1.toArray⟩, .int .i64 m1, .string ⟨p2.toArray⟩, .int .i64 m2] 169)))))
      clear hY hcb2
      obtain ⟨g0, g1, g2, g3, g4, _⟩ := HW.out.1.cells
      obtain ⟨y0, y1, _⟩ := (show _ ∧ _ ∧ True from ⟨HW.out.2.1.cell (j := 0) rfl, HW.out.2.1.cell (j := 1) rfl, trivial⟩)
      obtain ⟨v1, v2, v3, v4, v5, h1, h2, _⟩ := HW.out.1.cells
      go_upto_region 6 with fail
      go_cut [19] (fun _ wc => CBox wc g (.pointer tp) (.slice (some ⟨b, off, none⟩) sn cS) (.func (.func f) #[] xs) (cuLater k1 (p1, m1)) ∧ Cx wc w.heap.size 67 (pcell (([], 0), [])) ∧ Cx wc wr.heap.size 169 [.string ⟨p1.toArray⟩, .int .i64 m1, .string ⟨p2.toArray⟩, .int .i64 m2] ∧ Keeps g w wc)
      case first =>
        go_region_law (first
          | (go_simp; go_at_call 105; refine (KL.out k1 (p1, m1) _).mono ?_; rintro e w2 ⟨rfl, hB2⟩; have hBq := below2 (drew_below _) hB2; have hcb3 := HW.out.1.below hBq; obtain ⟨q0, q1, q2, q3, q4, r1, r2, r3⟩ := hcb3.cells; dsimp only [KV]))
        all_goals
          go_wp2_with fail
          go_meet
          case rel =>
            have hkk := (hke.then (below_alloc wr _)).then hBq
            exact ⟨hcb3.set _, (HW.out.2.2.below hBq).keeps (Nat.ne_of_gt HC.out.2.2.2.1) (Keeps.set2 (Keeps.refl _ _) _ _), (HW.out.2.1.below hBq).keeps (Nat.ne_of_gt hlt3) (Keeps.set2 (Keeps.refl _ _) _ _), hkk.set2 _ _⟩
      case rest =>
        obtain ⟨hcb4, hz4, hy4, hke4⟩ := hcut
        obtain ⟨gs, hgs⟩ : ∃ x, wr.heap.size = x := ⟨_, rfl⟩
        have hgl : w.heap.size < gs := hgs ▸ hz.lt
        rw [hgs] at hy4 ⊢
        have hsn2 : n < S.length := by rw [HS.out.2]; exact hlt2
        have hbe2 := hbe.later HC.out.2.2.2.2.1 hsn2
        have hfr := cuLater_le k1 S[n].1
        rw [hsp] at hbe2 hfr
        have H4 := Lib.hid (And.intro hbe2 (And.intro hfr (And.intro hcb4 (And.intro hz4 (And.intro hy4 hke4)))))
        clear hbe2 hfr hcb4 hz4 hy4 hke4 d0 d1 d2 d3 d4 e1 e2 s0 s1 s2 s3 g0 g1 g2 g3 g4 y0 y1 v1 v2 v3 v4 v5 h1 h2 HW
        go_wp2_with fail
        go_loopw [6] (fun _ wi => ∃ k2 : Ky, Been L S P k k2 n ∧ lessK k2 (p1, m1) = false ∧ CBox wi g (.pointer tp) (.slice (some ⟨b, off, none⟩) sn cS) (.func (.func f) #[] xs) k2 ∧ Cx wi w.heap.size 67 (pcell (([], 0), [])) ∧ Cx wi gs 169 [.string ⟨p1.toArray⟩, .int .i64 m1, .string ⟨p2.toArray⟩, .int .i64 m2] ∧ Keeps g w wi) (fun _ wi => L.length - placeN L (atOf wi g))
        case atStart => exact ⟨_, H4.out.1, H4.out.2.1, H4.out.2.2.1, H4.out.2.2.2.1, H4.out.2.2.2.2.1, H4.out.2.2.2.2.2⟩
        case round =>
          obtain ⟨k2, hbe5, hfr5, hcb5, hz5, hy5, hke5⟩ := hrel
          have hBi := hke5.on HC.out.2.2.1 hg HC.out.2.2.1.size
          have HI := Lib.hid (And.intro hbe5 (And.intro hfr5 (And.intro hcb5 (And.intro hz5 (And.intro hy5 (And.intro hke5 hBi))))))
          have HT : Hid (∀ W, Below wr.heap.size wr W → W.cell? ⟨g, 0, none⟩ = some (.pointer tp) ∧ W.cell? ⟨g, 1, none⟩ = some (.string ⟨k2.1.toArray⟩) ∧ W.cell? ⟨g, 2, none⟩ = some (.int .i64 k2.2)) :=
            Lib.hid (fun W hB => ⟨(hcb5.below hB).cells.1, (hcb5.below hB).cells.2.1, (hcb5.below hB).cells.2.2.1⟩)
          have hbr : Below wr.heap.size wr wr.drew := drew_below _
          clear hbe5 hfr5 hcb5 hz5 hy5 hke5 hBi
          go_wp2_with fail
          go_region_held3 (fun w' => w'.cell? ⟨g, 0, none⟩ = some (.pointer tp) ∧ w'.cell? ⟨g, 1, none⟩ = some (.string ⟨k2.1.toArray⟩) ∧ w'.cell? ⟨g, 2, none⟩ = some (.int .i64 k2.2)) (first | exact HT.out _ hbr) (first
            | ((with_reducible refine (KF.out k2 _ (below2 HI.out.2.2.2.2.2.2 hbr)).mono ?_); rintro e w5 ⟨u5', rfl, ho5, hB5⟩; have hbr := below2 hbr hB5; have HO := Lib.hid ho5.prs; clear ho5; obtain ⟨al, cl, rfl⟩ := HO.out.form))
          have hB6 := hbr
          clear hbr
          have hfl : fromL L (k2.1, k2.2) 1 = (tailL L k2).take 1 := rfl
          cases htl : tailL L k2 with
          | nil =>
            rw [htl] at hfl
            have HTL := Lib.hid htl
            rw [hfl] at HO
            have hlen0 : (fromL L (k2.1, k2.2) 1).length = 0 := by rw [hfl]; rfl
            rw [hlen0]
            clear htl hfl hlen0
            go_wp2_with fail
            refine held0 (S := (fun _ => True)) (by kernel_rfl) (trivial) (fun hHeld => ?_)
            iterate 4 (refine heldT (oi := ⟨_, _, _, _, _, _⟩) (v := ?_) hHeld rfl rfl (by kernel_rfl) (by kernel_rfl) (by kernel_rfl) (fun _ _ _ h => h) ?_ ?_; rotate_left; (intro w hSw; (try dsimp only at hSw); go_simp; try with_reducible rfl); try simp only [Act.put, List.setIfInBounds_toArray, List.set_cons_zero, List.set_cons_succ])
            iterate 6 (refine heldU (oi := ⟨_, _, _, _, _, _⟩) hHeld rfl rfl (by kernel_rfl) (by kernel_rfl) (by kernel_rfl) (fun _ _ _ h => h) ?_; try simp only [Act.put, List.setIfInBounds_toArray, List.set_cons_zero, List.set_cons_succ])
            refine wpAnyH_ready (rs := [10]) (by kernel_rfl) (by simp) ?_
            refine AllReadyH.cons (o := ⟨_, _, _, _, _, _⟩) rfl (fun K hK => ?_) AllReadyH.nil
            go_simp
            refine hK.out _ _ (trivial) (fun hHeld => ?_)
            clear hK K
            try simp only [Act.put, List.setIfInBounds_toArray, List.set_cons_zero, List.set_cons_succ]
            refine wpAnyH_take (i := 11) (oi := ⟨_, _, _, _, _, _⟩) (v := undef) rfl (by kernel_rfl) (by kernel_rfl) (by kernel_rfl) (fun _ _ _ h => h) (Or.inr ⟨by rfl, rfl⟩) hHeld ?_
            try simp only [Act.put, List.setIfInBounds_toArray, List.set_cons_zero, List.set_cons_succ]
            refine wpAnyH_take (i := 12) (oi := ⟨_, _, _, _, _, _⟩) (v := ?_) rfl (by kernel_rfl) (by kernel_rfl) (by kernel_rfl) (fun _ _ _ h => h) (Or.inl ⟨by rfl, ?_⟩) hHeld ?_
            rotate_left
            · (intro w hSw; (try dsimp only at hSw); go_simp; try with_reducible rfl)
            try simp only [Act.put, List.setIfInBounds_toArray, List.set_cons_zero, List.set_cons_succ]
            refine wpAnyH_take (i := 13) (oi := ⟨_, _, _, _, _, _⟩) (v := ?_) rfl (by kernel_rfl) (by kernel_rfl) (by kernel_rfl) (fun _ _ _ h => h) (Or.inl ⟨by rfl, ?_⟩) hHeld ?_
            rotate_left
            · (intro w hSw; (try dsimp only at hSw); go_simp; try with_reducible rfl)
            try simp only [Act.put, List.setIfInBounds_toArray, List.set_cons_zero, List.set_cons_succ]
            refine wpAnyH_done (by kernel_rfl) ?_ _
            go_wp2_with fail
            obtain ⟨i1, i2, i3, i4, i5, i6, i7⟩ := HI.out
            have hn2 : n < S.length := by rw [HS.out.2]; exact hlt2
            have hB7 := below2 hB6 (drew_below _)
            exact ⟨⟨n + 1, k2, by omega, by go_num, i1.next hn2 (fun y hy h => by rw [tail_nil HTL.out y hy] at h; cases h), i3.below hB7, i4.below hB7, i6.then hB7⟩, by simp [intOf]; omega⟩
          | cons x r =>
            rw [htl] at hfl
            obtain ⟨⟨⟨xp, xm⟩, xs2⟩, hxe⟩ : ∃ y, x = y := ⟨_, rfl⟩
            subst hxe
            have HTL := Lib.hid htl
            have hlen1 : (fromL L (k2.1, k2.2) 1).length = 1 := by rw [hfl]; rfl
            rw [hlen1] at HO ⊢
            rw [hfl] at HO
            obtain ⟨bl, ol, rfl, x0, x1, x2⟩ := HO.out.at (k := 0) (by simp)
            simp only [Nat.zero_mul, Nat.add_zero] at x0 x1 x2
            have hxp := HP.out.1 _ (tail_cons HC.out.2.2.2.2.2.1 htl).1
            replace x0 : w5.cell? ⟨bl, ol, none⟩ = some (.string ⟨xp.toArray⟩) := x0
            replace x1 : w5.cell? ⟨bl, ol + 1, none⟩ = some (.int .i64 xm) := x1
            replace x2 : w5.cell? ⟨bl, ol + 2, none⟩ = some (.string ⟨xs2.toArray⟩) := x2
            replace hxp : xp.length ≤ 1000 := hxp
            have hy6 := HI.out.2.2.2.2.1.below hB6
            have HT2 : Hid (∀ W, Below w5.heap.size w5 W → W.cell? ⟨bl, ol, none⟩ = some (.string ⟨xp.toArray⟩) ∧ W.cell? ⟨bl, ol + 1, none⟩ = some (.int .i64 xm) ∧ W.cell? ⟨gs, 2, none⟩ = some (.string ⟨p2.toArray⟩) ∧ W.cell? ⟨gs, 3, none⟩ = some (.int .i64 m2)) :=
              Lib.hid (fun W hB => ⟨look_below hB x0, look_below hB x1, (hy6.below hB).cell rfl, (hy6.below hB).cell rfl⟩)
            have hbr : Below w5.heap.size w5 w5.drew := drew_below _
            have KK := Lib.hid (fun W => kLess_calls xp p2 xm m2 W)
            obtain ⟨bb, hbb⟩ : ∃ x, lessK (xp, xm) (p2, m2) = x := ⟨_, rfl⟩
            rw [hbb] at KK
            have HX := Lib.hid (And.intro x0 (And.intro x1 (And.intro x2 hy6)))
            clear htl hfl hlen1 hy6 x0 x1 x2
            cases bb with
            | false =>
              have HBB := Lib.hid hbb
              clear hbb
              go_wp2_with fail
              go_region_held3 (fun w' => w'.cell? ⟨bl, ol, none⟩ = some (.string ⟨xp.toArray⟩) ∧ w'.cell? ⟨bl, ol + 1, none⟩ = some (.int .i64 xm) ∧ w'.cell? ⟨gs, 2, none⟩ = some (.string ⟨p2.toArray⟩) ∧ w'.cell? ⟨gs, 3, none⟩ = some (.int .i64 m2)) (first | exact HT2.out _ hbr) (first
                | ((with_reducible refine (KK.out _).mono ?_); rintro e w7 ⟨rfl, hB7⟩; have hbr := below2 hbr hB7))
              go_wp2_with fail
              obtain ⟨i1, i2, i3, i4, i5, i6, i7⟩ := HI.out
              have hn2 : n < S.length := by rw [HS.out.2]; exact hlt2
              have hB7 := below2 hB6 hbr
              obtain ⟨_, _, hbx, _⟩ := tail_cons HC.out.2.2.2.2.2.1 HTL.out
              refine ⟨⟨n + 1, k2, by omega, by go_num, i1.next hn2 (fun y hy h => ?_), i3.below hB7, i4.below hB7, i6.then hB7⟩, by simp [intOf]; omega⟩
              rw [hsp]
              rcases hbx y hy h with e | e
              · rw [e]; exact HBB.out
              · exact not_less_trans HBB.out e
            | true =>
              have HBB := Lib.hid hbb
              clear hbb
              go_wp2_with fail
              go_region_held3 (fun w' => w'.cell? ⟨bl, ol, none⟩ = some (.string ⟨xp.toArray⟩) ∧ w'.cell? ⟨bl, ol + 1, none⟩ = some (.int .i64 xm) ∧ w'.cell? ⟨gs, 2, none⟩ = some (.string ⟨p2.toArray⟩) ∧ w'.cell? ⟨gs, 3, none⟩ = some (.int .i64 m2)) (first | exact HT2.out _ hbr) (first
                | ((with_reducible refine (KK.out _).mono ?_); rintro e w7 ⟨rfl, hB7⟩; have hbr := below2 hbr hB7))
              have hB8 := below2 hB6 hbr
              have hB9 := hbr
              have hcw := HI.out.2.2.1.below hB8
              have HT3 : Hid (∀ W, Below w7.heap.size w7 W → W.cell? ⟨bl, ol, none⟩ = some (.string ⟨xp.toArray⟩) ∧ W.cell? ⟨g, 4, none⟩ = some (.func (.func f) #[] xs)) :=
                Lib.hid (fun W hB => ⟨look_below (below2 hB9 hB) HX.out.1, (hcw.below hB).cells.2.2.2.2.1⟩)
              clear hbr
              have hbr : Below w7.heap.size w7 w7.drew := drew_below _
              have hBP := below2 (HI.out.2.2.2.2.2.2) (hB8.mono (Nat.le_refl _))
              have hcf := HP.out.2.2.1
              have KP := Lib.hid (fun W (hB : Below w7.heap.size w7 W) => HP.out.2.2.2 xp W (by omega) (below2 hBP hB))
              obtain ⟨pb, hpb⟩ : ∃ x, P xp = x := ⟨_, rfl⟩
              rw [hpb] at KP
              have HPB := Lib.hid hpb
              clear hpb hcw
              cases pb with
              | false =>
                go_wp2_with fail
                go_region_held3 (fun w' => w'.cell? ⟨bl, ol, none⟩ = some (.string ⟨xp.toArray⟩) ∧ w'.cell? ⟨g, 4, none⟩ = some (.func (.func f) #[] xs)) (first | exact HT3.out _ hbr) (first
                  | ((with_reducible refine (KP.out _ hbr).mono ?_); rintro e w9 ⟨rfl, hB10⟩; have hbr := below2 hbr hB10))
                have hB11 := below2 hB8 hbr
                have x0 := (HT3.out _ hbr).1
                have KQ := Lib.hid (fun W => cPast_calls xp (by omega) W)
                go_wp2_with fail
                refine (KQ.out _).mono ?_
                rintro e w10 ⟨rfl, hB12⟩
                have hB13 := below2 hB11 hB12
                obtain ⟨i1, i2, i3, i4, i5, i6, i7⟩ := HI.out
                have hcz := i3.below hB13
                obtain ⟨q0, q1, q2, q3, q4, r1, r2, r3⟩ := hcz.cells
                have hgw := i3.cells.2.2.2.2.2.2.2
                go_wp2_with fail
                obtain ⟨j1, j2⟩ := i1.past HC.out.2.2.2.2.2.1 HP.out.2.1 HTL.out HPB.out
                have hk6 := i6.then hB13
                have hcs := hcz.set (cuPast xp)
                have hpl := past_behind HP.out.2.1 HC.out.2.2.2.2.2.1 HTL.out i2
                go_roundw
                case rel => exact ⟨_, j1, hpl, hcs, (i4.below hB13).keeps (Nat.ne_of_gt HC.out.2.2.2.1) ((Keeps.refl _ _).set2 _ _), (i5.below hB13).keeps (by omega) ((Keeps.refl _ _).set2 _ _), hk6.set2 _ _⟩
                case measure =>
                  change L.length - placeN L (atOf ((w10.setCell ⟨g, 1, none⟩ (.string ⟨(cuPast xp).1.toArray⟩)).setCell ⟨g, 2, none⟩ (.int .i64 (cuPast xp).2)) g) < _
                  rw [hcs.atOf, i3.atOf]
                  have h1 := placeN_le L (cuPast xp)
                  have h2 : placeN L k2 < placeN L (cuPast xp) := j2
                  omega
              | true =>
                go_wp2_with fail
                go_region_held3 (fun w' => w'.cell? ⟨bl, ol, none⟩ = some (.string ⟨xp.toArray⟩) ∧ w'.cell? ⟨g, 4, none⟩ = some (.func (.func f) #[] xs)) (first | exact HT3.out _ hbr) (first
                  | ((with_reducible refine (KP.out _ hbr).mono ?_); rintro e w9 ⟨rfl, hB10⟩; have hbr := below2 hbr hB10))
                have hB11 := below2 hB8 hbr
                have x0 := (HT3.out _ hbr).1
                have x1 := look_below (below2 hB9 hbr) HX.out.2.1
                have x2 := look_below (below2 hB9 hbr) HX.out.2.2.1
                obtain ⟨i1, i2, i3, i4, i5, i6, i7⟩ := HI.out
                have hzz := i4.below hB11
                obtain ⟨z0, z1, z2, y0, y1, y2, _⟩ := Cx.three hzz
                go_wp2_with fail
                have hcr : Cx (((w9.setCell ⟨w.heap.size, 0, none⟩ (.string ⟨xp.toArray⟩)).setCell ⟨w.heap.size, 1, none⟩ (.int .i64 xm)).setCell ⟨w.heap.size, 2, none⟩ (.string ⟨xs2.toArray⟩)) w.heap.size 67 (pcell ((xp, xm), xs2)) := ((hzz.set 0 _).set 1 _).set 2 _
                have hn2 : n < S.length := by rw [HS.out.2]; exact hlt2
                have hx := i1.here HC.out.2.2.2.2.2.1 hn2 (by rw [hsp]; exact i2) HTL.out (by rw [hsp]; exact HBB.out) HPB.out
                obtain ⟨he1, he2⟩ := hereP_at hx
                refine ret_pair2 (p := 2) (q := 3) (by kernel_rfl) rfl w.heap.size ((xp, xm), xs2) _ rfl rfl hcr ?_
                refine ⟨k2, i1.place, ?_, ?_, ?_⟩
                · rw [he1, decide_eq_true he2]
                  rfl
                · exact (((i3.below hB11).other (Nat.ne_of_lt hlt) _).other (Nat.ne_of_lt hlt) _).other (Nat.ne_of_lt hlt) _
                · exact (((i6.then hB11).other (Nat.le_refl _) 0 _).other (Nat.le_refl _) 1 _).other (Nat.le_refl _) 2 _
    · obtain ⟨z0, z1, z2, y0, y1, y2, hzl⟩ := Cx.three hz
      obtain rfl : n = sn := by omega
      go_wp2_with fail
      have hcr : Cx (((wr.setCell ⟨w.heap.size, 0, none⟩ (.string ⟨#[]⟩)).setCell ⟨w.heap.size, 1, none⟩ (.int .i64 0)).setCell ⟨w.heap.size, 2, none⟩ (.string ⟨#[]⟩)) w.heap.size 67 (pcell (([], 0), [])) := ((hz.set 0 _).set 1 _).set 2 _
      have hend : Been L S P k k1 S.length := by rw [HS.out.2]; exact hbe
      have he := hend.end
      refine ret_pair2 (p := 2) (q := 3) (by kernel_rfl) rfl w.heap.size (([], 0), []) _ rfl rfl hcr ?_
      refine ⟨k1, hend.place, ?_, ?_, ?_⟩
      · rw [he, hereP_none rfl]
        simp
      · exact ((hcb.other (Nat.ne_of_lt hlt) _).other (Nat.ne_of_lt hlt) _).other (Nat.ne_of_lt hlt) _
      · exact ((hke.other (Nat.le_refl _) 0 _).other (Nat.le_refl _) 1 _).other (Nat.le_refl _) 2 _

end Go.Proofs.YtaaabmnaindgaaaGreatDoor

/-
  cursor: Next, Skip, Seek.
-/
namespace Go.Proofs.YtaaabmnaindgaaaGreatDoor
set_option maxRecDepth 100000
open Go.RowKit

/-- A cursor in memory, made behind w0, over the pairs U, at the i-th one. -/
def Cur (w0 w : World) (g : Nat) (U : List Pr) (i : Nat) : Prop :=
  ∃ (L : List Pr) (S : List Spn) (P : List UInt8 → Bool) (tv sv pv : Value) (k : Ky), Base w0 L S P tv sv pv ∧ SpsRise S ∧ TimesK L ∧ L.length ≤ 1000 ∧ (∀ x ∈ L, x.1.1.length ≤ 1000) ∧ S.length ≤ 1000 ∧ U = cuL L S P ∧ Below w0.heap.size w0 w ∧ w0.heap.size ≤ g ∧ CBox w g tv sv pv k ∧ placeN U k = i
theorem Cur.below {w0 w w' : World} {g : Nat} {U : List Pr} {i : Nat} (h : Cur w0 w g U i) (hb : Below w.heap.size w w') : Cur w0 w' g U i := by
  obtain ⟨L, S, P, tv, sv, pv, k, h1, h2, h3, h4, h5, h6, h7, h8, h9, h10, h11⟩ := h
  exact ⟨L, S, P, tv, sv, pv, k, h1, h2, h3, h4, h5, h6, h7, below2 h8 (hb.mono (Nat.le_refl _)), h9, h10.below hb, h11⟩
/-- The cursor is set to the key k. -/
theorem Cur.set {w0 w : World} {g : Nat} {U : List Pr} {i : Nat} (h : Cur w0 w g U i) (k : Ky) : Cur w0 ((w.setCell ⟨g, 1, none⟩ (.string ⟨k.1.toArray⟩)).setCell ⟨g, 2, none⟩ (.int .i64 k.2)) g U (placeN U k) := by
  obtain ⟨L, S, P, tv, sv, pv, k0, h1, h2, h3, h4, h5, h6, h7, h8, h9, h10, h11⟩ := h
  exact ⟨L, S, P, tv, sv, pv, k, h1, h2, h3, h4, h5, h6, h7, (h8.setCell h9 _).setCell h9 _, h9, h10.set k, rfl⟩
theorem Cur.cells {w0 w : World} {g : Nat} {U : List Pr} {i : Nat} (h : Cur w0 w g U i) : ∃ k : Ky, w.cell? ⟨g, 1, none⟩ = some (.string ⟨k.1.toArray⟩) ∧ w.cell? ⟨g, 2, none⟩ = some (.int .i64 k.2) ∧ w.frozen? ⟨g, 1, none⟩ = false ∧ w.frozen? ⟨g, 2, none⟩ = false ∧ g < w.heap.size := by
  obtain ⟨L, S, P, tv, sv, pv, k, h1, h2, h3, h4, h5, h6, h7, h8, h9, h10, h11⟩ := h
  obtain ⟨_, c1, c2, _, _, f1, f2, hl⟩ := h10.cells
  exact ⟨k, c1, c2, f1, f2, hl⟩
theorem Cur.facts {w0 w : World} {g : Nat} {U : List Pr} {i : Nat} (h : Cur w0 w g U i) : Rises U ∧ TimesK U ∧ U.length ≤ 1000 ∧ (∀ x ∈ U, x.1.1.length ≤ 1000) ∧ i ≤ U.length ∧ w0.heap.size ≤ g ∧ Below w0.heap.size w0 w := by
  obtain ⟨L, S, P, tv, sv, pv, k, h1, h2, h3, h4, h5, h6, rfl, h8, h9, h10, h11⟩ := h
  exact ⟨cuL_rises h1.1.1 S P, h3.cuL S P, Nat.le_trans (cuL_le L S P) h4, fun x hx => h5 x (mem_cuL.1 hx).1, h11 ▸ placeN_le _ _, h9, h8⟩
/-- The cursor's own block is not among those that stay. -/
theorem Cur.other {w0 w w' : World} {g : Nat} {U : List Pr} {i g' : Nat} (h : Cur w0 w g U i) (hk : Keeps g' w w') (hne : g ≠ g') (hg : w0.heap.size ≤ g') : Cur w0 w' g U i := by
  obtain ⟨L, S, P, tv, sv, pv, k, h1, h2, h3, h4, h5, h6, h7, h8, h9, h10, h11⟩ := h
  exact ⟨L, S, P, tv, sv, pv, k, h1, h2, h3, h4, h5, h6, h7, hk.on h8 hg h8.size, h9, Cx.keeps h10 hne hk, h11⟩

/-- Where a cursor is behind Next, behind Skip. -/
def nextI (U : List Pr) (i : Nat) : Nat := if i < U.length then i + 1 else i
def skipI (U : List Pr) (i : Nat) : Nat := if i < U.length then placeN U (cuPast (hereP U i).1.1) else i
theorem hereP_lt {U : List Pr} {i : Nat} (h : i < U.length) : hereP U i = U[i] := by simp [hereP, h]


end Go.Proofs.YtaaabmnaindgaaaGreatDoor

/-
  cursor: New.
-/
namespace Go.Proofs.YtaaabmnaindgaaaGreatDoor
set_option maxRecDepth 100000
open Go.RowKit

theorem entersUnder : Enters 70 := fun _ _ => by kernel_rfl
theorem new1_calls (d s : List UInt8) (g : Nat) (w : World) (hc : w.cell? ⟨g, 0, none⟩ = some (.string ⟨d.toArray⟩)) (hd : d.length ≤ 1000) (hs : s.length ≤ 1000000) (hm : Ml w) :
    Calls Tryz.prog 70 #[.string ⟨s.toArray⟩, .pointer (some ⟨g, 0, none⟩)] w fun e w' => e = .returned (.bool (underOf d s)) ∧ Below w.heap.size w w' := by
  have K := Lib.hid (under_calls d s (by omega) (by omega) w hm)
  go_enter Tryz.func70, Tryz.ntmps70
  go_wp2_with fail
  refine K.out.mono ?_
  rintro e w1 ⟨rfl, hB⟩
  go_wp2_with fail
  go_ret
  exact ⟨rfl, hB⟩
theorem puts_under {w : World} {d : List UInt8} {g : Nat} (hc : w.cell? ⟨g, 0, none⟩ = some (.string ⟨d.toArray⟩)) (hd : d.length ≤ 1000) (hm : Ml w) : Puts w (.func (.func 70) #[] #[.pointer (some ⟨g, 0, none⟩)]) (underOf d) :=
  ⟨_, _, rfl, fun _ W => entersUnder _ W, fun s W hs hB => new1_calls d s g W (look_below hB hc) hd hs (hm.below hB)⟩

end Go.Proofs.YtaaabmnaindgaaaGreatDoor

/-
  Pairs that came in, opened, with their times' bounds.
-/
namespace Go.Proofs.YtaaabmnaindgaaaGreatDoor
set_option maxRecDepth 100000
open Go.RowKit Go.Joins Go.ChangeShapes Go.WideShapes Go.Deep

theorem pair_trod3 {W : World} {n : Nat} {H : Type} {enc : TypeId × Value → H} {x : DataW H × List MemPlace} {c0 c1 c2 : Value}
    (hf : DataW.trod enc Tryz.prog W 0 (fun _ => true) true n 67 [c0, c1, c2] = some x) : ∃ y : Pr, (c0 = .string ⟨y.1.1.toArray⟩ ∧ c1 = .int .i64 y.1.2 ∧ c2 = .string ⟨y.2.toArray⟩) ∧ TimeK y.1 := by
  obtain ⟨y0, y1, k, _, _, g0, g1⟩ := trod_struct2 Tryz.underlying67 hf
  have k0 : Tryz.prog.cellsOf 65 = 2 := keyCells2
  have k1 : Tryz.prog.cellsOf 9 = 1 := by kernel_rfl
  have k2 : Tryz.prog.cellsOf 3 = 1 := by kernel_rfl
  simp [k0] at g0
  simp [k1] at g1
  obtain ⟨z0, z1, j, _, _, f0, f1⟩ := trod_struct2 Tryz.underlying65 g0
  simp [k1] at f0
  simp [k2] at f1
  obtain ⟨s0, e0, _, _⟩ := DataW.trod_string Tryz.underlying9 f0
  obtain ⟨z, e1, _, hwf⟩ := DataW.trod_int Tryz.underlying3 f1
  obtain ⟨s2, e2, _, _⟩ := DataW.trod_string Tryz.underlying9 g1
  simp at e0 e1 e2
  subst e0
  subst e1
  subst e2
  obtain ⟨l0, rfl⟩ := bytes_list s0
  obtain ⟨l2, rfl⟩ := bytes_list s2
  exact ⟨((l0, z), l2), ⟨rfl, rfl, rfl⟩, i64_bounds hwf⟩
/-- A row of pairs. -/
theorem prs_trod3 {W : World} {n : Nat} {v : Value} {H : Type} {enc : TypeId × Value → H} {x : DataW H × List MemPlace}
    (hf : DataW.trod enc Tryz.prog W 0 (fun _ => true) true n 22 [v] = some x) : ∃ l : List Pr, Prs W v l ∧ l.length ≤ maxLen ∧ TimesK l := by
  rcases open_slice Tryz.underlying22 hf with ⟨hcs, _⟩ | ⟨a, l, c, m, k, D, Pl, hcs, _, hl, hm, hz, _, hcell⟩
  · simp at hcs
    subst hcs
    exact ⟨[], Prs.nil W, by simp, fun x hx => by simp at hx⟩
  · simp at hcs
    subst hcs
    have hz' : m = c := by simpa using hz
    rw [pairCells] at hcell
    have each : ∀ i, i < m → ∃ y : Pr, (W.cell? (a.add (i * 3)) = some (.string ⟨y.1.1.toArray⟩) ∧ W.cell? (a.add (i * 3 + 1)) = some (.int .i64 y.1.2) ∧ W.cell? (a.add (i * 3 + 2)) = some (.string ⟨y.2.toArray⟩)) ∧ TimeK y.1 := by
      intro i hi
      obtain ⟨cs', h1, h2⟩ := hcell i hi
      obtain ⟨_, hlen, hc⟩ := World.cells?_some h1
      match cs', hlen with
      | [v0, v1, v2], _ =>
        have e0 := hc 0 (by omega)
        have e1 := hc 1 (by omega)
        have e2 := hc 2 (by omega)
        rw [add_add] at e0 e1 e2
        obtain ⟨y, ⟨rfl, rfl, rfl⟩, hy⟩ := pair_trod3 h2
        exact ⟨y, ⟨by simpa using e0, by simpa using e1, by simpa using e2⟩, hy⟩
    obtain ⟨Y, hY⟩ := choose_lt each
    have hll : ((List.range l).map Y).length = l := by simp
    refine ⟨(List.range l).map Y, ⟨pcells_len _, some a, c, by rw [hll], by rw [hll]; omega, ?_⟩, by rw [hll]; omega, fun x hx => ?_⟩
    · by_cases h0 : l = 0
      · left; rw [hll]; exact h0
      · right
        obtain ⟨b, off, spot⟩ := a
        have hspot : spot = none := by simpa [Addr.add] using World.cell?_spot (hY 0 (by omega)).1.1
        subst hspot
        refine ⟨b, off, rfl, fun j hj => ?_⟩
        have hj2 : j < l * 3 := by rw [pcells_len, hll] at hj; exact hj
        have hq : j / 3 < l := by omega
        obtain ⟨e0, e1, e2⟩ := pcells_at ((List.range l).map Y) (j / 3) (by rw [hll]; exact hq)
        obtain ⟨⟨y0, y1, y2⟩, _⟩ := hY (j / 3) (by omega)
        rw [Go.WideShapes.add_plain] at y0 y1 y2
        simp only [List.getElem_map, List.getElem_range] at e0 e1 e2
        rcases (by omega : j % 3 = 0 ∨ j % 3 = 1 ∨ j % 3 = 2) with h | h | h
        · have ej : j / 3 * 3 = j := by omega
          rw [ej] at e0 y0
          rw [y0, ← e0, List.getElem?_eq_getElem hj]
        · have ej : j / 3 * 3 + 1 = j := by omega
          rw [ej] at e1 y1
          rw [y1, ← e1, List.getElem?_eq_getElem hj]
        · have ej : j / 3 * 3 + 2 = j := by omega
          rw [ej] at e2 y2
          rw [y2, ← e2, List.getElem?_eq_getElem hj]
    · obtain ⟨i, hi, rfl⟩ := List.mem_map.1 hx
      exact (hY i (by have := List.mem_range.1 hi; omega)).2
theorem prs_open3 {W : World} {base : Nat} {v : Value} {H : Type} {enc : TypeId × Value → H} {d : DataW H} {p : List MemPlace} (hv : Value.okWide Tryz.prog W .any base 22 v)
    (h : DataW.Trod enc Tryz.prog W 0 (fun _ => true) true 22 v d p) : ∃ l : List Pr, Prs W v l ∧ l.length ≤ maxLen ∧ TimesK l := by
  obtain ⟨a0, len, cap, rfl⟩ := okWide_slice Tryz.underlying22 hv
  obtain ⟨fuel, hf⟩ := h
  exact prs_trod3 (by simpa [Value.cells] using hf)

end Go.Proofs.YtaaabmnaindgaaaGreatDoor
