/-
  The texts of one folder in one: CuSpec, CuMath.
-/
import Derived.Test.YtogicnciheedoaaDoorPks10
import Derived.Test.YtogicnciheedoaaDoorPks02

/-
  The plain functions of layer 11 (cursor): the keys at which a cursor is, the pairs that it tells, and how it gets from one to the next. No program is named here.
-/
namespace Go.Proofs.YtogicnciheedoaaDoor

def cuLater (a b : Ky) : Ky := if lessK a b = true then b else a
/-- The time is a number of the program's. -/
def TimeK (k : Ky) : Prop := -9223372036854775808 ≤ k.2 ∧ k.2 ≤ 9223372036854775807
def TimesK (l : List Pr) : Prop := ∀ x ∈ l, TimeK x.1

/-! ### Bytes, keys -/

theorem less_le {a b c : Ky} (h1 : lessK a b = true) (h2 : lessK c b = false) : lessK a c = true := by
  by_cases he : c = b
  · rw [he]; exact h1
  · exact lessK_trans h1 (lessK_total h2 he)
theorem less_cuLater (x a b : Ky) : lessK x (cuLater a b) = (lessK x a || lessK x b) := by
  unfold cuLater
  split
  · rename_i h
    cases hx : lessK x a with
    | true => simp [lessK_trans hx h]
    | false => rfl
  · rename_i h
    have h : lessK a b = false := by simpa using h
    cases hx : lessK x b with
    | true => simp [less_le hx h]
    | false => simp
/-! ### Places -/

theorem place_same {U : List Pr} {a b : Ky} (h : ∀ x ∈ U, lessK x.1 a = lessK x.1 b) : placeN U a = placeN U b := by
  induction U with
  | nil => rfl
  | cons x r ih =>
    unfold placeN
    rw [h x (by simp), ih (fun y hy => h y (List.mem_cons_of_mem _ hy))]
/-! ### The pairs of a cursor -/

abbrev Spn := Ky × Ky
/-- The key stands in the span. -/
def inB (x : Ky) (s : Spn) : Bool := !(lessK x s.1) && lessK x s.2
/-- The pairs that a cursor tells: those whose path is put out, in one of its spans. -/
def cuL (L : List Pr) (S : List Spn) (P : List UInt8 → Bool) : List Pr := L.filter fun x => P x.1.1 && S.any (inB x.1)
/-- The spans begin one behind the other. -/
def SpsRise (S : List Spn) : Prop := ∀ (i j : Nat) (_ : i ≤ j) (h : j < S.length), lessK S[j].1 (S[i]'(by omega)).1 = false
theorem mem_cuL {L : List Pr} {S : List Spn} {P : List UInt8 → Bool} {x : Pr} : x ∈ cuL L S P ↔ x ∈ L ∧ P x.1.1 = true ∧ ∃ s ∈ S, inB x.1 s = true := by
  unfold cuL
  rw [List.mem_filter, Bool.and_eq_true, List.any_eq_true]
/-- Behind i spans: the place is the same, and nothing that is still to come is in one of them. -/
def Been (L : List Pr) (S : List Spn) (P : List UInt8 → Bool) (at0 k : Ky) (i : Nat) : Prop :=
  (∀ x ∈ cuL L S P, lessK x.1 k = lessK x.1 at0) ∧ ∀ x ∈ L, lessK x.1 k = false → ∀ (j : Nat) (h : j < S.length), j < i → inB x.1 S[j] = false
theorem Been.place {L : List Pr} {S : List Spn} {P : List UInt8 → Bool} {at0 k : Ky} {i : Nat} (h : Been L S P at0 k i) : placeN (cuL L S P) k = placeN (cuL L S P) at0 := place_same h.1
/-- What is in a span from the i-th one on doesn't stand ahead of where that one begins. -/
theorem Been.from {L : List Pr} {S : List Spn} {P : List UInt8 → Bool} {at0 k : Ky} {i : Nat} (h : Been L S P at0 k i) (hS : SpsRise S) (hi : i < S.length) {x : Pr} (hx : x ∈ cuL L S P) (hk : lessK x.1 k = false) : lessK x.1 S[i].1 = false := by
  obtain ⟨hL, _, s, hs, hin⟩ := mem_cuL.1 hx
  obtain ⟨j, hj, rfl⟩ := List.getElem_of_mem hs
  rcases Nat.lt_or_ge j i with h1 | h1
  · rw [h.2 x hL hk j hj h1] at hin
    cases hin
  · unfold inB at hin
    rw [Bool.and_eq_true, Bool.not_eq_true'] at hin
    cases hl : lessK x.1 S[i].1 with
    | false => rfl
    | true =>
      rw [less_le hl (hS i j h1 hj)] at hin
      cases hin.1
theorem Been.later {L : List Pr} {S : List Spn} {P : List UInt8 → Bool} {at0 k : Ky} {i : Nat} (h : Been L S P at0 k i) (hS : SpsRise S) (hi : i < S.length) : Been L S P at0 (cuLater k S[i].1) i := by
  refine ⟨fun x hx => ?_, fun x hx hk j hj hji => ?_⟩
  · rw [less_cuLater, ← h.1 x hx]
    cases hk : lessK x.1 k with
    | true => rfl
    | false => rw [h.from hS hi hx hk]; rfl
  · rw [less_cuLater, Bool.or_eq_false_iff] at hk
    exact h.2 x hx hk.1 j hj hji
theorem Been.next {L : List Pr} {S : List Spn} {P : List UInt8 → Bool} {at0 k : Ky} {i : Nat} (h : Been L S P at0 k i) (hi : i < S.length) (hb : ∀ x ∈ L, lessK x.1 k = false → lessK x.1 S[i].2 = false) : Been L S P at0 k (i + 1) := by
  refine ⟨h.1, fun x hx hk j hj hji => ?_⟩
  rcases Nat.lt_or_ge j i with h1 | h1
  · exact h.2 x hx hk j hj h1
  · obtain rfl : j = i := by omega
    unfold inB
    rw [hb x hx hk, Bool.and_false]
theorem Been.end {L : List Pr} {S : List Spn} {P : List UInt8 → Bool} {at0 k : Ky} (h : Been L S P at0 k S.length) : placeN (cuL L S P) at0 = (cuL L S P).length := by
  rw [← h.place]
  refine placeN_full fun x hx => ?_
  cases hl : lessK x.1 k with
  | true => rfl
  | false =>
    obtain ⟨hL, _, s, hs, hin⟩ := mem_cuL.1 hx
    obtain ⟨j, hj, rfl⟩ := List.getElem_of_mem hs
    rw [h.2 x hL hl j hj hj] at hin
    cases hin

end Go.Proofs.YtogicnciheedoaaDoor

/-
  What follows of the plain functions of layer 11: from one pair to the next; which pairs are under a path. No program is named here.
-/
namespace Go.Proofs.YtogicnciheedoaaDoor

/-! ### From one pair to the next -/

theorem TimesK.sub {L U : List Pr} (h : TimesK L) (hs : ∀ x ∈ U, x ∈ L) : TimesK U := fun x hx => h x (hs x hx)
theorem TimesK.cuL {L : List Pr} (h : TimesK L) (S : List Spn) (P : List UInt8 → Bool) : TimesK (cuL L S P) := h.sub fun _ hx => (mem_cuL.1 hx).1

/-! ### Under a path -/

end Go.Proofs.YtogicnciheedoaaDoor
