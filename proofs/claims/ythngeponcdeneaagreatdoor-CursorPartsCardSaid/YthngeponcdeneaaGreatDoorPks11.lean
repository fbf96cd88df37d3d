/-
  The texts of one folder in one: CuSpec, CuMath, CuLaid, CuFns, CuSpans, CuState, CuHere, CuStep, CuRest, CuRange, CuNew, CuRefU, CuWalked, CuSame, CuRefC, CuOps, CuOpen, CuUnder, CuRefR.
-/
import Derived.Test.YthngeponcdeneaaGreatDoorPks10
import Derived.Test.YthngeponcdeneaaGreatDoorPks02
import Derived.Test.YthngeponcdeneaaGreatDoorPks09
import Derived.Test.YthngeponcdeneaaGreatDoorPks08
import Derived.Test.YthngeponcdeneaaGreatDoorShelf
import Derived.WalkMore
import Derived.Deep.RegionLaw
import Derived.Deep.DeepCutAuto
import Derived.Deep.RegionHeld3
import Derived.Test.YthngeponcdeneaaGreatDoorPkbase
import Derived.SizedLaws

/-
  The plain functions of layer 11 (cursor): the keys at which a cursor is, the pairs that it tells, and how it gets from one to the next. No program is named here.
-/
namespace Go.Proofs.YthngeponcdeneaaGreatDoor

/-- The key that no other one of that path stands ahead of. -/
def cuFirst (s : List UInt8) : Ky := (s, 9223372036854775807)
def cuPast (s : List UInt8) : Ky := (s ++ [0], 9223372036854775807)
def cuBehind (k : Ky) : Ky := if k.2 = -9223372036854775808 then cuPast k.1 else (k.1, k.2 - 1)
def cuLater (a b : Ky) : Ky := if lessK a b = true then b else a
/-- The time is a number of the program's. -/
def TimeK (k : Ky) : Prop := -9223372036854775808 ≤ k.2 ∧ k.2 ≤ 9223372036854775807
def TimesK (l : List Pr) : Prop := ∀ x ∈ l, TimeK x.1

/-! ### Bytes, keys -/

theorem less_zero : ∀ p s : List UInt8, Op.bytesLess p (s ++ [0]) = !(Op.bytesLess s p)
  | [], [] => rfl
  | [], _ :: _ => rfl
  | x :: p, [] => by
    have h : ¬ x < 0 := by
      intro h
      have := UInt8.lt_iff_toNat_lt.1 h
      simp at this
    cases p <;> simp [Op.bytesLess, h]
  | x :: p, y :: s => by
    have ih := less_zero p s
    rw [List.cons_append, Op.bytesLess, Op.bytesLess, ih]
    by_cases h1 : x < y
    · have h2 : ¬ y < x := fun h => UInt8.lt_irrefl _ (UInt8.lt_trans h1 h)
      have h3 : y ≠ x := fun e => by subst e; exact UInt8.lt_irrefl _ h1
      simp [h1, h2, h3]
    · by_cases h2 : y < x
      · have h3 : x ≠ y := fun e => by subst e; exact UInt8.lt_irrefl _ h2
        simp [h1, h2, h3]
      · obtain rfl : x = y := UInt8.le_antisymm (UInt8.not_lt.1 h2) (UInt8.not_lt.1 h1)
        simp [h1]
theorem lessK_eq (a b : Ky) : lessK a b = (Op.bytesLess a.1 b.1 || (a.1 == b.1) && decide (b.2 < a.2)) := lessK_ahead a b
theorem less_cuFirst {x : Ky} (h : TimeK x) (s : List UInt8) : lessK x (cuFirst s) = Op.bytesLess x.1 s := by
  have : ¬ (9223372036854775807 : Int) < x.2 := by have := h.2; omega
  rw [lessK_eq]
  simp [cuFirst, this]
theorem less_cuPast {x : Ky} (h : TimeK x) (s : List UInt8) : lessK x (cuPast s) = !(Op.bytesLess s x.1) := by
  have : ¬ (9223372036854775807 : Int) < x.2 := by have := h.2; omega
  rw [lessK_eq, ← less_zero]
  simp [cuPast, this]
theorem less_cuBehind {x : Ky} (h : TimeK x) (k : Ky) : lessK x (cuBehind k) = !(lessK k x) := by
  unfold cuBehind
  split
  · rename_i h1
    rw [less_cuPast h, lessK_eq k x]
    have : ¬ x.2 < k.2 := by have := h.1; omega
    simp [this]
  · rw [lessK_eq, lessK_eq k x]
    cases h1 : Op.bytesLess x.1 k.1 with
    | true =>
      have h2 := less_asymm h1
      have h3 : ¬ k.1 = x.1 := fun e => by rw [e, less_irrefl] at h1; cases h1
      simp [h2, h3]
    | false =>
      by_cases he : x.1 = k.1
      · rw [he, less_irrefl]
        by_cases hx : x.2 < k.2
        · have : ¬ k.2 - 1 < x.2 := by omega
          simp [hx, this]
        · have : k.2 - 1 < x.2 := by omega
          simp [hx, this]
      · have := less_total h1 he
        simp [this, he]
theorem less_le {a b c : Ky} (h1 : lessK a b = true) (h2 : lessK c b = false) : lessK a c = true := by
  by_cases he : c = b
  · rw [he]; exact h1
  · exact lessK_trans h1 (lessK_total h2 he)
theorem le_less {a b c : Ky} (h1 : lessK b a = false) (h2 : lessK b c = true) : lessK a c = true := by
  by_cases he : b = a
  · rw [← he]; exact h2
  · exact lessK_trans (lessK_total h1 he) h2
theorem less_cuLater (x a b : Ky) : lessK x (cuLater a b) = (lessK x a || lessK x b) := by
  unfold cuLater
  split
  · rename_i h
    cases hx : lessK x a with
    | true => simp [lessK_trans hx h]
    | false => rfl
  · rename_i h
    have h : lessK a b = false := by simpa using h
    cases hx : lessK x b with
    | true => simp [less_le hx h]
    | false => simp
theorem cuLater_le (a b : Ky) : lessK (cuLater a b) b = false := by
  unfold cuLater
  split
  · exact lessK_irrefl b
  · rename_i h
    simpa using h

/-! ### Places -/

theorem place_same {U : List Pr} {a b : Ky} (h : ∀ x ∈ U, lessK x.1 a = lessK x.1 b) : placeN U a = placeN U b := by
  induction U with
  | nil => rfl
  | cons x r ih =>
    unfold placeN
    rw [h x (by simp), ih (fun y hy => h y (List.mem_cons_of_mem _ hy))]
theorem tail_nil {L : List Pr} {k : Ky} (h : tailL L k = []) : ∀ x ∈ L, lessK x.1 k = true := by
  intro x hx
  unfold tailL at h
  have h1 := List.drop_eq_nil_iff.1 h
  exact take_ahead (l := L) (k := k) (by rw [List.take_of_length_le h1]; exact hx)
theorem tail_cons {L : List Pr} (hr : Rises L) {k : Ky} {x : Pr} {r : List Pr} (h : tailL L k = x :: r) : x ∈ L ∧ lessK x.1 k = false ∧ (∀ y ∈ L, lessK y.1 k = false → y = x ∨ lessK x.1 y.1 = true) ∧ L[placeN L k]? = some x := by
  unfold tailL at h
  have hlt : placeN L k < L.length := by
    rcases Nat.lt_or_ge (placeN L k) L.length with h1 | h1
    · exact h1
    · rw [List.drop_eq_nil_of_le h1] at h
      cases h
  have hg := List.drop_eq_getElem_cons hlt
  rw [h] at hg
  obtain ⟨hx, hrr⟩ := List.cons.inj hg
  have hsplit : L = L.take (placeN L k) ++ x :: r := by rw [← h, List.take_append_drop]
  refine ⟨by rw [hsplit]; simp, ?_, fun y hy hk => ?_, by rw [List.getElem?_eq_getElem hlt, hx]⟩
  · cases hl : lessK x.1 k with
    | false => rfl
    | true =>
      exfalso
      have h2 := placeN_append (fun y hy => take_ahead (l := L) (k := k) hy) (x :: r)
      rw [← hsplit] at h2
      unfold placeN at h2
      rw [if_pos hl, List.length_take] at h2
      have := placeN_le L k
      rw [placeN.eq_def L k] at *
      omega
  · rw [hsplit] at hy hr
    rcases List.mem_append.1 hy with hy | hy
    · rw [take_ahead hy] at hk
      cases hk
    · rcases List.mem_cons.1 hy with hy | hy
      · exact .inl hy
      · exact .inr ((List.pairwise_cons.1 (List.pairwise_append.1 hr).2.1).1 y hy)
theorem place_more {L : List Pr} (hr : Rises L) {k k' : Ky} {x : Pr} (hx : L[placeN L k]? = some x) (h : lessK x.1 k' = true) : placeN L k < placeN L k' := by
  rcases Nat.lt_or_ge (placeN L k) (placeN L k') with h1 | h1
  · exact h1
  · exfalso
    obtain ⟨hlt, hx⟩ := List.getElem?_eq_some_iff.1 hx
    have hlt' : placeN L k' < L.length := by omega
    obtain ⟨_, h3, _, h4⟩ := tail_cons hr (show tailL L k' = L[placeN L k'] :: L.drop (placeN L k' + 1) from List.drop_eq_getElem_cons hlt')
    rcases Nat.lt_or_eq_of_le h1 with h5 | h5
    · have h6 := List.pairwise_iff_getElem.1 hr _ _ hlt' hlt h5
      rw [hx] at h6
      rw [lessK_trans h6 h] at h3
      cases h3
    · simp only [h5, hx] at h3
      rw [h] at h3
      cases h3

/-! ### The pairs of a cursor -/

abbrev Spn := Ky × Ky
/-- The key stands in the span. -/
def inB (x : Ky) (s : Spn) : Bool := !(lessK x s.1) && lessK x s.2
/-- The pairs that a cursor tells: those whose path is put out, in one of its spans. -/
def cuL (L : List Pr) (S : List Spn) (P : List UInt8 → Bool) : List Pr := L.filter fun x => P x.1.1 && S.any (inB x.1)
/-- The spans begin one behind the other. -/
def SpsRise (S : List Spn) : Prop := ∀ (i j : Nat) (_ : i ≤ j) (h : j < S.length), lessK S[j].1 (S[i]'(by omega)).1 = false
theorem cuL_rises {L : List Pr} (h : Rises L) (S : List Spn) (P : List UInt8 → Bool) : Rises (cuL L S P) := List.Pairwise.filter _ h
theorem cuL_le (L : List Pr) (S : List Spn) (P : List UInt8 → Bool) : (cuL L S P).length ≤ L.length := List.length_filter_le _ _
theorem mem_cuL {L : List Pr} {S : List Spn} {P : List UInt8 → Bool} {x : Pr} : x ∈ cuL L S P ↔ x ∈ L ∧ P x.1.1 = true ∧ ∃ s ∈ S, inB x.1 s = true := by
  unfold cuL
  rw [List.mem_filter, Bool.and_eq_true, List.any_eq_true]
/-- Behind i spans: the place is the same, and nothing that is still to come is in one of them. -/
def Been (L : List Pr) (S : List Spn) (P : List UInt8 → Bool) (at0 k : Ky) (i : Nat) : Prop :=
  (∀ x ∈ cuL L S P, lessK x.1 k = lessK x.1 at0) ∧ ∀ x ∈ L, lessK x.1 k = false → ∀ (j : Nat) (h : j < S.length), j < i → inB x.1 S[j] = false
theorem been_start (L : List Pr) (S : List Spn) (P : List UInt8 → Bool) (k : Ky) : Been L S P k k 0 := ⟨fun _ _ => rfl, fun _ _ _ _ _ h => by omega⟩
theorem Been.place {L : List Pr} {S : List Spn} {P : List UInt8 → Bool} {at0 k : Ky} {i : Nat} (h : Been L S P at0 k i) : placeN (cuL L S P) k = placeN (cuL L S P) at0 := place_same h.1
/-- What is in a span from the i-th one on doesn't stand ahead of where that one begins. -/
theorem Been.from {L : List Pr} {S : List Spn} {P : List UInt8 → Bool} {at0 k : Ky} {i : Nat} (h : Been L S P at0 k i) (hS : SpsRise S) (hi : i < S.length) {x : Pr} (hx : x ∈ cuL L S P) (hk : lessK x.1 k = false) : lessK x.1 S[i].1 = false := by
  obtain ⟨hL, _, s, hs, hin⟩ := mem_cuL.1 hx
  obtain ⟨j, hj, rfl⟩ := List.getElem_of_mem hs
  rcases Nat.lt_or_ge j i with h1 | h1
  · rw [h.2 x hL hk j hj h1] at hin
    cases hin
  · unfold inB at hin
    rw [Bool.and_eq_true, Bool.not_eq_true'] at hin
    cases hl : lessK x.1 S[i].1 with
    | false => rfl
    | true =>
      rw [less_le hl (hS i j h1 hj)] at hin
      cases hin.1
theorem Been.later {L : List Pr} {S : List Spn} {P : List UInt8 → Bool} {at0 k : Ky} {i : Nat} (h : Been L S P at0 k i) (hS : SpsRise S) (hi : i < S.length) : Been L S P at0 (cuLater k S[i].1) i := by
  refine ⟨fun x hx => ?_, fun x hx hk j hj hji => ?_⟩
  · rw [less_cuLater, ← h.1 x hx]
    cases hk : lessK x.1 k with
    | true => rfl
    | false => rw [h.from hS hi hx hk]; rfl
  · rw [less_cuLater, Bool.or_eq_false_iff] at hk
    exact h.2 x hx hk.1 j hj hji
theorem Been.next {L : List Pr} {S : List Spn} {P : List UInt8 → Bool} {at0 k : Ky} {i : Nat} (h : Been L S P at0 k i) (hi : i < S.length) (hb : ∀ x ∈ L, lessK x.1 k = false → lessK x.1 S[i].2 = false) : Been L S P at0 k (i + 1) := by
  refine ⟨h.1, fun x hx hk j hj hji => ?_⟩
  rcases Nat.lt_or_ge j i with h1 | h1
  · exact h.2 x hx hk j hj h1
  · obtain rfl : j = i := by omega
    unfold inB
    rw [hb x hx hk, Bool.and_false]
theorem Been.past {L : List Pr} (hr : Rises L) (ht : TimesK L) {S : List Spn} {P : List UInt8 → Bool} {at0 k : Ky} {i : Nat} (h : Been L S P at0 k i) {x : Pr} {r : List Pr} (hx : tailL L k = x :: r) (hP : P x.1.1 = false) : Been L S P at0 (cuPast x.1.1) i ∧ placeN L k < placeN L (cuPast x.1.1) := by
  obtain ⟨hm, hk, hb, hg⟩ := tail_cons hr hx
  have hle : ∀ y ∈ L, lessK y.1 (cuPast x.1.1) = false → lessK y.1 k = false := by
    intro y hy h1
    rw [less_cuPast (ht y hy)] at h1
    cases hl : lessK y.1 k with
    | false => rfl
    | true =>
      have h2 := less_le hl hk
      rw [lessK_eq] at h2
      simp only [Bool.not_eq_false'] at h1
      have h3 := less_asymm h1
      have h4 : ¬ y.1.1 = x.1.1 := fun e => by rw [e, less_irrefl] at h1; cases h1
      simp [h3, h4] at h2
  refine ⟨⟨fun y hy => ?_, fun y hy h1 j hj hji => h.2 y hy (hle y hy h1) j hj hji⟩, place_more hr hg ?_⟩
  · have hyL := (mem_cuL.1 hy).1
    rw [← h.1 y hy]
    cases hl : lessK y.1 k with
    | true =>
      cases h2 : lessK y.1 (cuPast x.1.1) with
      | true => rfl
      | false => rw [hle y hyL h2] at hl; cases hl
    | false =>
      rw [less_cuPast (ht y hyL)]
      have hne : y.1.1 ≠ x.1.1 := fun e => by
        have := (mem_cuL.1 hy).2.1
        rw [e, hP] at this
        cases this
      rcases hb y hyL hl with e | h2
      · exact absurd (by rw [e]) hne
      · rw [lessK_eq] at h2
        have h3 : ¬ x.1.1 = y.1.1 := fun e => hne e.symm
        simp [h3] at h2
        simp [h2]
  · rw [less_cuPast (ht x hm), less_irrefl]
    rfl
/-- The pair that is met is the one at the place. -/
theorem Been.here {L : List Pr} (hr : Rises L) {S : List Spn} {P : List UInt8 → Bool} {at0 k : Ky} {i : Nat} (h : Been L S P at0 k i) (hi : i < S.length) (hf : lessK k S[i].1 = false) {x : Pr} {r : List Pr} (hx : tailL L k = x :: r) (ht : lessK x.1 S[i].2 = true) (hP : P x.1.1 = true) : (cuL L S P)[placeN (cuL L S P) at0]? = some x := by
  obtain ⟨hm, hk, hb, _⟩ := tail_cons hr hx
  have hin : lessK x.1 S[i].1 = false := by
    cases hl : lessK x.1 S[i].1 with
    | false => rfl
    | true => rw [less_le hl hf] at hk; cases hk
  have hU : x ∈ cuL L S P := mem_cuL.2 ⟨hm, hP, S[i], List.getElem_mem hi, by unfold inB; rw [hin, ht]; rfl⟩
  have h1 := (rises_mem (cuL_rises hr S P) hU).2
  rw [← h.place]
  rw [show placeN (cuL L S P) k = placeN (cuL L S P) x.1 from place_same fun y hy => ?_]
  · exact h1
  · cases hl : lessK y.1 k with
    | true => rw [less_le hl hk]
    | false =>
      rcases hb y (mem_cuL.1 hy).1 hl with e | h2
      · rw [e, lessK_irrefl]
      · rw [lessK_asymm h2]
theorem Been.end {L : List Pr} {S : List Spn} {P : List UInt8 → Bool} {at0 k : Ky} (h : Been L S P at0 k S.length) : placeN (cuL L S P) at0 = (cuL L S P).length := by
  rw [← h.place]
  refine placeN_full fun x hx => ?_
  cases hl : lessK x.1 k with
  | true => rfl
  | false =>
    obtain ⟨hL, _, s, hs, hin⟩ := mem_cuL.1 hx
    obtain ⟨j, hj, rfl⟩ := List.getElem_of_mem hs
    rw [h.2 x hL hl j hj hj] at hin
    cases hin

end Go.Proofs.YthngeponcdeneaaGreatDoor

/-
  What follows of the plain functions of layer 11: from one pair to the next; which pairs are under a path. No program is named here.
-/
namespace Go.Proofs.YthngeponcdeneaaGreatDoor

/-! ### From one pair to the next -/

theorem next_place {U : List Pr} (hr : Rises U) (ht : TimesK U) {i : Nat} (hi : i < U.length) : placeN U (cuBehind U[i].1) = i + 1 := by
  refine placeN_is (by omega) (fun j hj => ?_) (fun h => ?_)
  · rw [less_cuBehind (ht _ (List.getElem_mem _))]
    rcases Nat.lt_or_eq_of_le (Nat.le_of_lt_succ hj) with h | h
    · rw [lessK_asymm (List.pairwise_iff_getElem.1 hr j i _ _ h)]
      rfl
    · subst h
      rw [lessK_irrefl]
      rfl
  · rw [less_cuBehind (ht _ (List.getElem_mem _)), List.pairwise_iff_getElem.1 hr i (i + 1) hi h (by omega)]
    rfl
theorem skip_place {U : List Pr} (hr : Rises U) (ht : TimesK U) {i j : Nat} (hi : i < U.length) (hij : i ≤ j) (hj : j ≤ U.length) (h1 : ∀ (q : Nat) (h : q < U.length), i ≤ q → q < j → U[q].1.1 = U[i].1.1) (h2 : ∀ h : j < U.length, U[j].1.1 ≠ U[i].1.1) : placeN U (cuPast U[i].1.1) = j := by
  refine placeN_is hj (fun q hq => ?_) (fun h => ?_)
  · rw [less_cuPast (ht _ (List.getElem_mem _))]
    rcases Nat.lt_or_ge q i with h | h
    · have h3 := List.pairwise_iff_getElem.1 hr q i (by omega) hi h
      rw [lessK_eq] at h3
      cases h4 : Op.bytesLess U[i].1.1 U[q].1.1 with
      | false => rfl
      | true =>
        rw [less_asymm h4] at h3
        have h5 : ¬ U[q].1.1 = U[i].1.1 := fun e => by rw [e, less_irrefl] at h4; cases h4
        simp [h5] at h3
    · rw [h1 q (by omega) h hq, less_irrefl]
      rfl
  · rw [less_cuPast (ht _ (List.getElem_mem _))]
    have hne := h2 h
    have hlt : i < j := Nat.lt_of_le_of_ne hij fun e => by subst e; exact hne rfl
    have h3 := List.pairwise_iff_getElem.1 hr i j hi h hlt
    rw [lessK_eq] at h3
    have h5 : ¬ U[i].1.1 = U[j].1.1 := fun e => hne e.symm
    simp [h5] at h3
    simp [h3]
theorem TimesK.sub {L U : List Pr} (h : TimesK L) (hs : ∀ x ∈ U, x ∈ L) : TimesK U := fun x hx => h x (hs x hx)
theorem TimesK.cuL {L : List Pr} (h : TimesK L) (S : List Spn) (P : List UInt8 → Bool) : TimesK (cuL L S P) := h.sub fun _ hx => (mem_cuL.1 hx).1

/-! ### Under a path -/

def spansOf (d : List UInt8) : List Spn := if d = [] then [(cuFirst [], cuFirst (List.replicate 101 255))] else [(cuFirst d, cuPast d), (cuFirst (d ++ [47]), cuFirst (d ++ [48]))]
def underL (L : List Pr) (d : List UInt8) : List Pr := L.filter fun x => underOf d x.1.1
def rangeL (L : List Pr) (a b : Ky) : List Pr := L.filter fun x => !(lessK x.1 a) && lessK x.1 b

theorem gl_app2 : ∀ (a : List (List UInt8)) (x y : List UInt8) (r : List (List UInt8)), gl (x :: a ++ y :: r) = gl (x :: a) ++ 47 :: gl (y :: r)
  | [], x, y, r => by simp [gl]
  | z :: a, x, y, r => by
    have ih := gl_app2 a z y r
    show gl (x :: (z :: a ++ y :: r)) = gl (x :: z :: a) ++ 47 :: gl (y :: r)
    rw [List.cons_append] at ih
    rw [List.cons_append, gl, ih, gl, List.append_assoc, List.cons_append]
theorem under_form {d p : List UInt8} (h : underOf d p = true) (h0 : d ≠ []) : p = d ∨ ∃ r, p = d ++ 47 :: r := by
  obtain ⟨a, b, ha, hb, c, rfl⟩ := under_iff.1 h
  obtain ⟨_, hga, _⟩ := names_fine ha
  obtain ⟨_, hgb, _⟩ := names_fine hb
  cases c with
  | nil =>
    left
    rw [← hgb, ← hga, List.append_nil]
  | cons y r =>
    cases a with
    | nil => exact absurd hga.symm h0
    | cons x a =>
      right
      rw [← hgb, ← hga, gl_app2]
      exact ⟨_, rfl⟩
theorem under_len {d p : List UInt8} (h : underOf d p = true) : p.length ≤ 100 := by
  obtain ⟨a, b, _, hb, _⟩ := under_iff.1 h
  exact (names_fine hb).2.2
theorem less_full : ∀ (p : List UInt8) (n : Nat), p.length < n → Op.bytesLess p (List.replicate n 255) = true
  | _, 0, h => by omega
  | [], n + 1, _ => rfl
  | x :: p, n + 1, h => by
    rw [List.replicate_succ, Op.bytesLess, less_full p n (by simpa using h)]
    by_cases hx : x = 255
    · subst hx; rfl
    · have : x < 255 := by
        rw [UInt8.lt_iff_toNat_lt]
        have h1 := x.toNat_lt
        have h2 : x.toNat ≠ 255 := fun e => hx (UInt8.toNat_inj.1 e)
        show x.toNat < 255
        omega
      simp [this]
theorem less_app (d : List UInt8) : ∀ a b : List UInt8, Op.bytesLess (d ++ a) (d ++ b) = Op.bytesLess a b := by
  induction d with
  | nil => intro a b; rfl
  | cons x d ih => intro a b; simp [Op.bytesLess, ih]
theorem spans_any {d : List UInt8} {x : Ky} (hx : TimeK x) (h : underOf d x.1 = true) : (spansOf d).any (inB x) = true := by
  unfold spansOf
  split
  · rename_i h0
    have h1 := under_len h
    simp only [List.any_cons, List.any_nil, Bool.or_false]
    unfold inB
    rw [less_cuFirst hx, less_cuFirst hx, less_full x.1 101 (by omega)]
    cases x.1 <;> rfl
  · rename_i h0
    simp only [List.any_cons, List.any_nil, Bool.or_false, Bool.or_eq_true]
    rcases under_form h h0 with e | ⟨r, e⟩
    · left
      unfold inB
      rw [less_cuFirst hx, less_cuPast hx, e, less_irrefl]
      rfl
    · right
      unfold inB
      rw [less_cuFirst hx, less_cuFirst hx, e, less_app, less_app]
      cases r <;> rfl
theorem cuL_under {L : List Pr} (ht : TimesK L) (d : List UInt8) : cuL L (spansOf d) (underOf d) = underL L d := by
  unfold cuL underL
  refine List.filter_congr fun x hx => ?_
  cases h : underOf d x.1.1 with
  | false => rfl
  | true => rw [spans_any (ht x hx) h]; rfl
theorem under_first {L : List Pr} (ht : TimesK L) (d : List UInt8) : placeN (underL L d) (cuFirst d) = 0 := by
  refine placeN_zero fun x hx => ?_
  obtain ⟨hL, hu⟩ := List.mem_filter.1 hx
  rw [less_cuFirst (ht x hL)]
  by_cases h0 : d = []
  · subst h0
    cases x.1.1 <;> rfl
  · rcases under_form hu h0 with e | ⟨r, e⟩
    · rw [e]
      exact less_irrefl d
    · rw [e]
      exact less_asymm (ahead_app d 47 r)
theorem spans_rise (d : List UInt8) : SpsRise (spansOf d) := by
  unfold spansOf
  split
  · intro i j hij hj
    have e1 : j = 0 := by simpa using hj
    subst e1
    obtain rfl : i = 0 := by omega
    exact lessK_irrefl _
  · intro i j hij hj
    have hj2 : j < 2 := by simpa using hj
    have h3 : (i = 0 ∧ j = 0) ∨ (i = 1 ∧ j = 1) ∨ (i = 0 ∧ j = 1) := by omega
    rcases h3 with ⟨rfl, rfl⟩ | ⟨rfl, rfl⟩ | ⟨rfl, rfl⟩
    · exact lessK_irrefl _
    · exact lessK_irrefl _
    · show lessK (cuFirst (d ++ [47])) (cuFirst d) = false
      rw [less_cuFirst ⟨by simp [cuFirst], by simp [cuFirst]⟩]
      exact less_asymm (ahead_app d 47 [])
theorem cuL_range (L : List Pr) (a b : Ky) : cuL L [(a, b)] (fun _ => true) = rangeL L a b := by
  unfold cuL rangeL
  refine List.filter_congr fun x _ => ?_
  simp [inB]
theorem range_first (L : List Pr) (a b : Ky) : placeN (rangeL L a b) a = 0 := by
  refine placeN_zero fun x hx => ?_
  have := (List.mem_filter.1 hx).2
  rw [Bool.and_eq_true, Bool.not_eq_true'] at this
  exact this.1
theorem one_rise (s : Spn) : SpsRise [s] := by
  intro i j hij hj
  have e1 : j = 0 := by simpa using hj
  subst e1
  obtain rfl : i = 0 := by omega
  exact lessK_irrefl _
theorem underL_le (L : List Pr) (d : List UInt8) : (underL L d).length ≤ L.length := List.length_filter_le _ _
theorem rangeL_le (L : List Pr) (a b : Ky) : (rangeL L a b).length ≤ L.length := List.length_filter_le _ _
/-- A range of two parts. -/
theorem range_parts {L : List Pr} (hr : Rises L) {a b c : Ky} (hab : lessK b a = false) (hbc : lessK c b = false) : rangeL L a b ++ rangeL L b c = rangeL L a c := by
  refine rises_same ?_ (List.Pairwise.filter _ hr) fun x => ?_
  · refine List.pairwise_append.2 ⟨List.Pairwise.filter _ hr, List.Pairwise.filter _ hr, fun x hx y hy => ?_⟩
    have h1 := (List.mem_filter.1 hx).2
    have h2 := (List.mem_filter.1 hy).2
    rw [Bool.and_eq_true, Bool.not_eq_true'] at h1 h2
    exact less_le h1.2 h2.1
  · unfold rangeL
    simp only [List.mem_append, List.mem_filter, Bool.and_eq_true, Bool.not_eq_true']
    constructor
    · rintro (⟨h, h1, h2⟩ | ⟨h, h1, h2⟩)
      · exact ⟨h, h1, less_le h2 hbc⟩
      · refine ⟨h, ?_, h2⟩
        cases hl : lessK x.1 a with
        | false => rfl
        | true => rw [less_le hl hab] at h1; cases h1
    · rintro ⟨h, h1, h2⟩
      cases hl : lessK x.1 b with
      | true => exact .inl ⟨h, h1, rfl⟩
      | false => exact .inr ⟨h, rfl, h2⟩

end Go.Proofs.YthngeponcdeneaaGreatDoor

/-
  The law file's laid and far.
-/
namespace Go.Proofs.YthngeponcdeneaaGreatDoor
set_option maxRecDepth 100000
open Go.RowKit

theorem puts_mem (l : List Pr) : ∀ x ∈ putsL l, x ∈ l := by
  have h : ∀ (l acc : List Pr), Rises acc → ∀ x ∈ l.foldl putL acc, x ∈ acc ∨ x ∈ l := by
    intro l
    induction l with
    | nil => intro acc _ x hx; exact .inl hx
    | cons p r ih =>
      intro acc ha x hx
      rcases ih (putL acc p) (put_rises ha p) x hx with h1 | h1
      · rcases (mem_put ha p x).1 h1 with e | ⟨h2, _⟩
        · exact .inr (by rw [e]; simp)
        · exact .inl h2
      · exact .inr (List.mem_cons_of_mem _ h1)
  intro x hx
  rcases h l [] List.Pairwise.nil x hx with h1 | h1
  · simp at h1
  · exact h1
theorem small_paths {l : List Pr} (h : bigP l = false) : ∀ x ∈ l, x.1.1.length ≤ 200 := by
  intro x hx
  unfold bigP at h
  rw [Bool.or_eq_false_iff, List.any_eq_false] at h
  have h1 := h.2 x hx
  simp at h1
  exact h1.1

set_option maxHeartbeats 4000000 in
theorem laidT_calls (v : Value) (l : List Pr) (w : World) (hs : Prs w v l) (hm : l.length ≤ 1000) :
    Calls Tryz.prog 7 #[v] w fun e w' => ∃ u, e = .returned u ∧ TreeV w' u (putsL l) ∧ Below w.heap.size w w' := by
  obtain ⟨ao, cap, rfl⟩ := hs.form
  obtain ⟨n, hn⟩ : ∃ n, l.length = n := ⟨_, rfl⟩
  have HS := Lib.hid (And.intro hs hn)
  rw [hn] at hm HS ⊢
  have HN := Lib.hid hn
  have KN := Lib.hid new_calls
  clear hs hn
  go_enter Tryz.func7, Tryz.ntmps7
  go_wp2_with fail
  refine (KN.out _).mono ?_
  rintro e w1 ⟨t, rfl, ht, hB1⟩
  have HT := Lib.hid ht
  clear ht
  go_wp2_with fail
  go_loopw [3, 4] (fun t i wr => ∃ k : Nat, k ≤ n ∧ i = .int .i64 k ∧ TreeV wr t (putsL (l.take k)) ∧ Below w.heap.size w wr) (fun _ i _ => n - (intOf i).toNat)
  case atStart => exact ⟨0, Nat.zero_le _, rfl, by simpa [putsL] using HT.out, hB1⟩
  case round =>
    obtain ⟨k, hk, rfl, ha, hB⟩ := hrel
    have HA := Lib.hid (And.intro ha hB)
    by_cases hlt : k < n
    · have hkl : k < l.length := by rw [HN.out]; exact hlt
      have e1 := putsL_succ hkl
      obtain ⟨b, off, rfl, c0, c1, c2⟩ := (HS.out.1.below hB).at hkl
      obtain ⟨⟨⟨p, m⟩, s⟩, hx⟩ : ∃ x, l[k] = x := ⟨_, rfl⟩
      rw [hx] at c0 c1 c2 e1
      dsimp only at c0 c1 c2
      have E1 := Lib.hid e1
      have KP := Lib.hid (tput_calls _ _ p m s _ HA.out.1 (by have := putsL_le (l.take k); rw [List.length_take] at this; omega))
      clear e1 hx ha hB
      go_wp2_with fail
      refine KP.out.mono ?_
      rintro e w2 ⟨u, rfl, hu, hB2⟩
      have HU := Lib.hid hu
      clear hu
      go_wp2_with fail
      go_roundw
      case rel => exact ⟨k + 1, by omega, by go_num, by rw [← E1.out]; exact HU.out, below2 HA.out.2 hB2⟩
      case measure => simp [intOf]; omega
    · obtain rfl : k = n := by omega
      have hfa : l.take k = l := by rw [← HN.out, List.take_length]
      rw [hfa] at HA
      clear ha hB
      go_wp2_with fail
      go_ret
      exact ⟨_, rfl, HA.out.1, HA.out.2⟩

def cuFarB (l : List Pr) (d : List UInt8) : Bool := bigP l || decide (300 < d.length)
set_option maxHeartbeats 2000000 in
theorem cuFar_calls (v : Value) (l : List Pr) (d : List UInt8) (w : World) (hs : Prs w v l) (hm : l.length ≤ 9223372036854775807) (hd : d.length ≤ 9223372036854775807) :
    Calls Tryz.prog 6 #[v, .string ⟨d.toArray⟩] w fun e w' => e = .returned (.bool (cuFarB l d)) ∧ w = w' := by
  have K := big_calls v l w hs hm
  obtain ⟨ao, cap, rfl⟩ := hs.form
  cases hb : bigP l with
  | true =>
    rw [hb] at K
    have K := Lib.hid K
    have H := Lib.hid (show cuFarB l d = true by simp [cuFarB, hb])
    clear hs hb
    go_enter Tryz.func6, Tryz.ntmps6
    go_wp2_with fail
    refine K.out.mono ?_
    rintro e w1 ⟨rfl, rfl⟩
    go_wp2_with fail
    go_ret
    exact ⟨by rw [H.out]; rfl, rfl⟩
  | false =>
    rw [hb] at K
    have K := Lib.hid K
    have H := Lib.hid (show cuFarB l d = decide ((300 : Int) < (d.length : Int)) by unfold cuFarB; rw [hb, Bool.false_or]; exact decide_eq_decide.2 (by omega))
    clear hs hb
    go_enter Tryz.func6, Tryz.ntmps6
    go_wp2_with fail
    refine K.out.mono ?_
    rintro e w1 ⟨rfl, rfl⟩
    go_wp2_with fail
    go_ret
    exact ⟨by rw [H.out]; rfl, rfl⟩
theorem cuFar_not {l : List Pr} {d : List UInt8} (h : cuFarB l d = false) : l.length ≤ 80 ∧ (∀ x ∈ l, x.1.1.length ≤ 200) ∧ d.length ≤ 300 := by
  unfold cuFarB at h
  rw [Bool.or_eq_false_iff] at h
  refine ⟨small_facts h.1, small_paths h.1, ?_⟩
  have := h.2
  rw [decide_eq_false_iff_not] at this
  omega
/-- The pairs of a tree that is laid are good. -/
theorem puts_good {l : List Pr} {d : List UInt8} (h : cuFarB l d = false) (ht : TimesK l) : TimesK (putsL l) ∧ (putsL l).length ≤ 1000 ∧ (∀ x ∈ putsL l, x.1.1.length ≤ 1000) ∧ d.length ≤ 1000 := by
  obtain ⟨h1, h2, h3⟩ := cuFar_not h
  have h4 := putsL_le l
  exact ⟨ht.sub (puts_mem l), by omega, fun x hx => by have := h2 x (puts_mem l x hx); omega, by omega⟩

end Go.Proofs.YthngeponcdeneaaGreatDoor

/-
  cursor: first, past, behind, later.
-/
namespace Go.Proofs.YthngeponcdeneaaGreatDoor
set_option maxRecDepth 100000
open Go.RowKit

/-- A key as a value. -/
abbrev KV (k : Ky) : Value := .agg #[.string ⟨k.1.toArray⟩, .int .i64 k.2]

theorem cFirst_calls (s : List UInt8) (w : World) : Calls Tryz.prog 29 #[.string ⟨s.toArray⟩] w fun e w' => e = .returned (.agg #[.string ⟨s.toArray⟩, .int .i64 9223372036854775807]) ∧ Below w.heap.size w w' := by
  go_enter Tryz.func29, Tryz.ntmps29
  go_wp2_with fail
  obtain ⟨d0, d1, _⟩ := (Cx.new w 39 [.string ⟨s.toArray⟩, .int .i64 9223372036854775807]).two
  refine ret_key (p := 2) (by kernel_rfl) rfl w.heap.size _ _ rfl d0 d1 ?_
  exact ⟨rfl, below_alloc _ _⟩
set_option maxHeartbeats 1000000 in
theorem cPast_calls (s : List UInt8) (hs : s.length ≤ 1000000) (w : World) : Calls Tryz.prog 38 #[.string ⟨s.toArray⟩] w fun e w' => e = .returned (.agg #[.string ⟨(s ++ [0]).toArray⟩, .int .i64 9223372036854775807]) ∧ Below w.heap.size w w' := by
  have K := Lib.hid (fun W => cFirst_calls (s ++ [0]) W)
  have hC := Cx.new w 39 [.string ⟨#[]⟩, .int .i64 0]
  have HA : ByteArray.mk s.toArray ++ ByteArray.mk #[0] = ⟨(s ++ [0]).toArray⟩ := app_mk s [0]
  have hz : ¬ 9223372036854775807 < s.length + 1 := by omega
  go_enter Tryz.func38, Tryz.ntmps38
  go_wp2_with fail
  refine (K.out _).mono ?_
  rintro e w1 ⟨rfl, hB1⟩
  have hC1 := hC.below hB1
  obtain ⟨c0, c1, f0, f1, _⟩ := hC1.two
  go_wp2_with fail
  obtain ⟨d0, d1, _⟩ := (hC1.sets (.string ⟨(s ++ [0]).toArray⟩) (.int .i64 9223372036854775807)).two
  refine ret_key (p := 2) (by kernel_rfl) rfl w.heap.size _ _ rfl d0 d1 ?_
  exact ⟨rfl, below_sets (below2 (below_alloc _ _) hB1) (Nat.le_refl _) _ _⟩
theorem cuBehind_min (p : List UInt8) : cuBehind (p, -9223372036854775808) = (p ++ [0], 9223372036854775807) := by simp [cuBehind, cuPast]
theorem cuBehind_more (p : List UInt8) {n : Int} (h : n ≠ -9223372036854775808) : cuBehind (p, n) = (p, n - 1) := by simp [cuBehind, h]
set_option maxHeartbeats 2000000 in
theorem cBehind_calls (p : List UInt8) (n : Int) (hp : p.length ≤ 1000000) (hn : TimeK (p, n)) (w : World) : Calls Tryz.prog 37 #[.agg #[.string ⟨p.toArray⟩, .int .i64 n]] w fun e w' => e = .returned (KV (cuBehind (p, n))) ∧ Below w.heap.size w w' := by
  obtain ⟨h1, h2⟩ := hn
  dsimp only at h1 h2
  have hB0 := below_alloc w (.cells #[.string ⟨p.toArray⟩, .int .i64 n] 39)
  obtain ⟨k0, k1, _⟩ := (kbox_new w p n).two
  by_cases he : n = -9223372036854775808
  · subst he
    have K := Lib.hid (fun W => cPast_calls p hp W)
    have H := Lib.hid (cuBehind_min p)
    have hC := Cx.new (w.alloc (.cells #[.string ⟨p.toArray⟩, .int .i64 (-9223372036854775808)] 39)) 39 [.string ⟨#[]⟩, .int .i64 0]
    rw [World.size_alloc] at hC
    clear h1 h2
    go_enter Tryz.func37, Tryz.ntmps37
    go_wp2_with fail
    refine (K.out _).mono ?_
    rintro e w1 ⟨rfl, hB1⟩
    have hC1 := hC.below hB1
    obtain ⟨c0, c1, f0, f1, _⟩ := hC1.two
    go_wp2_with fail
    obtain ⟨d0, d1, _⟩ := (hC1.sets (.string ⟨(p ++ [0]).toArray⟩) (.int .i64 9223372036854775807)).two
    refine ret_key (p := 2) (by kernel_rfl) rfl (w.heap.size + 1) _ _ rfl d0 d1 ?_
    rw [H.out]
    exact ⟨rfl, below_sets (below2 (below_alloc2 _ _ _) hB1) (by omega) _ _⟩
  · have hne : decide (n = -9223372036854775808) = false := by rw [decide_eq_false_iff_not]; exact he
    have H := Lib.hid (cuBehind_more p he)
    have hlo : -9223372036854775808 ≤ n - 1 := by omega
    have hC := Cx.new (w.alloc (.cells #[.string ⟨p.toArray⟩, .int .i64 n] 39)) 39 [.string ⟨p.toArray⟩, .int .i64 (n - 1)]
    rw [World.size_alloc] at hC
    clear he
    go_enter Tryz.func37, Tryz.ntmps37
    go_wp2_with fail
    obtain ⟨d0, d1, _⟩ := hC.two
    refine ret_key (p := 2) (by kernel_rfl) rfl (w.heap.size + 1) _ _ rfl d0 d1 ?_
    rw [H.out]
    exact ⟨rfl, below_alloc2 _ _ _⟩
set_option maxHeartbeats 2000000 in
theorem cLater_calls (a b : Ky) (w : World) : Calls Tryz.prog 52 #[KV a, KV b] w fun e w' => e = .returned (KV (cuLater a b)) ∧ Below w.heap.size w w' := by
  obtain ⟨p, n⟩ := a
  obtain ⟨q, m⟩ := b
  dsimp only [KV]
  have K := Lib.hid (fun W => kLess_calls p q n m W)
  have hX := (kbox_new w p n).below (below_alloc2 _ (.cells #[.string ⟨q.toArray⟩, .int .i64 m] 39) (.cells #[.string ⟨#[]⟩, .int .i64 0] 39))
  have hY := (kbox_new (w.alloc (.cells #[.string ⟨p.toArray⟩, .int .i64 n] 39)) q m).below (below_alloc _ (.cells #[.string ⟨#[]⟩, .int .i64 0] 39))
  have hC := Cx.new ((w.alloc (.cells #[.string ⟨p.toArray⟩, .int .i64 n] 39)).alloc (.cells #[.string ⟨q.toArray⟩, .int .i64 m] 39)) 39 [.string ⟨#[]⟩, .int .i64 0]
  have hB3 := below_alloc3 w (.cells #[.string ⟨p.toArray⟩, .int .i64 n] 39) (.cells #[.string ⟨q.toArray⟩, .int .i64 m] 39) (.cells #[.string ⟨#[]⟩, .int .i64 0] 39)
  simp only [World.size_alloc] at hC hY
  have HC := Lib.hid (And.intro hX (And.intro hY (And.intro hC hB3)))
  clear hX hY hC hB3
  cases hl : lessK (p, n) (q, m) with
  | true =>
    rw [hl] at K
    have H := Lib.hid (show cuLater (p, n) (q, m) = (q, m) by simp [cuLater, hl])
    clear hl
    go_enter Tryz.func52, Tryz.ntmps52
    go_wp2_with fail
    refine (K.out _).mono ?_
    rintro e w1 ⟨rfl, hB1⟩
    have hC1 := HC.out.2.2.1.below hB1
    obtain ⟨c0, c1, f0, f1, _⟩ := hC1.two
    obtain ⟨y0, y1, _⟩ := (HC.out.2.1.below hB1).two
    go_wp2_with fail
    obtain ⟨d0, d1, _⟩ := (hC1.sets (.string ⟨q.toArray⟩) (.int .i64 m)).two
    refine ret_key (p := 4) (by kernel_rfl) rfl (w.heap.size + 1 + 1) _ _ rfl d0 d1 ?_
    rw [H.out]
    exact ⟨rfl, below_sets (below2 HC.out.2.2.2 hB1) (by omega) _ _⟩
  | false =>
    rw [hl] at K
    have H := Lib.hid (show cuLater (p, n) (q, m) = (p, n) by simp [cuLater, hl])
    clear hl
    go_enter Tryz.func52, Tryz.ntmps52
    go_wp2_with fail
    refine (K.out _).mono ?_
    rintro e w1 ⟨rfl, hB1⟩
    have hC1 := HC.out.2.2.1.below hB1
    obtain ⟨c0, c1, f0, f1, _⟩ := hC1.two
    obtain ⟨y0, y1, _⟩ := (HC.out.1.below hB1).two
    go_wp2_with fail
    obtain ⟨d0, d1, _⟩ := (hC1.sets (.string ⟨p.toArray⟩) (.int .i64 n)).two
    refine ret_key (p := 4) (by kernel_rfl) rfl (w.heap.size + 1 + 1) _ _ rfl d0 d1 ?_
    rw [H.out]
    exact ⟨rfl, below_sets (below2 HC.out.2.2.2 hB1) (by omega) _ _⟩

end Go.Proofs.YthngeponcdeneaaGreatDoor

/-
  cursor: the spans of a path; the closures that say which paths are put out.
-/
namespace Go.Proofs.YthngeponcdeneaaGreatDoor
set_option maxRecDepth 100000
open Go.RowKit

/-- A span's cells. -/
def scell (s : Spn) : List Value := [.string ⟨s.1.1.toArray⟩, .int .i64 s.1.2, .string ⟨s.2.1.toArray⟩, .int .i64 s.2.2]
def scells (S : List Spn) : List Value := S.flatMap scell
theorem scells_cons (s : Spn) (r : List Spn) : scells (s :: r) = .string ⟨s.1.1.toArray⟩ :: .int .i64 s.1.2 :: .string ⟨s.2.1.toArray⟩ :: .int .i64 s.2.2 :: scells r := rfl
theorem scells_len (S : List Spn) : (scells S).length = S.length * 4 := by
  induction S with
  | nil => rfl
  | cons x r ih => rw [scells_cons]; simp only [List.length_cons, ih]; omega
theorem scells_at (S : List Spn) (i : Nat) (h : i < S.length) : (scells S)[i * 4]? = some (.string ⟨S[i].1.1.toArray⟩) ∧ (scells S)[i * 4 + 1]? = some (.int .i64 S[i].1.2) ∧ (scells S)[i * 4 + 2]? = some (.string ⟨S[i].2.1.toArray⟩) ∧ (scells S)[i * 4 + 3]? = some (.int .i64 S[i].2.2) := by
  induction S generalizing i with
  | nil => simp at h
  | cons x r ih =>
    cases i with
    | zero => exact ⟨rfl, rfl, rfl, rfl⟩
    | succ i =>
      have h1 := ih i (by simpa using h)
      rw [scells_cons, show (i + 1) * 4 = i * 4 + 1 + 1 + 1 + 1 by omega]
      exact h1
/-- The slice v reads as these spans. -/
def Sps (w : World) (v : Value) (S : List Spn) : Prop := Rw w 4 v S.length (scells S)
theorem Sps.below {w w' : World} {v : Value} {S : List Spn} (h : Sps w v S) (hb : Below w.heap.size w w') : Sps w' v S := Rw.below h hb
theorem Sps.form {w : World} {v : Value} {S : List Spn} (h : Sps w v S) : ∃ ao cap, v = .slice ao S.length cap := Rw.form h
theorem Sps.new (w : World) (S : List Spn) (t : TypeId) : Sps (w.alloc (.cells (scells S).toArray t)) (.slice (some ⟨w.heap.size, 0, none⟩) S.length S.length) S := by
  refine ⟨scells_len S, _, _, rfl, Nat.le_refl _, .inr ⟨_, 0, rfl, fun j hj => ?_⟩⟩
  rw [Nat.zero_add, World.cell?_alloc_new]
  simp [List.getElem?_eq_getElem hj]
theorem Sps.at {w : World} {ao : Option Addr} {n cap : Nat} {S : List Spn} (h : Sps w (.slice ao n cap) S) {k : Nat} (hk : k < S.length) :
    ∃ b off, ao = some ⟨b, off, none⟩ ∧ w.cell? ⟨b, off + k * 4, none⟩ = some (.string ⟨S[k].1.1.toArray⟩) ∧ w.cell? ⟨b, off + k * 4 + 1, none⟩ = some (.int .i64 S[k].1.2) ∧ w.cell? ⟨b, off + k * 4 + 2, none⟩ = some (.string ⟨S[k].2.1.toArray⟩) ∧ w.cell? ⟨b, off + k * 4 + 3, none⟩ = some (.int .i64 S[k].2.2) := by
  obtain ⟨hl, ao', cap', he, _, hc⟩ := h
  cases he
  rcases hc with h0 | ⟨b, off, rfl, hc⟩
  · omega
  · have h2 := scells_len S
    obtain ⟨e1, e2, e3, e4⟩ := scells_at S k hk
    refine ⟨b, off, rfl, ?_, ?_, ?_, ?_⟩
    · rw [hc (k * 4) (by omega), ← e1, List.getElem?_eq_getElem (by omega)]
    · rw [Nat.add_assoc, hc (k * 4 + 1) (by omega), ← e2, List.getElem?_eq_getElem (by omega)]
    · rw [Nat.add_assoc, hc (k * 4 + 2) (by omega), ← e3, List.getElem?_eq_getElem (by omega)]
    · rw [Nat.add_assoc, hc (k * 4 + 3) (by omega), ← e4, List.getElem?_eq_getElem (by omega)]

theorem repeat_calls (w : World) : Calls Tryz.prog 48 #[.string ⟨#[255]⟩, .int .i64 101] w fun e w' => e = .returned (.string ⟨(List.replicate 101 255).toArray⟩) ∧ Below w.heap.size w w' := by
  refine (Tryz.strings_Repeat ⟨#[255]⟩ 101 w (by decide) (by decide)).mono ?_
  rintro e w' ⟨rfl, hB⟩
  exact ⟨rfl, hB⟩

set_option maxHeartbeats 4000000 in
theorem spans_root (w : World) : Calls Tryz.prog 30 #[.string ⟨#[]⟩] w fun e w' => ∃ ao cap, e = .returned (.slice ao (spansOf []).length cap) ∧ Sps w' (.slice ao (spansOf []).length cap) (spansOf []) ∧ Below w.heap.size w w' := by
  obtain ⟨q, hq⟩ : ∃ q : List UInt8, List.replicate 101 255 = q := ⟨_, rfl⟩
  have KR := Lib.hid (fun W => repeat_calls W)
  rw [hq] at KR
  have hs : spansOf [] = [(([], 9223372036854775807), (q, 9223372036854775807))] := by simp [spansOf, cuFirst, hq]
  have H := Lib.hid hs
  have KF := Lib.hid (fun s W => cFirst_calls s W)
  have KN := Lib.hid (fun W => cFirst_calls [] W)
  clear hq hs
  go_enter Tryz.func30, Tryz.ntmps30
  go_wp2_with fail
  refine (KN.out _).mono ?_
  rintro e w1 ⟨rfl, hB1⟩
  go_wp2_with fail
  refine (KR.out _).mono ?_
  rintro e w2 ⟨rfl, hB2⟩
  go_wp2_with fail
  refine (KF.out q _).mono ?_
  rintro e w3 ⟨rfl, hB3⟩
  go_wp2_with fail
  go_ret
  rw [H.out]
  exact ⟨_, _, rfl, Sps.new _ _ _, below2 (below3 hB1 hB2 hB3) (below_alloc _ _)⟩

set_option maxHeartbeats 4000000 in
theorem spans_more (d : List UInt8) (h0 : d ≠ []) (hd : d.length ≤ 1000) (w : World) : Calls Tryz.prog 30 #[.string ⟨d.toArray⟩] w fun e w' => ∃ ao cap, e = .returned (.slice ao (spansOf d).length cap) ∧ Sps w' (.slice ao (spansOf d).length cap) (spansOf d) ∧ Below w.heap.size w w' := by
  have hs : spansOf d = [((d, 9223372036854775807), (d ++ [0], 9223372036854775807)), ((d ++ [47], 9223372036854775807), (d ++ [48], 9223372036854775807))] := by simp [spansOf, cuFirst, cuPast, h0]
  have H := Lib.hid hs
  have KF := Lib.hid (fun s W => cFirst_calls s W)
  have KP := Lib.hid (fun W => cPast_calls d (by omega) W)
  have HA : ByteArray.mk d.toArray ++ ByteArray.mk #[47] = ⟨(d ++ [47]).toArray⟩ := app_mk d [47]
  have HA2 : ByteArray.mk d.toArray ++ ByteArray.mk #[48] = ⟨(d ++ [48]).toArray⟩ := app_mk d [48]
  have hz : ¬ 9223372036854775807 < d.length + 1 := by omega
  have hn : (d == []) = false := by simp [h0]
  clear hs h0
  go_enter Tryz.func30, Tryz.ntmps30
  go_wp2_with fail
  refine (KF.out d _).mono ?_
  rintro e w1 ⟨rfl, hB1⟩
  go_wp2_with fail
  refine (KP.out _).mono ?_
  rintro e w2 ⟨rfl, hB2⟩
  go_wp2_with fail
  refine (KF.out (d ++ [47]) _).mono ?_
  rintro e w3 ⟨rfl, hB3⟩
  go_wp2_with fail
  refine (KF.out (d ++ [48]) _).mono ?_
  rintro e w4 ⟨rfl, hB4⟩
  go_wp2_with fail
  go_ret
  rw [H.out]
  exact ⟨_, _, rfl, Sps.new _ _ _, below2 (below2 (below3 hB1 hB2 hB3) hB4) (below_alloc _ _)⟩
theorem spans_calls (d : List UInt8) (hd : d.length ≤ 1000) (w : World) : Calls Tryz.prog 30 #[.string ⟨d.toArray⟩] w fun e w' => ∃ ao cap, e = .returned (.slice ao (spansOf d).length cap) ∧ Sps w' (.slice ao (spansOf d).length cap) (spansOf d) ∧ Below w.heap.size w w' := by
  by_cases h0 : d = []
  · subst h0
    exact spans_root w
  · exact spans_more d h0 hd w

/-! ### Which paths are put out -/

/-- The function value p says of a path whether it is put out. -/
def Puts (w : World) (p : Value) (P : List UInt8 → Bool) : Prop :=
  ∃ f xs, p = .func (.func f) #[] xs ∧ (∀ s W, (callFunc f (#[s] ++ xs)).run Tryz.prog W = .ok (.enter f (#[s] ++ xs)) W) ∧ ∀ s W, s.length ≤ 1000000 → Below w.heap.size w W → Calls Tryz.prog f (#[.string ⟨s.toArray⟩] ++ xs) W fun e w' => e = .returned (.bool (P s)) ∧ Below W.heap.size W w'

end Go.Proofs.YthngeponcdeneaaGreatDoor

/-
  cursor: a cursor in memory.
-/
namespace Go.Proofs.YthngeponcdeneaaGreatDoor
set_option maxRecDepth 100000
open Go.RowKit

/-- What there was stays, but for the block g. -/
def Keeps (g : Nat) (w w' : World) : Prop := w.grownBy w' (some g)
theorem Keeps.refl (g : Nat) (w : World) : Keeps g w w := grown_refl w _
theorem Keeps.below (g : Nat) {w w' : World} (h : Below w.heap.size w w') : Keeps g w w' := ⟨h.os, h.tape, h.output, h.size, fun k hk _ => h.block k hk⟩
theorem Keeps.trans {g : Nat} {a b c : World} (h : Keeps g a b) (k : Keeps g b c) : Keeps g a c := grown_trans h k
theorem Keeps.then {g : Nat} {a b c : World} (h : Keeps g a b) (k : Below b.heap.size b c) : Keeps g a c := h.trans (Keeps.below g k)
theorem Keeps.set {g : Nat} {w w' : World} (h : Keeps g w w') (j : Nat) (v : Value) : Keeps g w (w'.setCell ⟨g, j, none⟩ v) := by
  have hb : Below g w' (w'.setCell ⟨g, j, none⟩ v) := (Below.refl g w').setCell (Nat.le_refl _) v
  refine ⟨hb.os.trans h.os, hb.tape.trans h.tape, hb.output.trans h.output, Nat.le_trans h.size hb.size, fun i hi hne => ?_⟩
  rw [heap_setCell_other w' ⟨g, j, none⟩ i v (fun e => hne (by rw [e]))]
  exact h.block i hi hne
theorem Keeps.other {g : Nat} {w w' : World} (h : Keeps g w w') {b : Nat} (hb : w.heap.size ≤ b) (j : Nat) (v : Value) : Keeps g w (w'.setCell ⟨b, j, none⟩ v) := by
  have hb2 : Below b w' (w'.setCell ⟨b, j, none⟩ v) := (Below.refl b w').setCell (Nat.le_refl _) v
  refine ⟨hb2.os.trans h.os, hb2.tape.trans h.tape, hb2.output.trans h.output, Nat.le_trans h.size hb2.size, fun i hi hne => ?_⟩
  rw [heap_setCell_other w' ⟨b, j, none⟩ i v (by show i ≠ b; omega)]
  exact h.block i hi hne
theorem Keeps.set2 {g : Nat} {w w' : World} (h : Keeps g w w') (x y : Value) : Keeps g w ((w'.setCell ⟨g, 1, none⟩ x).setCell ⟨g, 2, none⟩ y) := (h.set 1 x).set 2 y
theorem Cx.keeps {w w' : World} {b g : Nat} {t : TypeId} {cs : List Value} (h : Cx w b t cs) (hne : b ≠ g) (hk : Keeps g w w') : Cx w' b t cs := by
  unfold Cx
  rw [hk.block _ h.lt (fun e => hne (by cases e; rfl))]
  exact h
theorem Keeps.on {g B : Nat} {w0 w w' : World} (hk : Keeps g w w') (hb : Below B w0 w) (hg : B ≤ g) (hB : B ≤ w.heap.size) : Below B w0 w' :=
  ⟨hk.os.trans hb.os, hk.tape.trans hb.tape, hk.output.trans hb.output, Nat.le_trans hb.size hk.size, fun i hi => (hk.block i (Nat.lt_of_lt_of_le hi hB) (fun e => by cases e; omega)).trans (hb.block i hi)⟩

/-- What a cursor needs that it never turns: a tree, spans, what is put out. -/
def Base (w0 : World) (L : List Pr) (S : List Spn) (P : List UInt8 → Bool) (tv sv pv : Value) : Prop := TreeV w0 tv L ∧ Sps w0 sv S ∧ Puts w0 pv P
theorem Base.below {w w' : World} {L : List Pr} {S : List Spn} {P : List UInt8 → Bool} {tv sv pv : Value} (h : Base w L S P tv sv pv) (hb : Below w.heap.size w w') : Base w' L S P tv sv pv := by
  obtain ⟨h1, h2, f, xs, h3, h4, h5⟩ := h
  exact ⟨h1.below hb, h2.below hb, f, xs, h3, h4, fun s W hs hB => h5 s W hs (below2 hb hB)⟩
/-- A cursor's block. -/
def CBox (w : World) (g : Nat) (tv sv pv : Value) (k : Ky) : Prop := Cx w g 65 [tv, .string ⟨k.1.toArray⟩, .int .i64 k.2, sv, pv]
theorem CBox.cells {w : World} {g : Nat} {tv sv pv : Value} {k : Ky} (h : CBox w g tv sv pv k) : w.cell? ⟨g, 0, none⟩ = some tv ∧ w.cell? ⟨g, 1, none⟩ = some (.string ⟨k.1.toArray⟩) ∧ w.cell? ⟨g, 2, none⟩ = some (.int .i64 k.2) ∧ w.cell? ⟨g, 3, none⟩ = some sv ∧ w.cell? ⟨g, 4, none⟩ = some pv ∧ w.frozen? ⟨g, 1, none⟩ = false ∧ w.frozen? ⟨g, 2, none⟩ = false ∧ g < w.heap.size :=
  ⟨Cx.cell h rfl, Cx.cell h rfl, Cx.cell h rfl, Cx.cell h rfl, Cx.cell h rfl, Cx.frozen h _, Cx.frozen h _, Cx.lt h⟩
theorem CBox.set {w : World} {g : Nat} {tv sv pv : Value} {k : Ky} (h : CBox w g tv sv pv k) (k' : Ky) : CBox ((w.setCell ⟨g, 1, none⟩ (.string ⟨k'.1.toArray⟩)).setCell ⟨g, 2, none⟩ (.int .i64 k'.2)) g tv sv pv k' := Cx.set (Cx.set h 1 _) 2 _
theorem CBox.below {w w' : World} {g : Nat} {tv sv pv : Value} {k : Ky} (h : CBox w g tv sv pv k) (hb : Below w.heap.size w w') : CBox w' g tv sv pv k := Cx.below h hb
theorem CBox.new (w : World) (tv sv pv : Value) (k : Ky) : CBox (w.alloc (.cells #[tv, .string ⟨k.1.toArray⟩, .int .i64 k.2, sv, pv] 65)) w.heap.size tv sv pv k := Cx.new w _ [tv, .string ⟨k.1.toArray⟩, .int .i64 k.2, sv, pv]

/-- A pair as a value. -/
abbrev PV (x : Pr) : Value := .agg #[.string ⟨x.1.1.toArray⟩, .int .i64 x.1.2, .string ⟨x.2.toArray⟩]
/-- The pair at a place, or zeros. -/
def hereP (U : List Pr) (i : Nat) : Pr := U[i]?.getD (([], 0), [])
theorem hereP_at {U : List Pr} {i : Nat} {x : Pr} (h : U[i]? = some x) : hereP U i = x ∧ i < U.length := ⟨by simp [hereP, h], (List.getElem?_eq_some_iff.1 h).1⟩
theorem hereP_none {U : List Pr} {i : Nat} (h : i = U.length) : hereP U i = (([], 0), []) := by simp [hereP, h]

theorem pair_size2 : (Tryz.prog.info? 43).map (·.size) = some 3 := by kernel_rfl
theorem pair_agg (w : World) : (isAgg 43).run Tryz.prog w = .ok true w := by kernel_rfl
theorem load_pr (w : World) (g : Nat) (x : Pr) (t : TypeId) (h : Cx w g t (pcell x)) : (loadVar 43 ⟨g, 0, none⟩).run Tryz.prog w = .ok (PV x) w :=
  load_many (cs := pcell x) (pair_agg w) pair_size2 (cells_box h)
/-- A pair and a bool are what comes out of a call. -/
theorem ret_pair2 {fn : Func} {p q : Tmp} {R : Ending → World → Prop} {a : Act} {w : World} (h : fn.results = #[.cell p 43, .tmp q]) (hd : a.defers = []) (g : Nat) (x : Pr) (v2 : Value) (hp : a.tmps.getD p undef = .pointer (some ⟨g, 0, none⟩))
    (hq : a.tmps.getD q undef = v2) (hc : Cx w g 43 (pcell x)) (hR : R (.returned (.tuple #[PV x, v2])) w) : bodyPost Tryz.prog fn R .ret a w := by
  refine bodyPost_ret (v := .tuple #[PV x, v2]) ?_ hd hR
  have hp' : a.tmps[p]?.getD undef = .pointer (some ⟨g, 0, none⟩) := by simpa using hp
  have hq' : a.tmps[q]?.getD undef = v2 := by simpa using hq
  simp [results, h, hp', hq', asAddr, load_pr w g x _ hc]

end Go.Proofs.YthngeponcdeneaaGreatDoor

/-
  cursor: here.
-/
namespace Go.Proofs.YthngeponcdeneaaGreatDoor
set_option maxRecDepth 100000
open Go.RowKit

set_option maxHeartbeats 4000000 in
theorem here_nil (w : World) : Calls Tryz.prog 36 #[.pointer none] w fun e w' => e = .returned (.tuple #[PV (([], 0), []), .bool false]) ∧ Below w.heap.size w w' := by
  go_enter Tryz.func36, Tryz.ntmps36
  go_wp2_with fail
  have hC := Cx.new w 43 (pcell (([], 0), []))
  go_step3
  go_wp2_with fail
  rw [Exit.noGoto_ret]
  refine ret_pair2 (p := 2) (q := 3) (by kernel_rfl) rfl w.heap.size (([], 0), []) _ rfl rfl hC ?_
  exact ⟨rfl, below_alloc _ _⟩

/-- Behind a path's pairs it stands where it stood: not ahead of its span. -/
theorem past_behind {L : List Pr} (ht : TimesK L) (hr : Rises L) {k f : Ky} {x : Pr} {r : List Pr} (h : tailL L k = x :: r) (hf : lessK k f = false) : lessK (cuPast x.1.1) f = false := by
  obtain ⟨hm, hk, _⟩ := tail_cons hr h
  cases hl : lessK (cuPast x.1.1) f with
  | false => rfl
  | true =>
    have h1 : lessK x.1 (cuPast x.1.1) = true := by rw [less_cuPast (ht x hm), less_irrefl]; rfl
    rw [less_le (lessK_trans h1 hl) hf] at hk
    cases hk

/-- Where a cursor is. -/
def atOf (w : World) (g : Nat) : Ky := match w.cell? ⟨g, 1, none⟩, w.cell? ⟨g, 2, none⟩ with
  | some (.string b), some (.int _ n) => (b.data.toList, n)
  | _, _ => ([], 0)
theorem CBox.atOf {w : World} {g : Nat} {tv sv pv : Value} {k : Ky} (h : CBox w g tv sv pv k) : atOf w g = k := by
  obtain ⟨_, c1, c2, _⟩ := h.cells
  unfold Proofs.YthngeponcdeneaaGreatDoor.atOf
  rw [c1, c2]
theorem TreeV.val {w : World} {v : Value} {l : List Pr} (h : TreeV w v l) : ∃ p, v = .pointer p := by
  obtain ⟨_, ⟨rfl, _⟩ | ⟨g, u, rfl, _⟩⟩ := h
  · exact ⟨_, rfl⟩
  · exact ⟨_, rfl⟩

set_option maxHeartbeats 8000000 in
theorem here_calls (w0 w : World) (L : List Pr) (S : List Spn) (P : List UInt8 → Bool) (tv sv pv : Value) (g : Nat) (k : Ky) (hb : Base w0 L S P tv sv pv) (hr : SpsRise S) (ht : TimesK L) (hm : L.length ≤ 1000) (hp : ∀ x ∈ L, x.1.1.length ≤ 1000) (hs1 : S.length ≤ 1000) (hB : Below w0.heap.size w0 w) (hg : w0.heap.size ≤ g) (hc : CBox w g tv sv pv k) :
    Calls Tryz.prog 36 #[.pointer (some ⟨g, 0, none⟩)] w fun e w' => ∃ k', placeN (cuL L S P) k' = placeN (cuL L S P) k ∧ e = .returned (.tuple #[PV (hereP (cuL L S P) (placeN (cuL L S P) k)), .bool (decide (placeN (cuL L S P) k < (cuL L S P).length))]) ∧ CBox w' g tv sv pv k' ∧ Keeps g w w' := by
  obtain ⟨htr, hs, f, xs, rfl, hf, hpu⟩ := hb
  obtain ⟨aS, cS, rfl⟩ := hs.form
  obtain ⟨tp, rfl⟩ := htr.val
  obtain ⟨sn, hsn⟩ : ∃ s, S.length = s := ⟨_, rfl⟩
  have HN := Lib.hid hs
  have KL := Lib.hid (fun a b W => cLater_calls a b W)
  have KF := Lib.hid (fun (k2 : Ky) W (hB : Below w0.heap.size w0 W) => from_calls _ L k2.1 k2.2 1 W (htr.below hB) (by omega))
  have HP := Lib.hid (And.intro hp (And.intro ht (And.intro hf hpu)))
  have hC0 := Cx.new w 43 (pcell (([], 0), []))
  have hc1 := hc.below (below_alloc w (.cells (pcell (([], 0), [])).toArray 43))
  have HC := Lib.hid (And.intro hc1 (And.intro hC0 (And.intro hB (And.intro hc.lt (And.intro hr htr)))))
  obtain ⟨c0, c1, c2, c3, c4, f1, f2, hlt⟩ := hc.cells
  clear hc hC0 hc1 hB hr htr hs hp ht hf hpu
  rw [hsn] at c3 hs1 HN HC ⊢
  have HS := Lib.hid (And.intro HN.out hsn)
  clear hsn HN
  go_enter Tryz.func36, Tryz.ntmps36
  go_wp2_with fail
  go_step3
  go_wp2_with fail
  go_step3
  go_wp2_with fail
  go_loopw [15] (fun i wr => ∃ (n : Nat) (k1 : Ky), n ≤ sn ∧ i = .int .i64 n ∧ Been L S P k k1 n ∧ CBox wr g (.pointer tp) (.slice aS sn cS) (.func (.func f) #[] xs) k1 ∧ Cx wr w.heap.size 43 (pcell (([], 0), [])) ∧ Keeps g w wr) (fun i _ => sn - (intOf i).toNat)
  case atStart => exact ⟨0, k, Nat.zero_le _, rfl, been_start _ _ _ _, HC.out.1, HC.out.2.1, Keeps.below g (below_alloc _ _)⟩
  case round =>
    obtain ⟨n, k1, hn, rfl, hbe, hcb, hz, hke⟩ := hrel
    have hBw := hke.on HC.out.2.2.1 hg HC.out.2.2.1.size
    by_cases hlt2 : n < sn
    · obtain ⟨b, off, rfl, s0, s1, s2, s3⟩ := (HS.out.1.below hBw).at (k := n) (by rw [HS.out.2]; exact hlt2)
      obtain ⟨⟨⟨p1, m1⟩, ⟨p2, m2⟩⟩, hsp⟩ : ∃ s, S[n]'(by rw [HS.out.2]; exact hlt2) = s := ⟨_, rfl⟩
      rw [hsp] at s0 s1 s2 s3
      dsimp only at s0 s1 s2 s3
      obtain ⟨d0, d1, d2, d3, d4, e1, e2, hlt3⟩ := hcb.cells
      go_wp2_with fail
      have hY := Cx.new wr 75 [.string ⟨p1.toArray⟩, .int .i64 m1, .string ⟨p2.toArray⟩, .int .i64 m2]
      have hcb2 := hcb.below (below_alloc wr (.cells #[.string ⟨p1.toArray⟩, .int .i64 m1, .string ⟨p2.toArray⟩, .int .i64 m2] 75))
      have HW := Lib.hid (And.intro hcb2 (And.intro hY (hz.below (below_alloc wr (.cells #[.string ⟨p1.toArray⟩, .int .i64 m1, .string ⟨p2.toArray⟩, .int .i64 m2] 75)))))
      clear hY hcb2
      obtain ⟨g0, g1, g2, g3, g4, _⟩ := HW.out.1.cells
      obtain ⟨y0, y1, _⟩ := (show _ ∧ _ ∧ True from ⟨HW.out.2.1.cell (j := 0) rfl, HW.out.2.1.cell (j := 1) rfl, trivial⟩)
      obtain ⟨v1, v2, v3, v4, v5, h1, h2, _⟩ := HW.out.1.cells
      go_upto_region 6 with fail
      go_cut [19] (fun _ wc => CBox wc g (.pointer tp) (.slice (some ⟨b, off, none⟩) sn cS) (.func (.func f) #[] xs) (cuLater k1 (p1, m1)) ∧ Cx wc w.heap.size 43 (pcell (([], 0), [])) ∧ Cx wc wr.heap.size 75 [.string ⟨p1.toArray⟩, .int .i64 m1, .string ⟨p2.toArray⟩, .int .i64 m2] ∧ Keeps g w wc)
      case first =>
        go_region_law (first
          | (go_simp; go_at_call 52; refine (KL.out k1 (p1, m1) _).mono ?_; rintro e w2 ⟨rfl, hB2⟩; have hBq := below2 (drew_below _) hB2; have hcb3 := HW.out.1.below hBq; obtain ⟨q0, q1, q2, q3, q4, r1, r2, r3⟩ := hcb3.cells; dsimp only [KV]))
        all_goals
          go_wp2_with fail
          go_meet
          case rel =>
            have hkk := (hke.then (below_alloc wr _)).then hBq
            exact ⟨hcb3.set _, (HW.out.2.2.below hBq).keeps (Nat.ne_of_gt HC.out.2.2.2.1) (Keeps.set2 (Keeps.refl _ _) _ _), (HW.out.2.1.below hBq).keeps (Nat.ne_of_gt hlt3) (Keeps.set2 (Keeps.refl _ _) _ _), hkk.set2 _ _⟩
      case rest =>
        obtain ⟨hcb4, hz4, hy4, hke4⟩ := hcut
        obtain ⟨gs, hgs⟩ : ∃ x, wr.heap.size = x := ⟨_, rfl⟩
        have hgl : w.heap.size < gs := hgs ▸ hz.lt
        rw [hgs] at hy4 ⊢
        have hsn2 : n < S.length := by rw [HS.out.2]; exact hlt2
        have hbe2 := hbe.later HC.out.2.2.2.2.1 hsn2
        have hfr := cuLater_le k1 S[n].1
        rw [hsp] at hbe2 hfr
        have H4 := Lib.hid (And.intro hbe2 (And.intro hfr (And.intro hcb4 (And.intro hz4 (And.intro hy4 hke4)))))
        clear hbe2 hfr hcb4 hz4 hy4 hke4 d0 d1 d2 d3 d4 e1 e2 s0 s1 s2 s3 g0 g1 g2 g3 g4 y0 y1 v1 v2 v3 v4 v5 h1 h2 HW
        go_wp2_with fail
        go_loopw [6] (fun _ wi => ∃ k2 : Ky, Been L S P k k2 n ∧ lessK k2 (p1, m1) = false ∧ CBox wi g (.pointer tp) (.slice (some ⟨b, off, none⟩) sn cS) (.func (.func f) #[] xs) k2 ∧ Cx wi w.heap.size 43 (pcell (([], 0), [])) ∧ Cx wi gs 75 [.string ⟨p1.toArray⟩, .int .i64 m1, .string ⟨p2.toArray⟩, .int .i64 m2] ∧ Keeps g w wi) (fun _ wi => L.length - placeN L (atOf wi g))
        case atStart => exact ⟨_, H4.out.1, H4.out.2.1, H4.out.2.2.1, H4.out.2.2.2.1, H4.out.2.2.2.2.1, H4.out.2.2.2.2.2⟩
        case round =>
          obtain ⟨k2, hbe5, hfr5, hcb5, hz5, hy5, hke5⟩ := hrel
          have hBi := hke5.on HC.out.2.2.1 hg HC.out.2.2.1.size
          have HI := Lib.hid (And.intro hbe5 (And.intro hfr5 (And.intro hcb5 (And.intro hz5 (And.intro hy5 (And.intro hke5 hBi))))))
          have HT : Hid (∀ W, Below wr.heap.size wr W → W.cell? ⟨g, 0, none⟩ = some (.pointer tp) ∧ W.cell? ⟨g, 1, none⟩ = some (.string ⟨k2.1.toArray⟩) ∧ W.cell? ⟨g, 2, none⟩ = some (.int .i64 k2.2)) :=
            Lib.hid (fun W hB => ⟨(hcb5.below hB).cells.1, (hcb5.below hB).cells.2.1, (hcb5.below hB).cells.2.2.1⟩)
          have hbr : Below wr.heap.size wr wr.drew := drew_below _
          clear hbe5 hfr5 hcb5 hz5 hy5 hke5 hBi
          go_wp2_with fail
          go_region_held3 (fun w' => w'.cell? ⟨g, 0, none⟩ = some (.pointer tp) ∧ w'.cell? ⟨g, 1, none⟩ = some (.string ⟨k2.1.toArray⟩) ∧ w'.cell? ⟨g, 2, none⟩ = some (.int .i64 k2.2)) (first | exact HT.out _ hbr) (first
            | ((with_reducible refine (KF.out k2 _ (below2 HI.out.2.2.2.2.2.2 hbr)).mono ?_); rintro e w5 ⟨u5', rfl, ho5, hB5⟩; have hbr := below2 hbr hB5; have HO := Lib.hid ho5.prs; clear ho5; obtain ⟨al, cl, rfl⟩ := HO.out.form))
          have hB6 := hbr
          clear hbr
          have hfl : fromL L (k2.1, k2.2) 1 = (tailL L k2).take 1 := rfl
          cases htl : tailL L k2 with
          | nil =>
            rw [htl] at hfl
            have HTL := Lib.hid htl
            rw [hfl] at HO
            have hlen0 : (fromL L (k2.1, k2.2) 1).length = 0 := by rw [hfl]; rfl
            rw [hlen0]
            clear htl hfl hlen0
            go_wp2_with fail
            refine wp_region_held_drew (S := (fun _ => True)) (by kernel_rfl) (trivial) (fun hHeld => ?_)
            refine wpAnyH_take (i := 0) (oi := ⟨_, _, _, _, _, _⟩) (v := ?_) rfl (by kernel_rfl) (by kernel_rfl) (by kernel_rfl) (fun _ _ _ h => h) (Or.inl ⟨by rfl, ?_⟩) hHeld ?_
            rotate_left
            · (intro w hSw; (try dsimp only at hSw); go_simp; try with_reducible rfl)
            try simp only [Act.put, List.setIfInBounds_toArray, List.set_cons_zero, List.set_cons_succ]
            refine wpAnyH_take (i := 1) (oi := ⟨_, _, _, _, _, _⟩) (v := ?_) rfl (by kernel_rfl) (by kernel_rfl) (by kernel_rfl) (fun _ _ _ h => h) (Or.inl ⟨by rfl, ?_⟩) hHeld ?_
            rotate_left
            · (intro w hSw; (try dsimp only at hSw); go_simp; try with_reducible rfl)
            try simp only [Act.put, List.setIfInBounds_toArray, List.set_cons_zero, List.set_cons_succ]
            refine wpAnyH_take (i := 2) (oi := ⟨_, _, _, _, _, _⟩) (v := ?_) rfl (by kernel_rfl) (by kernel_rfl) (by kernel_rfl) (fun _ _ _ h => h) (Or.inl ⟨by rfl, ?_⟩) hHeld ?_
            rotate_left
            · (intro w hSw; (try dsimp only at hSw); go_simp; try with_reducible rfl)
            try simp only [Act.put, List.setIfInBounds_toArray, List.set_cons_zero, List.set_cons_succ]
            refine wpAnyH_take (i := 3) (oi := ⟨_, _, _, _, _, _⟩) (v := ?_) rfl (by kernel_rfl) (by kernel_rfl) (by kernel_rfl) (fun _ _ _ h => h) (Or.inl ⟨by rfl, ?_⟩) hHeld ?_
            rotate_left
            · (intro w hSw; (try dsimp only at hSw); go_simp; try with_reducible rfl)
            try simp only [Act.put, List.setIfInBounds_toArray, List.set_cons_zero, List.set_cons_succ]
            refine wpAnyH_take (i := 4) (oi := ⟨_, _, _, _, _, _⟩) (v := undef) rfl (by kernel_rfl) (by kernel_rfl) (by kernel_rfl) (fun _ _ _ h => h) (Or.inr ⟨by rfl, rfl⟩) hHeld ?_
            try simp only [Act.put, List.setIfInBounds_toArray, List.set_cons_zero, List.set_cons_succ]
            refine wpAnyH_take (i := 5) (oi := ⟨_, _, _, _, _, _⟩) (v := undef) rfl (by kernel_rfl) (by kernel_rfl) (by kernel_rfl) (fun _ _ _ h => h) (Or.inr ⟨by rfl, rfl⟩) hHeld ?_
            try simp only [Act.put, List.setIfInBounds_toArray, List.set_cons_zero, List.set_cons_succ]
            refine wpAnyH_take (i := 6) (oi := ⟨_, _, _, _, _, _⟩) (v := undef) rfl (by kernel_rfl) (by kernel_rfl) (by kernel_rfl) (fun _ _ _ h => h) (Or.inr ⟨by rfl, rfl⟩) hHeld ?_
            try simp only [Act.put, List.setIfInBounds_toArray, List.set_cons_zero, List.set_cons_succ]
            refine wpAnyH_take (i := 7) (oi := ⟨_, _, _, _, _, _⟩) (v := undef) rfl (by kernel_rfl) (by kernel_rfl) (by kernel_rfl) (fun _ _ _ h => h) (Or.inr ⟨by rfl, rfl⟩) hHeld ?_
            try simp only [Act.put, List.setIfInBounds_toArray, List.set_cons_zero, List.set_cons_succ]
            refine wpAnyH_take (i := 8) (oi := ⟨_, _, _, _, _, _⟩) (v := undef) rfl (by kernel_rfl) (by kernel_rfl) (by kernel_rfl) (fun _ _ _ h => h) (Or.inr ⟨by rfl, rfl⟩) hHeld ?_
            try simp only [Act.put, List.setIfInBounds_toArray, List.set_cons_zero, List.set_cons_succ]
            refine wpAnyH_take (i := 9) (oi := ⟨_, _, _, _, _, _⟩) (v := undef) rfl (by kernel_rfl) (by kernel_rfl) (by kernel_rfl) (fun _ _ _ h => h) (Or.inr ⟨by rfl, rfl⟩) hHeld ?_
            try simp only [Act.put, List.setIfInBounds_toArray, List.set_cons_zero, List.set_cons_succ]
            refine wpAnyH_ready (rs := [10]) (by kernel_rfl) (by simp) ?_
            refine AllReadyH.cons (o := ⟨_, _, _, _, _, _⟩) rfl (fun K hK => ?_) AllReadyH.nil
            go_simp
            refine hK.out _ _ (trivial) (fun hHeld => ?_)
            clear hK K
            try simp only [Act.put, List.setIfInBounds_toArray, List.set_cons_zero, List.set_cons_succ]
            refine wpAnyH_take (i := 11) (oi := ⟨_, _, _, _, _, _⟩) (v := undef) rfl (by kernel_rfl) (by kernel_rfl) (by kernel_rfl) (fun _ _ _ h => h) (Or.inr ⟨by rfl, rfl⟩) hHeld ?_
            try simp only [Act.put, List.setIfInBounds_toArray, List.set_cons_zero, List.set_cons_succ]
            refine wpAnyH_take (i := 12) (oi := ⟨_, _, _, _, _, _⟩) (v := ?_) rfl (by kernel_rfl) (by kernel_rfl) (by kernel_rfl) (fun _ _ _ h => h) (Or.inl ⟨by rfl, ?_⟩) hHeld ?_
            rotate_left
            · (intro w hSw; (try dsimp only at hSw); go_simp; try with_reducible rfl)
            try simp only [Act.put, List.setIfInBounds_toArray, List.set_cons_zero, List.set_cons_succ]
            refine wpAnyH_take (i := 13) (oi := ⟨_, _, _, _, _, _⟩) (v := ?_) rfl (by kernel_rfl) (by kernel_rfl) (by kernel_rfl) (fun _ _ _ h => h) (Or.inl ⟨by rfl, ?_⟩) hHeld ?_
            rotate_left
            · (intro w hSw; (try dsimp only at hSw); go_simp; try with_reducible rfl)
            try simp only [Act.put, List.setIfInBounds_toArray, List.set_cons_zero, List.set_cons_succ]
            refine wpAnyH_done (by kernel_rfl) ?_ _
            go_wp2_with fail
            obtain ⟨i1, i2, i3, i4, i5, i6, i7⟩ := HI.out
            have hn2 : n < S.length := by rw [HS.out.2]; exact hlt2
            have hB7 := below2 hB6 (drew_below _)
            exact ⟨⟨n + 1, k2, by omega, by go_num, i1.next hn2 (fun y hy h => by rw [tail_nil HTL.out y hy] at h; cases h), i3.below hB7, i4.below hB7, i6.then hB7⟩, by simp [intOf]; omega⟩
          | cons x r =>
            rw [htl] at hfl
            obtain ⟨⟨⟨xp, xm⟩, xs2⟩, hxe⟩ : ∃ y, x = y := ⟨_, rfl⟩
            subst hxe
            have HTL := Lib.hid htl
            have hlen1 : (fromL L (k2.1, k2.2) 1).length = 1 := by rw [hfl]; rfl
            rw [hlen1] at HO ⊢
            rw [hfl] at HO
            obtain ⟨bl, ol, rfl, x0, x1, x2⟩ := HO.out.at (k := 0) (by simp)
            simp only [Nat.zero_mul, Nat.add_zero] at x0 x1 x2
            have hxp := HP.out.1 _ (tail_cons HC.out.2.2.2.2.2.1 htl).1
            replace x0 : w5.cell? ⟨bl, ol, none⟩ = some (.string ⟨xp.toArray⟩) := x0
            replace x1 : w5.cell? ⟨bl, ol + 1, none⟩ = some (.int .i64 xm) := x1
            replace x2 : w5.cell? ⟨bl, ol + 2, none⟩ = some (.string ⟨xs2.toArray⟩) := x2
            replace hxp : xp.length ≤ 1000 := hxp
            have hy6 := HI.out.2.2.2.2.1.below hB6
            have HT2 : Hid (∀ W, Below w5.heap.size w5 W → W.cell? ⟨bl, ol, none⟩ = some (.string ⟨xp.toArray⟩) ∧ W.cell? ⟨bl, ol + 1, none⟩ = some (.int .i64 xm) ∧ W.cell? ⟨gs, 2, none⟩ = some (.string ⟨p2.toArray⟩) ∧ W.cell? ⟨gs, 3, none⟩ = some (.int .i64 m2)) :=
              Lib.hid (fun W hB => ⟨look_below hB x0, look_below hB x1, (hy6.below hB).cell rfl, (hy6.below hB).cell rfl⟩)
            have hbr : Below w5.heap.size w5 w5.drew := drew_below _
            have KK := Lib.hid (fun W => kLess_calls xp p2 xm m2 W)
            obtain ⟨bb, hbb⟩ : ∃ x, lessK (xp, xm) (p2, m2) = x := ⟨_, rfl⟩
            rw [hbb] at KK
            have HX := Lib.hid (And.intro x0 (And.intro x1 (And.intro x2 hy6)))
            clear htl hfl hlen1 hy6 x0 x1 x2
            cases bb with
            | false =>
              have HBB := Lib.hid hbb
              clear hbb
              go_wp2_with fail
              go_region_held3 (fun w' => w'.cell? ⟨bl, ol, none⟩ = some (.string ⟨xp.toArray⟩) ∧ w'.cell? ⟨bl, ol + 1, none⟩ = some (.int .i64 xm) ∧ w'.cell? ⟨gs, 2, none⟩ = some (.string ⟨p2.toArray⟩) ∧ w'.cell? ⟨gs, 3, none⟩ = some (.int .i64 m2)) (first | exact HT2.out _ hbr) (first
                | ((with_reducible refine (KK.out _).mono ?_); rintro e w7 ⟨rfl, hB7⟩; have hbr := below2 hbr hB7))
              go_wp2_with fail
              obtain ⟨i1, i2, i3, i4, i5, i6, i7⟩ := HI.out
              have hn2 : n < S.length := by rw [HS.out.2]; exact hlt2
              have hB7 := below2 hB6 hbr
              obtain ⟨_, _, hbx, _⟩ := tail_cons HC.out.2.2.2.2.2.1 HTL.out
              refine ⟨⟨n + 1, k2, by omega, by go_num, i1.next hn2 (fun y hy h => ?_), i3.below hB7, i4.below hB7, i6.then hB7⟩, by simp [intOf]; omega⟩
              rw [hsp]
              rcases hbx y hy h with e | e
              · rw [e]; exact HBB.out
              · exact not_less_trans HBB.out e
            | true =>
              have HBB := Lib.hid hbb
              clear hbb
              go_wp2_with fail
              go_region_held3 (fun w' => w'.cell? ⟨bl, ol, none⟩ = some (.string ⟨xp.toArray⟩) ∧ w'.cell? ⟨bl, ol + 1, none⟩ = some (.int .i64 xm) ∧ w'.cell? ⟨gs, 2, none⟩ = some (.string ⟨p2.toArray⟩) ∧ w'.cell? ⟨gs, 3, none⟩ = some (.int .i64 m2)) (first | exact HT2.out _ hbr) (first
                | ((with_reducible refine (KK.out _).mono ?_); rintro e w7 ⟨rfl, hB7⟩; have hbr := below2 hbr hB7))
              have hB8 := below2 hB6 hbr
              have hB9 := hbr
              have hcw := HI.out.2.2.1.below hB8
              have HT3 : Hid (∀ W, Below w7.heap.size w7 W → W.cell? ⟨bl, ol, none⟩ = some (.string ⟨xp.toArray⟩) ∧ W.cell? ⟨g, 4, none⟩ = some (.func (.func f) #[] xs)) :=
                Lib.hid (fun W hB => ⟨look_below (below2 hB9 hB) HX.out.1, (hcw.below hB).cells.2.2.2.2.1⟩)
              clear hbr
              have hbr : Below w7.heap.size w7 w7.drew := drew_below _
              have hBP := below2 (HI.out.2.2.2.2.2.2) (hB8.mono (Nat.le_refl _))
              have hcf := HP.out.2.2.1
              have KP := Lib.hid (fun W (hB : Below w7.heap.size w7 W) => HP.out.2.2.2 xp W (by omega) (below2 hBP hB))
              obtain ⟨pb, hpb⟩ : ∃ x, P xp = x := ⟨_, rfl⟩
              rw [hpb] at KP
              have HPB := Lib.hid hpb
              clear hpb hcw
              cases pb with
              | false =>
                go_wp2_with fail
                go_region_held3 (fun w' => w'.cell? ⟨bl, ol, none⟩ = some (.string ⟨xp.toArray⟩) ∧ w'.cell? ⟨g, 4, none⟩ = some (.func (.func f) #[] xs)) (first | exact HT3.out _ hbr) (first
                  | ((with_reducible refine (KP.out _ hbr).mono ?_); rintro e w9 ⟨rfl, hB10⟩; have hbr := below2 hbr hB10))
                have hB11 := below2 hB8 hbr
                have x0 := (HT3.out _ hbr).1
                have KQ := Lib.hid (fun W => cPast_calls xp (by omega) W)
                go_wp2_with fail
                refine (KQ.out _).mono ?_
                rintro e w10 ⟨rfl, hB12⟩
                have hB13 := below2 hB11 hB12
                obtain ⟨i1, i2, i3, i4, i5, i6, i7⟩ := HI.out
                have hcz := i3.below hB13
                obtain ⟨q0, q1, q2, q3, q4, r1, r2, r3⟩ := hcz.cells
                have hgw := i3.cells.2.2.2.2.2.2.2
                go_wp2_with fail
                obtain ⟨j1, j2⟩ := i1.past HC.out.2.2.2.2.2.1 HP.out.2.1 HTL.out HPB.out
                have hk6 := i6.then hB13
                have hcs := hcz.set (cuPast xp)
                have hpl := past_behind HP.out.2.1 HC.out.2.2.2.2.2.1 HTL.out i2
                go_roundw
                case rel => exact ⟨_, j1, hpl, hcs, (i4.below hB13).keeps (Nat.ne_of_gt HC.out.2.2.2.1) ((Keeps.refl _ _).set2 _ _), (i5.below hB13).keeps (by omega) ((Keeps.refl _ _).set2 _ _), hk6.set2 _ _⟩
                case measure =>
                  change L.length - placeN L (atOf ((w10.setCell ⟨g, 1, none⟩ (.string ⟨(cuPast xp).1.toArray⟩)).setCell ⟨g, 2, none⟩ (.int .i64 (cuPast xp).2)) g) < _
                  rw [hcs.atOf, i3.atOf]
                  have h1 := placeN_le L (cuPast xp)
                  have h2 : placeN L k2 < placeN L (cuPast xp) := j2
                  omega
              | true =>
                go_wp2_with fail
                go_region_held3 (fun w' => w'.cell? ⟨bl, ol, none⟩ = some (.string ⟨xp.toArray⟩) ∧ w'.cell? ⟨g, 4, none⟩ = some (.func (.func f) #[] xs)) (first | exact HT3.out _ hbr) (first
                  | ((with_reducible refine (KP.out _ hbr).mono ?_); rintro e w9 ⟨rfl, hB10⟩; have hbr := below2 hbr hB10))
                have hB11 := below2 hB8 hbr
                have x0 := (HT3.out _ hbr).1
                have x1 := look_below (below2 hB9 hbr) HX.out.2.1
                have x2 := look_below (below2 hB9 hbr) HX.out.2.2.1
                obtain ⟨i1, i2, i3, i4, i5, i6, i7⟩ := HI.out
                have hzz := i4.below hB11
                obtain ⟨z0, z1, z2, y0, y1, y2, _⟩ := Cx.three hzz
                go_wp2_with fail
                have hcr : Cx (((w9.setCell ⟨w.heap.size, 0, none⟩ (.string ⟨xp.toArray⟩)).setCell ⟨w.heap.size, 1, none⟩ (.int .i64 xm)).setCell ⟨w.heap.size, 2, none⟩ (.string ⟨xs2.toArray⟩)) w.heap.size 43 (pcell ((xp, xm), xs2)) := ((hzz.set 0 _).set 1 _).set 2 _
                have hn2 : n < S.length := by rw [HS.out.2]; exact hlt2
                have hx := i1.here HC.out.2.2.2.2.2.1 hn2 (by rw [hsp]; exact i2) HTL.out (by rw [hsp]; exact HBB.out) HPB.out
                obtain ⟨he1, he2⟩ := hereP_at hx
                refine ret_pair2 (p := 2) (q := 3) (by kernel_rfl) rfl w.heap.size ((xp, xm), xs2) _ rfl rfl hcr ?_
                refine ⟨k2, i1.place, ?_, ?_, ?_⟩
                · rw [he1, decide_eq_true he2]
                  rfl
                · exact (((i3.below hB11).other (Nat.ne_of_lt hlt) _).other (Nat.ne_of_lt hlt) _).other (Nat.ne_of_lt hlt) _
                · exact (((i6.then hB11).other (Nat.le_refl _) 0 _).other (Nat.le_refl _) 1 _).other (Nat.le_refl _) 2 _
    · obtain ⟨z0, z1, z2, y0, y1, y2, hzl⟩ := Cx.three hz
      obtain rfl : n = sn := by omega
      go_wp2_with fail
      have hcr : Cx (((wr.setCell ⟨w.heap.size, 0, none⟩ (.string ⟨#[]⟩)).setCell ⟨w.heap.size, 1, none⟩ (.int .i64 0)).setCell ⟨w.heap.size, 2, none⟩ (.string ⟨#[]⟩)) w.heap.size 43 (pcell (([], 0), [])) := ((hz.set 0 _).set 1 _).set 2 _
      have hend : Been L S P k k1 S.length := by rw [HS.out.2]; exact hbe
      have he := hend.end
      refine ret_pair2 (p := 2) (q := 3) (by kernel_rfl) rfl w.heap.size (([], 0), []) _ rfl rfl hcr ?_
      refine ⟨k1, hend.place, ?_, ?_, ?_⟩
      · rw [he, hereP_none rfl]
        simp
      · exact ((hcb.other (Nat.ne_of_lt hlt) _).other (Nat.ne_of_lt hlt) _).other (Nat.ne_of_lt hlt) _
      · exact ((hke.other (Nat.le_refl _) 0 _).other (Nat.le_refl _) 1 _).other (Nat.le_refl _) 2 _

end Go.Proofs.YthngeponcdeneaaGreatDoor

/-
  cursor: Next, Skip, Seek.
-/
namespace Go.Proofs.YthngeponcdeneaaGreatDoor
set_option maxRecDepth 100000
open Go.RowKit

/-- A cursor in memory, made behind w0, over the pairs U, at the i-th one. -/
def Cur (w0 w : World) (g : Nat) (U : List Pr) (i : Nat) : Prop :=
  ∃ (L : List Pr) (S : List Spn) (P : List UInt8 → Bool) (tv sv pv : Value) (k : Ky), Base w0 L S P tv sv pv ∧ SpsRise S ∧ TimesK L ∧ L.length ≤ 1000 ∧ (∀ x ∈ L, x.1.1.length ≤ 1000) ∧ S.length ≤ 1000 ∧ U = cuL L S P ∧ Below w0.heap.size w0 w ∧ w0.heap.size ≤ g ∧ CBox w g tv sv pv k ∧ placeN U k = i
theorem Cur.below {w0 w w' : World} {g : Nat} {U : List Pr} {i : Nat} (h : Cur w0 w g U i) (hb : Below w.heap.size w w') : Cur w0 w' g U i := by
  obtain ⟨L, S, P, tv, sv, pv, k, h1, h2, h3, h4, h5, h6, h7, h8, h9, h10, h11⟩ := h
  exact ⟨L, S, P, tv, sv, pv, k, h1, h2, h3, h4, h5, h6, h7, below2 h8 (hb.mono (Nat.le_refl _)), h9, h10.below hb, h11⟩
/-- The cursor is set to the key k. -/
theorem Cur.set {w0 w : World} {g : Nat} {U : List Pr} {i : Nat} (h : Cur w0 w g U i) (k : Ky) : Cur w0 ((w.setCell ⟨g, 1, none⟩ (.string ⟨k.1.toArray⟩)).setCell ⟨g, 2, none⟩ (.int .i64 k.2)) g U (placeN U k) := by
  obtain ⟨L, S, P, tv, sv, pv, k0, h1, h2, h3, h4, h5, h6, h7, h8, h9, h10, h11⟩ := h
  exact ⟨L, S, P, tv, sv, pv, k, h1, h2, h3, h4, h5, h6, h7, (h8.setCell h9 _).setCell h9 _, h9, h10.set k, rfl⟩
theorem Cur.cells {w0 w : World} {g : Nat} {U : List Pr} {i : Nat} (h : Cur w0 w g U i) : ∃ k : Ky, w.cell? ⟨g, 1, none⟩ = some (.string ⟨k.1.toArray⟩) ∧ w.cell? ⟨g, 2, none⟩ = some (.int .i64 k.2) ∧ w.frozen? ⟨g, 1, none⟩ = false ∧ w.frozen? ⟨g, 2, none⟩ = false ∧ g < w.heap.size := by
  obtain ⟨L, S, P, tv, sv, pv, k, h1, h2, h3, h4, h5, h6, h7, h8, h9, h10, h11⟩ := h
  obtain ⟨_, c1, c2, _, _, f1, f2, hl⟩ := h10.cells
  exact ⟨k, c1, c2, f1, f2, hl⟩
theorem Cur.facts {w0 w : World} {g : Nat} {U : List Pr} {i : Nat} (h : Cur w0 w g U i) : Rises U ∧ TimesK U ∧ U.length ≤ 1000 ∧ (∀ x ∈ U, x.1.1.length ≤ 1000) ∧ i ≤ U.length ∧ w0.heap.size ≤ g ∧ Below w0.heap.size w0 w := by
  obtain ⟨L, S, P, tv, sv, pv, k, h1, h2, h3, h4, h5, h6, rfl, h8, h9, h10, h11⟩ := h
  exact ⟨cuL_rises h1.1.1 S P, h3.cuL S P, Nat.le_trans (cuL_le L S P) h4, fun x hx => h5 x (mem_cuL.1 hx).1, h11 ▸ placeN_le _ _, h9, h8⟩
/-- The cursor's own block is not among those that stay. -/
theorem Cur.other {w0 w w' : World} {g : Nat} {U : List Pr} {i g' : Nat} (h : Cur w0 w g U i) (hk : Keeps g' w w') (hne : g ≠ g') (hg : w0.heap.size ≤ g') : Cur w0 w' g U i := by
  obtain ⟨L, S, P, tv, sv, pv, k, h1, h2, h3, h4, h5, h6, h7, h8, h9, h10, h11⟩ := h
  exact ⟨L, S, P, tv, sv, pv, k, h1, h2, h3, h4, h5, h6, h7, hk.on h8 hg h8.size, h9, Cx.keeps h10 hne hk, h11⟩

theorem here_cur {w0 w : World} {g : Nat} {U : List Pr} {i : Nat} (h : Cur w0 w g U i) :
    Calls Tryz.prog 36 #[.pointer (some ⟨g, 0, none⟩)] w fun e w' => e = .returned (.tuple #[PV (hereP U i), .bool (decide (i < U.length))]) ∧ Cur w0 w' g U i ∧ Keeps g w w' := by
  obtain ⟨L, S, P, tv, sv, pv, k, h1, h2, h3, h4, h5, h6, rfl, h8, h9, h10, rfl⟩ := h
  refine (here_calls w0 w L S P tv sv pv g k h1 h2 h3 h4 h5 h6 h8 h9 h10).mono ?_
  rintro e w' ⟨k', hp, rfl, hc, hk⟩
  exact ⟨rfl, ⟨L, S, P, tv, sv, pv, k', h1, h2, h3, h4, h5, h6, rfl, hk.on h8 h9 h8.size, h9, hc, hp⟩, hk⟩

/-- Where a cursor is behind Next, behind Skip. -/
def nextI (U : List Pr) (i : Nat) : Nat := if i < U.length then i + 1 else i
def skipI (U : List Pr) (i : Nat) : Nat := if i < U.length then placeN U (cuPast (hereP U i).1.1) else i
theorem hereP_lt {U : List Pr} {i : Nat} (h : i < U.length) : hereP U i = U[i] := by simp [hereP, h]

theorem Keeps.start {g : Nat} {w w1 w2 : World} (hb : Below w.heap.size w w1) (hk : Keeps g w1 w2) : Keeps g w w2 := (Keeps.below g hb).trans hk

set_option maxHeartbeats 8000000 in
theorem cNext_calls {w0 w : World} {g : Nat} {U : List Pr} {i : Nat} (h : Cur w0 w g U i) :
    Calls Tryz.prog 12 #[.pointer (some ⟨g, 0, none⟩)] w fun e w' => e = .returned (.tuple #[PV (hereP U i), .bool (decide (i < U.length))]) ∧ Cur w0 w' g U (nextI U i) ∧ Keeps g w w' := by
  have hB0 := below_alloc w (.cells (pcell (([], 0), [])).toArray 43)
  have hZ := Cx.new w 43 (pcell (([], 0), []))
  have K := Lib.hid (here_cur (h.below hB0))
  obtain ⟨hr, ht, hl, hp, hi, _⟩ := h.facts
  have hgl := h.cells.choose_spec.2.2.2.2
  by_cases hlt : i < U.length
  · have hb : decide (i < U.length) = true := decide_eq_true hlt
    have hx := hereP_lt hlt
    have hnx := next_place hr ht hlt
    have hm := List.getElem_mem hlt
    have htx := ht _ hm
    have hpx := hp _ hm
    have hni : nextI U i = i + 1 := by simp [nextI, hlt]
    rw [hb, hx] at K ⊢
    rw [hni, ← hnx]
    obtain ⟨⟨⟨p, m⟩, s⟩, hxe⟩ : ∃ x, U[i] = x := ⟨_, rfl⟩
    rw [hxe] at K htx hpx ⊢
    have hpl : p.length ≤ 1000 := hpx
    have KB := Lib.hid (fun W => cBehind_calls p m (by omega) htx W)
    have HH := Lib.hid hZ
    clear h hZ hb hx hnx hni hm htx hr ht hp hpx
    go_enter Tryz.func12, Tryz.ntmps12
    go_wp2_with fail
    refine K.out.mono ?_
    rintro e w1 ⟨rfl, hc1, hk1⟩
    have hsz := hk1.size
    rw [World.size_alloc] at hsz
    have HC := Lib.hid (And.intro hc1 (Keeps.start hB0 hk1))
    have HZ1 := Lib.hid (HH.out.keeps (by omega) hk1)
    clear hc1 hk1
    go_wp2_with fail
    refine (KB.out _).mono ?_
    rintro e w2 ⟨rfl, hB2⟩
    have hB3 := below2 (below_alloc w1 (.cells #[.string ⟨p.toArray⟩, .int .i64 m, .string ⟨s.toArray⟩] 43)) hB2
    have hc2 := HC.out.1.below hB3
    obtain ⟨k, c1, c2, f1, f2, hl2⟩ := hc2.cells
    have hs2 := hc2.set (cuBehind (p, m))
    have hX := (Cx.new w1 43 (pcell ((p, m), s))).below hB2
    dsimp only [KV]
    go_upto_region 4 with (fail)
    have hks := (HC.out.2.then hB3).set2 (.string ⟨(cuBehind (p, m)).1.toArray⟩) (.int .i64 (cuBehind (p, m)).2)
    have hX2 := hX.keeps (b := w1.heap.size) (by omega) ((Keeps.refl g _).set2 (.string ⟨(cuBehind (p, m)).1.toArray⟩) (.int .i64 (cuBehind (p, m)).2))
    have hZ2 := (HZ1.out.below hB3).keeps (b := w.heap.size) (by omega) ((Keeps.refl g _).set2 (.string ⟨(cuBehind (p, m)).1.toArray⟩) (.int .i64 (cuBehind (p, m)).2))
    obtain ⟨w3, hw3⟩ : ∃ x, (w2.setCell ⟨g, 1, none⟩ (.string ⟨(cuBehind (p, m)).1.toArray⟩)).setCell ⟨g, 2, none⟩ (.int .i64 (cuBehind (p, m)).2) = x := ⟨_, rfl⟩
    rw [hw3] at hks hX2 hZ2 hs2 ⊢
    have HF := Lib.hid (And.intro hks hs2)
    obtain ⟨x0, x1, x2, _⟩ := Cx.three hX2
    obtain ⟨z0, z1, z2, y0, y1, y2, hl3⟩ := Cx.three hZ2
    clear hw3 hks hs2 hX hc2 c1 c2 f1 f2 hl2 hX2
    go_wp2_with fail
    have hcr : Cx (((w3.setCell ⟨w.heap.size, 0, none⟩ (.string ⟨p.toArray⟩)).setCell ⟨w.heap.size, 1, none⟩ (.int .i64 m)).setCell ⟨w.heap.size, 2, none⟩ (.string ⟨s.toArray⟩)) w.heap.size 43 (pcell ((p, m), s)) := ((hZ2.set 0 _).set 1 _).set 2 _
    refine ret_pair2 (p := 2) (q := 3) (by kernel_rfl) rfl w.heap.size ((p, m), s) _ rfl rfl hcr ?_
    exact ⟨rfl, HF.out.2.other ((((Keeps.refl w.heap.size w3).set 0 _).set 1 _).set 2 _) (by omega) (by omega), ((HF.out.1.other (Nat.le_refl _) 0 _).other (Nat.le_refl _) 1 _).other (Nat.le_refl _) 2 _⟩
  · have hb : decide (i < U.length) = false := decide_eq_false hlt
    have hx : hereP U i = (([], 0), []) := hereP_none (by omega)
    have hni : nextI U i = i := by simp [nextI, hlt]
    rw [hb, hx] at K ⊢
    rw [hni]
    have HH := Lib.hid hZ
    clear h hZ hb hx hni hr ht hp
    go_enter Tryz.func12, Tryz.ntmps12
    go_wp2_with fail
    refine K.out.mono ?_
    rintro e w1 ⟨rfl, hc1, hk1⟩
    have hsz := hk1.size
    rw [World.size_alloc] at hsz
    have HC := Lib.hid (And.intro hc1 (Keeps.start hB0 hk1))
    have HZ1 := (HH.out.keeps (by omega) hk1).below (below_alloc w1 (.cells #[.string ⟨#[]⟩, .int .i64 0, .string ⟨#[]⟩] 43))
    clear hc1 hk1
    obtain ⟨z0, z1, z2, y0, y1, y2, hl3⟩ := Cx.three HZ1
    go_wp2_with fail
    obtain ⟨w3, hw3⟩ : ∃ x, w1.alloc (.cells #[.string ⟨#[]⟩, .int .i64 0, .string ⟨#[]⟩] 43) = x := ⟨_, rfl⟩
    have hB3 := below_alloc w1 (.cells #[.string ⟨#[]⟩, .int .i64 0, .string ⟨#[]⟩] 43)
    rw [hw3] at HZ1 hB3 ⊢
    have hcr : Cx (((w3.setCell ⟨w.heap.size, 0, none⟩ (.string ⟨#[]⟩)).setCell ⟨w.heap.size, 1, none⟩ (.int .i64 0)).setCell ⟨w.heap.size, 2, none⟩ (.string ⟨#[]⟩)) w.heap.size 43 (pcell (([], 0), [])) := ((HZ1.set 0 _).set 1 _).set 2 _
    refine ret_pair2 (p := 2) (q := 3) (by kernel_rfl) rfl w.heap.size (([], 0), []) _ rfl rfl hcr ?_
    exact ⟨rfl, (HC.out.1.below hB3).other ((((Keeps.refl w.heap.size w3).set 0 _).set 1 _).set 2 _) (by omega) (by omega), (((HC.out.2.then hB3).other (Nat.le_refl _) 0 _).other (Nat.le_refl _) 1 _).other (Nat.le_refl _) 2 _⟩

set_option maxHeartbeats 8000000 in
theorem cSkip_calls {w0 w : World} {g : Nat} {U : List Pr} {i : Nat} (h : Cur w0 w g U i) :
    Calls Tryz.prog 14 #[.pointer (some ⟨g, 0, none⟩)] w fun e w' => e = .returned (.tuple #[.string ⟨(hereP U i).1.1.toArray⟩, .bool (decide (i < U.length))]) ∧ Cur w0 w' g U (skipI U i) ∧ Keeps g w w' := by
  have K := Lib.hid (here_cur h)
  obtain ⟨hr, ht, hl, hp, hi, _⟩ := h.facts
  by_cases hlt : i < U.length
  · have hb : decide (i < U.length) = true := decide_eq_true hlt
    have hx := hereP_lt hlt
    have hpx := hp _ (List.getElem_mem hlt)
    have hni : skipI U i = placeN U (cuPast (hereP U i).1.1) := by simp [skipI, hlt]
    rw [hx] at hni
    rw [hb, hx] at K ⊢
    rw [hni]
    obtain ⟨⟨⟨p, m⟩, s⟩, hxe⟩ : ∃ x, U[i] = x := ⟨_, rfl⟩
    rw [hxe] at K hpx ⊢
    have hpl : p.length ≤ 1000 := hpx
    have KB := Lib.hid (fun W => cPast_calls p (by omega) W)
    clear h hb hx hni hr ht hp hpx
    go_enter Tryz.func14, Tryz.ntmps14
    go_wp2_with fail
    refine K.out.mono ?_
    rintro e w1 ⟨rfl, hc1, hk1⟩
    have HC := Lib.hid (And.intro hc1 hk1)
    clear hc1 hk1
    go_wp2_with fail
    refine (KB.out _).mono ?_
    rintro e w2 ⟨rfl, hB2⟩
    have hB3 := below2 (below_alloc w1 (.cells #[.string ⟨p.toArray⟩, .int .i64 m, .string ⟨s.toArray⟩] 43)) hB2
    have hc2 := HC.out.1.below hB3
    have hgl1 := HC.out.1.cells.choose_spec.2.2.2.2
    obtain ⟨k, c1, c2, f1, f2, hl2⟩ := hc2.cells
    have hs2 := hc2.set (cuPast p)
    have hX := (Cx.new w1 43 (pcell ((p, m), s))).below hB2
    go_upto_region 4 with (fail)
    have hks := (HC.out.2.then hB3).set2 (.string ⟨(cuPast p).1.toArray⟩) (.int .i64 (cuPast p).2)
    have hX2 := hX.keeps (b := w1.heap.size) (by omega) ((Keeps.refl g _).set2 (.string ⟨(cuPast p).1.toArray⟩) (.int .i64 (cuPast p).2))
    obtain ⟨w3, hw3⟩ : ∃ x, (w2.setCell ⟨g, 1, none⟩ (.string ⟨(cuPast p).1.toArray⟩)).setCell ⟨g, 2, none⟩ (.int .i64 (cuPast p).2) = x := ⟨_, rfl⟩
    rw [hw3] at hks hX2 hs2
    change (w2.setCell ⟨g, 1, none⟩ (.string ⟨(p ++ [0]).toArray⟩)).setCell ⟨g, 2, none⟩ (.int .i64 9223372036854775807) = w3 at hw3
    rw [hw3]
    have HF := Lib.hid (And.intro hks hs2)
    obtain ⟨x0, x1, x2, _⟩ := Cx.three hX2
    clear hw3 hks hs2 hX hc2 c1 c2 f1 f2 hl2 hX2
    go_wp2_with fail
    go_ret2
    exact ⟨rfl, HF.out.2, HF.out.1⟩
  · have hb : decide (i < U.length) = false := decide_eq_false hlt
    have hx : hereP U i = (([], 0), []) := hereP_none (by omega)
    have hni : skipI U i = i := by simp [skipI, hlt]
    rw [hb, hx] at K ⊢
    rw [hni]
    clear h hb hx hni hr ht hp
    go_enter Tryz.func14, Tryz.ntmps14
    go_wp2_with fail
    refine K.out.mono ?_
    rintro e w1 ⟨rfl, hc1, hk1⟩
    have HC := Lib.hid (And.intro hc1 hk1)
    clear hc1 hk1
    go_wp2_with fail
    go_ret2
    exact ⟨rfl, HC.out.1.below (below_alloc _ _), HC.out.2.then (below_alloc _ _)⟩

set_option maxHeartbeats 4000000 in
theorem cSeek_calls {w0 w : World} {g : Nat} {U : List Pr} {i : Nat} (h : Cur w0 w g U i) (k : Ky) :
    Calls Tryz.prog 16 #[.pointer (some ⟨g, 0, none⟩), KV k] w fun e w' => e = .returned (.tuple #[]) ∧ Cur w0 w' g U (placeN U k) ∧ Keeps g w w' := by
  obtain ⟨k0, c1, c2, f1, f2, hl2⟩ := h.cells
  have HC := Lib.hid (And.intro (h.set k) ((Keeps.refl g w).set2 (.string ⟨k.1.toArray⟩) (.int .i64 k.2)))
  clear h
  dsimp only [KV]
  go_enter Tryz.func16, Tryz.ntmps16
  go_wp2_with fail
  go_end0
  exact ⟨rfl, HC.out.1.below (below_alloc _ _), HC.out.2.then (below_alloc _ _)⟩

end Go.Proofs.YthngeponcdeneaaGreatDoor

/-
  cursor: rest.
-/
namespace Go.Proofs.YthngeponcdeneaaGreatDoor
set_option maxRecDepth 100000
open Go.RowKit

theorem Keeps.grown {g : Nat} {w w1 w2 : World} {row : Option Nat} (h : Keeps g w w1) (k : w1.grownBy w2 row) (hr : ∀ j, row = some j → w.heap.size ≤ j) : Keeps g w w2 :=
  ⟨k.os.trans h.os, k.tape.trans h.tape, k.output.trans h.output, Nat.le_trans h.size k.size, fun i hi hne => (k.block i (Nat.lt_of_lt_of_le hi h.size) (fun e => by have := hr i e.symm; omega)).trans (h.block i hi hne)⟩
theorem Cx.grown {w w' : World} {b : Nat} {t : TypeId} {cs : List Value} {row : Option Nat} (h : Cx w b t cs) (k : w.grownBy w' row) (hne : row ≠ some b) : Cx w' b t cs := by
  unfold Cx
  rw [k.block _ h.lt (fun e => hne e.symm)]
  exact h
theorem OwnP.keeps {w w' : World} {base g : Nat} {v : Value} {l : List Pr} (h : OwnP w base v l) (hk : Keeps g w w') (hne : v.ownBlock ≠ some g) : OwnP w' base v l := World.ownsRow.kept h hk (.inr hne)
theorem OwnP.far {w : World} {base g : Nat} {v : Value} {l : List Pr} (h : OwnP w base v l) (hg : g < base ∨ w.heap.size ≤ g) : v.ownBlock ≠ some g := fun e => by
  have := World.ownsRow.lt h g e
  omega
theorem Cur.grown {w0 w w' : World} {g : Nat} {U : List Pr} {i : Nat} {row : Option Nat} (h : Cur w0 w g U i) (k : w.grownBy w' row) (hr : ∀ j, row = some j → w0.heap.size ≤ j) (hne : row ≠ some g) : Cur w0 w' g U i := by
  obtain ⟨L, S, P, tv, sv, pv, k0, h1, h2, h3, h4, h5, h6, h7, h8, h9, h10, h11⟩ := h
  exact ⟨L, S, P, tv, sv, pv, k0, h1, h2, h3, h4, h5, h6, h7, ⟨k.os.trans h8.os, k.tape.trans h8.tape, k.output.trans h8.output, Nat.le_trans h8.size k.size, fun i hi => (k.block i (Nat.lt_of_lt_of_le hi h8.size) (fun e => by have := hr i e.symm; omega)).trans (h8.block i hi)⟩, h9, Cx.grown h10 k hne, h11⟩

theorem wpList_append_grown {w : World} {ops : Array Oper} {rest : List Oper} {o : Oper} {a : Act} {Q : Exit → Act → World → Prop} (hgd : o.guard = none) (s x : Operand)
    (ho : o.op = .call { callee := .builtin .append, args := #[s, x], argTypes := #[22, 22] }) (base : Nat) (v : Value) (T : List Pr) (hs : a.eval s = v) (hown : OwnP w base v T)
    (ao : Option Addr) (m c : Nat) (R : List Pr) (hx : a.eval x = .slice ao m c) (hR : Prs w (.slice ao m c) R) (U : List Pr) (hU : T ++ R = U) (q : Nat) (hq : U.length = q) (hq2 : q ≤ 1000000) (hb0 : base ≤ w.heap.size)
    (h : ∀ ao' cap' w', OwnP w' base (.slice ao' q cap') U → w.grownBy w' v.ownBlock → wpList Tryz.prog ops Q rest (a.put o.dst (.slice ao' q cap')) w') : wpList Tryz.prog ops Q (o :: rest) a w := by
  obtain ⟨i0, hi, hz0, hz1, hz2⟩ := info_parts infoP
  have hm := hR.len
  have hk : T.length + m = q := by rw [← hq, ← hU, List.length_append, hm]
  refine wpList_append_rw hgd s x 22 ho base 43 i0 _ 3 40 Tryz.underlying22 hi hz0 hz1 hz2 rfl (by decide) v T.length (pcells T) hs hown ao m c (pcells R) hx (by unfold Prs at hR; rwa [hm] at hR) (pcells_one R) q hk (by unfold maxLen; omega) (by omega) hb0 ?_
  intro a3 c3 w3 hown3 hg3
  refine h a3 c3 w3 ?_ hg3
  unfold OwnP
  rw [hq, ← hU, pcells_append]
  exact hown3

set_option maxHeartbeats 8000000 in
theorem cRest_calls {w0 w : World} {g : Nat} {U : List Pr} (h : Cur w0 w g U 0) :
    Calls Tryz.prog 40 #[.pointer (some ⟨g, 0, none⟩)] w fun e w' => ∃ ao n cap, e = .returned (.slice ao n cap) ∧ OwnP w' w.heap.size (.slice ao n cap) U ∧ Keeps g w w' := by
  have K := Lib.hid (cNext_calls h)
  obtain ⟨_, _, hl, _, _, hg0, hB0⟩ := h.facts
  have hgl := h.cells.choose_spec.2.2.2.2
  have hsz0 := hB0.size
  have KN := Lib.hid (fun W i (hc : Cur w0 W g U i) => cNext_calls hc)
  obtain ⟨un, hun⟩ : ∃ n, U.length = n := ⟨_, rfl⟩
  have HU := Lib.hid hun
  rw [hun] at K hl
  have KN2 : Hid (∀ W i, Cur w0 W g U i → Calls Tryz.prog 12 #[.pointer (some ⟨g, 0, none⟩)] W fun e w' => e = .returned (.tuple #[PV (hereP U i), .bool (decide (i < un))]) ∧ Cur w0 w' g U (nextI U i) ∧ Keeps g W w') := by
    rw [← hun]; exact KN
  clear h KN hun hB0
  go_enter Tryz.func40, Tryz.ntmps40
  go_wp2_with fail
  refine K.out.mono ?_
  rintro e w1 ⟨rfl, hc1, hk1⟩
  have hsz1 := hk1.size
  have hB1 := below_alloc w1 (.cells (pcell (hereP U 0)).toArray 43)
  have H1 := Lib.hid (And.intro (hc1.below hB1) (And.intro (hk1.then hB1) (Cx.new w1 43 (pcell (hereP U 0)))))
  clear hc1 hk1 hB1 K
  go_wp2_with fail
  go_loopw [3, 4, 5] (fun l p ok wr => ∃ (n gp : Nat) (ao : Option Addr) (cap : Nat), n ≤ un ∧ l = .slice ao n cap ∧ OwnP wr w.heap.size (.slice ao n cap) (U.take n) ∧ p = .pointer (some ⟨gp, 0, none⟩) ∧ w.heap.size ≤ gp ∧ (Value.slice ao n cap).ownBlock ≠ some gp ∧ Cx wr gp 43 (pcell (hereP U n)) ∧ ok = .bool (decide (n < un)) ∧ Cur w0 wr g U (nextI U n) ∧ Keeps g w wr) (fun l _ _ _ => un - (match l with | .slice _ n _ => n | _ => 0))
  case atStart => exact ⟨0, w1.heap.size, none, 0, Nat.zero_le _, rfl, OwnP.nil _ _, rfl, by omega, by simp [Value.ownBlock], H1.out.2.2, rfl, H1.out.1, H1.out.2.1⟩
  case round =>
    obtain ⟨n, gp, ao, cap, hn, rfl, ho, rfl, hgp, hob, hx, rfl, hc, hk⟩ := hrel
    by_cases hlt : n < un
    · have hd : decide (n < un) = true := decide_eq_true hlt
      have hni : nextI U n = n + 1 := by unfold nextI; rw [HU.out, if_pos hlt]
      obtain ⟨⟨⟨p, m⟩, s⟩, hxe⟩ : ∃ x, hereP U n = x := ⟨_, rfl⟩
      have hUn : n < U.length := by rw [HU.out]; exact hlt
      have htk : U.take n ++ [((p, m), s)] = U.take (n + 1) := by rw [← hxe, hereP_lt hUn, List.take_succ_eq_append_getElem hUn]
      have htl : (U.take (n + 1)).length = n + 1 := by rw [List.length_take]; omega
      rw [hxe] at hx
      rw [hni] at hc
      rw [hd]
      obtain ⟨x0, x1, x2, _, _, _, hgpl⟩ := Cx.three hx
      have hB2 := below_alloc wr (.cells #[.string ⟨p.toArray⟩, .int .i64 m, .string ⟨s.toArray⟩] 43)
      have H2 := Lib.hid (And.intro (OwnP.stays ho hB2) (And.intro (prs_lit wr [((p, m), s)] 43) (And.intro htk (And.intro htl (And.intro (hx.below hB2) (And.intro (hc.below hB2) (hk.then hB2)))))))
      have hsz2 := hk.size
      clear ho hx hc hk hd hni hxe htk htl hB2
      go_wp2_with (at_builtin; refine wpList_append_grown rfl _ _ rfl w.heap.size _ (U.take n) rfl H2.out.1 _ 1 _ _ rfl H2.out.2.1 (U.take (n + 1)) H2.out.2.2.1 (n + 1) H2.out.2.2.2.1 (by omega) (by rw [World.size_alloc]; omega) ?_; intro a3 c3 w3 ho3 hg3; have hx3 := Cx.grown H2.out.2.2.2.2.1 hg3 hob; obtain ⟨e0, e1, e2, _⟩ := Cx.three hx3)
      have hrow : ∀ j, (Value.slice ao n cap).ownBlock = some j → w.heap.size ≤ j := fun j e => (World.ownsRow.lt H2.out.1 j e).1
      have hc3 := H2.out.2.2.2.2.2.1.grown hg3 (fun j e => Nat.le_trans hsz0 (hrow j e)) (fun e => by have := hrow g e; omega)
      have hk3 := H2.out.2.2.2.2.2.2.grown hg3 hrow
      have hB4 := below_alloc w3 (.cells #[.string ⟨p.toArray⟩, .int .i64 m, .string ⟨s.toArray⟩] 43)
      have hlo := World.ownsRow.lt ho3
      have H3 := Lib.hid (And.intro (OwnP.stays ho3 hB4) (And.intro (Cx.new w3 43 (pcell ((p, m), s))) (And.intro (hk3.then hB4) (And.intro hlo hk3.size))))
      have KX := Lib.hid (KN2.out _ _ (hc3.below hB4))
      clear ho3 hg3 hx3 e0 e1 e2 hrow hc3 hk3 hB4 hlo x0 x1 x2
      refine KX.out.mono ?_
      rintro e w4 ⟨rfl, hc4, hk4⟩
      have hsz3 := H3.out.2.2.2.2
      have hob4 : (Value.slice a3 (n + 1) c3).ownBlock ≠ some w3.heap.size := fun e => by have := (H3.out.2.2.2.1 _ e).2; omega
      have hx4 := H3.out.2.1.keeps (b := w3.heap.size) (by omega) hk4
      have ho4 := H3.out.1.keeps hk4 (OwnP.far H3.out.1 (.inl (by omega)))
      have hk5 := H3.out.2.2.1.trans hk4
      obtain ⟨x0, x1, x2, y0, y1, y2, hl4⟩ := Cx.three hx4
      obtain ⟨⟨⟨p', m'⟩, s'⟩, hxe⟩ : ∃ x, hereP U (n + 1) = x := ⟨_, rfl⟩
      rw [hxe]
      have H4 := Lib.hid (And.intro hx4 (And.intro ho4 (And.intro hk5 (And.intro hc4 hxe))))
      clear hx4 ho4 hk5 hc4 hk4 hxe
      go_wp2_with fail
      go_roundw
      case rel =>
        refine ⟨n + 1, w3.heap.size, a3, c3, by omega, rfl, ?_, rfl, by omega, hob4, ?_, rfl, ?_, ((H4.out.2.2.1.other (by omega) 0 _).other (by omega) 1 _).other (by omega) 2 _⟩
        · exact OwnP.keeps H4.out.2.1 ((((Keeps.refl _ _).set 0 _).set 1 _).set 2 _) hob4
        · rw [H4.out.2.2.2.2]
          exact ((H4.out.1.set 0 _).set 1 _).set 2 _
        · exact H4.out.2.2.2.1.other ((((Keeps.refl w3.heap.size w4).set 0 _).set 1 _).set 2 _) (by omega) (by omega)
      case measure => simp; omega
    · obtain rfl : n = un := by omega
      have hd : decide (n < n) = false := by simp
      rw [hd]
      have htk : U.take n = U := by rw [← HU.out, List.take_length]
      rw [htk] at ho
      have H5 := Lib.hid (And.intro ho hk)
      clear ho hk
      go_wp2_with fail
      go_ret
      exact ⟨_, _, _, rfl, H5.out.1, H5.out.2⟩

end Go.Proofs.YthngeponcdeneaaGreatDoor

/-
  cursor: Range, Under.
-/
namespace Go.Proofs.YthngeponcdeneaaGreatDoor
set_option maxRecDepth 100000
open Go.RowKit

theorem entersAll : Enters 41 := fun _ _ => by kernel_rfl
theorem range1_calls (s : List UInt8) (w : World) : Calls Tryz.prog 41 #[.string ⟨s.toArray⟩] w fun e w' => e = .returned (.bool true) ∧ Below w.heap.size w w' := by
  go_enter Tryz.func41, Tryz.ntmps41
  go_wp2_with fail
  go_ret
  exact ⟨rfl, Below.refl _ _⟩
theorem puts_every (w : World) : Puts w (.func (.func 41) #[] #[]) (fun _ => true) :=
  ⟨_, _, rfl, fun _ W => entersAll _ W, fun s W _ _ => range1_calls s W⟩

set_option maxHeartbeats 4000000 in
theorem cRange_calls (tv : Value) (L : List Pr) (a b : Ky) (w : World) (ht : TreeV w tv L) (hti : TimesK L) (hm : L.length ≤ 1000) (hp : ∀ x ∈ L, x.1.1.length ≤ 1000) :
    Calls Tryz.prog 20 #[tv, KV a, KV b] w fun e w' => ∃ ao n cap, e = .returned (.slice ao n cap) ∧ OwnP w' w.heap.size (.slice ao n cap) (rangeL L a b) ∧ Below w.heap.size w w' := by
  obtain ⟨tp, rfl⟩ := ht.val
  obtain ⟨wf, hwf⟩ : ∃ x, x = ((w.alloc (.cells #[.string ⟨a.1.toArray⟩, .int .i64 a.2] 39)).alloc (.cells #[.string ⟨b.1.toArray⟩, .int .i64 b.2] 39)).alloc (.cells #[.string ⟨a.1.toArray⟩, .int .i64 a.2, .string ⟨b.1.toArray⟩, .int .i64 b.2] 75) := ⟨_, rfl⟩
  have hB3 := below_alloc3 w (.cells #[.string ⟨a.1.toArray⟩, .int .i64 a.2] 39) (.cells #[.string ⟨b.1.toArray⟩, .int .i64 b.2] 39) (.cells #[.string ⟨a.1.toArray⟩, .int .i64 a.2, .string ⟨b.1.toArray⟩, .int .i64 b.2] 75)
  have hsp : Sps wf (.slice (some ⟨w.heap.size + 1 + 1, 0, none⟩) 1 1) [(a, b)] := by
    have h := Sps.new ((w.alloc (.cells #[.string ⟨a.1.toArray⟩, .int .i64 a.2] 39)).alloc (.cells #[.string ⟨b.1.toArray⟩, .int .i64 b.2] 39)) [(a, b)] 75
    simp only [World.size_alloc] at h
    rw [hwf]
    exact h
  rw [← hwf] at hB3
  have hsz : wf.heap.size = w.heap.size + 1 + 1 + 1 := by rw [hwf]; simp
  have hcu : Cur wf (wf.alloc (.cells #[.pointer tp, .string ⟨a.1.toArray⟩, .int .i64 a.2, .slice (some ⟨w.heap.size + 1 + 1, 0, none⟩) 1 1, .func (.func 41) #[] #[]] 65)) wf.heap.size (rangeL L a b) 0 :=
    ⟨L, [(a, b)], fun _ => true, _, _, _, a, ⟨ht.below hB3, hsp, puts_every wf⟩, one_rise _, hti, hm, hp, by simp, (cuL_range L a b).symm, below_alloc _ _, Nat.le_refl _, CBox.new wf _ _ _ a, range_first L a b⟩
  have K := Lib.hid (cRest_calls hcu)
  have hsz2 := hB3.size
  have hB4 := hB3.alloc hB3.size (.cells #[.pointer tp, .string ⟨a.1.toArray⟩, .int .i64 a.2, .slice (some ⟨w.heap.size + 1 + 1, 0, none⟩) 1 1, .func (.func 41) #[] #[]] 65)
  rw [World.size_alloc] at K
  have hwf2 := hwf.symm
  have HB := Lib.hid (And.intro hB3 hB4)
  rw [hsz] at K
  dsimp only [KV]
  clear hsp hcu ht hB3 hB4 hwf
  go_enter Tryz.func20, Tryz.ntmps20
  go_wp2_with fail
  refine K.out.mono ?_
  rintro e w1 ⟨ao, n, cap, rfl, ho, hk⟩
  have HO := Lib.hid (And.intro (OwnP.weak ho (show w.heap.size ≤ _ by omega)) (hk.on HB.out.2 (show w.heap.size ≤ _ by omega) HB.out.2.size))
  clear ho hk
  go_wp2_with fail
  go_ret
  exact ⟨_, _, _, rfl, HO.out.1, HO.out.2⟩

/-! ### No cursor -/

set_option maxHeartbeats 4000000 in
theorem cNext_nil (w : World) : Calls Tryz.prog 12 #[.pointer none] w fun e w' => e = .returned (.tuple #[PV (([], 0), []), .bool false]) ∧ Below w.heap.size w w' := by
  have hB0 := below_alloc w (.cells (pcell (([], 0), [])).toArray 43)
  have hZ := Cx.new w 43 (pcell (([], 0), []))
  have K := Lib.hid (here_nil (w.alloc (.cells (pcell (([], 0), [])).toArray 43)))
  have HH := Lib.hid hZ
  clear hZ
  go_enter Tryz.func12, Tryz.ntmps12
  go_wp2_with fail
  refine K.out.mono ?_
  rintro e w1 ⟨rfl, hB1⟩
  have HZ1 := (HH.out.below hB1).below (below_alloc w1 (.cells #[.string ⟨#[]⟩, .int .i64 0, .string ⟨#[]⟩] 43))
  obtain ⟨z0, z1, z2, y0, y1, y2, hl3⟩ := Cx.three HZ1
  go_wp2_with fail
  obtain ⟨w3, hw3⟩ : ∃ x, w1.alloc (.cells #[.string ⟨#[]⟩, .int .i64 0, .string ⟨#[]⟩] 43) = x := ⟨_, rfl⟩
  have hB3 := below_alloc w1 (.cells #[.string ⟨#[]⟩, .int .i64 0, .string ⟨#[]⟩] 43)
  rw [hw3] at HZ1 hB3 ⊢
  have hcr : Cx (((w3.setCell ⟨w.heap.size, 0, none⟩ (.string ⟨#[]⟩)).setCell ⟨w.heap.size, 1, none⟩ (.int .i64 0)).setCell ⟨w.heap.size, 2, none⟩ (.string ⟨#[]⟩)) w.heap.size 43 (pcell (([], 0), [])) := ((HZ1.set 0 _).set 1 _).set 2 _
  refine ret_pair2 (p := 2) (q := 3) (by kernel_rfl) rfl w.heap.size (([], 0), []) _ rfl rfl hcr ?_
  exact ⟨rfl, (((below2 hB0 (below2 hB1 hB3)).setCell (Nat.le_refl _) _).setCell (Nat.le_refl _) _).setCell (Nat.le_refl _) _⟩
theorem rest_nil (w : World) : Calls Tryz.prog 40 #[.pointer none] w fun e w' => e = .returned (.slice none 0 0) ∧ Below w.heap.size w w' := by
  have K := Lib.hid (cNext_nil w)
  go_enter Tryz.func40, Tryz.ntmps40
  go_wp2_with fail
  refine K.out.mono ?_
  rintro e w1 ⟨rfl, hB1⟩
  go_wp2_with fail
  go_loopw [3, 5] (fun l ok wr => l = .slice none 0 0 ∧ ok = .bool false ∧ Below w.heap.size w wr) (fun _ _ _ => 0)
  case atStart => exact ⟨rfl, rfl, below2 hB1 (below_alloc _ _)⟩
  case round =>
    obtain ⟨rfl, rfl, hB2⟩ := hrel
    go_wp2_with fail
    go_ret
    exact ⟨rfl, hB2⟩

end Go.Proofs.YthngeponcdeneaaGreatDoor

/-
  cursor: New.
-/
namespace Go.Proofs.YthngeponcdeneaaGreatDoor
set_option maxRecDepth 100000
open Go.RowKit

theorem entersUnder : Enters 27 := fun _ _ => by kernel_rfl
theorem new1_calls (d s : List UInt8) (g : Nat) (w : World) (hc : w.cell? ⟨g, 0, none⟩ = some (.string ⟨d.toArray⟩)) (hd : d.length ≤ 1000) (hs : s.length ≤ 1000000) (hm : Ml w) :
    Calls Tryz.prog 27 #[.string ⟨s.toArray⟩, .pointer (some ⟨g, 0, none⟩)] w fun e w' => e = .returned (.bool (underOf d s)) ∧ Below w.heap.size w w' := by
  have K := Lib.hid (under_calls d s (by omega) (by omega) w hm)
  go_enter Tryz.func27, Tryz.ntmps27
  go_wp2_with fail
  refine K.out.mono ?_
  rintro e w1 ⟨rfl, hB⟩
  go_wp2_with fail
  go_ret
  exact ⟨rfl, hB⟩
theorem puts_under {w : World} {d : List UInt8} {g : Nat} (hc : w.cell? ⟨g, 0, none⟩ = some (.string ⟨d.toArray⟩)) (hd : d.length ≤ 1000) (hm : Ml w) : Puts w (.func (.func 27) #[] #[.pointer (some ⟨g, 0, none⟩)]) (underOf d) :=
  ⟨_, _, rfl, fun _ W => entersUnder _ W, fun s W hs hB => new1_calls d s g W (look_below hB hc) hd hs (hm.below hB)⟩

set_option maxHeartbeats 4000000 in
theorem cNew_calls (tv : Value) (L : List Pr) (d : List UInt8) (w : World) (ht : TreeV w tv L) (hti : TimesK L) (hm : L.length ≤ 1000) (hp : ∀ x ∈ L, x.1.1.length ≤ 1000) (hd : d.length ≤ 1000) (hml : Ml w) (hi : isP d = true) :
    Calls Tryz.prog 8 #[tv, .string ⟨d.toArray⟩] w fun e w' => ∃ w1 g, e = .returned (.tuple #[.pointer (some ⟨g, 0, none⟩), .int .i64 0]) ∧ Below w.heap.size w w1 ∧ Cur w1 w' g (underL L d) 0 ∧ Below w.heap.size w w' := by
  have hB0 := below_alloc w (.cells #[.string ⟨d.toArray⟩] 9)
  have KI := Lib.hid (is_calls d (by omega) _ (hml.below hB0))
  rw [hi] at KI
  have KF := Lib.hid (fun W => cFirst_calls d W)
  have KS := Lib.hid (fun W => spans_calls d hd W)
  have hz := Cx.new w 9 [.string ⟨d.toArray⟩]
  obtain ⟨tp, rfl⟩ := ht.val
  have HH := Lib.hid (And.intro ht (And.intro hti (And.intro hml (And.intro hp (And.intro hz hB0)))))
  clear ht hti hml hp hz hB0 hi
  go_enter Tryz.func8, Tryz.ntmps8
  go_wp2_with fail
  refine KI.out.mono ?_
  rintro e w1 ⟨rfl, hB1⟩
  have hbr : Below w1.heap.size w1 w1.drew := drew_below _
  have HS : Hid (∀ W, Below w1.heap.size w1 W → W.cell? ⟨w.heap.size, 0, none⟩ = some (.string ⟨d.toArray⟩)) :=
    Lib.hid (fun W hB => (HH.out.2.2.2.2.1.below (below2 hB1 hB)).cell rfl)
  go_wp2_with fail
  go_region_held3 (fun w' => w'.cell? ⟨w.heap.size, 0, none⟩ = some (.string ⟨d.toArray⟩)) (first | exact HS.out _ hbr | exact HS.out _ (hbr.alloc hbr.size _)) (first
    | ((with_reducible refine (KF.out _).mono ?_); rintro e w2 ⟨rfl, hB2⟩; have hbr := below2 hbr hB2; (try have HSP := Lib.hid (HSP.out.below hB2)); obtain ⟨wf, hwf⟩ : ∃ x, x = w2 := ⟨_, rfl⟩)
    | ((with_reducible refine (KS.out _).mono ?_); rintro e w3 ⟨aS, cS, rfl, hsp, hB3⟩; have hbr := below2 hbr hB3; have HSP := Lib.hid hsp; clear hsp; obtain ⟨wf, hwf⟩ : ∃ x, x = w3 := ⟨_, rfl⟩))
  all_goals
    obtain ⟨i1, i2, i3, i4, i5, i6⟩ := HH.out
    rw [← hwf] at HSP hbr ⊢
    have hB9 : Below w.heap.size w wf := below2 i6 (below2 hB1 hbr)
    have hP := puts_under (HS.out _ hbr) hd (i3.below hB9)
    have hcu : Cur wf (wf.alloc (.cells #[.pointer tp, .string ⟨d.toArray⟩, .int .i64 9223372036854775807, .slice aS (spansOf d).length cS, .func (.func 27) #[] #[.pointer (some ⟨w.heap.size, 0, none⟩)]] 65)) wf.heap.size (underL L d) 0 :=
      ⟨L, spansOf d, underOf d, _, _, _, cuFirst d, ⟨i1.below hB9, HSP.out, hP⟩, spans_rise d, i2, hm, i4, by unfold spansOf; split <;> simp, (cuL_under i2 d).symm, below_alloc _ _, Nat.le_refl _, CBox.new wf _ _ _ (cuFirst d), under_first i2 d⟩
    have HCU := Lib.hid hcu
    clear hcu hP i1 i2 i3 i4 i5 i6
    go_wp2_with fail
    go_ret2
    exact ⟨wf, wf.heap.size, rfl, hB9, HCU.out, below2 hB9 (below_alloc _ _)⟩

theorem cNew_not (tv : Value) (d : List UInt8) (w : World) (hd : d.length ≤ 1000) (hml : Ml w) (hi : isP d = false) (hv : ∃ p, tv = .pointer p) :
    Calls Tryz.prog 8 #[tv, .string ⟨d.toArray⟩] w fun e w' => e = .returned (.tuple #[.pointer none, .int .i64 20]) ∧ Below w.heap.size w w' := by
  obtain ⟨tp, rfl⟩ := hv
  have hB0 := below_alloc w (.cells #[.string ⟨d.toArray⟩] 9)
  have KI := Lib.hid (is_calls d (by omega) _ (hml.below hB0))
  rw [hi] at KI
  go_enter Tryz.func8, Tryz.ntmps8
  go_wp2_with fail
  refine KI.out.mono ?_
  rintro e w1 ⟨rfl, hB1⟩
  go_wp2_with fail
  go_ret2
  exact ⟨rfl, below2 hB0 hB1⟩

end Go.Proofs.YthngeponcdeneaaGreatDoor

/-
  The document's own Under and Range of pairs.
-/
namespace Go.Proofs.YthngeponcdeneaaGreatDoor
set_option maxRecDepth 100000
open Go.RowKit

/-- What Under tells. -/
def underE (d : List UInt8) : Int := if isP d = true then 0 else 20
def underR (L : List Pr) (d : List UInt8) : List Pr := if isP d = true then underL L d else []
theorem underR_le (L : List Pr) (d : List UInt8) : (underR L d).length ≤ L.length := by
  unfold underR
  split
  · exact underL_le L d
  · simp
theorem filter_take {L : List Pr} {q : Pr → Bool} {k : Nat} (hk : k < L.length) : (L.take (k + 1)).filter q = if q L[k] = true then (L.take k).filter q ++ [L[k]] else (L.take k).filter q := by
  rw [List.take_succ_eq_append_getElem hk, List.filter_append]
  split <;> rename_i h <;> simp [h]
theorem filter_take_le (L : List Pr) (q : Pr → Bool) (k : Nat) : ((L.take k).filter q).length ≤ L.length := Nat.le_trans (List.length_filter_le _ _) (by rw [List.length_take]; omega)

set_option maxHeartbeats 4000000 in
theorem refUnd_calls (v : Value) (L : List Pr) (d : List UInt8) (w : World) (hs : Prs w v L) (hm : L.length ≤ 1000) (hp : ∀ x ∈ L, x.1.1.length ≤ 1000) (hd : d.length ≤ 1000) :
    Calls Tryz.prog 9 #[v, .string ⟨d.toArray⟩] w fun e w' => ∃ ao n cap, e = .returned (.tuple #[.slice ao n cap, .int .i64 (underE d)]) ∧ OwnP w' w.heap.size (.slice ao n cap) (underR L d) ∧ Below w.heap.size w w' := by
  obtain ⟨ao, cap, rfl⟩ := hs.form
  have KI := Lib.hid (refPathIs_calls d (by omega) w)
  cases hi : isP d with
  | false =>
    have HU := Lib.hid (show underE d = 20 ∧ underR L d = [] by simp [underE, underR, hi])
    rw [HU.out.1, HU.out.2]
    rw [hi] at KI
    clear hi hs hp
    go_enter Tryz.func9, Tryz.ntmps9
    go_wp2_with fail
    refine KI.out.mono ?_
    rintro e w1 ⟨rfl, hB1⟩
    go_wp2_with fail
    go_ret2
    exact ⟨_, _, _, rfl, OwnP.nil _ _, hB1⟩
  | true =>
    have HU := Lib.hid (show underE d = 0 ∧ underR L d = underL L d by simp [underE, underR, hi])
    rw [HU.out.1, HU.out.2]
    rw [hi] at KI
    have KU := Lib.hid (fun (s : List UInt8) (h : s.length ≤ 1000) W => refUnder_calls d s (by omega) (by omega) W)
    obtain ⟨n, hn⟩ : ∃ n, L.length = n := ⟨_, rfl⟩
    have HS := Lib.hid (And.intro hs (And.intro hp hn))
    rw [hn] at hm HS ⊢
    have HN := Lib.hid hn
    clear hi hs hp hn
    go_enter Tryz.func9, Tryz.ntmps9
    go_wp2_with fail
    refine KI.out.mono ?_
    rintro e w1 ⟨rfl, hB1⟩
    have hsz := hB1.size
    go_wp2_with fail
    go_loopw [6, 7] (fun r i wr => ∃ (k : Nat) (al : Option Addr) (m cl : Nat), k ≤ n ∧ i = .int .i64 k ∧ r = .slice al m cl ∧ OwnP wr w.heap.size (.slice al m cl) ((L.take k).filter fun x => underOf d x.1.1) ∧ Below w.heap.size w wr) (fun _ i _ => n - (intOf i).toNat)
    case atStart => exact ⟨0, none, 0, 0, Nat.zero_le _, rfl, rfl, OwnP.nil _ _, hB1⟩
    case round =>
      obtain ⟨k, al, m, cl, hk, rfl, rfl, ho, hB⟩ := hrel
      obtain ⟨T, hT⟩ : ∃ T, ((L.take k).filter fun x => underOf d x.1.1) = T := ⟨_, rfl⟩
      have hTl := filter_take_le L (fun x => underOf d x.1.1) k
      rw [hT] at ho hTl
      rw [HN.out] at hTl
      by_cases hlt : k < n
      · have hkl : k < L.length := by rw [HN.out]; exact hlt
        have hft := filter_take (q := fun x => underOf d x.1.1) hkl
        rw [hT] at hft
        obtain ⟨b, off, rfl, c0, c1, c2⟩ := (HS.out.1.below hB).at hkl
        have hpl := HS.out.2.1 _ (List.getElem_mem hkl)
        obtain ⟨⟨⟨p, z⟩, s⟩, hx⟩ : ∃ x, L[k] = x := ⟨_, rfl⟩
        rw [hx] at c0 c1 c2 hft hpl
        dsimp only at c0 c1 c2 hft hpl
        have KX := Lib.hid (fun W => KU.out p hpl W)
        have HO := Lib.hid (And.intro ho hB)
        have hszB := hB.size
        clear ho hB hx hpl
        cases hu : underOf d p with
        | false =>
          rw [hu] at KX
          rw [hu, if_neg (by simp)] at hft
          have HF := Lib.hid hft
          clear hft hu hT
          go_wp2_with fail
          refine (KX.out _).mono ?_
          rintro e w2 ⟨rfl, hB2⟩
          go_wp2_with fail
          go_roundw
          case rel => exact ⟨k + 1, al, m, cl, by omega, by go_num, rfl, by rw [HF.out]; exact HO.out.1.stays hB2, below2 HO.out.2 hB2⟩
          case measure => simp [intOf]; omega
        | true =>
          rw [hu] at KX
          rw [hu, if_pos rfl] at hft
          have HF := Lib.hid hft
          clear hft hu hT
          go_wp2_with fail
          refine (KX.out _).mono ?_
          rintro e w2 ⟨rfl, hB2⟩
          have d0 := look_below hB2 c0
          have d1 := look_below hB2 c1
          have d2 := look_below hB2 c2
          have hB4 := (below2 HO.out.2 hB2).alloc (below2 HO.out.2 hB2).size (.cells #[.string ⟨p.toArray⟩, .int .i64 z, .string ⟨s.toArray⟩] 43)
          have HP := Lib.hid (prs_lit w2 [((p, z), s)] 43)
          have HO2 := Lib.hid (show OwnP (w2.alloc (.cells #[.string ⟨p.toArray⟩, .int .i64 z, .string ⟨s.toArray⟩] 43)) w.heap.size (.slice al m cl) T from HO.out.1.stays (below2 hB2 (below_alloc _ _)))
          have HU2 := Lib.hid (show ((L.take (k + 1)).filter fun x => underOf d x.1.1).length = T.length + 1 by rw [HF.out]; simp)
          clear c0 c1 c2
          go_wp2_with (at_builtin; refine wpList_append_prs rfl _ _ rfl w.heap.size _ T rfl HO2.out _ 1 _ _ rfl HP.out _ HF.out.symm (T.length + 1) HU2.out (by omega) w hB4 (Nat.le_refl _) ?_; intro a3 c3 w3 ho3 hB5)
          have HO3 := Lib.hid ho3
          clear ho3
          go_roundw
          case rel => exact ⟨k + 1, a3, _, c3, by omega, by go_num, rfl, HO3.out, hB5⟩
          case measure => simp [intOf]; omega
      · obtain rfl : k = n := by omega
        have hfa : L.take k = L := by rw [← HN.out, List.take_length]
        rw [hfa] at hT
        have HO := Lib.hid (And.intro (hT.symm ▸ ho : OwnP _ w.heap.size (.slice al m cl) (underL L d)) hB)
        clear ho hB hT
        go_wp2_with fail
        go_ret2
        exact ⟨_, _, _, rfl, HO.out.1, HO.out.2⟩

end Go.Proofs.YthngeponcdeneaaGreatDoor

/-
  The law file's own rows (walked).
-/
namespace Go.Proofs.YthngeponcdeneaaGreatDoor
set_option maxRecDepth 100000
open Go.RowKit

abbrev wA : Pr := (([97], 5), [])
abbrev wB : Pr := (([97], 3), [])
abbrev wC : Pr := (([97, 47, 98], 1), [])
abbrev wD : Pr := (([97, 98], 2), [])
theorem wPuts : putsL [wA, wB, wC, wD] = [wA, wB, wC, wD] := by rfl
theorem wUnder : underL [wA, wB, wC, wD] [97] = [wA, wB, wC] := by decide
theorem wIs : isP [97] = true ∧ isP [47] = false := by decide
theorem wSkip : skipI [wA, wB, wC] 0 = 2 ∧ nextI [wA, wB, wC] 2 = 3 := by decide
theorem wHere : hereP [wA, wB, wC] 0 = wA ∧ hereP [wA, wB, wC] 2 = wC ∧ hereP [wA, wB, wC] 3 = (([], 0), []) := by decide
theorem wRange : rangeL [wA, wB, wC, wD] wB.1 wD.1 = [wB, wC] := by decide
theorem wTimes : TimesK [wA, wB, wC, wD] := by
  intro x hx
  simp only [List.mem_cons, List.not_mem_nil, or_false] at hx
  rcases hx with rfl | rfl | rfl | rfl <;> exact ⟨by decide, by decide⟩
theorem wPaths : ∀ x ∈ [wA, wB, wC, wD], x.1.1.length ≤ 1000 := by
  intro x hx
  simp only [List.mem_cons, List.not_mem_nil, or_false] at hx
  rcases hx with rfl | rfl | rfl | rfl <;> decide

theorem wK1 {W : World} {v : Value} (h : Prs W v [wA, wB, wC, wD]) : Calls Tryz.prog 7 #[v] W fun e w' => ∃ p, e = .returned (.pointer p) ∧ TreeV w' (.pointer p) [wA, wB, wC, wD] ∧ Below W.heap.size W w' := by
  refine (laidT_calls v _ W h (by decide)).mono ?_
  rintro e w' ⟨u, rfl, hu, hB⟩
  rw [wPuts] at hu
  obtain ⟨p, rfl⟩ := hu.val
  exact ⟨p, rfl, hu, hB⟩
theorem wK2 {W : World} {v : Value} (h : TreeV W v [wA, wB, wC, wD]) (hml : Ml W) : Calls Tryz.prog 8 #[v, .string ⟨#[97]⟩] W fun e w' => ∃ w1 g, e = .returned (.tuple #[.pointer (some ⟨g, 0, none⟩), .int .i64 0]) ∧ W.heap.size ≤ g ∧ Cur w1 w' g [wA, wB, wC] 0 ∧ Below W.heap.size W w' := by
  refine (cNew_calls v [wA, wB, wC, wD] [97] W h wTimes (by decide) wPaths (by decide) hml wIs.1).mono ?_
  rintro e w' ⟨w1, g, rfl, hB1, hc, hB⟩
  rw [wUnder] at hc
  exact ⟨w1, g, rfl, Nat.le_trans hB1.size hc.facts.2.2.2.2.2.1, hc, hB⟩
theorem wK3 {w0 W : World} {g : Nat} (h : Cur w0 W g [wA, wB, wC] 0) : Calls Tryz.prog 14 #[.pointer (some ⟨g, 0, none⟩)] W fun e w' => e = .returned (.tuple #[.string ⟨#[97]⟩, .bool true]) ∧ Cur w0 w' g [wA, wB, wC] 2 ∧ Keeps g W w' := by
  have h1 := cSkip_calls h
  rw [wSkip.1, wHere.1] at h1
  exact h1
theorem wK4 {w0 W : World} {g : Nat} (h : Cur w0 W g [wA, wB, wC] 2) : Calls Tryz.prog 12 #[.pointer (some ⟨g, 0, none⟩)] W fun e w' => e = .returned (.tuple #[.agg #[.string ⟨#[97, 47, 98]⟩, .int .i64 1, .string ⟨#[]⟩], .bool true]) ∧ Cur w0 w' g [wA, wB, wC] 3 ∧ Keeps g W w' := by
  have h1 := cNext_calls h
  rw [wSkip.2, wHere.2.1] at h1
  exact h1
theorem wK5 {w0 W : World} {g : Nat} (h : Cur w0 W g [wA, wB, wC] 3) : Calls Tryz.prog 12 #[.pointer (some ⟨g, 0, none⟩)] W fun e w' => e = .returned (.tuple #[.agg #[.string ⟨#[]⟩, .int .i64 0, .string ⟨#[]⟩], .bool false]) ∧ Keeps g W w' := by
  refine (cNext_calls h).mono ?_
  rintro e w' ⟨rfl, _, hk⟩
  rw [wHere.2.2]
  exact ⟨rfl, hk⟩
theorem wK6 {W : World} {p : Option Addr} (hml : Ml W) : Calls Tryz.prog 8 #[.pointer p, .string ⟨#[47]⟩] W fun e w' => e = .returned (.tuple #[.pointer none, .int .i64 20]) ∧ Below W.heap.size W w' :=
  cNew_not _ [47] W (by decide) hml wIs.2 ⟨p, rfl⟩
theorem wK7 {W : World} {v : Value} (h : TreeV W v [wA, wB, wC, wD]) : Calls Tryz.prog 20 #[v, .agg #[.string ⟨#[97]⟩, .int .i64 3], .agg #[.string ⟨#[97, 98]⟩, .int .i64 2]] W fun e w' => ∃ ao n cap, e = .returned (.slice ao n cap) ∧ Prs w' (.slice ao n cap) [wB, wC] ∧ Below W.heap.size W w' := by
  refine (cRange_calls v [wA, wB, wC, wD] wB.1 wD.1 W h wTimes (by decide) wPaths).mono ?_
  rintro e w' ⟨ao, n, cap, rfl, ho, hB⟩
  rw [wRange] at ho
  exact ⟨ao, n, cap, rfl, ho.prs, hB⟩
theorem wK8 {W : World} {v u : Value} (h1 : Prs W v [wB, wC]) (h2 : Prs W u [wB, wC]) : Calls Tryz.prog 19 #[v, u] W fun e w' => e = .returned (.bool true) ∧ Below W.heap.size W w' := by
  have h := same_calls v u _ _ W h1 h2 (by decide)
  rw [decide_eq_true rfl] at h
  exact h
theorem wLit (w : World) : Prs (w.alloc (.cells #[.string ⟨#[97]⟩, .int .i64 5, .string ⟨#[]⟩, .string ⟨#[97]⟩, .int .i64 3, .string ⟨#[]⟩, .string ⟨#[97, 47, 98]⟩, .int .i64 1, .string ⟨#[]⟩, .string ⟨#[97, 98]⟩, .int .i64 2, .string ⟨#[]⟩] 43)) (.slice (some ⟨w.heap.size, 0, none⟩) 4 4) [wA, wB, wC, wD] := prs_lit w [wA, wB, wC, wD] 43
theorem wCx (w : World) : Cx (w.alloc (.cells #[.string ⟨#[97]⟩, .int .i64 5, .string ⟨#[]⟩, .string ⟨#[97]⟩, .int .i64 3, .string ⟨#[]⟩, .string ⟨#[97, 47, 98]⟩, .int .i64 1, .string ⟨#[]⟩, .string ⟨#[97, 98]⟩, .int .i64 2, .string ⟨#[]⟩] 43)) w.heap.size 43 (pcells [wA, wB, wC, wD]) := Cx.new w _ (pcells [wA, wB, wC, wD])
/-- The middle of the row. -/
theorem wMid {W : World} {b : Nat} (h : Cx W b 43 (pcells [wA, wB, wC, wD])) : Prs W (.slice (some ⟨b, 3, none⟩) 2 3) [wB, wC] := by
  refine ⟨pcells_len _, _, _, rfl, by decide, .inr ⟨b, 3, rfl, fun j hj => ?_⟩⟩
  have hj6 : j < 6 := hj
  refine h.cell (j := 3 + j) ?_
  rcases (by omega : j = 0 ∨ j = 1 ∨ j = 2 ∨ j = 3 ∨ j = 4 ∨ j = 5) with rfl | rfl | rfl | rfl | rfl | rfl <;> rfl

set_option maxHeartbeats 8000000 in
theorem walked_calls (w : World) (hml : Ml w) : Calls Tryz.prog 11 #[] w fun e w' => e = .returned (.bool true) ∧ Below w.heap.size w w' := by
  have hB0 := below_alloc w (.cells #[.string ⟨#[97]⟩, .int .i64 5, .string ⟨#[]⟩, .string ⟨#[97]⟩, .int .i64 3, .string ⟨#[]⟩, .string ⟨#[97, 47, 98]⟩, .int .i64 1, .string ⟨#[]⟩, .string ⟨#[97, 98]⟩, .int .i64 2, .string ⟨#[]⟩] 43)
  have K1 := Lib.hid (wK1 (wLit w))
  have HX := Lib.hid (And.intro (wCx w) (And.intro hB0 (hml.below hB0)))
  clear hB0 hml
  go_enter Tryz.func11, Tryz.ntmps11
  go_wp2_with fail
  refine K1.out.mono ?_
  rintro e w1 ⟨tp, rfl, ht, hB1⟩
  have H1 := Lib.hid (And.intro ht (And.intro (HX.out.1.below hB1) (And.intro (HX.out.2.2.below hB1) (below2 HX.out.2.1 hB1))))
  have K2 := Lib.hid (wK2 ht H1.out.2.2.1)
  clear ht hB1
  go_wp2_with fail
  refine K2.out.mono ?_
  rintro e w2 ⟨wf, g, rfl, hg, hc2, hB2⟩
  have H2 := Lib.hid (And.intro hB2 hg)
  have K3 := Lib.hid (wK3 hc2)
  clear hc2 hB2 hg
  go_wp2_with fail
  refine K3.out.mono ?_
  rintro e w3 ⟨rfl, hc3, hk3⟩
  have H3 := Lib.hid (hk3.on H2.out.1 H2.out.2 H2.out.1.size)
  have K4 := Lib.hid (wK4 hc3)
  clear hc3 hk3
  go_wp2_with fail
  refine K4.out.mono ?_
  rintro e w4 ⟨rfl, hc4, hk4⟩
  have hB4 := below_alloc w4 (.cells #[.string ⟨#[97, 47, 98]⟩, .int .i64 1, .string ⟨#[]⟩] 43)
  have H4 := Lib.hid (And.intro ((hk4.on H3.out H2.out.2 H3.out.size).trans (hB4.mono (by have := hk4.size; have := H3.out.size; omega))) (And.intro (Cx.new w4 43 (pcell wC)) hc4.cells.choose_spec.2.2.2.2))
  have K5 := Lib.hid (wK5 (hc4.below hB4))
  clear hc4 hk4 hB4
  go_wp2_with fail
  refine K5.out.mono ?_
  rintro e w5 ⟨rfl, hk5⟩
  have hB5 := below_alloc w5 (.cells #[.string ⟨#[]⟩, .int .i64 0, .string ⟨#[]⟩] 43)
  have hgl := H4.out.2.2
  have H5 := Lib.hid (And.intro (below2 (hk5.on H4.out.1 H2.out.2 H4.out.1.size) (hB5.mono (by have := hk5.size; have := H4.out.1.size; omega))) ((H4.out.2.1.keeps (by omega) hk5).below hB5))
  clear hk5 hB5
  have K6 := Lib.hid (wK6 (p := tp) (H1.out.2.2.1.below H5.out.1))
  go_wp2_with fail
  refine K6.out.mono ?_
  rintro e w6 ⟨rfl, hB6⟩
  go_wp2_with fail
  have hB1 := below2 H5.out.1 (hB6.mono (Nat.le_refl _))
  have hx6 := H1.out.2.1.below hB1
  have hp6 := H5.out.2.below hB6
  have HT : Hid (∀ W, Below w6.heap.size w6 W → W.cell? ⟨w4.heap.size, 0, none⟩ = some (.string ⟨#[97, 47, 98]⟩) ∧ W.cell? ⟨w4.heap.size, 1, none⟩ = some (.int .i64 1) ∧ W.cell? ⟨w4.heap.size, 2, none⟩ = some (.string ⟨#[]⟩) ∧ W.cell? ⟨w.heap.size, 3, none⟩ = some (.string ⟨#[97]⟩) ∧ W.cell? ⟨w.heap.size, 4, none⟩ = some (.int .i64 3) ∧ W.cell? ⟨w.heap.size, 6, none⟩ = some (.string ⟨#[97, 47, 98]⟩) ∧ W.cell? ⟨w.heap.size, 7, none⟩ = some (.int .i64 1) ∧ W.cell? ⟨w.heap.size, 8, none⟩ = some (.string ⟨#[]⟩) ∧ W.cell? ⟨w.heap.size, 9, none⟩ = some (.string ⟨#[97, 98]⟩) ∧ W.cell? ⟨w.heap.size, 10, none⟩ = some (.int .i64 2)) :=
    Lib.hid (fun W hB => ⟨(hp6.below hB).cell rfl, (hp6.below hB).cell rfl, (hp6.below hB).cell rfl, (hx6.below hB).cell rfl, (hx6.below hB).cell rfl, (hx6.below hB).cell rfl, (hx6.below hB).cell rfl, (hx6.below hB).cell rfl, (hx6.below hB).cell rfl, (hx6.below hB).cell rfl⟩)
  have hbr : Below w6.heap.size w6 w6.drew := drew_below _
  have K7 := Lib.hid (fun W (hB : Below w6.heap.size w6 W) => wK7 ((H1.out.1.below hB1).below hB))
  have HX6 := Lib.hid hx6
  clear hp6 hx6 hgl
  go_region_held3 (fun w' => w'.cell? ⟨w4.heap.size, 0, none⟩ = some (.string ⟨#[97, 47, 98]⟩) ∧ w'.cell? ⟨w4.heap.size, 1, none⟩ = some (.int .i64 1) ∧ w'.cell? ⟨w4.heap.size, 2, none⟩ = some (.string ⟨#[]⟩) ∧ w'.cell? ⟨w.heap.size, 3, none⟩ = some (.string ⟨#[97]⟩) ∧ w'.cell? ⟨w.heap.size, 4, none⟩ = some (.int .i64 3) ∧ w'.cell? ⟨w.heap.size, 6, none⟩ = some (.string ⟨#[97, 47, 98]⟩) ∧ w'.cell? ⟨w.heap.size, 7, none⟩ = some (.int .i64 1) ∧ w'.cell? ⟨w.heap.size, 8, none⟩ = some (.string ⟨#[]⟩) ∧ w'.cell? ⟨w.heap.size, 9, none⟩ = some (.string ⟨#[97, 98]⟩) ∧ w'.cell? ⟨w.heap.size, 10, none⟩ = some (.int .i64 2)) (first | exact HT.out _ hbr) (first
    | ((with_reducible refine (K7.out _ hbr).mono ?_); rintro e w7 ⟨a7, n7, c7, rfl, hp7, hB7⟩; have hbr := below2 hbr hB7; have HP := Lib.hid hp7; clear hp7)
    | ((with_reducible refine (wK8 HP.out (wMid (HX6.out.below hbr))).mono ?_); rintro e w8 ⟨rfl, hB8⟩; have hbr := below2 hbr hB8))
  go_wp2_with fail
  go_ret
  exact ⟨rfl, below2 H1.out.2.2.2 (below2 hB1 hbr)⟩

end Go.Proofs.YthngeponcdeneaaGreatDoor

/-
  Same and Is of what a law has at hand.
-/
namespace Go.Proofs.YthngeponcdeneaaGreatDoor
set_option maxRecDepth 100000
open Go.RowKit

theorem cuSame_calls (v u : Value) (l : List Pr) (W : World) (h1 : Prs W v l) (h2 : Prs W u l) (hm : l.length ≤ 100000) : Calls Tryz.prog 19 #[v, u] W fun e w' => e = .returned (.bool true) ∧ Below W.heap.size W w' := by
  have h := same_calls v u l l W h1 h2 hm
  rw [decide_eq_true rfl] at h
  exact h
theorem cuIs_calls (v : Value) (a b : Ky) (W : World) (h : Prs W v [(a, []), (b, [])]) : Calls Tryz.prog 22 #[v] W fun e w' => e = .returned (.bool (lessK a b)) ∧ Below W.heap.size W w' := by
  have h1 := refIs_calls v _ W h (by simp)
  simp only [riseB, Bool.and_true] at h1
  exact h1
theorem TimesK.timed {l : List Pr} (h : TimesK l) : Timed l := fun x hx => (h x hx).2

end Go.Proofs.YthngeponcdeneaaGreatDoor

/-
  The document's own cursor: Next, Skip, Seek.
-/
namespace Go.Proofs.YthngeponcdeneaaGreatDoor
set_option maxRecDepth 100000
open Go.RowKit

/-- The document's own cursor in memory: over the pairs U, at the i-th one. -/
def RCur (w : World) (g base : Nat) (v : Value) (U : List Pr) (i : Nat) : Prop :=
  Cx w g 37 [v, .int .i64 i] ∧ OwnP w base v U ∧ v.ownBlock ≠ some g ∧ U.length ≤ 1000 ∧ i ≤ U.length
theorem RCur.below {w w' : World} {g base : Nat} {v : Value} {U : List Pr} {i : Nat} (h : RCur w g base v U i) (hb : Below w.heap.size w w') : RCur w' g base v U i :=
  ⟨h.1.below hb, h.2.1.stays hb, h.2.2⟩
theorem RCur.keeps {w w' : World} {g g' base : Nat} {v : Value} {U : List Pr} {i : Nat} (h : RCur w g base v U i) (hk : Keeps g' w w') (h1 : g ≠ g') (h2 : v.ownBlock ≠ some g') : RCur w' g base v U i :=
  ⟨h.1.keeps h1 hk, h.2.1.keeps hk h2, h.2.2⟩
theorem RCur.set {w : World} {g base : Nat} {v : Value} {U : List Pr} {i : Nat} (h : RCur w g base v U i) {j : Nat} (hj : j ≤ U.length) : RCur (w.setCell ⟨g, 1, none⟩ (.int .i64 j)) g base v U j :=
  ⟨h.1.set 1 _, h.2.1.keeps ((Keeps.refl g w).set 1 _) h.2.2.1, h.2.2.1, h.2.2.2.1, hj⟩

set_option maxHeartbeats 8000000 in
theorem rNext_calls {w : World} {g base : Nat} {v : Value} {U : List Pr} {i : Nat} (h : RCur w g base v U i) :
    Calls Tryz.prog 13 #[.pointer (some ⟨g, 0, none⟩)] w fun e w' => e = .returned (.tuple #[PV (hereP U i), .bool (decide (i < U.length))]) ∧ RCur w' g base v U (nextI U i) ∧ Keeps g w w' := by
  obtain ⟨hc, ho, hne, hl, hi⟩ := h
  obtain ⟨ao, cap, rfl⟩ := ho.form
  obtain ⟨n, hn⟩ : ∃ n, U.length = n := ⟨_, rfl⟩
  have HN := Lib.hid hn
  have HR := Lib.hid (show RCur w g base (.slice ao U.length cap) U i from ⟨hc, ho, hne, hl, hi⟩)
  rw [hn] at hl hi hne HR hc ho ⊢
  have hB0 := below_alloc w (.cells (pcell (([], 0), [])).toArray 43)
  have hz := Cx.new w 43 (pcell (([], 0), []))
  have hgl := hc.lt
  obtain ⟨m0, m1, _, f1, _⟩ := hc.two
  clear hn hc
  by_cases hlt : i < n
  · have hb : decide (i < n) = true := decide_eq_true hlt
    have hiU : i < U.length := by rw [HN.out]; exact hlt
    have hni : nextI U i = i + 1 := by simp [nextI, hiU]
    have hx := hereP_lt hiU
    rw [hb, hni, hx]
    obtain ⟨bl, ol, rfl, x0, x1, x2⟩ := ho.prs.at hiU
    obtain ⟨⟨⟨p, m⟩, s⟩, hxe⟩ : ∃ x, U[i] = x := ⟨_, rfl⟩
    rw [hxe] at x0 x1 x2 ⊢
    dsimp only at x0 x1 x2
    have hbg : bl ≠ g := fun e => hne (by rw [e]; rfl)
    have hbl : bl < w.heap.size := World.block_lt_of_cell? w _ x0
    have hge : decide (n ≤ i) = false := by rw [decide_eq_false_iff_not]; omega
    clear hx hni hb hxe ho
    go_enter Tryz.func13, Tryz.ntmps13
    go_wp2_with fail
    go_region
    obtain ⟨w2, hw2⟩ : ∃ x, (w.alloc (.cells #[.string ⟨#[]⟩, .int .i64 0, .string ⟨#[]⟩] 43)).drew = x := ⟨_, rfl⟩
    have hB2 : Below w.heap.size w w2 := hw2 ▸ hB0.drew
    have hz2 : Cx w2 w.heap.size 43 (pcell (([], 0), [])) := hw2 ▸ hz.below (drew_below _)
    rw [hw2]
    clear hw2 hz hB0 m0 m1 f1
    obtain ⟨m0, m1, _, f1, _⟩ := (HR.out.1.below hB2).two
    go_upto_region 4 with (fail)
    have hS := (HR.out.below hB2).set (j := i + 1) (by rw [HN.out]; omega)
    have hK := (Keeps.below g hB2).set 1 (.int .i64 ((i : Int) + 1))
    have hz3 := hz2.keeps (b := w.heap.size) (by omega) ((Keeps.refl g w2).set 1 (.int .i64 ((i : Int) + 1)))
    have x03 := (Keeps.refl g w2).set 1 (.int .i64 ((i : Int) + 1))
    obtain ⟨w3, hw3⟩ : ∃ x, w2.setCell ⟨g, 1, none⟩ (.int .i64 ((i : Int) + 1)) = x := ⟨_, rfl⟩
    rw [show ((i + 1 : Nat) : Int) = (i : Int) + 1 from rfl, hw3] at hS
    rw [hw3] at hK hz3 x03 ⊢
    replace x0 := x03.cell (look_below hB2 x0) (fun e => hbg (by cases e; rfl))
    replace x1 := x03.cell (look_below hB2 x1) (fun e => hbg (by cases e; rfl))
    replace x2 := x03.cell (look_below hB2 x2) (fun e => hbg (by cases e; rfl))
    have hsub : IntKind.i64.wrap ((i : Int) + 1 - 1) = i := by rw [Int.add_sub_cancel]; exact IntWalk.i64_in _ (by omega)
    clear hw3 m0 m1 f1 x03 hB2 hz2
    obtain ⟨m0, m1, _, f1, _⟩ := hS.1.two
    rw [show ((i + 1 : Nat) : Int) = (i : Int) + 1 from rfl] at m1
    obtain ⟨z0, z1, z2, y0, y1, y2, hl3⟩ := Cx.three hz3
    have HS := Lib.hid (And.intro hS (And.intro hK hz3))
    clear hS hK hz3
    go_region
    go_wp2_with fail
    have hcr : Cx (((w3.setCell ⟨w.heap.size, 0, none⟩ (.string ⟨p.toArray⟩)).setCell ⟨w.heap.size, 1, none⟩ (.int .i64 m)).setCell ⟨w.heap.size, 2, none⟩ (.string ⟨s.toArray⟩)).drew w.heap.size 43 (pcell ((p, m), s)) := (((HS.out.2.2.set 0 _).set 1 _).set 2 _).below (drew_below _)
    refine ret_pair2 (p := 2) (q := 3) (by kernel_rfl) rfl w.heap.size ((p, m), s) _ rfl rfl hcr ?_
    have hfar : (Value.slice (some ⟨bl, ol, none⟩) n cap).ownBlock ≠ some w.heap.size := fun e => by
      have : bl = w.heap.size := by cases e; rfl
      omega
    exact ⟨rfl, (HS.out.1.keeps ((((Keeps.refl w.heap.size w3).set 0 _).set 1 _).set 2 _) (by omega) hfar).below (drew_below _), (((HS.out.2.1.other (Nat.le_refl _) 0 _).other (Nat.le_refl _) 1 _).other (Nat.le_refl _) 2 _).then (drew_below _)⟩
  · obtain rfl : i = n := by omega
    have hb : decide (i < i) = false := by simp
    have hiU : ¬ i < U.length := by rw [HN.out]; exact hlt
    have hni : nextI U i = i := by simp [nextI, hiU]
    have hx : hereP U i = (([], 0), []) := hereP_none HN.out.symm
    have hge : decide (i ≤ i) = true := by simp
    rw [hb, hni, hx]
    have HO := Lib.hid ho
    clear hx hni hb ho
    go_enter Tryz.func13, Tryz.ntmps13
    go_wp2_with fail
    go_region
    obtain ⟨w2, hw2⟩ : ∃ x, (w.alloc (.cells #[.string ⟨#[]⟩, .int .i64 0, .string ⟨#[]⟩] 43)).drew = x := ⟨_, rfl⟩
    have hB2 : Below w.heap.size w w2 := hw2 ▸ hB0.drew
    have hz2 : Cx w2 w.heap.size 43 (pcell (([], 0), [])) := hw2 ▸ hz.below (drew_below _)
    rw [hw2]
    clear hw2 hz hB0 m0 m1 f1
    have HS := Lib.hid (And.intro (HR.out.below hB2) (And.intro (Keeps.below g hB2) hz2))
    obtain ⟨z0, z1, z2, y0, y1, y2, hl3⟩ := Cx.three hz2
    go_wp2_with fail
    have hcr : Cx (((w2.setCell ⟨w.heap.size, 0, none⟩ (.string ⟨#[]⟩)).setCell ⟨w.heap.size, 1, none⟩ (.int .i64 0)).setCell ⟨w.heap.size, 2, none⟩ (.string ⟨#[]⟩)) w.heap.size 43 (pcell (([], 0), [])) := ((HS.out.2.2.set 0 _).set 1 _).set 2 _
    refine ret_pair2 (p := 2) (q := 3) (by kernel_rfl) rfl w.heap.size (([], 0), []) _ rfl rfl hcr ?_
    exact ⟨rfl, HS.out.1.keeps ((((Keeps.refl w.heap.size w2).set 0 _).set 1 _).set 2 _) (by omega) (OwnP.far HO.out (.inr (Nat.le_refl _))), ((HS.out.2.1.other (Nat.le_refl _) 0 _).other (Nat.le_refl _) 1 _).other (Nat.le_refl _) 2 _⟩

/-- Where the document's own cursor is. -/
def rAt (w : World) (g : Nat) : Nat := match w.cell? ⟨g, 1, none⟩ with
  | some (.int _ n) => n.toNat
  | _ => 0
theorem RCur.at {w : World} {g base : Nat} {v : Value} {U : List Pr} {i : Nat} (h : RCur w g base v U i) : rAt w g = i := by
  unfold rAt
  rw [h.1.two.2.1]
  rfl

set_option maxHeartbeats 8000000 in
theorem rSkip_calls {w : World} {g base : Nat} {v : Value} {U : List Pr} {i : Nat} (h : RCur w g base v U i) (hr : Rises U) (ht : TimesK U) :
    Calls Tryz.prog 15 #[.pointer (some ⟨g, 0, none⟩)] w fun e w' => e = .returned (.tuple #[.string ⟨(hereP U i).1.1.toArray⟩, .bool (decide (i < U.length))]) ∧ RCur w' g base v U (skipI U i) ∧ Keeps g w w' := by
  obtain ⟨hc, ho, hne, hl, hi⟩ := h
  obtain ⟨ao, cap, rfl⟩ := ho.form
  obtain ⟨n, hn⟩ : ∃ n, U.length = n := ⟨_, rfl⟩
  have HN := Lib.hid hn
  have HR := Lib.hid (show RCur w g base (.slice ao U.length cap) U i from ⟨hc, ho, hne, hl, hi⟩)
  rw [hn] at hl hi hne HR hc ho ⊢
  have hgl := hc.lt
  obtain ⟨m0, m1, _, f1, _⟩ := hc.two
  clear hn hc
  by_cases hlt : i < n
  · have hb : decide (i < n) = true := decide_eq_true hlt
    have hiU : i < U.length := by rw [HN.out]; exact hlt
    have hx := hereP_lt hiU
    have hsk : skipI U i = placeN U (cuPast U[i].1.1) := by unfold skipI; rw [if_pos hiU, hx]
    have HSK := Lib.hid (fun (j : Nat) (hij : i ≤ j) (hj : j ≤ U.length) h1 h2 => skip_place hr ht hiU (j := j) hij hj h1 h2)
    rw [hb, hsk, hx]
    have HO := Lib.hid ho
    obtain ⟨bl, ol, rfl, x0, _, _⟩ := ho.prs.at hiU
    obtain ⟨⟨⟨p, m⟩, s⟩, hxe⟩ : ∃ x, U[i] = x := ⟨_, rfl⟩
    rw [hxe] at x0 HSK ⊢
    dsimp only at x0 HSK ⊢
    have HXE := Lib.hid hxe
    have hge : decide (n ≤ i) = false := by rw [decide_eq_false_iff_not]; omega
    clear hx hsk hb hxe ho hr ht
    go_enter Tryz.func15, Tryz.ntmps15
    go_wp2_with fail
    go_region
    obtain ⟨w2, hw2⟩ : ∃ x, w.drew = x := ⟨_, rfl⟩
    have hB2 : Below w.heap.size w w2 := hw2 ▸ drew_below w
    rw [hw2]
    clear hw2 m0 m1 f1
    obtain ⟨m0, m1, _, f1, _⟩ := (HR.out.below hB2).1.two
    replace x0 := look_below hB2 x0
    go_wp2_with fail
    go_region
    have hB3 : Below w.heap.size w w2.drew := hB2.drew
    go_wp2_with fail
    go_loopw [27] (fun _ wr => ∃ j : Nat, i ≤ j ∧ j ≤ n ∧ (∀ (q : Nat) (h : q < U.length), i ≤ q → q < j → U[q].1.1 = p) ∧ RCur wr g base (.slice (some ⟨bl, ol, none⟩) n cap) U j ∧ Keeps g w wr) (fun _ wr => n - rAt wr g)
    case atStart => exact ⟨i, Nat.le_refl _, hi, fun q h h1 h2 => by omega, HR.out.below hB3, Keeps.below g hB3⟩
    case round =>
      obtain ⟨j, hij, hj, hpq, hrc, hk⟩ := hrel
      obtain ⟨m0, m1, _, f1, _⟩ := hrc.1.two
      have HC := Lib.hid (And.intro hpq (And.intro hrc hk))
      by_cases hjn : j < n
      · have hjU : j < U.length := by rw [HN.out]; exact hjn
        obtain ⟨bl2, ol2, he, x3, _, _⟩ := hrc.2.1.prs.at hjU
        cases he
        obtain ⟨q, hq⟩ : ∃ q, U[j].1.1 = q := ⟨_, rfl⟩
        rw [hq] at x3
        have HQ := Lib.hid hq
        clear hpq hrc hk hq
        cases hb : (q == p) with
        | true =>
          have hqe : q = p := by simpa using hb
          have hqp := Lib.hid hqe
          clear hqe
          go_wp2_with fail
          go_region_held3 (fun w' => w'.cell? ⟨g, 0, none⟩ = some (.slice (some ⟨bl, ol, none⟩) n cap) ∧ w'.cell? ⟨g, 1, none⟩ = some (.int .i64 (j : Int)) ∧ w'.cell? ⟨bl, ol + j * 3, none⟩ = some (.string ⟨q.toArray⟩)) (first | exact ⟨m0, m1, x3⟩) (first | fail)
          obtain ⟨w5, hw5⟩ : ∃ x, wr.drew = x := ⟨_, rfl⟩
          have hB5 : Below wr.heap.size wr w5 := hw5 ▸ drew_below wr
          rw [hw5]
          clear hw5 m0 m1 f1
          have hrc5 := HC.out.2.1.below hB5
          obtain ⟨m0, m1, _, f1, _⟩ := hrc5.1.two
          go_wp2_with fail
          go_roundw
          case rel =>
            refine ⟨j + 1, by omega, by omega, fun q2 h h1 h2 => ?_, hrc5.set (j := j + 1) hjU, (HC.out.2.2.then hB5).set 1 _⟩
            rcases Nat.lt_or_ge q2 j with h3 | h3
            · exact HC.out.1 q2 h h1 h3
            · obtain rfl : q2 = j := by omega
              rw [HQ.out, hqp.out]
          case measure =>
            have h1 := (hrc5.set (j := j + 1) hjU).at
            rw [HC.out.2.1.at]
            change n - rAt (w5.setCell ⟨g, 1, none⟩ (.int .i64 ((j + 1 : Nat) : Int))) g < _
            rw [h1]
            omega
        | false =>
          have hqp := Lib.hid (show q ≠ p by simpa using hb)
          go_wp2_with fail
          go_region_held3 (fun w' => w'.cell? ⟨g, 0, none⟩ = some (.slice (some ⟨bl, ol, none⟩) n cap) ∧ w'.cell? ⟨g, 1, none⟩ = some (.int .i64 (j : Int)) ∧ w'.cell? ⟨bl, ol + j * 3, none⟩ = some (.string ⟨q.toArray⟩)) (first | exact ⟨m0, m1, x3⟩) (first | fail)
          go_wp2_with fail
          go_ret2
          have hsk := HSK.out j hij (by rw [HN.out]; exact hj) HC.out.1 (fun _ => by rw [HQ.out]; exact hqp.out)
          rw [hsk]
          exact ⟨rfl, HC.out.2.1.below (drew_below _), HC.out.2.2.then (drew_below _)⟩
      · obtain rfl : j = n := by omega
        clear hpq hrc hk
        go_wp2_with fail
        refine wp_region_held_drew (S := (fun w' => w'.cell? ⟨g, 0, none⟩ = some (.slice (some ⟨bl, ol, none⟩) j cap) ∧ w'.cell? ⟨g, 1, none⟩ = some (.int .i64 (j : Int)))) (by kernel_rfl) (⟨m0, m1⟩) (fun hHeld => ?_)
        refine wpAnyH_take (i := 0) (oi := ⟨_, _, _, _, _, _⟩) (v := ?_) rfl (by kernel_rfl) (by kernel_rfl) (by kernel_rfl) (fun _ _ _ h => h) (Or.inl ⟨by rfl, ?_⟩) hHeld ?_
        rotate_left
        · (intro w hSw; (try dsimp only at hSw); go_simp; try with_reducible rfl)
        try simp only [Act.put, List.setIfInBounds_toArray, List.set_cons_zero, List.set_cons_succ]
        refine wpAnyH_take (i := 1) (oi := ⟨_, _, _, _, _, _⟩) (v := ?_) rfl (by kernel_rfl) (by kernel_rfl) (by kernel_rfl) (fun _ _ _ h => h) (Or.inl ⟨by rfl, ?_⟩) hHeld ?_
        rotate_left
        · (intro w hSw; (try dsimp only at hSw); go_simp; try with_reducible rfl)
        try simp only [Act.put, List.setIfInBounds_toArray, List.set_cons_zero, List.set_cons_succ]
        refine wpAnyH_take (i := 2) (oi := ⟨_, _, _, _, _, _⟩) (v := ?_) rfl (by kernel_rfl) (by kernel_rfl) (by kernel_rfl) (fun _ _ _ h => h) (Or.inl ⟨by rfl, ?_⟩) hHeld ?_
        rotate_left
        · (intro w hSw; (try dsimp only at hSw); go_simp; try with_reducible rfl)
        try simp only [Act.put, List.setIfInBounds_toArray, List.set_cons_zero, List.set_cons_succ]
        refine wpAnyH_take (i := 3) (oi := ⟨_, _, _, _, _, _⟩) (v := ?_) rfl (by kernel_rfl) (by kernel_rfl) (by kernel_rfl) (fun _ _ _ h => h) (Or.inl ⟨by rfl, ?_⟩) hHeld ?_
        rotate_left
        · (intro w hSw; (try dsimp only at hSw); go_simp; try with_reducible rfl)
        try simp only [Act.put, List.setIfInBounds_toArray, List.set_cons_zero, List.set_cons_succ]
        refine wpAnyH_take (i := 4) (oi := ⟨_, _, _, _, _, _⟩) (v := ?_) rfl (by kernel_rfl) (by kernel_rfl) (by kernel_rfl) (fun _ _ _ h => h) (Or.inl ⟨by rfl, ?_⟩) hHeld ?_
        rotate_left
        · (intro w hSw; (try dsimp only at hSw); go_simp; try with_reducible rfl)
        try simp only [Act.put, List.setIfInBounds_toArray, List.set_cons_zero, List.set_cons_succ]
        refine wpAnyH_take (i := 5) (oi := ⟨_, _, _, _, _, _⟩) (v := ?_) rfl (by kernel_rfl) (by kernel_rfl) (by kernel_rfl) (fun _ _ _ h => h) (Or.inl ⟨by rfl, ?_⟩) hHeld ?_
        rotate_left
        · (intro w hSw; (try dsimp only at hSw); go_simp; try with_reducible rfl)
        try simp only [Act.put, List.setIfInBounds_toArray, List.set_cons_zero, List.set_cons_succ]
        refine wpAnyH_take (i := 6) (oi := ⟨_, _, _, _, _, _⟩) (v := ?_) rfl (by kernel_rfl) (by kernel_rfl) (by kernel_rfl) (fun _ _ _ h => h) (Or.inl ⟨by rfl, ?_⟩) hHeld ?_
        rotate_left
        · (intro w hSw; (try dsimp only at hSw); go_simp; try with_reducible rfl)
        try simp only [Act.put, List.setIfInBounds_toArray, List.set_cons_zero, List.set_cons_succ]
        refine wpAnyH_take (i := 7) (oi := ⟨_, _, _, _, _, _⟩) (v := ?_) rfl (by kernel_rfl) (by kernel_rfl) (by kernel_rfl) (fun _ _ _ h => h) (Or.inl ⟨by rfl, ?_⟩) hHeld ?_
        rotate_left
        · (intro w hSw; (try dsimp only at hSw); go_simp; try with_reducible rfl)
        try simp only [Act.put, List.setIfInBounds_toArray, List.set_cons_zero, List.set_cons_succ]
        refine wpAnyH_take (i := 8) (oi := ⟨_, _, _, _, _, _⟩) (v := ?_) rfl (by kernel_rfl) (by kernel_rfl) (by kernel_rfl) (fun _ _ _ h => h) (Or.inl ⟨by rfl, ?_⟩) hHeld ?_
        rotate_left
        · (intro w hSw; (try dsimp only at hSw); go_simp; try with_reducible rfl)
        try simp only [Act.put, List.setIfInBounds_toArray, List.set_cons_zero, List.set_cons_succ]
        refine wpAnyH_take (i := 9) (oi := ⟨_, _, _, _, _, _⟩) (v := ?_) rfl (by kernel_rfl) (by kernel_rfl) (by kernel_rfl) (fun _ _ _ h => h) (Or.inl ⟨by rfl, ?_⟩) hHeld ?_
        rotate_left
        · (intro w hSw; (try dsimp only at hSw); go_simp; try with_reducible rfl)
        try simp only [Act.put, List.setIfInBounds_toArray, List.set_cons_zero, List.set_cons_succ]
        refine wpAnyH_take (i := 10) (oi := ⟨_, _, _, _, _, _⟩) (v := ?_) rfl (by kernel_rfl) (by kernel_rfl) (by kernel_rfl) (fun _ _ _ h => h) (Or.inl ⟨by rfl, ?_⟩) hHeld ?_
        rotate_left
        · (intro w hSw; (try dsimp only at hSw); go_simp; try with_reducible rfl)
        try simp only [Act.put, List.setIfInBounds_toArray, List.set_cons_zero, List.set_cons_succ]
        refine wpAnyH_take (i := 11) (oi := ⟨_, _, _, _, _, _⟩) (v := undef) rfl (by kernel_rfl) (by kernel_rfl) (by kernel_rfl) (fun _ _ _ h => h) (Or.inr ⟨by rfl, rfl⟩) hHeld ?_
        try simp only [Act.put, List.setIfInBounds_toArray, List.set_cons_zero, List.set_cons_succ]
        refine wpAnyH_take (i := 12) (oi := ⟨_, _, _, _, _, _⟩) (v := undef) rfl (by kernel_rfl) (by kernel_rfl) (by kernel_rfl) (fun _ _ _ h => h) (Or.inr ⟨by rfl, rfl⟩) hHeld ?_
        try simp only [Act.put, List.setIfInBounds_toArray, List.set_cons_zero, List.set_cons_succ]
        refine wpAnyH_take (i := 13) (oi := ⟨_, _, _, _, _, _⟩) (v := undef) rfl (by kernel_rfl) (by kernel_rfl) (by kernel_rfl) (fun _ _ _ h => h) (Or.inr ⟨by rfl, rfl⟩) hHeld ?_
        try simp only [Act.put, List.setIfInBounds_toArray, List.set_cons_zero, List.set_cons_succ]
        refine wpAnyH_take (i := 14) (oi := ⟨_, _, _, _, _, _⟩) (v := undef) rfl (by kernel_rfl) (by kernel_rfl) (by kernel_rfl) (fun _ _ _ h => h) (Or.inr ⟨by rfl, rfl⟩) hHeld ?_
        try simp only [Act.put, List.setIfInBounds_toArray, List.set_cons_zero, List.set_cons_succ]
        refine wpAnyH_take (i := 15) (oi := ⟨_, _, _, _, _, _⟩) (v := undef) rfl (by kernel_rfl) (by kernel_rfl) (by kernel_rfl) (fun _ _ _ h => h) (Or.inr ⟨by rfl, rfl⟩) hHeld ?_
        try simp only [Act.put, List.setIfInBounds_toArray, List.set_cons_zero, List.set_cons_succ]
        refine wpAnyH_take (i := 16) (oi := ⟨_, _, _, _, _, _⟩) (v := undef) rfl (by kernel_rfl) (by kernel_rfl) (by kernel_rfl) (fun _ _ _ h => h) (Or.inr ⟨by rfl, rfl⟩) hHeld ?_
        try simp only [Act.put, List.setIfInBounds_toArray, List.set_cons_zero, List.set_cons_succ]
        refine wpAnyH_take (i := 17) (oi := ⟨_, _, _, _, _, _⟩) (v := undef) rfl (by kernel_rfl) (by kernel_rfl) (by kernel_rfl) (fun _ _ _ h => h) (Or.inr ⟨by rfl, rfl⟩) hHeld ?_
        try simp only [Act.put, List.setIfInBounds_toArray, List.set_cons_zero, List.set_cons_succ]
        refine wpAnyH_take (i := 18) (oi := ⟨_, _, _, _, _, _⟩) (v := undef) rfl (by kernel_rfl) (by kernel_rfl) (by kernel_rfl) (fun _ _ _ h => h) (Or.inr ⟨by rfl, rfl⟩) hHeld ?_
        try simp only [Act.put, List.setIfInBounds_toArray, List.set_cons_zero, List.set_cons_succ]
        refine wpAnyH_take (i := 19) (oi := ⟨_, _, _, _, _, _⟩) (v := undef) rfl (by kernel_rfl) (by kernel_rfl) (by kernel_rfl) (fun _ _ _ h => h) (Or.inr ⟨by rfl, rfl⟩) hHeld ?_
        try simp only [Act.put, List.setIfInBounds_toArray, List.set_cons_zero, List.set_cons_succ]
        refine wpAnyH_take (i := 20) (oi := ⟨_, _, _, _, _, _⟩) (v := undef) rfl (by kernel_rfl) (by kernel_rfl) (by kernel_rfl) (fun _ _ _ h => h) (Or.inr ⟨by rfl, rfl⟩) hHeld ?_
        try simp only [Act.put, List.setIfInBounds_toArray, List.set_cons_zero, List.set_cons_succ]
        refine wpAnyH_take (i := 21) (oi := ⟨_, _, _, _, _, _⟩) (v := undef) rfl (by kernel_rfl) (by kernel_rfl) (by kernel_rfl) (fun _ _ _ h => h) (Or.inr ⟨by rfl, rfl⟩) hHeld ?_
        try simp only [Act.put, List.setIfInBounds_toArray, List.set_cons_zero, List.set_cons_succ]
        refine wpAnyH_take (i := 22) (oi := ⟨_, _, _, _, _, _⟩) (v := undef) rfl (by kernel_rfl) (by kernel_rfl) (by kernel_rfl) (fun _ _ _ h => h) (Or.inr ⟨by rfl, rfl⟩) hHeld ?_
        try simp only [Act.put, List.setIfInBounds_toArray, List.set_cons_zero, List.set_cons_succ]
        refine wpAnyH_take (i := 23) (oi := ⟨_, _, _, _, _, _⟩) (v := undef) rfl (by kernel_rfl) (by kernel_rfl) (by kernel_rfl) (fun _ _ _ h => h) (Or.inr ⟨by rfl, rfl⟩) hHeld ?_
        try simp only [Act.put, List.setIfInBounds_toArray, List.set_cons_zero, List.set_cons_succ]
        refine wpAnyH_take (i := 24) (oi := ⟨_, _, _, _, _, _⟩) (v := undef) rfl (by kernel_rfl) (by kernel_rfl) (by kernel_rfl) (fun _ _ _ h => h) (Or.inr ⟨by rfl, rfl⟩) hHeld ?_
        try simp only [Act.put, List.setIfInBounds_toArray, List.set_cons_zero, List.set_cons_succ]
        refine wpAnyH_take (i := 25) (oi := ⟨_, _, _, _, _, _⟩) (v := ?_) rfl (by kernel_rfl) (by kernel_rfl) (by kernel_rfl) (fun _ _ _ h => h) (Or.inl ⟨by rfl, ?_⟩) hHeld ?_
        rotate_left
        · (intro w hSw; (try dsimp only at hSw); go_simp; try with_reducible rfl)
        try simp only [Act.put, List.setIfInBounds_toArray, List.set_cons_zero, List.set_cons_succ]
        refine wpAnyH_done (by kernel_rfl) ?_ _
        go_wp2_with fail
        go_ret2
        have hsk := HSK.out j hij (by rw [HN.out]; exact Nat.le_refl _) HC.out.1 (fun h => by rw [HN.out] at h; omega)
        rw [hsk]
        exact ⟨rfl, HC.out.2.1.below (drew_below _), HC.out.2.2.then (drew_below _)⟩
  · obtain rfl : i = n := by omega
    have hb : decide (i < i) = false := by simp
    have hiU : ¬ i < U.length := by rw [HN.out]; exact hlt
    have hni : skipI U i = i := by simp [skipI, hiU]
    have hx : hereP U i = (([], 0), []) := hereP_none HN.out.symm
    have hge : decide (i ≤ i) = true := by simp
    rw [hb, hni, hx]
    clear hx hni hb ho hr ht
    go_enter Tryz.func15, Tryz.ntmps15
    go_wp2_with fail
    go_region
    go_wp2_with fail
    go_ret2
    exact ⟨rfl, HR.out.below (drew_below _), Keeps.below g (drew_below _)⟩

set_option maxHeartbeats 8000000 in
theorem rSeek_calls {w : World} {g base : Nat} {v : Value} {U : List Pr} {i : Nat} (h : RCur w g base v U i) (k : Ky) :
    Calls Tryz.prog 17 #[.pointer (some ⟨g, 0, none⟩), KV k] w fun e w' => e = .returned (.tuple #[]) ∧ RCur w' g base v U (placeN U k) ∧ Keeps g w w' := by
  have HR := Lib.hid h
  obtain ⟨hc, ho, hne, hl, hi⟩ := h
  obtain ⟨ao, cap, rfl⟩ := ho.form
  obtain ⟨n, hn⟩ : ∃ n, U.length = n := ⟨_, rfl⟩
  have hgl := hc.lt
  have HN := Lib.hid (And.intro hn hl)
  rw [hn] at HR hc ho
  obtain ⟨wb, hwb⟩ : ∃ x, w.alloc (.cells #[.string ⟨k.1.toArray⟩, .int .i64 k.2] 39) = x := ⟨_, rfl⟩
  have hBb : Below w.heap.size w wb := hwb ▸ below_alloc w _
  have hkb : KBox wb w.heap.size k := hwb ▸ kbox_new w k.1 k.2
  have hrb := HR.out.below hBb
  have HT : Hid (∀ W, Below wb.heap.size wb W → W.cell? ⟨g, 0, none⟩ = some (.slice ao n cap) ∧ W.cell? ⟨w.heap.size, 0, none⟩ = some (.string ⟨k.1.toArray⟩) ∧ W.cell? ⟨w.heap.size, 1, none⟩ = some (.int .i64 k.2)) :=
    Lib.hid (fun W hB => ⟨(hrb.below hB).1.two.1, (hkb.below hB).two.1, (hkb.below hB).two.2.1⟩)
  have KF := Lib.hid (fun W (hB : Below wb.heap.size wb W) => refFind_calls _ U k.1 k.2 W (hrb.below hB).2.1.prs (by omega))
  have hbr : Below wb.heap.size wb wb.drew := drew_below _
  have HB := Lib.hid (And.intro hBb (And.intro hrb hkb))
  have HWB := Lib.hid hwb
  clear hc ho hn hwb hBb hkb hrb hl hi
  dsimp only [KV]
  go_enter Tryz.func17, Tryz.ntmps17
  go_wp2_with fail
  rw [HWB.out]
  go_region_held3 (fun w' => w'.cell? ⟨g, 0, none⟩ = some (.slice ao n cap) ∧ w'.cell? ⟨w.heap.size, 0, none⟩ = some (.string ⟨k.1.toArray⟩) ∧ w'.cell? ⟨w.heap.size, 1, none⟩ = some (.int .i64 k.2)) (first | exact HT.out _ hbr) (first
    | ((with_reducible refine (KF.out _ hbr).mono ?_); rintro e w2 ⟨rfl, hB2⟩; have hbr := below2 hbr hB2))
  have hrc := HB.out.2.1.below hbr
  have hk := (Keeps.below g HB.out.1).then hbr
  obtain ⟨m0, m1, _, f1, _⟩ := hrc.1.two
  go_wp2_with fail
  go_end0
  rw [HN.out.1]
  exact ⟨rfl, hrc.set (j := placeN U k) (placeN_le U k), hk.set 1 _⟩

end Go.Proofs.YthngeponcdeneaaGreatDoor

/-
  Rows of a cursor's steps: three cells each.
-/
namespace Go.Proofs.YthngeponcdeneaaGreatDoor
set_option maxRecDepth 100000
open Go.RowKit

/-- A step: its kind, its key. -/
abbrev Cst := Int × Ky
def qcell (x : Cst) : List Value := [.int .i64 x.1, .string ⟨x.2.1.toArray⟩, .int .i64 x.2.2]
def qcells (l : List Cst) : List Value := l.flatMap qcell
theorem qcells_cons (x : Cst) (r : List Cst) : qcells (x :: r) = .int .i64 x.1 :: .string ⟨x.2.1.toArray⟩ :: .int .i64 x.2.2 :: qcells r := rfl
theorem qcells_len (l : List Cst) : (qcells l).length = l.length * 3 := by
  induction l with
  | nil => rfl
  | cons x r ih => rw [qcells_cons]; simp only [List.length_cons, ih]; omega
theorem qcells_at (l : List Cst) (i : Nat) (h : i < l.length) : (qcells l)[i * 3]? = some (.int .i64 l[i].1) ∧ (qcells l)[i * 3 + 1]? = some (.string ⟨l[i].2.1.toArray⟩) ∧ (qcells l)[i * 3 + 2]? = some (.int .i64 l[i].2.2) := by
  induction l generalizing i with
  | nil => simp at h
  | cons x r ih =>
    cases i with
    | zero => exact ⟨rfl, rfl, rfl⟩
    | succ i =>
      have h1 := ih i (by simpa using h)
      rw [qcells_cons, show (i + 1) * 3 = i * 3 + 1 + 1 + 1 by omega]
      exact h1
/-- The slice v reads as these steps. -/
def Csts (w : World) (v : Value) (l : List Cst) : Prop := Rw w 3 v l.length (qcells l)
theorem Csts.below {w w' : World} {v : Value} {l : List Cst} (h : Csts w v l) (hb : Below w.heap.size w w') : Csts w' v l := Rw.below h hb
theorem Csts.form {w : World} {v : Value} {l : List Cst} (h : Csts w v l) : ∃ ao cap, v = .slice ao l.length cap := Rw.form h
theorem Csts.nil (w : World) : Csts w (.slice none 0 0) [] := Rw.nil w 3
theorem Csts.at {w : World} {ao : Option Addr} {n cap : Nat} {l : List Cst} (h : Csts w (.slice ao n cap) l) {k : Nat} (hk : k < l.length) :
    ∃ b off, ao = some ⟨b, off, none⟩ ∧ w.cell? ⟨b, off + k * 3, none⟩ = some (.int .i64 l[k].1) ∧ w.cell? ⟨b, off + k * 3 + 1, none⟩ = some (.string ⟨l[k].2.1.toArray⟩) ∧ w.cell? ⟨b, off + k * 3 + 2, none⟩ = some (.int .i64 l[k].2.2) := by
  obtain ⟨hl, ao', cap', he, _, hc⟩ := h
  cases he
  rcases hc with h0 | ⟨b, off, rfl, hc⟩
  · omega
  · have h2 := qcells_len l
    obtain ⟨e1, e2, e3⟩ := qcells_at l k hk
    refine ⟨b, off, rfl, ?_, ?_, ?_⟩
    · rw [hc (k * 3) (by omega), ← e1, List.getElem?_eq_getElem (by omega)]
    · rw [Nat.add_assoc, hc (k * 3 + 1) (by omega), ← e2, List.getElem?_eq_getElem (by omega)]
    · rw [Nat.add_assoc, hc (k * 3 + 2) (by omega), ← e3, List.getElem?_eq_getElem (by omega)]

end Go.Proofs.YthngeponcdeneaaGreatDoor

/-
  What came in, opened: pairs with their times, a key with its path's length, a cursor's steps.
-/
namespace Go.Proofs.YthngeponcdeneaaGreatDoor
set_option maxRecDepth 100000
open Go.RowKit Go.Joins Go.ChangeShapes Go.WideShapes Go.Deep

theorem pair_trod3 {W : World} {n : Nat} {H : Type} {enc : TypeId × Value → H} {x : DataW H × List MemPlace} {c0 c1 c2 : Value}
    (hf : DataW.trod enc Tryz.prog W 0 (fun _ => true) true n 43 [c0, c1, c2] = some x) : ∃ y : Pr, (c0 = .string ⟨y.1.1.toArray⟩ ∧ c1 = .int .i64 y.1.2 ∧ c2 = .string ⟨y.2.toArray⟩) ∧ TimeK y.1 := by
  obtain ⟨y0, y1, k, _, _, g0, g1⟩ := trod_struct2 Tryz.underlying43 hf
  have k0 : Tryz.prog.cellsOf 39 = 2 := keyCells2
  have k1 : Tryz.prog.cellsOf 9 = 1 := by kernel_rfl
  have k2 : Tryz.prog.cellsOf 3 = 1 := by kernel_rfl
  simp [k0] at g0
  simp [k1] at g1
  obtain ⟨z0, z1, j, _, _, f0, f1⟩ := trod_struct2 Tryz.underlying39 g0
  simp [k1] at f0
  simp [k2] at f1
  obtain ⟨s0, e0, _, _⟩ := DataW.trod_string Tryz.underlying9 f0
  obtain ⟨z, e1, _, hwf⟩ := DataW.trod_int Tryz.underlying3 f1
  obtain ⟨s2, e2, _, _⟩ := DataW.trod_string Tryz.underlying9 g1
  simp at e0 e1 e2
  subst e0
  subst e1
  subst e2
  obtain ⟨l0, rfl⟩ := bytes_list s0
  obtain ⟨l2, rfl⟩ := bytes_list s2
  exact ⟨((l0, z), l2), ⟨rfl, rfl, rfl⟩, i64_bounds hwf⟩
/-- A row of pairs. -/
theorem prs_trod3 {W : World} {n : Nat} {v : Value} {H : Type} {enc : TypeId × Value → H} {x : DataW H × List MemPlace}
    (hf : DataW.trod enc Tryz.prog W 0 (fun _ => true) true n 22 [v] = some x) : ∃ l : List Pr, Prs W v l ∧ l.length ≤ maxLen ∧ TimesK l := by
  rcases open_slice Tryz.underlying22 hf with ⟨hcs, _⟩ | ⟨a, l, c, m, k, D, Pl, hcs, _, hl, hm, hz, _, hcell⟩
  · simp at hcs
    subst hcs
    exact ⟨[], Prs.nil W, by simp, fun x hx => by simp at hx⟩
  · simp at hcs
    subst hcs
    have hz' : m = c := by simpa using hz
    rw [pairCells] at hcell
    have each : ∀ i, i < m → ∃ y : Pr, (W.cell? (a.add (i * 3)) = some (.string ⟨y.1.1.toArray⟩) ∧ W.cell? (a.add (i * 3 + 1)) = some (.int .i64 y.1.2) ∧ W.cell? (a.add (i * 3 + 2)) = some (.string ⟨y.2.toArray⟩)) ∧ TimeK y.1 := by
      intro i hi
      obtain ⟨cs', h1, h2⟩ := hcell i hi
      obtain ⟨_, hlen, hc⟩ := World.cells?_some h1
      match cs', hlen with
      | [v0, v1, v2], _ =>
        have e0 := hc 0 (by omega)
        have e1 := hc 1 (by omega)
        have e2 := hc 2 (by omega)
        rw [add_add] at e0 e1 e2
        obtain ⟨y, ⟨rfl, rfl, rfl⟩, hy⟩ := pair_trod3 h2
        exact ⟨y, ⟨by simpa using e0, by simpa using e1, by simpa using e2⟩, hy⟩
    obtain ⟨Y, hY⟩ := choose_lt each
    have hll : ((List.range l).map Y).length = l := by simp
    refine ⟨(List.range l).map Y, ⟨pcells_len _, some a, c, by rw [hll], by rw [hll]; omega, ?_⟩, by rw [hll]; omega, fun x hx => ?_⟩
    · by_cases h0 : l = 0
      · left; rw [hll]; exact h0
      · right
        obtain ⟨b, off, spot⟩ := a
        have hspot : spot = none := by simpa [Addr.add] using World.cell?_spot (hY 0 (by omega)).1.1
        subst hspot
        refine ⟨b, off, rfl, fun j hj => ?_⟩
        have hj2 : j < l * 3 := by rw [pcells_len, hll] at hj; exact hj
        have hq : j / 3 < l := by omega
        obtain ⟨e0, e1, e2⟩ := pcells_at ((List.range l).map Y) (j / 3) (by rw [hll]; exact hq)
        obtain ⟨⟨y0, y1, y2⟩, _⟩ := hY (j / 3) (by omega)
        rw [Go.WideShapes.add_plain] at y0 y1 y2
        simp only [List.getElem_map, List.getElem_range] at e0 e1 e2
        rcases (by omega : j % 3 = 0 ∨ j % 3 = 1 ∨ j % 3 = 2) with h | h | h
        · have ej : j / 3 * 3 = j := by omega
          rw [ej] at e0 y0
          rw [y0, ← e0, List.getElem?_eq_getElem hj]
        · have ej : j / 3 * 3 + 1 = j := by omega
          rw [ej] at e1 y1
          rw [y1, ← e1, List.getElem?_eq_getElem hj]
        · have ej : j / 3 * 3 + 2 = j := by omega
          rw [ej] at e2 y2
          rw [y2, ← e2, List.getElem?_eq_getElem hj]
    · obtain ⟨i, hi, rfl⟩ := List.mem_map.1 hx
      exact (hY i (by have := List.mem_range.1 hi; omega)).2
theorem prs_open3 {W : World} {base : Nat} {v : Value} {H : Type} {enc : TypeId × Value → H} {d : DataW H} {p : List MemPlace} (hv : Value.okWide Tryz.prog W .any base 22 v)
    (h : DataW.Trod enc Tryz.prog W 0 (fun _ => true) true 22 v d p) : ∃ l : List Pr, Prs W v l ∧ l.length ≤ maxLen ∧ TimesK l := by
  obtain ⟨a0, len, cap, rfl⟩ := okWide_slice Tryz.underlying22 hv
  obtain ⟨fuel, hf⟩ := h
  exact prs_trod3 (by simpa [Value.cells] using hf)

/-- A key that came in, within reach. -/
theorem key_open3 {W : World} {base : Nat} {v : Value} {H : Type} {enc : TypeId × Value → H} {d : DataW H} {p : List MemPlace} (hz : (d.weights Tryz.prog 39).all (· ≤ reachBytes) = true) (hv : Value.okWide Tryz.prog W .any base 39 v)
    (h : DataW.Trod enc Tryz.prog W 0 (fun _ => true) true 39 v d p) : ∃ (l : List UInt8) (z : Int), v = .agg #[.string ⟨l.toArray⟩, .int .i64 z] ∧ l.length ≤ reachBytes := by
  obtain ⟨c0, c1, y0, y1, n, rfl, hd, _, t0, t1⟩ := open_agg2 Tryz.underlying39 (by kernel_rfl) keyCells hv h
  obtain ⟨s, e0, f0, _⟩ := DataW.trod_string Tryz.underlying9 t0
  obtain ⟨z, e1, _, w1⟩ := DataW.trod_int Tryz.underlying3 t1
  simp at e0 e1
  subst e0
  subst e1
  obtain ⟨l, rfl⟩ := bytes_list s
  refine ⟨l, z, rfl, ?_⟩
  have hin : l.length ∈ d.weights Tryz.prog 39 := by
    rw [hd, f0]
    simp [DataW.weights, Tryz.underlying39, DataW.weightsEach]
  have h1 := List.all_eq_true.1 hz _ hin
  simpa using h1

/-- Three cells that are a step. -/
theorem cst_trod {W : World} {n : Nat} {H : Type} {enc : TypeId × Value → H} {x : DataW H × List MemPlace} {c0 c1 c2 : Value}
    (hf : DataW.trod enc Tryz.prog W 0 (fun _ => true) true n 41 [c0, c1, c2] = some x) : ∃ y : Cst, c0 = .int .i64 y.1 ∧ c1 = .string ⟨y.2.1.toArray⟩ ∧ c2 = .int .i64 y.2.2 := by
  obtain ⟨y0, y1, k, _, _, g0, g1⟩ := trod_struct2 Tryz.underlying41 hf
  have k0 : Tryz.prog.cellsOf 3 = 1 := by kernel_rfl
  have k1 : Tryz.prog.cellsOf 39 = 2 := keyCells2
  have k2 : Tryz.prog.cellsOf 9 = 1 := by kernel_rfl
  simp [k0] at g0
  simp [k1] at g1
  obtain ⟨z0, z1, j, _, _, f0, f1⟩ := trod_struct2 Tryz.underlying39 g1
  simp [k2] at f0
  simp [k0] at f1
  obtain ⟨a, e0, _, _⟩ := DataW.trod_int Tryz.underlying3 g0
  obtain ⟨s, e1, _, _⟩ := DataW.trod_string Tryz.underlying9 f0
  obtain ⟨z, e2, _, _⟩ := DataW.trod_int Tryz.underlying3 f1
  simp at e0 e1 e2
  subst e0
  subst e1
  subst e2
  obtain ⟨l, rfl⟩ := bytes_list s
  exact ⟨(a, (l, z)), rfl, rfl, rfl⟩
/-- A row of steps. -/
theorem csts_open {W : World} {base : Nat} {v : Value} {H : Type} {enc : TypeId × Value → H} {d : DataW H} {p : List MemPlace} (hv : Value.okWide Tryz.prog W .any base 23 v)
    (h : DataW.Trod enc Tryz.prog W 0 (fun _ => true) true 23 v d p) : ∃ l : List Cst, Csts W v l ∧ l.length ≤ maxLen := by
  obtain ⟨a0, len, cap, rfl⟩ := okWide_slice Tryz.underlying23 hv
  obtain ⟨fuel, hf0⟩ := h
  have hf : DataW.trod enc Tryz.prog W 0 (fun _ => true) true fuel 23 [.slice a0 len cap] = some (d, p) := by simpa [Value.cells] using hf0
  have opCells3 : Tryz.prog.cellsOf 41 = 3 := by kernel_rfl
  rcases open_slice Tryz.underlying23 hf with ⟨hcs, _⟩ | ⟨a, l, c, m, k, D, Pl, hcs, _, hl, hm, hz, _, hcell⟩
  · simp at hcs
    obtain ⟨rfl, rfl, rfl⟩ := hcs
    exact ⟨[], Csts.nil W, by simp⟩
  · simp at hcs
    obtain ⟨rfl, rfl, rfl⟩ := hcs
    have hz' : m = cap := by simpa using hz
    rw [opCells3] at hcell
    have each : ∀ i, i < m → ∃ y : Cst, W.cell? (a.add (i * 3)) = some (.int .i64 y.1) ∧ W.cell? (a.add (i * 3 + 1)) = some (.string ⟨y.2.1.toArray⟩) ∧ W.cell? (a.add (i * 3 + 2)) = some (.int .i64 y.2.2) := by
      intro i hi
      obtain ⟨cs', h1, h2⟩ := hcell i hi
      obtain ⟨_, hlen, hc⟩ := World.cells?_some h1
      match cs', hlen with
      | [v0, v1, v2], _ =>
        have e0 := hc 0 (by omega)
        have e1 := hc 1 (by omega)
        have e2 := hc 2 (by omega)
        rw [add_add] at e0 e1 e2
        obtain ⟨y, rfl, rfl, rfl⟩ := cst_trod h2
        exact ⟨y, by simpa using e0, by simpa using e1, by simpa using e2⟩
    obtain ⟨Y, hY⟩ := choose_lt each
    have hll : ((List.range len).map Y).length = len := by simp
    refine ⟨(List.range len).map Y, ⟨qcells_len _, some a, cap, by rw [hll], by rw [hll]; omega, ?_⟩, by rw [hll]; omega⟩
    by_cases h0 : len = 0
    · left; rw [hll]; exact h0
    · right
      obtain ⟨b, off, spot⟩ := a
      have hspot : spot = none := by simpa [Addr.add] using World.cell?_spot (hY 0 (by omega)).1
      subst hspot
      refine ⟨b, off, rfl, fun j hj => ?_⟩
      have hj2 : j < len * 3 := by rw [qcells_len, hll] at hj; exact hj
      have hq : j / 3 < len := by omega
      obtain ⟨e0, e1, e2⟩ := qcells_at ((List.range len).map Y) (j / 3) (by rw [hll]; exact hq)
      obtain ⟨y0, y1, y2⟩ := hY (j / 3) (by omega)
      rw [Go.WideShapes.add_plain] at y0 y1 y2
      simp only [List.getElem_map, List.getElem_range] at e0 e1 e2
      rcases (by omega : j % 3 = 0 ∨ j % 3 = 1 ∨ j % 3 = 2) with h | h | h
      · have ej : j / 3 * 3 = j := by omega
        rw [ej] at e0 y0
        rw [y0, ← e0, List.getElem?_eq_getElem hj]
      · have ej : j / 3 * 3 + 1 = j := by omega
        rw [ej] at e1 y1
        rw [y1, ← e1, List.getElem?_eq_getElem hj]
      · have ej : j / 3 * 3 + 2 = j := by omega
        rw [ej] at e2 y2
        rw [y2, ← e2, List.getElem?_eq_getElem hj]

end Go.Proofs.YthngeponcdeneaaGreatDoor

/-
  cursor: Under.
-/
namespace Go.Proofs.YthngeponcdeneaaGreatDoor
set_option maxRecDepth 100000
open Go.RowKit


set_option maxHeartbeats 4000000 in
theorem cUnder_calls (tv : Value) (L : List Pr) (d : List UInt8) (w : World) (ht : TreeV w tv L) (hti : TimesK L) (hm : L.length ≤ 1000) (hp : ∀ x ∈ L, x.1.1.length ≤ 1000) (hd : d.length ≤ 1000) (hml : Ml w) :
    Calls Tryz.prog 18 #[tv, .string ⟨d.toArray⟩] w fun e w' => ∃ ao n cap, e = .returned (.tuple #[.slice ao n cap, .int .i64 (underE d)]) ∧ OwnP w' w.heap.size (.slice ao n cap) (underR L d) ∧ Below w.heap.size w w' := by
  cases hi : isP d with
  | true =>
    have HU := Lib.hid (show underE d = 0 ∧ underR L d = underL L d by simp [underE, underR, hi])
    rw [HU.out.1, HU.out.2]
    have K := Lib.hid (cNew_calls tv L d w ht hti hm hp hd hml hi)
    obtain ⟨tp, rfl⟩ := ht.val
    clear ht hti hp hml hi
    go_enter Tryz.func18, Tryz.ntmps18
    go_wp2_with fail
    refine K.out.mono ?_
    rintro e w1 ⟨wf, g, rfl, hBf, hcu, hB1⟩
    have KR := Lib.hid (cRest_calls hcu)
    have hgf : w.heap.size ≤ g := Nat.le_trans hBf.size hcu.facts.2.2.2.2.2.1
    have hB := Lib.hid (And.intro hB1 hgf)
    clear hcu hBf hB1
    go_wp2_with fail
    refine KR.out.mono ?_
    rintro e w2 ⟨ao, n, cap, rfl, ho, hk⟩
    have HO := Lib.hid (And.intro (OwnP.weak ho hB.out.1.size) (hk.on hB.out.1 hB.out.2 hB.out.1.size))
    clear ho hk
    go_wp2_with fail
    go_ret2
    exact ⟨_, _, _, rfl, HO.out.1, HO.out.2⟩
  | false =>
    have HU := Lib.hid (show underE d = 20 ∧ underR L d = [] by simp [underE, underR, hi])
    rw [HU.out.1, HU.out.2]
    have K := Lib.hid (cNew_not tv d w hd hml hi ht.val)
    have KR := Lib.hid (fun W => rest_nil W)
    obtain ⟨tp, rfl⟩ := ht.val
    clear ht hti hp hml hi
    go_enter Tryz.func18, Tryz.ntmps18
    go_wp2_with fail
    refine K.out.mono ?_
    rintro e w1 ⟨rfl, hB1⟩
    go_wp2_with fail
    refine (KR.out _).mono ?_
    rintro e w2 ⟨rfl, hB2⟩
    go_wp2_with fail
    go_ret2
    exact ⟨_, _, _, rfl, OwnP.nil _ _, below2 hB1 hB2⟩

end Go.Proofs.YthngeponcdeneaaGreatDoor

/-
  The document's own Range of pairs.
-/
namespace Go.Proofs.YthngeponcdeneaaGreatDoor
set_option maxRecDepth 100000
open Go.RowKit

set_option maxHeartbeats 8000000 in
theorem refRange_calls (v : Value) (L : List Pr) (a c : Ky) (w : World) (hs : Prs w v L) (hm : L.length ≤ 1000) :
    Calls Tryz.prog 21 #[v, .agg #[.string ⟨a.1.toArray⟩, .int .i64 a.2], .agg #[.string ⟨c.1.toArray⟩, .int .i64 c.2]] w fun e w' => ∃ ao n cap, e = .returned (.slice ao n cap) ∧ OwnP w' w.heap.size (.slice ao n cap) (rangeL L a c) ∧ Below w.heap.size w w' := by
  obtain ⟨ao, cap, rfl⟩ := hs.form
  have KL := Lib.hid (fun (x y : Ky) W => kRefLessK_calls x.1 y.1 x.2 y.2 W)
  obtain ⟨w0, hw0⟩ : ∃ x, x = (w.alloc (.cells #[.string ⟨a.1.toArray⟩, .int .i64 a.2] 39)).alloc (.cells #[.string ⟨c.1.toArray⟩, .int .i64 c.2] 39) := ⟨_, rfl⟩
  have hB0 := below_alloc2 w (.cells #[.string ⟨a.1.toArray⟩, .int .i64 a.2] 39) (.cells #[.string ⟨c.1.toArray⟩, .int .i64 c.2] 39)
  have hka : KBox w0 w.heap.size a := by
    rw [hw0]
    exact (kbox_new w a.1 a.2).below (below_alloc _ _)
  have hkc : KBox w0 (w.heap.size + 1) c := by
    have h := kbox_new (w.alloc (.cells #[.string ⟨a.1.toArray⟩, .int .i64 a.2] 39)) c.1 c.2
    rw [World.size_alloc] at h
    rw [hw0]
    exact h
  rw [← hw0] at hB0
  obtain ⟨n, hn⟩ : ∃ n, L.length = n := ⟨_, rfl⟩
  have HS := Lib.hid (And.intro (hs.below hB0) (And.intro hka (And.intro hkc hB0)))
  rw [hn] at hm HS ⊢
  have HN := Lib.hid hn
  have hw1 := hw0.symm
  have hsz := hB0.size
  clear hs hn hka hkc hB0 hw0
  go_enter Tryz.func21, Tryz.ntmps21
  go_wp2_with fail
  go_loopw [7, 8] (fun r i wr => ∃ (k : Nat) (al : Option Addr) (m cl : Nat), k ≤ n ∧ i = .int .i64 k ∧ r = .slice al m cl ∧ OwnP wr w0.heap.size (.slice al m cl) ((L.take k).filter fun x => !(lessK x.1 a) && lessK x.1 c) ∧ Below w0.heap.size w0 wr) (fun _ i _ => n - (intOf i).toNat)
  case atStart => exact ⟨0, none, 0, 0, Nat.zero_le _, rfl, rfl, OwnP.nil _ _, Below.refl _ _⟩
  case round =>
    obtain ⟨k, al, m, cl, hk, rfl, rfl, ho, hB⟩ := hrel
    obtain ⟨T, hT⟩ : ∃ T, ((L.take k).filter fun x => !(lessK x.1 a) && lessK x.1 c) = T := ⟨_, rfl⟩
    have hTl := filter_take_le L (fun x => !(lessK x.1 a) && lessK x.1 c) k
    rw [hT] at ho hTl
    rw [HN.out] at hTl
    by_cases hlt : k < n
    · have hkl : k < L.length := by rw [HN.out]; exact hlt
      have hft := filter_take (q := fun x => !(lessK x.1 a) && lessK x.1 c) hkl
      rw [hT] at hft
      obtain ⟨b, off, rfl, c0, c1, c2⟩ := (HS.out.1.below hB).at hkl
      obtain ⟨⟨⟨p, z⟩, s⟩, hx⟩ : ∃ x, L[k] = x := ⟨_, rfl⟩
      rw [hx] at c0 c1 c2 hft
      dsimp only at c0 c1 c2 hft
      have KA := KL.out (p, z) a
      have KC := KL.out (p, z) c
      obtain ⟨a0, a1, _⟩ := (HS.out.2.1.below hB).two
      obtain ⟨b0, b1, _⟩ := (HS.out.2.2.1.below hB).two
      have HT : Hid (∀ W, Below wr.heap.size wr W → W.cell? ⟨b, off + k * 3, none⟩ = some (.string ⟨p.toArray⟩) ∧ W.cell? ⟨b, off + k * 3 + 1, none⟩ = some (.int .i64 z) ∧ W.cell? ⟨w.heap.size, 0, none⟩ = some (.string ⟨a.1.toArray⟩) ∧ W.cell? ⟨w.heap.size, 1, none⟩ = some (.int .i64 a.2) ∧ W.cell? ⟨w.heap.size + 1, 0, none⟩ = some (.string ⟨c.1.toArray⟩) ∧ W.cell? ⟨w.heap.size + 1, 1, none⟩ = some (.int .i64 c.2)) :=
        Lib.hid (fun W hB => ⟨look_below hB c0, look_below hB c1, look_below hB a0, look_below hB a1, look_below hB b0, look_below hB b1⟩)
      have hbr : Below wr.heap.size wr wr.drew := drew_below _
      have HO := Lib.hid (And.intro ho hB)
      have HX := Lib.hid (And.intro c0 (And.intro c1 c2))
      have hszB := hB.size
      clear ho hB hx a0 a1 b0 b1 c0 c1 c2
      cases hu : lessK (p, z) a with
      | true =>
        rw [hu] at KA hft
        rw [if_neg (by simp)] at hft
        have HF := Lib.hid hft
        have KA := Lib.hid KA
        have KC := Lib.hid KC
        clear hft hu hT
        go_wp2_with fail
        refine wp_region_held_drew (S := (fun w' => w'.cell? ⟨b, off + k * 3, none⟩ = some (.string ⟨p.toArray⟩) ∧ w'.cell? ⟨b, off + k * 3 + 1, none⟩ = some (.int .i64 z) ∧ w'.cell? ⟨w.heap.size, 0, none⟩ = some (.string ⟨a.1.toArray⟩) ∧ w'.cell? ⟨w.heap.size, 1, none⟩ = some (.int .i64 a.2) ∧ w'.cell? ⟨w.heap.size + 1, 0, none⟩ = some (.string ⟨c.1.toArray⟩) ∧ w'.cell? ⟨w.heap.size + 1, 1, none⟩ = some (.int .i64 c.2))) (by kernel_rfl) (HT.out _ hbr) (fun hHeld => ?_)
        refine wpAnyH_take (i := 0) (oi := ⟨_, _, _, _, _, _⟩) (v := ?_) rfl (by kernel_rfl) (by kernel_rfl) (by kernel_rfl) (fun _ _ _ h => h) (Or.inl ⟨by rfl, ?_⟩) hHeld ?_
        rotate_left
        · (intro w hSw; (try dsimp only at hSw); go_simp; try with_reducible rfl)
        try simp only [Act.put, List.setIfInBounds_toArray, List.set_cons_zero, List.set_cons_succ]
        refine wpAnyH_take (i := 1) (oi := ⟨_, _, _, _, _, _⟩) (v := ?_) rfl (by kernel_rfl) (by kernel_rfl) (by kernel_rfl) (fun _ _ _ h => h) (Or.inl ⟨by rfl, ?_⟩) hHeld ?_
        rotate_left
        · (intro w hSw; (try dsimp only at hSw); go_simp; try with_reducible rfl)
        try simp only [Act.put, List.setIfInBounds_toArray, List.set_cons_zero, List.set_cons_succ]
        refine wpAnyH_take (i := 2) (oi := ⟨_, _, _, _, _, _⟩) (v := ?_) rfl (by kernel_rfl) (by kernel_rfl) (by kernel_rfl) (fun _ _ _ h => h) (Or.inl ⟨by rfl, ?_⟩) hHeld ?_
        rotate_left
        · (intro w hSw; (try dsimp only at hSw); go_simp; try with_reducible rfl)
        try simp only [Act.put, List.setIfInBounds_toArray, List.set_cons_zero, List.set_cons_succ]
        refine wpAnyH_take (i := 3) (oi := ⟨_, _, _, _, _, _⟩) (v := ?_) rfl (by kernel_rfl) (by kernel_rfl) (by kernel_rfl) (fun _ _ _ h => h) (Or.inl ⟨by rfl, ?_⟩) hHeld ?_
        rotate_left
        · (intro w hSw; (try dsimp only at hSw); go_simp; try with_reducible rfl)
        try simp only [Act.put, List.setIfInBounds_toArray, List.set_cons_zero, List.set_cons_succ]
        refine wpAnyH_take (i := 4) (oi := ⟨_, _, _, _, _, _⟩) (v := ?_) rfl (by kernel_rfl) (by kernel_rfl) (by kernel_rfl) (fun _ _ _ h => h) (Or.inl ⟨by rfl, ?_⟩) hHeld ?_
        rotate_left
        · (intro w hSw; (try dsimp only at hSw); go_simp; try with_reducible rfl)
        try simp only [Act.put, List.setIfInBounds_toArray, List.set_cons_zero, List.set_cons_succ]
        refine wpAnyH_take (i := 5) (oi := ⟨_, _, _, _, _, _⟩) (v := ?_) rfl (by kernel_rfl) (by kernel_rfl) (by kernel_rfl) (fun _ _ _ h => h) (Or.inl ⟨by rfl, ?_⟩) hHeld ?_
        rotate_left
        · (intro w hSw; (try dsimp only at hSw); go_simp; try with_reducible rfl)
        try simp only [Act.put, List.setIfInBounds_toArray, List.set_cons_zero, List.set_cons_succ]
        refine wpAnyH_ready (rs := [6]) (by kernel_rfl) (by simp) ?_
        refine AllReadyH.cons (o := ⟨_, _, _, _, _, _⟩) rfl (fun K hK => ?_) AllReadyH.nil
        go_simp
        ((with_reducible refine (KA.out _).mono ?_); rintro e w2 ⟨rfl, hB2⟩; have hbr := below2 hbr hB2)
        refine hK.out _ _ (HT.out _ hbr) (fun hHeld => ?_)
        clear hK K
        try simp only [Act.put, List.setIfInBounds_toArray, List.set_cons_zero, List.set_cons_succ]
        refine wpAnyH_take (i := 7) (oi := ⟨_, _, _, _, _, _⟩) (v := ?_) rfl (by kernel_rfl) (by kernel_rfl) (by kernel_rfl) (fun _ _ _ h => h) (Or.inl ⟨by rfl, ?_⟩) hHeld ?_
        rotate_left
        · (intro w hSw; (try dsimp only at hSw); go_simp; try with_reducible rfl)
        try simp only [Act.put, List.setIfInBounds_toArray, List.set_cons_zero, List.set_cons_succ]
        refine wpAnyH_take (i := 8) (oi := ⟨_, _, _, _, _, _⟩) (v := ?_) rfl (by kernel_rfl) (by kernel_rfl) (by kernel_rfl) (fun _ _ _ h => h) (Or.inl ⟨by rfl, ?_⟩) hHeld ?_
        rotate_left
        · (intro w hSw; (try dsimp only at hSw); go_simp; try with_reducible rfl)
        try simp only [Act.put, List.setIfInBounds_toArray, List.set_cons_zero, List.set_cons_succ]
        refine wpAnyH_take (i := 9) (oi := ⟨_, _, _, _, _, _⟩) (v := undef) rfl (by kernel_rfl) (by kernel_rfl) (by kernel_rfl) (fun _ _ _ h => h) (Or.inr ⟨by rfl, rfl⟩) hHeld ?_
        try simp only [Act.put, List.setIfInBounds_toArray, List.set_cons_zero, List.set_cons_succ]
        refine wpAnyH_take (i := 10) (oi := ⟨_, _, _, _, _, _⟩) (v := undef) rfl (by kernel_rfl) (by kernel_rfl) (by kernel_rfl) (fun _ _ _ h => h) (Or.inr ⟨by rfl, rfl⟩) hHeld ?_
        try simp only [Act.put, List.setIfInBounds_toArray, List.set_cons_zero, List.set_cons_succ]
        refine wpAnyH_take (i := 11) (oi := ⟨_, _, _, _, _, _⟩) (v := undef) rfl (by kernel_rfl) (by kernel_rfl) (by kernel_rfl) (fun _ _ _ h => h) (Or.inr ⟨by rfl, rfl⟩) hHeld ?_
        try simp only [Act.put, List.setIfInBounds_toArray, List.set_cons_zero, List.set_cons_succ]
        refine wpAnyH_take (i := 12) (oi := ⟨_, _, _, _, _, _⟩) (v := undef) rfl (by kernel_rfl) (by kernel_rfl) (by kernel_rfl) (fun _ _ _ h => h) (Or.inr ⟨by rfl, rfl⟩) hHeld ?_
        try simp only [Act.put, List.setIfInBounds_toArray, List.set_cons_zero, List.set_cons_succ]
        refine wpAnyH_take (i := 13) (oi := ⟨_, _, _, _, _, _⟩) (v := undef) rfl (by kernel_rfl) (by kernel_rfl) (by kernel_rfl) (fun _ _ _ h => h) (Or.inr ⟨by rfl, rfl⟩) hHeld ?_
        try simp only [Act.put, List.setIfInBounds_toArray, List.set_cons_zero, List.set_cons_succ]
        refine wpAnyH_take (i := 14) (oi := ⟨_, _, _, _, _, _⟩) (v := undef) rfl (by kernel_rfl) (by kernel_rfl) (by kernel_rfl) (fun _ _ _ h => h) (Or.inr ⟨by rfl, rfl⟩) hHeld ?_
        try simp only [Act.put, List.setIfInBounds_toArray, List.set_cons_zero, List.set_cons_succ]
        refine wpAnyH_ready (rs := [15]) (by kernel_rfl) (by simp) ?_
        refine AllReadyH.cons (o := ⟨_, _, _, _, _, _⟩) rfl (fun K hK => ?_) AllReadyH.nil
        go_simp
        refine hK.out _ _ (HT.out _ hbr) (fun hHeld => ?_)
        clear hK K
        try simp only [Act.put, List.setIfInBounds_toArray, List.set_cons_zero, List.set_cons_succ]
        refine wpAnyH_take (i := 16) (oi := ⟨_, _, _, _, _, _⟩) (v := ?_) rfl (by kernel_rfl) (by kernel_rfl) (by kernel_rfl) (fun _ _ _ h => h) (Or.inl ⟨by rfl, ?_⟩) hHeld ?_
        rotate_left
        · (intro w hSw; (try dsimp only at hSw); go_simp; try with_reducible rfl)
        try simp only [Act.put, List.setIfInBounds_toArray, List.set_cons_zero, List.set_cons_succ]
        refine wpAnyH_done (by kernel_rfl) ?_ _
        go_wp2_with fail
        go_roundw
        case rel => exact ⟨k + 1, al, m, cl, by omega, by go_num, rfl, by rw [HF.out]; exact HO.out.1.stays hbr, below2 HO.out.2 hbr⟩
        case measure => simp [intOf]; omega
      | false =>
        rw [hu] at KA hft
        cases hu2 : lessK (p, z) c with
        | false =>
          rw [hu2] at KC hft
          rw [if_neg (by simp)] at hft
          have HF := Lib.hid hft
          have KA := Lib.hid KA
          have KC := Lib.hid KC
          clear hft hu hu2 hT
          go_wp2_with fail
          go_region_held3 (fun w' => w'.cell? ⟨b, off + k * 3, none⟩ = some (.string ⟨p.toArray⟩) ∧ w'.cell? ⟨b, off + k * 3 + 1, none⟩ = some (.int .i64 z) ∧ w'.cell? ⟨w.heap.size, 0, none⟩ = some (.string ⟨a.1.toArray⟩) ∧ w'.cell? ⟨w.heap.size, 1, none⟩ = some (.int .i64 a.2) ∧ w'.cell? ⟨w.heap.size + 1, 0, none⟩ = some (.string ⟨c.1.toArray⟩) ∧ w'.cell? ⟨w.heap.size + 1, 1, none⟩ = some (.int .i64 c.2)) (first | exact HT.out _ hbr) (first
            | ((with_reducible refine (KA.out _).mono ?_); rintro e w2 ⟨rfl, hB2⟩; have hbr := below2 hbr hB2)
            | ((with_reducible refine (KC.out _).mono ?_); rintro e w3 ⟨rfl, hB3⟩; have hbr := below2 hbr hB3))
          go_wp2_with fail
          go_roundw
          case rel => exact ⟨k + 1, al, m, cl, by omega, by go_num, rfl, by rw [HF.out]; exact HO.out.1.stays hbr, below2 HO.out.2 hbr⟩
          case measure => simp [intOf]; omega
        | true =>
          rw [hu2] at KC hft
          rw [if_pos (by simp)] at hft
          have HF := Lib.hid hft
          have KA := Lib.hid KA
          have KC := Lib.hid KC
          clear hft hu hu2 hT
          go_wp2_with fail
          go_region_held3 (fun w' => w'.cell? ⟨b, off + k * 3, none⟩ = some (.string ⟨p.toArray⟩) ∧ w'.cell? ⟨b, off + k * 3 + 1, none⟩ = some (.int .i64 z) ∧ w'.cell? ⟨w.heap.size, 0, none⟩ = some (.string ⟨a.1.toArray⟩) ∧ w'.cell? ⟨w.heap.size, 1, none⟩ = some (.int .i64 a.2) ∧ w'.cell? ⟨w.heap.size + 1, 0, none⟩ = some (.string ⟨c.1.toArray⟩) ∧ w'.cell? ⟨w.heap.size + 1, 1, none⟩ = some (.int .i64 c.2)) (first | exact HT.out _ hbr) (first
            | ((with_reducible refine (KA.out _).mono ?_); rintro e w2 ⟨rfl, hB2⟩; have hbr := below2 hbr hB2)
            | ((with_reducible refine (KC.out _).mono ?_); rintro e w3 ⟨rfl, hB3⟩; have hbr := below2 hbr hB3))
          have d0 := look_below hbr HX.out.1
          have d1 := look_below hbr HX.out.2.1
          have d2 := look_below hbr HX.out.2.2
          have hB8 := below2 HO.out.2 hbr
          obtain ⟨w8, hw8⟩ : ∃ x, x = w3 := ⟨_, rfl⟩
          rw [← hw8] at hbr d0 d1 d2 hB8 ⊢
          clear hw8
          have HP := Lib.hid (prs_lit w8 [((p, z), s)] 43)
          have HO2 := Lib.hid (show OwnP (w8.alloc (.cells #[.string ⟨p.toArray⟩, .int .i64 z, .string ⟨s.toArray⟩] 43)) w0.heap.size (.slice al m cl) T from HO.out.1.stays (below2 hbr (below_alloc _ _)))
          have HU2 := Lib.hid (show ((L.take (k + 1)).filter fun x => !(lessK x.1 a) && lessK x.1 c).length = T.length + 1 by rw [HF.out]; simp)
          have hBw := hB8.alloc hB8.size (.cells #[.string ⟨p.toArray⟩, .int .i64 z, .string ⟨s.toArray⟩] 43)
          go_wp2_with (at_builtin; refine wpList_append_prs rfl _ _ rfl w0.heap.size _ T rfl HO2.out _ 1 _ _ rfl HP.out _ HF.out.symm (T.length + 1) HU2.out (by omega) w0 hBw (Nat.le_refl _) ?_; intro a3 c3 w9 ho3 hB5)
          have HO3 := Lib.hid ho3
          clear ho3
          go_roundw
          case rel => exact ⟨k + 1, a3, _, c3, by omega, by go_num, rfl, HO3.out, hB5⟩
          case measure => simp [intOf]; omega
    · obtain rfl : k = n := by omega
      have hfa : L.take k = L := by rw [← HN.out, List.take_length]
      rw [hfa] at hT
      have HO := Lib.hid (And.intro (OwnP.weak (hT.symm ▸ ho : OwnP _ w0.heap.size (.slice al m cl) (rangeL L a c)) hsz) (below2 HS.out.2.2.2 hB))
      clear ho hB hT
      go_wp2_with fail
      go_ret
      exact ⟨_, _, _, rfl, HO.out.1, HO.out.2⟩

end Go.Proofs.YthngeponcdeneaaGreatDoor
