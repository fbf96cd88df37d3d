/-
  The plain functions of layer 10 (tree): what Get and From tell of pairs that rise; what a part of a row settles. No program is named here.
-/
import Derived.Test.YtgbicdbmmjleoaaNdSpec
namespace Go.Proofs.Ytgbicdbmmjleoaa

/-- What Get tells. -/
def getS (l : List Pr) (k : Ky) : List UInt8 := if hereB l k = true then ((l[placeN l k]?).map (·.2)).getD [] else []
/-- What From tells, but for its number: what doesn't stand ahead of k. -/
def tailL (l : List Pr) (k : Ky) : List Pr := l.drop (placeN l k)

/-! ### A row in three parts -/

theorem placeN_append {a : List Pr} {k : Ky} (h : ∀ x ∈ a, lessK x.1 k = true) (b : List Pr) : placeN (a ++ b) k = a.length + placeN b k := by
  induction a with
  | nil => simp
  | cons x r ih =>
    rw [List.cons_append, placeN, if_pos (h x (by simp)), ih (fun y hy => h y (by simp [hy])), List.length_cons]
    omega
theorem placeN_behind {c : List Pr} {k : Ky} (h : ∀ x ∈ c, lessK k x.1 = true) (b : List Pr) : placeN (b ++ c) k = placeN b k := by
  induction b with
  | nil =>
    cases c with
    | nil => rfl
    | cons x r =>
      show placeN (x :: r) k = 0
      unfold placeN
      rw [if_neg (by rw [lessK_asymm (h x (by simp))]; simp)]
  | cons x r ih =>
    rw [List.cons_append, placeN, placeN, ih]
theorem parts_place {a b c : List Pr} {k : Ky} (ha : ∀ x ∈ a, lessK x.1 k = true) (hc : ∀ x ∈ c, lessK k x.1 = true) : placeN (a ++ (b ++ c)) k = a.length + placeN b k := by
  rw [placeN_append ha, placeN_behind hc]
theorem lessK_ne {a b : Ky} (h : lessK a b = true) : b ≠ a := by
  intro e
  rw [e, lessK_irrefl] at h
  cases h
theorem parts_at {a b c : List Pr} {k : Ky} (h : placeN b k < b.length) : (a ++ (b ++ c))[a.length + placeN b k]? = b[placeN b k]? := by
  rw [List.getElem?_append_right (by omega), Nat.add_sub_cancel_left, List.getElem?_append_left h]
theorem parts_here {a b c : List Pr} {k : Ky} (ha : ∀ x ∈ a, lessK x.1 k = true) (hc : ∀ x ∈ c, lessK k x.1 = true) : hereB (a ++ (b ++ c)) k = hereB b k := by
  unfold hereB
  rw [parts_place ha hc]
  by_cases h : placeN b k < b.length
  · rw [parts_at h]
  · have e : placeN b k = b.length := by have := placeN_le b k; omega
    rw [List.getElem?_append_right (by omega), Nat.add_sub_cancel_left, List.getElem?_append_right (by omega), e, Nat.sub_self]
    cases c with
    | nil => simp
    | cons x r =>
      have := lessK_ne (hc x (by simp))
      simp [this]
theorem parts_next {a b c : List Pr} {k : Ky} (ha : ∀ x ∈ a, lessK x.1 k = true) (hc : ∀ x ∈ c, lessK k x.1 = true) : nextN (a ++ (b ++ c)) k = a.length + nextN b k := by
  unfold nextN
  rw [parts_here ha hc, parts_place ha hc]
  split <;> omega
theorem take_parts (a b c : List Pr) {n : Nat} (h : n ≤ b.length) : (a ++ (b ++ c)).take (a.length + n) = a ++ b.take n := by
  rw [List.take_length_add_append, List.take_append_of_le_length h]
theorem drop_parts (a b c : List Pr) {n : Nat} (h : n ≤ b.length) : (a ++ (b ++ c)).drop (a.length + n) = b.drop n ++ c := by
  rw [List.drop_length_add_append, List.drop_append_of_le_length h]
theorem parts_put {a b c : List Pr} {p : Pr} (ha : ∀ x ∈ a, lessK x.1 p.1 = true) (hc : ∀ x ∈ c, lessK p.1 x.1 = true) : putL (a ++ (b ++ c)) p = a ++ (putL b p ++ c) := by
  unfold putL
  rw [parts_place ha hc, parts_next ha hc, take_parts _ _ _ (placeN_le b p.1), drop_parts _ _ _ (nextN_le b p.1).2]
  simp
theorem parts_drop {a b c : List Pr} {k : Ky} (ha : ∀ x ∈ a, lessK x.1 k = true) (hc : ∀ x ∈ c, lessK k x.1 = true) : dropL (a ++ (b ++ c)) k = a ++ (dropL b k ++ c) := by
  unfold dropL
  rw [parts_place ha hc, parts_next ha hc, take_parts _ _ _ (placeN_le b k), drop_parts _ _ _ (nextN_le b k).2]
  simp
theorem parts_get {a b c : List Pr} {k : Ky} (ha : ∀ x ∈ a, lessK x.1 k = true) (hc : ∀ x ∈ c, lessK k x.1 = true) : getS (a ++ (b ++ c)) k = getS b k := by
  unfold getS
  rw [parts_here ha hc, parts_place ha hc]
  split
  · rename_i h
    rw [parts_at (hereB_lt h)]
  · rfl
theorem parts_tail {a b c : List Pr} {k : Ky} (ha : ∀ x ∈ a, lessK x.1 k = true) (hc : ∀ x ∈ c, lessK k x.1 = true) : tailL (a ++ (b ++ c)) k = tailL b k ++ c := by
  unfold tailL
  rw [parts_place ha hc, drop_parts _ _ _ (placeN_le b k)]

/-! ### What an edit does -/

/-- What is done to the pairs: one is put, or a key is dropped. -/
def editL (s : Option (List UInt8)) (k : Ky) (l : List Pr) : List Pr := match s with | some t => putL l (k, t) | none => dropL l k
theorem parts_edit {a b c : List Pr} {k : Ky} (s : Option (List UInt8)) (ha : ∀ x ∈ a, lessK x.1 k = true) (hc : ∀ x ∈ c, lessK k x.1 = true) : editL s k (a ++ (b ++ c)) = a ++ (editL s k b ++ c) := by
  cases s with
  | none => exact parts_drop ha hc
  | some t => exact parts_put (p := (k, t)) ha hc
theorem edit_length (s : Option (List UInt8)) (k : Ky) (l : List Pr) : l.length ≤ (editL s k l).length + 1 ∧ (editL s k l).length ≤ l.length + 1 := by
  cases s with
  | none =>
    show l.length ≤ (dropL l k).length + 1 ∧ (dropL l k).length ≤ l.length + 1
    rw [dropL_length]
    split <;> omega
  | some t =>
    show l.length ≤ (putL l (k, t)).length + 1 ∧ (putL l (k, t)).length ≤ l.length + 1
    rw [putL_length]
    split <;> omega
theorem edit_rises {l : List Pr} (h : Rises l) (s : Option (List UInt8)) (k : Ky) : Rises (editL s k l) := by
  cases s with
  | none => exact drop_rises h k
  | some t => exact put_rises h (k, t)

end Go.Proofs.Ytgbicdbmmjleoaa
