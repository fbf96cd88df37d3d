/-
  The texts of one folder in one: TrSpec, TrTail, TrRel, TrTop, TrMeth, TrKeep, TrSlice, TrPlace, TrSpot, TrAs, TrGath, TrFrom, TrAll, TrGrow, TrClone, TrConcat, TrOver, TrCut, TrLev, TrWith, TrEdit, TrAno, TrDrop, TrKind, TrPut, TrLook, TrGet.
-/
import Derived.Test.YtaaabmnaindgaaaGreatDoorPks09
import Derived.Deep.RegionHeld3
import Derived.Test.YtaaabmnaindgaaaGreatDoorPks08
import Derived.Test.YtaaabmnaindgaaaGreatDoorPkbase
import Derived.Lib.SliceRun

/-
  The plain functions of layer 10 (tree): what Get and From tell of pairs that rise; what a part of a row settles. No program is named here.
-/
namespace Go.Proofs.YtaaabmnaindgaaaGreatDoor
set_option maxRecDepth 100000

/-- What Get tells. -/
def getS (l : List Pr) (k : Ky) : List UInt8 := if hereB l k = true then ((l[placeN l k]?).map (·.2)).getD [] else []
/-- What From tells, but for its number: what doesn't stand ahead of k. -/
def tailL (l : List Pr) (k : Ky) : List Pr := l.drop (placeN l k)

/-! ### A row in three parts -/

theorem placeN_append {a : List Pr} {k : Ky} (h : ∀ x ∈ a, lessK x.1 k = true) (b : List Pr) : placeN (a ++ b) k = a.length + placeN b k := by
  induction a with
  | nil => simp
  | cons x r ih =>
    rw [List.cons_append, placeN, if_pos (h x (by simp)), ih (fun y hy => h y (by simp [hy])), List.length_cons]
    omega
theorem placeN_behind {c : List Pr} {k : Ky} (h : ∀ x ∈ c, lessK k x.1 = true) (b : List Pr) : placeN (b ++ c) k = placeN b k := by
  induction b with
  | nil =>
    cases c with
    | nil => rfl
    | cons x r =>
      show placeN (x :: r) k = 0
      unfold placeN
      rw [if_neg (by rw [lessK_asymm (h x (by simp))]; simp)]
  | cons x r ih =>
    rw [List.cons_append, placeN, placeN, ih]
theorem parts_place {a b c : List Pr} {k : Ky} (ha : ∀ x ∈ a, lessK x.1 k = true) (hc : ∀ x ∈ c, lessK k x.1 = true) : placeN (a ++ (b ++ c)) k = a.length + placeN b k := by
  rw [placeN_append ha, placeN_behind hc]
theorem lessK_ne {a b : Ky} (h : lessK a b = true) : b ≠ a := by
  intro e
  rw [e, lessK_irrefl] at h
  cases h
theorem parts_at {a b c : List Pr} {k : Ky} (h : placeN b k < b.length) : (a ++ (b ++ c))[a.length + placeN b k]? = b[placeN b k]? := by
  rw [List.getElem?_append_right (by omega), Nat.add_sub_cancel_left, List.getElem?_append_left h]
theorem parts_here {a b c : List Pr} {k : Ky} (ha : ∀ x ∈ a, lessK x.1 k = true) (hc : ∀ x ∈ c, lessK k x.1 = true) : hereB (a ++ (b ++ c)) k = hereB b k := by
  unfold hereB
  rw [parts_place ha hc]
  by_cases h : placeN b k < b.length
  · rw [parts_at h]
  · have e : placeN b k = b.length := by have := placeN_le b k; omega
    rw [List.getElem?_append_right (by omega), Nat.add_sub_cancel_left, List.getElem?_append_right (by omega), e, Nat.sub_self]
    cases c with
    | nil => simp
    | cons x r =>
      have := lessK_ne (hc x (by simp))
      simp [this]
theorem parts_next {a b c : List Pr} {k : Ky} (ha : ∀ x ∈ a, lessK x.1 k = true) (hc : ∀ x ∈ c, lessK k x.1 = true) : nextN (a ++ (b ++ c)) k = a.length + nextN b k := by
  unfold nextN
  rw [parts_here ha hc, parts_place ha hc]
  split <;> omega
theorem take_parts (a b c : List Pr) {n : Nat} (h : n ≤ b.length) : (a ++ (b ++ c)).take (a.length + n) = a ++ b.take n := by
  rw [List.take_length_add_append, List.take_append_of_le_length h]
theorem drop_parts (a b c : List Pr) {n : Nat} (h : n ≤ b.length) : (a ++ (b ++ c)).drop (a.length + n) = b.drop n ++ c := by
  rw [List.drop_length_add_append, List.drop_append_of_le_length h]
theorem parts_put {a b c : List Pr} {p : Pr} (ha : ∀ x ∈ a, lessK x.1 p.1 = true) (hc : ∀ x ∈ c, lessK p.1 x.1 = true) : putL (a ++ (b ++ c)) p = a ++ (putL b p ++ c) := by
  unfold putL
  rw [parts_place ha hc, parts_next ha hc, take_parts _ _ _ (placeN_le b p.1), drop_parts _ _ _ (nextN_le b p.1).2]
  simp
theorem parts_drop {a b c : List Pr} {k : Ky} (ha : ∀ x ∈ a, lessK x.1 k = true) (hc : ∀ x ∈ c, lessK k x.1 = true) : dropL (a ++ (b ++ c)) k = a ++ (dropL b k ++ c) := by
  unfold dropL
  rw [parts_place ha hc, parts_next ha hc, take_parts _ _ _ (placeN_le b k), drop_parts _ _ _ (nextN_le b k).2]
  simp
theorem parts_get {a b c : List Pr} {k : Ky} (ha : ∀ x ∈ a, lessK x.1 k = true) (hc : ∀ x ∈ c, lessK k x.1 = true) : getS (a ++ (b ++ c)) k = getS b k := by
  unfold getS
  rw [parts_here ha hc, parts_place ha hc]
  split
  · rename_i h
    rw [parts_at (hereB_lt h)]
  · rfl
/-! ### What an edit does -/

/-- What is done to the pairs: one is put, or a key is dropped. -/
def editL (s : Option (List UInt8)) (k : Ky) (l : List Pr) : List Pr := match s with | some t => putL l (k, t) | none => dropL l k
theorem parts_edit {a b c : List Pr} {k : Ky} (s : Option (List UInt8)) (ha : ∀ x ∈ a, lessK x.1 k = true) (hc : ∀ x ∈ c, lessK k x.1 = true) : editL s k (a ++ (b ++ c)) = a ++ (editL s k b ++ c) := by
  cases s with
  | none => exact parts_drop ha hc
  | some t => exact parts_put (p := (k, t)) ha hc
theorem edit_length (s : Option (List UInt8)) (k : Ky) (l : List Pr) : l.length ≤ (editL s k l).length + 1 ∧ (editL s k l).length ≤ l.length + 1 := by
  cases s with
  | none =>
    show l.length ≤ (dropL l k).length + 1 ∧ (dropL l k).length ≤ l.length + 1
    rw [dropL_length]
    split <;> omega
  | some t =>
    show l.length ≤ (putL l (k, t)).length + 1 ∧ (putL l (k, t)).length ≤ l.length + 1
    rw [putL_length]
    split <;> omega
theorem edit_rises {l : List Pr} (h : Rises l) (s : Option (List UInt8)) (k : Ky) : Rises (editL s k l) := by
  cases s with
  | none => exact drop_rises h k
  | some t => exact put_rises h (k, t)

end Go.Proofs.YtaaabmnaindgaaaGreatDoor

/-
  What From tells of rows put together. No program is named here.
-/
namespace Go.Proofs.YtaaabmnaindgaaaGreatDoor
set_option maxRecDepth 100000

theorem placeN_stop {l : List Pr} {k : Ky} (h : placeN l k < l.length) : ∃ x ∈ l, lessK x.1 k = false := by
  induction l with
  | nil => simp at h
  | cons x r ih =>
    cases hx : lessK x.1 k with
    | false => exact ⟨x, by simp, hx⟩
    | true =>
      rw [placeN, if_pos hx, List.length_cons] at h
      obtain ⟨y, hy, h1⟩ := ih (by omega)
      exact ⟨y, by simp [hy], h1⟩
theorem placeN_zero {l : List Pr} {k : Ky} (h : ∀ x ∈ l, lessK x.1 k = false) : placeN l k = 0 := by
  cases l with
  | nil => rfl
  | cons x r =>
    unfold placeN
    rw [if_neg (by rw [h x (by simp)]; simp)]
theorem placeN_full {l : List Pr} {k : Ky} (h : ∀ x ∈ l, lessK x.1 k = true) : placeN l k = l.length := by
  have := placeN_append h []
  simpa [placeN] using this
theorem tail_full {l : List Pr} {k : Ky} (h : ∀ x ∈ l, lessK x.1 k = true) : tailL l k = [] := by
  unfold tailL
  rw [placeN_full h]
  simp
theorem not_less_trans {a b k : Ky} (h1 : lessK a k = false) (h2 : lessK a b = true) : lessK b k = false := by
  cases h : lessK b k with
  | false => rfl
  | true =>
    rw [lessK_trans h2 h] at h1
    cases h1
/-- From tells of both rows, one behind the other. -/
theorem tail_append {a b : List Pr} (h : Rises (a ++ b)) (k : Ky) : tailL (a ++ b) k = tailL a k ++ tailL b k := by
  by_cases hp : placeN a k < a.length
  · obtain ⟨x, hx, h1⟩ := placeN_stop hp
    have hb : ∀ y ∈ b, lessK y.1 k = false := fun y hy => not_less_trans h1 ((List.pairwise_append.1 h).2.2 x hx y hy)
    have e : placeN (a ++ b) k = placeN a k := placeN_is (by rw [List.length_append]; omega)
      (fun i hi => by
        obtain ⟨y, e1, e2⟩ := placeN_ahead hi
        rw [List.getElem_append_left (by omega)]
        rw [List.getElem?_eq_getElem (by omega)] at e1
        cases e1
        exact e2)
      (fun hl => by
        rw [List.getElem_append_left hp]
        cases hc : lessK a[placeN a k].1 k with
        | false => rfl
        | true =>
          exfalso
          have hn : ∀ (l : List Pr) (h : placeN l k < l.length), lessK (l[placeN l k]'h).1 k = false := by
            intro l
            induction l with
            | nil => intro h; simp at h
            | cons y r ih =>
              intro h
              cases hy : lessK y.1 k with
              | true =>
                have e : placeN (y :: r) k = placeN r k + 1 := by rw [placeN, if_pos hy]
                simp only [e] at h ⊢
                simpa using ih (by simpa using h)
              | false =>
                have e : placeN (y :: r) k = 0 := by rw [placeN, if_neg (by simp [hy])]
                simp only [e]
                simpa using hy
          rw [hn a hp] at hc
          cases hc)
    unfold tailL
    rw [e, placeN_zero hb, List.drop_append_of_le_length (by omega)]
    simp
  · have ha : ∀ x ∈ a, lessK x.1 k = true := fun x hx => by
      obtain ⟨i, hi, rfl⟩ := List.getElem_of_mem hx
      have := placeN_le a k
      obtain ⟨y, e1, e2⟩ := placeN_ahead (l := a) (k := k) (i := i) (by omega)
      rw [List.getElem?_eq_getElem hi] at e1
      cases e1
      exact e2
    rw [tail_full ha]
    unfold tailL
    rw [placeN_append ha, List.drop_length_add_append]
    simp
/-- One more row is gathered. -/
theorem gather_more (A X Y : List Pr) (N : Nat) : (A ++ X.take (N - A.length)) ++ Y.take (N - (A ++ X.take (N - A.length)).length) = A ++ (X ++ Y).take (N - A.length) := by
  rw [List.append_assoc, List.take_append, List.length_append, List.length_take]
  congr 3
  omega
/-- There are enough. -/
theorem gather_full {A X : List Pr} {N : Nat} (h : N ≤ (A ++ X.take (N - A.length)).length) (hA : A.length ≤ N) (Y : List Pr) : A ++ X.take (N - A.length) = A ++ (X ++ Y).take (N - A.length) := by
  rw [List.length_append, List.length_take] at h
  rw [List.take_append_of_le_length (by omega)]
theorem gather_le (A X : List Pr) {N : Nat} (hA : A.length ≤ N) : (A ++ X.take (N - A.length)).length ≤ N := by
  rw [List.length_append, List.length_take]
  omega

end Go.Proofs.YtaaabmnaindgaaaGreatDoor

/-
  A vertex in memory: leaves and branches, and the pairs that they have.
-/
namespace Go.Proofs.YtaaabmnaindgaaaGreatDoor
set_option maxRecDepth 100000
open Go.RowKit

/-- What stands in a branch: a vertex, its pairs, how wide it is. -/
abbrev Ch := Value × List Pr × Nat
/-- All pairs of what stands in a row. -/
def allC (S : List Ch) : List Pr := S.flatMap (·.2.1)
/-- The value v is a vertex, d above the leaves, with these pairs; n stand in it. -/
def Vx : Nat → World → Value → List Pr → Nat → Prop
  | 0, w, v, l, n => n = l.length ∧ ∃ u, v = .iface 117 u ∧ Prs w u l
  | d + 1, w, v, l, n => ∃ (g : Nat) (rv : Value) (S : List Ch) (x : Pr), v = .iface 119 (.pointer (some ⟨g, 0, none⟩)) ∧ n = S.length ∧ 2 ≤ S.length ∧ l = allC S ∧ l.head? = some x ∧
      w.cell? ⟨g, 0, none⟩ = some rv ∧ w.cell? ⟨g, 1, none⟩ = some (.string ⟨x.1.1.toArray⟩) ∧ w.cell? ⟨g, 2, none⟩ = some (.int .i64 x.1.2) ∧ w.cell? ⟨g, 3, none⟩ = some (.int .i64 l.length) ∧
      Rw w 1 rv S.length (S.map (·.1)) ∧ ∀ c ∈ S, Vx d w c.1 c.2.1 c.2.2 ∧ 4 ≤ c.2.2
/-- A row of vertices, each d above the leaves. -/
def VRow (d : Nat) (w : World) (rv : Value) (S : List Ch) : Prop := Rw w 1 rv S.length (S.map (·.1)) ∧ ∀ c ∈ S, Vx d w c.1 c.2.1 c.2.2
/-- None of them is too narrow. -/
def Wide (S : List Ch) : Prop := ∀ c ∈ S, 4 ≤ c.2.2

theorem Vx.below {w w' : World} (hb : Below w.heap.size w w') : ∀ {d : Nat} {v : Value} {l : List Pr} {n : Nat}, Vx d w v l n → Vx d w' v l n
  | 0, _, _, _, ⟨hn, u, hv, hp⟩ => ⟨hn, u, hv, hp.below hb⟩
  | _ + 1, _, _, _, ⟨g, rv, S, x, hv, hn, h2, hl, hx, c0, c1, c2, c3, hR, hS⟩ =>
    ⟨g, rv, S, x, hv, hn, h2, hl, hx, look_below hb c0, look_below hb c1, look_below hb c2, look_below hb c3, hR.below hb, fun c hc => ⟨(hS c hc).1.below hb, (hS c hc).2⟩⟩
theorem VRow.below {w w' : World} {d : Nat} {rv : Value} {S : List Ch} (h : VRow d w rv S) (hb : Below w.heap.size w w') : VRow d w' rv S := ⟨h.1.below hb, fun c hc => (h.2 c hc).below hb⟩
theorem VRow.form {w : World} {d : Nat} {rv : Value} {S : List Ch} (h : VRow d w rv S) : ∃ ao cap, rv = .slice ao S.length cap := Rw.form h.1
/-- Where something stands, there are pairs. -/
theorem Vx.first {w : World} : ∀ {d : Nat} {v : Value} {l : List Pr} {n : Nat}, Vx d w v l n → 1 ≤ n → ∃ x r, l = x :: r
  | 0, _, l, _, ⟨hn, _⟩, h1 => by
    cases l with
    | nil => simp at hn; omega
    | cons x r => exact ⟨x, r, rfl⟩
  | _ + 1, _, l, _, ⟨_, _, _, x, _, _, _, _, hx, _⟩, _ => by
    cases l with
    | nil => simp at hx
    | cons x r => exact ⟨x, r, rfl⟩
/-- Without pairs it is a leaf. -/
theorem Vx.bare {w : World} {d : Nat} {v : Value} {n : Nat} (h : Vx d w v [] n) : d = 0 := by
  cases d with
  | zero => rfl
  | succ d =>
    obtain ⟨_, _, _, x, _, _, _, _, hx, _⟩ := h
    simp at hx
theorem VRow.at {w : World} {d : Nat} {ao : Option Addr} {n cap : Nat} {S : List Ch} (h : VRow d w (.slice ao n cap) S) {k : Nat} (hk : k < S.length) :
    ∃ b off, ao = .some ⟨b, off, .none⟩ ∧ w.cell? ⟨b, off + k, .none⟩ = .some S[k].1 ∧ Vx d w S[k].1 S[k].2.1 S[k].2.2 := by
  have hx := h.2 _ (List.getElem_mem hk)
  obtain ⟨⟨_, ao', cap', he, _, hc⟩, _⟩ := h
  cases he
  rcases hc with h0 | ⟨b, off, rfl, hc⟩
  · omega
  · have := hc k (by simpa using hk)
    rw [List.getElem_map] at this
    exact ⟨b, off, rfl, this, hx⟩
theorem VRow.vals {w : World} {d : Nat} {ao : Option Addr} {n cap : Nat} {S : List Ch} (h : VRow d w (.slice ao n cap) S) (h2 : 2 ≤ S.length) :
    ∃ b off, ao = .some ⟨b, off, .none⟩ ∧ ∀ k (hk : k < S.length), w.cell? ⟨b, off + k, .none⟩ = .some S[k].1 := by
  obtain ⟨b, off, e, _⟩ := h.at (k := 0) (by omega)
  refine ⟨b, off, e, fun k hk => ?_⟩
  obtain ⟨b', off', e', c, _⟩ := h.at hk
  rw [e] at e'
  cases e'
  exact c
theorem VRow.len {w : World} {d : Nat} {ao : Option Addr} {n cap : Nat} {S : List Ch} (h : VRow d w (.slice ao n cap) S) : S.length = n := by
  obtain ⟨⟨_, ao', cap', he, _, hc⟩, _⟩ := h
  cases he
  rfl
theorem allC_append (A B : List Ch) : allC (A ++ B) = allC A ++ allC B := by simp [allC]
theorem allC_cons (c : Ch) (B : List Ch) : allC (c :: B) = c.2.1 ++ allC B := by simp [allC]
theorem allC_nil : allC [] = [] := rfl
theorem allC_one (c : Ch) : allC [c] = c.2.1 := by simp [allC]
theorem allC_succ {S : List Ch} {k : Nat} (hk : k < S.length) : allC (S.take (k + 1)) = allC (S.take k) ++ S[k].2.1 := by
  rw [List.take_succ_eq_append_getElem hk, allC_append, allC_one]
theorem allC_le (S : List Ch) (k : Nat) : (allC (S.take k)).length ≤ (allC S).length := by
  rw [← List.take_append_drop k S, allC_append]
  simp
theorem allC_parts {S : List Ch} {k : Nat} (hk : k < S.length) : allC S = allC (S.take k) ++ (S[k].2.1 ++ allC (S.drop (k + 1))) := by
  rw [← allC_cons, List.getElem_cons_drop, ← allC_append, List.take_append_drop]
theorem allC_mem_le {S : List Ch} {c : Ch} (hc : c ∈ S) : c.2.1.length ≤ (allC S).length := by
  obtain ⟨k, hk, rfl⟩ := List.getElem_of_mem hc
  rw [allC_parts hk]
  simp
  omega
/-- A row of vertices has no fewer pairs than there are vertices. -/
theorem VRow.count {w : World} {d : Nat} {rv : Value} {S : List Ch} (h : VRow d w rv S) (hw : Wide S) : S.length ≤ (allC S).length := by
  replace h := h.2
  induction S with
  | nil => simp
  | cons c r ih =>
    rw [allC_cons, List.length_append, List.length_cons]
    have h1 := ih (fun x hx => hw x (by simp [hx])) (fun x hx => h x (by simp [hx]))
    obtain ⟨y, r', e⟩ := (h c (by simp)).first (by have := hw c (by simp); omega)
    rw [e, List.length_cons]
    omega
/-- A branch, opened. -/
theorem Vx.open {w : World} {d : Nat} {v : Value} {l : List Pr} {n : Nat} (h : Vx (d + 1) w v l n) : ∃ (g : Nat) (ao : Option Addr) (cap : Nat) (S : List Ch) (x : Pr), v = .iface 119 (.pointer (.some ⟨g, 0, .none⟩)) ∧ n = S.length ∧ 2 ≤ S.length ∧ l = allC S ∧ l.head? = .some x ∧
      w.cell? ⟨g, 0, .none⟩ = .some (.slice ao S.length cap) ∧ w.cell? ⟨g, 1, .none⟩ = .some (.string ⟨x.1.1.toArray⟩) ∧ w.cell? ⟨g, 2, .none⟩ = .some (.int .i64 x.1.2) ∧ w.cell? ⟨g, 3, .none⟩ = .some (.int .i64 l.length) ∧
      VRow d w (.slice ao S.length cap) S ∧ Wide S := by
  obtain ⟨g, rv, S, x, hv, hn, h2, hl, hx, c0, c1, c2, c3, hR, hS⟩ := h
  obtain ⟨ao, cap, rfl⟩ := hR.form
  exact ⟨g, ao, cap, S, x, hv, hn, h2, hl, hx, c0, c1, c2, c3, ⟨hR, fun c hc => (hS c hc).1⟩, fun c hc => (hS c hc).2⟩
theorem Vx.shut {w : World} {d g : Nat} {rv : Value} {S : List Ch} {x : Pr} (h2 : 2 ≤ S.length) (hx : (allC S).head? = .some x)
    (c0 : w.cell? ⟨g, 0, .none⟩ = .some rv) (c1 : w.cell? ⟨g, 1, .none⟩ = .some (.string ⟨x.1.1.toArray⟩)) (c2 : w.cell? ⟨g, 2, .none⟩ = .some (.int .i64 x.1.2)) (c3 : w.cell? ⟨g, 3, .none⟩ = .some (.int .i64 (allC S).length))
    (hR : VRow d w rv S) (hS : Wide S) : Vx (d + 1) w (.iface 119 (.pointer (.some ⟨g, 0, .none⟩))) (allC S) S.length :=
  ⟨g, rv, S, x, rfl, rfl, h2, rfl, hx, c0, c1, c2, c3, hR.1, fun c hc => ⟨hR.2 c hc, hS c hc⟩⟩

end Go.Proofs.YtaaabmnaindgaaaGreatDoor

/-
  tree: a tree in memory; New, top.
-/
namespace Go.Proofs.YtaaabmnaindgaaaGreatDoor
set_option maxRecDepth 100000
open Go.RowKit

/-- The value v is a tree of these pairs, which rise. -/
def TreeV (w : World) (v : Value) (l : List Pr) : Prop :=
  Rises l ∧ ((v = .pointer none ∧ l = []) ∨ ∃ g u, v = .pointer (some ⟨g, 0, none⟩) ∧ w.cell? ⟨g, 0, none⟩ = some u ∧ ((u = .nilIface ∧ l = []) ∨ ∃ d n, Vx d w u l n))
theorem TreeV.below {w w' : World} {v : Value} {l : List Pr} (h : TreeV w v l) (hb : Below w.heap.size w w') : TreeV w' v l := by
  obtain ⟨hr, ⟨hv, hl⟩ | ⟨g, u, hv, hc, hu⟩⟩ := h
  · exact ⟨hr, .inl ⟨hv, hl⟩⟩
  · refine ⟨hr, .inr ⟨g, u, hv, look_below hb hc, ?_⟩⟩
    rcases hu with hu | ⟨d, n, hu⟩
    · exact .inl hu
    · exact .inr ⟨d, n, hu.below hb⟩
theorem TreeV.none (w : World) : TreeV w (.pointer none) [] := ⟨List.Pairwise.nil, .inl ⟨rfl, rfl⟩⟩
theorem Vx.iface {w : World} {d : Nat} {v : Value} {l : List Pr} {n : Nat} (h : Vx d w v l n) : ∃ T u, v = .iface T u := by
  cases d with
  | zero =>
    obtain ⟨_, u, rfl, _⟩ := h
    exact ⟨_, _, rfl⟩
  | succ d =>
    obtain ⟨_, _, _, _, rfl, _⟩ := h
    exact ⟨_, _, rfl⟩
theorem leaf_nil (w : World) : Vx 0 w (.iface 117 (.slice none 0 0)) [] 0 := ⟨rfl, _, rfl, Prs.nil w⟩

theorem top_eqTo (T : TypeId) (u : Value) (w : World) : (binOp .eql 76 (.iface T u) .nilIface).run Tryz.prog w = .ok (.bool false) w := by
  rfl

set_option maxHeartbeats 1000000 in
theorem top_calls (v : Value) (l : List Pr) (w : World) (ht : TreeV w v l) :
   Calls Tryz.prog 33 #[v] w fun e w' => w' = w ∧ ∃ u d n, e = .returned u ∧ Vx d w u l n := by
  obtain ⟨_, ⟨rfl, rfl⟩ | ⟨g, u, rfl, hc, ⟨rfl, rfl⟩ | ⟨d, n, hu⟩⟩⟩ := ht
  · go_enter Tryz.func33, Tryz.ntmps33
    go_wp2_with fail
    go_ret
    exact ⟨rfl, _, 0, 0, rfl, leaf_nil w⟩
  · go_enter Tryz.func33, Tryz.ntmps33
    go_wp2_with fail
    go_ret
    exact ⟨rfl, _, 0, 0, rfl, leaf_nil w⟩
  · obtain ⟨T, u, rfl⟩ := hu.iface
    have HU := Lib.hid hu
    have he := top_eqTo T u
    clear hu
    go_enter Tryz.func33, Tryz.ntmps33
    go_wp2_with fail
    go_ret
    exact ⟨rfl, _, d, n, rfl, HU.out⟩

theorem new_calls (w : World) : Calls Tryz.prog 30 #[] w fun e w' => ∃ v, e = .returned v ∧ TreeV w' v [] ∧ Below w.heap.size w w' := by
  go_enter Tryz.func30, Tryz.ntmps30
  go_wp2_with fail
  go_ret
  exact ⟨_, rfl, ⟨List.Pairwise.nil, .inr ⟨_, _, rfl, by rw [World.cell?_alloc_new]; rfl, .inl ⟨rfl, rfl⟩⟩⟩, below_alloc _ _⟩

end Go.Proofs.YtaaabmnaindgaaaGreatDoor

/-
  tree: the methods of a vertex: least, size, width, depth.
-/
namespace Go.Proofs.YtaaabmnaindgaaaGreatDoor
set_option maxRecDepth 100000
open Go.RowKit

theorem ret_key {fn : Func} {p : Tmp} {R : Ending → World → Prop} {a : Act} {w : World} (h : fn.results = #[.cell p 65]) (hd : a.defers = []) (g : Nat) (v0 v1 : Value) (hp : a.tmps.getD p undef = .pointer (some ⟨g, 0, none⟩))
    (c0 : w.cell? ⟨g, 0, none⟩ = some v0) (c1 : w.cell? ⟨g, 1, none⟩ = some v1) (hR : R (.returned (.agg #[v0, v1])) w) : bodyPost Tryz.prog fn R .ret a w := by
  refine bodyPost_ret (v := .agg #[v0, v1]) ?_ hd hR
  have hp' : a.tmps[p]?.getD undef = .pointer (some ⟨g, 0, none⟩) := by simpa using hp
  simp [results, h, hp', asAddr, load_key w g v0 v1 c0 c1]

/-! ### Which function a method is -/

theorem mLeafSize (n : Nat) (u : Value) (W : World) : (method (n + 1) 117 u "sexton/tree.size").run Tryz.prog W = .ok (201, u) W := by kernel_rfl
theorem mLeafWidth (n : Nat) (u : Value) (W : World) : (method (n + 1) 117 u "sexton/tree.width").run Tryz.prog W = .ok (202, u) W := by kernel_rfl
theorem mLeafLeast (n : Nat) (u : Value) (W : World) : (method (n + 1) 117 u "sexton/tree.least").run Tryz.prog W = .ok (200, u) W := by kernel_rfl
theorem mBrSize (n : Nat) (g : Addr) (W : World) : (method (n + 1) 119 (.pointer (some g)) "sexton/tree.size").run Tryz.prog W = .ok (205, .pointer (some g)) W := by kernel_rfl
theorem mBrWidth (n : Nat) (g : Addr) (W : World) : (method (n + 1) 119 (.pointer (some g)) "sexton/tree.width").run Tryz.prog W = .ok (206, .pointer (some g)) W := by kernel_rfl
theorem mBrLeast (n : Nat) (g : Addr) (W : World) : (method (n + 1) 119 (.pointer (some g)) "sexton/tree.least").run Tryz.prog W = .ok (204, .pointer (some g)) W := by kernel_rfl

/-! ### The methods -/

theorem leafSize_calls (v : Value) (l : List Pr) (w : World) (h : Prs w v l) :
    Calls Tryz.prog 201 #[v] w fun e w' => e = .returned (.int .i64 l.length) ∧ w' = w := by
  obtain ⟨ao, cap, rfl⟩ := h.form
  go_enter Tryz.func201, Tryz.ntmps201
  go_wp2_with fail
  go_ret
  exact ⟨rfl, rfl⟩
theorem leafWidth_calls (v : Value) (l : List Pr) (w : World) (h : Prs w v l) :
    Calls Tryz.prog 202 #[v] w fun e w' => e = .returned (.int .i64 l.length) ∧ w' = w := by
  obtain ⟨ao, cap, rfl⟩ := h.form
  go_enter Tryz.func202, Tryz.ntmps202
  go_wp2_with fail
  go_ret
  exact ⟨rfl, rfl⟩
set_option maxHeartbeats 1000000 in
theorem leafLeast_calls (v : Value) (x : Pr) (r : List Pr) (w : World) (h : Prs w v (x :: r)) :
    Calls Tryz.prog 200 #[v] w fun e w' => e = .returned (.agg #[.string ⟨x.1.1.toArray⟩, .int .i64 x.1.2]) ∧ Below w.heap.size w w' := by
  obtain ⟨ao, cap, rfl⟩ := h.form
  obtain ⟨b, off, rfl, c0, c1, _⟩ := h.at (k := 0) (by simp)
  simp only [Nat.zero_mul, Nat.add_zero, List.getElem_cons_zero] at c0 c1
  have hl : b < w.heap.size := World.block_lt_of_cell? w _ c0
  clear h
  obtain ⟨⟨p, m⟩, s⟩ := x
  dsimp only at c0 c1 ⊢
  go_enter Tryz.func200, Tryz.ntmps200
  go_wp2_with fail
  have hC := Cx.new w 65 [.string ⟨p.toArray⟩, .int .i64 m]
  obtain ⟨d0, d1, _⟩ := hC.two
  refine ret_key (p := 2) (by kernel_rfl) rfl w.heap.size _ _ rfl d0 d1 ?_
  exact ⟨rfl, below_alloc _ _⟩
theorem brSize_calls (g : Nat) (n : Int) (w : World) (c : w.cell? ⟨g, 3, none⟩ = some (.int .i64 n)) :
    Calls Tryz.prog 205 #[.pointer (some ⟨g, 0, none⟩)] w fun e w' => e = .returned (.int .i64 n) ∧ w' = w := by
  go_enter Tryz.func205, Tryz.ntmps205
  go_wp2_with fail
  go_ret
  exact ⟨rfl, rfl⟩
theorem brWidth_calls (g : Nat) (ao : Option Addr) (n cap : Nat) (w : World) (c : w.cell? ⟨g, 0, none⟩ = some (.slice ao n cap)) :
    Calls Tryz.prog 206 #[.pointer (some ⟨g, 0, none⟩)] w fun e w' => e = .returned (.int .i64 n) ∧ w' = w := by
  go_enter Tryz.func206, Tryz.ntmps206
  go_wp2_with fail
  go_ret
  exact ⟨rfl, rfl⟩
set_option maxHeartbeats 1000000 in
theorem brLeast_calls (g : Nat) (p : List UInt8) (m : Int) (w : World) (c1 : w.cell? ⟨g, 1, none⟩ = some (.string ⟨p.toArray⟩)) (c2 : w.cell? ⟨g, 2, none⟩ = some (.int .i64 m)) :
    Calls Tryz.prog 204 #[.pointer (some ⟨g, 0, none⟩)] w fun e w' => e = .returned (.agg #[.string ⟨p.toArray⟩, .int .i64 m]) ∧ Below w.heap.size w w' := by
  have hl : g < w.heap.size := World.block_lt_of_cell? w _ c1
  go_enter Tryz.func204, Tryz.ntmps204
  go_wp2_with fail
  have hC := Cx.new w 65 [.string ⟨p.toArray⟩, .int .i64 m]
  obtain ⟨d0, d1, _⟩ := hC.two
  refine ret_key (p := 2) (by kernel_rfl) rfl w.heap.size _ _ rfl d0 d1 ?_
  exact ⟨rfl, below_alloc _ _⟩

/-! ### Of whatever vertex -/

/-- A call of f enters its body. -/
def Enters (f : FuncId) : Prop := ∀ xs W, (callFunc f xs).run Tryz.prog W = .ok (.enter f xs) W
/-- The vertex (T, u) says n of itself where the method name is called. -/
def Says (w : World) (T : TypeId) (u : Value) (name : String) (n : Nat) : Prop :=
  ∃ f, (∀ k W, (method (k + 1) T u name).run Tryz.prog W = .ok (f, u) W) ∧ Enters f ∧ ∀ W, Below w.heap.size w W → Calls Tryz.prog f #[u] W fun e w' => e = .returned (.int .i64 n) ∧ w' = W
theorem Vx.size {w : World} {d : Nat} {T : TypeId} {u : Value} {l : List Pr} {n : Nat} (h : Vx d w (.iface T u) l n) : Says w T u "sexton/tree.size" l.length := by
  cases d with
  | zero =>
    obtain ⟨_, u, he, hp⟩ := h
    cases he
    exact ⟨_, fun k W => mLeafSize k u W, fun _ _ => by kernel_rfl, fun W hB => leafSize_calls u l W (hp.below hB)⟩
  | succ d =>
    obtain ⟨g, ao, cap, S, x, he, _, _, _, _, c0, c1, c2, c3, _⟩ := h.open
    cases he
    exact ⟨_, fun k W => mBrSize k _ W, fun _ _ => by kernel_rfl, fun W hB => brSize_calls g _ W (look_below hB c3)⟩
theorem Vx.width {w : World} {d : Nat} {T : TypeId} {u : Value} {l : List Pr} {n : Nat} (h : Vx d w (.iface T u) l n) : Says w T u "sexton/tree.width" n := by
  cases d with
  | zero =>
    obtain ⟨rfl, u, he, hp⟩ := h
    cases he
    exact ⟨_, fun k W => mLeafWidth k u W, fun _ _ => by kernel_rfl, fun W hB => leafWidth_calls u l W (hp.below hB)⟩
  | succ d =>
    obtain ⟨g, ao, cap, S, x, he, rfl, _, _, _, c0, c1, c2, c3, _⟩ := h.open
    cases he
    exact ⟨_, fun k W => mBrWidth k _ W, fun _ _ => by kernel_rfl, fun W hB => brWidth_calls g _ _ _ W (look_below hB c0)⟩
theorem Vx.least {w : World} {d : Nat} {T : TypeId} {u : Value} {x : Pr} {r : List Pr} {n : Nat} (h : Vx d w (.iface T u) (x :: r) n) :
    ∃ f, (∀ k W, (method (k + 1) T u "sexton/tree.least").run Tryz.prog W = .ok (f, u) W) ∧ Enters f ∧ ∀ W, Below w.heap.size w W → Calls Tryz.prog f #[u] W fun e w' => e = .returned (.agg #[.string ⟨x.1.1.toArray⟩, .int .i64 x.1.2]) ∧ Below W.heap.size W w' := by
  cases d with
  | zero =>
    obtain ⟨_, u, he, hp⟩ := h
    cases he
    exact ⟨_, fun k W => mLeafLeast k u W, fun _ _ => by kernel_rfl, fun W hB => leafLeast_calls u x r W (hp.below hB)⟩
  | succ d =>
    obtain ⟨g, ao, cap, S, y, he, _, _, _, hy, c0, c1, c2, c3, _⟩ := h.open
    cases he
    simp at hy
    subst hy
    exact ⟨_, fun k W => mBrLeast k _ W, fun _ _ => by kernel_rfl, fun W hB => brLeast_calls g _ _ W (look_below hB c1) (look_below hB c2)⟩

set_option maxHeartbeats 1000000 in
theorem tlen_calls (v : Value) (l : List Pr) (w : World) (ht : TreeV w v l) :
   Calls Tryz.prog 27 #[v] w fun e w' => e = .returned (.int .i64 l.length) ∧ w' = w := by
  have K := Lib.hid (top_calls v l w ht)
  go_enter Tryz.func27, Tryz.ntmps27
  go_wp2_with fail
  refine K.out.mono ?_
  rintro e w1 ⟨rfl, u, d, n, rfl, hu⟩
  obtain ⟨T, u, rfl⟩ := hu.iface
  obtain ⟨f, hm, hc, hf⟩ := hu.size
  unfold Enters at hc
  have KS := Lib.hid (hf _ (Below.refl _ _))
  clear hf hu
  go_wp2_with fail
  refine KS.out.mono ?_
  rintro e w2 ⟨rfl, rfl⟩
  go_wp2_with fail
  go_ret
  exact ⟨rfl, rfl⟩

end Go.Proofs.YtaaabmnaindgaaaGreatDoor

/-
  What stays while a row of pairs grows: blocks of other types. Appends of a leaf to pairs.
-/
namespace Go.Proofs.YtaaabmnaindgaaaGreatDoor
set_option maxRecDepth 100000
open Go.RowKit

theorem Prs.any {w : World} {v : Value} {l : List Pr} (h : Prs w v l) : ∃ ao n cap, v = .slice ao n cap := by
  obtain ⟨ao, cap, e⟩ := h.form
  exact ⟨ao, _, cap, e⟩
/-- Blocks that hold no pairs are as they were. -/
def KeepN (w w' : World) : Prop := ∀ (i : Nat) (cs : Array Value) (t : TypeId) (f : Nat × Nat), t ≠ 67 → w.heap[i]? = some (Obj.cells cs t f) → w'.heap[i]? = some (Obj.cells cs t f)
theorem KeepN.refl (w : World) : KeepN w w := fun _ _ _ _ _ h => h
theorem KeepN.trans {a b c : World} (h1 : KeepN a b) (h2 : KeepN b c) : KeepN a c := fun i cs t f ht h => h2 i cs t f ht (h1 i cs t f ht h)
theorem KeepN.below {w w' : World} (h : Below w.heap.size w w') : KeepN w w' := fun i cs t f _ hi => by
  rw [h.block i (Array.getElem?_eq_some_iff.1 hi).1]
  exact hi
theorem KeepN.grown {w w' : World} {base : Nat} {v : Value} {l : List Pr} (ho : OwnP w base v l) (h : w.grownBy w' v.ownBlock) : KeepN w w' := fun i cs t f ht hi => by
  rw [h.block i (Array.getElem?_eq_some_iff.1 hi).1 (fun e => by
    rcases ho.2 with ⟨rfl, _⟩ | ⟨g, cap, cur, rfl, _, hg, _⟩
    · simp [Value.ownBlock] at e
    · simp [Value.ownBlock] at e
      subst e
      rw [hg] at hi
      cases hi
      exact ht rfl)]
  exact hi
theorem Cx.keep {w w' : World} {b : Nat} {t : TypeId} {cs : List Value} (h : Cx w b t cs) (hk : KeepN w w') (ht : t ≠ 67) : Cx w' b t cs := hk _ _ _ _ ht h

theorem run_append_types (w : World) (t t2 ty e : TypeId) (ht : Tryz.prog.underlying t = some (.slice e)) (ht2 : Tryz.prog.underlying t2 = some (.slice e)) (v x : Value) :
    (Builtin.append_ #[t, t2] ty #[v, x]).run Tryz.prog w = (Builtin.append_ #[t, t] ty #[v, x]).run Tryz.prog w := by
  cases v <;> simp [Builtin.append_, run_underlying ht, run_underlying ht2]

/-- An append of pairs (a leaf's, a row's) to pairs of the call's own: what holds no pairs stays. -/
theorem wpList_append_keep {w : World} {ops : Array Oper} {rest : List Oper} {o : Oper} {a : Act} {Q : Exit → Act → World → Prop} (hgd : o.guard = none) (s x : Operand) (t t2 : TypeId) (ht : Tryz.prog.underlying t = some (.slice 67)) (ht2 : Tryz.prog.underlying t2 = some (.slice 67))
    (ho : o.op = .call { callee := .builtin .append, args := #[s, x], argTypes := #[t, t2] }) (base : Nat) (v : Value) (T : List Pr) (hs : a.eval s = v) (hown : OwnP w base v T)
    (ao : Option Addr) (m c : Nat) (R : List Pr) (hx : a.eval x = .slice ao m c) (hR : Prs w (.slice ao m c) R) (U : List Pr) (hU : T ++ R = U) (q : Nat) (hq : U.length = q) (hq2 : q ≤ 1000000) (w0 : World) (hB : Below base w0 w) (hb0 : base ≤ w0.heap.size)
    (h : ∀ ao' cap' w', OwnP w' base (.slice ao' q cap') U → Below base w0 w' → KeepN w w' → w.heap.size ≤ w'.heap.size → wpList Tryz.prog ops Q rest (a.put o.dst (.slice ao' q cap')) w') : wpList Tryz.prog ops Q (o :: rest) a w := by
  obtain ⟨i0, hi, hz0, hz1, hz2⟩ := info_parts infoP
  have hm := hR.len
  have hk : T.length + m = q := by rw [← hq, ← hU, List.length_append, hm]
  have hbase : base ≤ w.heap.size := Nat.le_trans hb0 hB.size
  have hRw : Rw w 3 (.slice ao m c) m (pcells R) := by unfold Prs at hR; rwa [hm] at hR
  refine wpList_plain hgd fun K hK => ?_
  cases ao with
  | none =>
    obtain rfl := hR.of_nil
    obtain rfl : m = 0 := by simpa using hm.symm
    have hrun := (run_append_types w t t2 o.type _ ht ht2 v (.slice none 0 c)).trans (run_append_noneC base t o.type 67 i0 3 c ht hi v T.length (pcells T) hown)
    obtain ⟨ao', cap', rfl⟩ := hown.form
    unfold Oper.wp
    simp only [execOp, ho, resolve, invoke, builtin, Sem.run_bind, Sem.run_pure, Result.andThen_ok, List.map_toArray, List.map_cons, List.map_nil, hs, hx, hrun]
    have := h ao' cap' w (by rw [← hU, ← hq, ← hU]; simpa using hown) hB (KeepN.refl w) (Nat.le_refl _)
    rw [← hk] at this
    exact hK _ _ this
  | some ad =>
    obtain ⟨v', w', hr, h2, h3, _, _⟩ := run_append_own_at (P := Tryz.prog) w base t o.type 67 i0 _ 3 40 ht hi hz0 hz1 hz2 rfl (by decide) v T.length (pcells T) hown ad m c (pcells R) hRw.1 (rowN_news hRw) (pcells_one R) (by rw [hk]; unfold maxLen; omega) (by rw [hk]; omega) hbase
    have hrun := (run_append_types w t t2 o.type _ ht ht2 v (.slice (some ad) m c)).trans hr
    rw [hk, ← pcells_append, hU] at h2
    obtain ⟨ao', cap', rfl⟩ := (Rw.own h2).form
    unfold Oper.wp
    simp only [execOp, ho, resolve, invoke, builtin, Sem.run_bind, Sem.run_pure, Result.andThen_ok, List.map_toArray, List.map_cons, List.map_nil, hs, hx, hrun]
    refine hK _ _ (h ao' cap' w' ?_ (hB.grown h3 hbase (fun j e => (hown.lt j e).1)) (KeepN.grown hown h3) h3.size)
    unfold OwnP
    rw [hq]
    exact h2

end Go.Proofs.YtaaabmnaindgaaaGreatDoor

/-
  Parts of rows, whatever the elements' size: what a slice expression of a row is, as an equation for every world.
-/
namespace Go.Proofs.YtaaabmnaindgaaaGreatDoor
set_option maxRecDepth 100000
open Go.RowKit

theorem rw_part {w : World} {s k cap : Nat} {ao : Option Addr} {cs : List Value} (h : Rw w s (.slice ao k cap) k cs) (l r : Nat) (hl : l ≤ r) (hr : r ≤ k) :
    ∃ a1 c1, sliced ao l r cap s = .slice a1 (r - l) c1 ∧ Rw w s (.slice a1 (r - l) c1) (r - l) ((cs.drop (l * s)).take ((r - l) * s)) := by
  obtain ⟨hlen, ao', c, he, hc, hx⟩ := h
  cases he
  have hsum : l * s + (r - l) * s = r * s := by rw [← Nat.add_mul]; congr 1; omega
  have hrs : r * s ≤ k * s := Nat.mul_le_mul_right _ hr
  have hl2 : ((cs.drop (l * s)).take ((r - l) * s)).length = (r - l) * s := by
    rw [List.length_take, List.length_drop]
    omega
  refine ⟨_, _, rfl, hl2, _, _, rfl, by omega, ?_⟩
  by_cases h0 : r - l = 0
  · exact .inl h0
  · rcases hx with hx | ⟨b, off, rfl, hcs⟩
    · omega
    · refine .inr ?_
      rw [if_neg (by omega), Option.map_some, Go.WideShapes.add_plain]
      refine ⟨b, off + l * s, rfl, fun j hj => ?_⟩
      rw [hl2] at hj
      rw [List.getElem_take, List.getElem_drop, Nat.add_assoc]
      exact hcs (l * s + j) (by omega)

/-! ### Rows of vertices -/

theorem row_elem : Tryz.prog.elem 121 = 76 := by kernel_rfl
theorem row_slice : Tryz.prog.underlying 121 = some (.slice (Tryz.prog.elem 121)) := by kernel_rfl
theorem row_size (W : World) : (sizeOf 76).run Tryz.prog W = .ok 1 W := by
  have h : (Tryz.prog.info? 76).map (·.size) = some 1 := by kernel_rfl
  cases hq : Tryz.prog.info? 76 with
  | none => simp [hq] at h
  | some i =>
    have hs : i.size = 1 := by simpa [hq] using h
    simp [sizeOf, typeInfo, hq, hs]
theorem vrow_part {d : Nat} {w : World} {k cap : Nat} {ao : Option Addr} {S : List Ch} (h : VRow d w (.slice ao k cap) S) (l r : Nat) (hl : l ≤ r) (hr : r ≤ k) :
    ∃ a1 c1, sliced ao l r cap 1 = .slice a1 (r - l) c1 ∧ VRow d w (.slice a1 (r - l) c1) ((S.drop l).take (r - l)) := by
  have hk := h.len
  have hR := h.1
  rw [hk] at hR
  obtain ⟨a1, c1, e, hw⟩ := rw_part hR l r hl hr
  refine ⟨a1, c1, e, ?_, fun c hc => h.2 c (List.mem_of_mem_drop (List.mem_of_mem_take hc))⟩
  have hl2 : ((S.drop l).take (r - l)).length = r - l := by
    rw [List.length_take, List.length_drop]
    omega
  rw [hl2, List.map_take, List.map_drop]
  simpa using hw
/-- row[l:] -/
theorem vrow_from {d : Nat} {w : World} {k cap : Nat} {ao : Option Addr} {S : List Ch} (h : VRow d w (.slice ao k cap) S) (l m : Nat) (hm : l + m = k) :
    ∃ a1 c1, (∀ W, (Instr.slice 121 (.slice ao k cap) (some (.int .i64 (l : Int))) none none).run Tryz.prog W = .ok (.slice a1 m c1) W) ∧ VRow d w (.slice a1 m c1) (S.drop l) := by
  obtain ⟨a1, c1, e, hR⟩ := vrow_part h l k (by omega) (Nat.le_refl _)
  obtain rfl : k - l = m := by omega
  have hk := h.len
  rw [List.take_of_length_le (by rw [List.length_drop]; omega)] at hR
  refine ⟨a1, c1, fun W => ?_, hR⟩
  rw [run_slice_l W _ ao k cap row_slice .i64 l (by omega) (by omega), row_elem, row_size, ← e]
  simp [Result.andThen]
/-- row[:r] -/
theorem vrow_to {d : Nat} {w : World} {k cap : Nat} {ao : Option Addr} {S : List Ch} (h : VRow d w (.slice ao k cap) S) (r : Nat) (hr : r ≤ k) :
    ∃ a1 c1, (∀ W, (Instr.slice 121 (.slice ao k cap) none (some (.int .i64 (r : Int))) none).run Tryz.prog W = .ok (.slice a1 r c1) W) ∧ VRow d w (.slice a1 r c1) (S.take r) := by
  obtain ⟨a1, c1, e, hR⟩ := vrow_part h 0 r (by omega) hr
  have hk := h.len
  have hcap : k ≤ cap := by
    obtain ⟨⟨_, _, _, he, hc, _⟩, _⟩ := h
    cases he
    omega
  rw [Nat.sub_zero] at e hR
  refine ⟨a1, c1, fun W => ?_, by simpa using hR⟩
  rw [run_slice_h W _ ao k cap row_slice .i64 r (by omega) (by omega), row_elem, row_size, ← e]
  simp [Result.andThen]

/-! ### Leaves -/

theorem leaf_elem : Tryz.prog.elem 117 = 67 := by kernel_rfl
theorem leaf_slice : Tryz.prog.underlying 117 = some (.slice (Tryz.prog.elem 117)) := by kernel_rfl
theorem leaf_slice2 : Tryz.prog.underlying 117 = some (.slice 67) := by kernel_rfl
/-- leaf[l:r] -/
theorem leaf_range {w : World} {k cap : Nat} {ao : Option Addr} {L : List Pr} (h : Prs w (.slice ao k cap) L) (l r m : Nat) (hr : r ≤ k) (hm : l + m = r) :
    ∃ a1 c1, (∀ W, (Instr.slice 117 (.slice ao k cap) (some (.int .i64 (l : Int))) (some (.int .i64 (r : Int))) none).run Tryz.prog W = .ok (.slice a1 m c1) W) ∧ Prs w (.slice a1 m c1) ((L.drop l).take m) := by
  have hk := h.len
  have hR := h
  unfold Prs at hR
  rw [hk] at hR
  obtain ⟨a1, c1, e, hw⟩ := rw_part hR l r (by omega) hr
  have hcap : k ≤ cap := by
    obtain ⟨_, _, _, he, hc, _⟩ := hR
    cases he
    exact hc
  obtain rfl : r - l = m := by omega
  refine ⟨a1, c1, fun W => ?_, ?_⟩
  · rw [run_slice_lh W _ ao k cap leaf_slice .i64 .i64 l r (by omega) (by omega) (by omega), leaf_elem, pair_size, ← e]
    simp [Result.andThen]
  · unfold Prs
    have hl2 : ((L.drop l).take (r - l)).length = r - l := by
      rw [List.length_take, List.length_drop]
      omega
    rw [hl2, pcells_take, pcells_drop]
    exact hw

end Go.Proofs.YtaaabmnaindgaaaGreatDoor

/-
  tree: where in a branch a key is; sort.Search.
-/
namespace Go.Proofs.YtaaabmnaindgaaaGreatDoor
set_option maxRecDepth 100000
open Go.RowKit

/-- The first key of a vertex. -/
def fK (c : Ch) : Ky := match c.2.1 with | [] => ([], 0) | x :: _ => x.1

set_option maxHeartbeats 2000000 in
theorem place1_calls (d : Nat) (S : List Ch) (p : List UInt8) (m : Int) (gk gb g : Nat) (ao : Option Addr) (cap i : Nat) (w : World) (hk : KBox w gk (p, m)) (hb : Cx w gb 119 [.pointer (some ⟨g, 0, none⟩)])
    (hg : w.cell? ⟨g, 0, none⟩ = some (.slice ao S.length cap)) (hR : VRow d w (.slice ao S.length cap) S) (hS : Wide S) (hi : i < S.length) :
    Calls Tryz.prog 95 #[.int .i64 i, .pointer (some ⟨gk, 0, none⟩), .pointer (some ⟨gb, 0, none⟩)] w fun e w' => e = .returned (.bool (lessK (p, m) (fK (S[i]'hi)))) ∧ Below w.heap.size w w' := by
  obtain ⟨b, off, rfl, c0, hv⟩ := hR.at hi
  obtain ⟨x, r, hx⟩ := hv.first (by have := hS _ (List.getElem_mem hi); omega)
  have hfk : fK S[i] = x.1 := by unfold fK; rw [hx]
  rw [hx] at hv
  obtain ⟨v, hv1⟩ : ∃ v, S[i].1 = v := ⟨_, rfl⟩
  rw [hv1] at hv c0
  rw [hfk]
  obtain ⟨T, u, rfl⟩ := hv.iface
  obtain ⟨f, hme, hc, hf⟩ := hv.least
  obtain ⟨⟨q, z⟩, t⟩ := x
  obtain ⟨k0, k1, _⟩ := hk.two
  have b0 : w.cell? ⟨gb, 0, none⟩ = some (.pointer (some ⟨g, 0, none⟩)) := hb.cell rfl
  have HS : Hid (∀ W, Below w.heap.size w W → W.cell? ⟨gk, 0, none⟩ = some (.string ⟨p.toArray⟩) ∧ W.cell? ⟨gk, 1, none⟩ = some (.int .i64 m) ∧ W.cell? ⟨gb, 0, none⟩ = some (.pointer (some ⟨g, 0, none⟩)) ∧ W.cell? ⟨g, 0, none⟩ = some (.slice (some ⟨b, off, none⟩) S.length cap) ∧ W.cell? ⟨b, off + i, none⟩ = some (.iface T u)) :=
    Lib.hid (fun W hB => ⟨look_below hB k0, look_below hB k1, look_below hB b0, look_below hB hg, look_below hB c0⟩)
  have KF := Lib.hid hf
  have KL := Lib.hid (fun W => kLess_calls p q m z W)
  have hbr : Below w.heap.size w w.drew := drew_below _
  unfold Enters at hc
  clear hf hv hv1 hfk hx hR hk hb hS k0 k1 b0 hg c0
  dsimp only
  go_enter Tryz.func95, Tryz.ntmps95
  go_wp2_with fail
  go_region_held3 (fun w' => w'.cell? ⟨gk, 0, none⟩ = some (.string ⟨p.toArray⟩) ∧ w'.cell? ⟨gk, 1, none⟩ = some (.int .i64 m) ∧ w'.cell? ⟨gb, 0, none⟩ = some (.pointer (some ⟨g, 0, none⟩)) ∧ w'.cell? ⟨g, 0, none⟩ = some (.slice (some ⟨b, off, none⟩) S.length cap) ∧ w'.cell? ⟨b, off + i, none⟩ = some (.iface T u)) (first | exact HS.out _ hbr) (first | (go_at_call 93; ((with_reducible refine (KL.out _).mono ?_); rintro e w2 ⟨rfl, hB2⟩; have hbr := below2 hbr hB2)) | ((with_reducible refine (KF.out _ hbr).mono ?_); rintro e w1 ⟨rfl, hB1⟩; have hbr := below2 hbr hB1))
  go_wp2_with fail
  go_ret
  exact ⟨rfl, hbr⟩

/-- What Search finds: a place at whose left it does not hold, and at whose right it does. -/
def Found (L : Nat) (F : Nat → Bool) (n : Nat) : Prop := n ≤ L ∧ (∀ k, n = k + 1 → F k = false) ∧ (n < L → F n = true)

set_option maxHeartbeats 2000000 in
theorem search_calls (L : Nat) (F : Nat → Bool) (a1 a2 : Value) (w : World) (hL : L ≤ 100000)
    (hf : ∀ W, Below w.heap.size w W → ∀ i, i < L → Calls Tryz.prog 95 #[.int .i64 i, a1, a2] W fun e w' => e = .returned (.bool (F i)) ∧ Below W.heap.size W w') :
    Calls Tryz.prog 94 #[.int .i64 L, .func (.func 95) #[] #[a1, a2]] w fun e w' => (∃ n : Nat, e = .returned (.int .i64 n) ∧ Found L F n) ∧ Below w.heap.size w w' := by
  have HF := Lib.hid hf
  clear hf
  go_enter Tryz.func94, Tryz.ntmps94
  go_wp2_with fail
  go_loopw [5, 6] (fun i j wr => ∃ a b : Nat, i = .int .i64 a ∧ j = .int .i64 b ∧ a ≤ b ∧ b ≤ L ∧ (∀ k, a = k + 1 → F k = false) ∧ (b < L → F b = true) ∧ Below w.heap.size w wr) (fun i j _ => (intOf j).toNat - (intOf i).toNat)
  case atStart => exact ⟨0, L, rfl, rfl, Nat.zero_le _, Nat.le_refl _, fun k h => by omega, fun h => by omega, Below.refl _ _⟩
  case round =>
    obtain ⟨a, b, rfl, rfl, hab, hbL, h1, h2, hB⟩ := hrel
    by_cases hlt : a < b
    · obtain ⟨c, hc, hac, hcb⟩ : ∃ c : Nat, ((a : Int) + (b : Int)) / 2 = (c : Int) ∧ a ≤ c ∧ c < b := ⟨(a + b) / 2, by omega, by omega, by omega⟩
      have KC := HF.out wr hB c (by omega)
      cases hFc : F c with
      | true =>
        rw [hFc] at KC
        have K := Lib.hid KC
        have HC := Lib.hid hFc
        have H1 := Lib.hid (And.intro h1 h2)
        clear KC hFc h1 h2
        go_wp2_with fail
        refine K.out.mono ?_
        rintro e w1 ⟨rfl, hB1⟩
        go_wp2_with fail
        go_roundw
        case rel => exact ⟨a, c, rfl, rfl, hac, by omega, H1.out.1, fun _ => HC.out, below2 hB hB1⟩
        case measure => simp [intOf]; omega
      | false =>
        rw [hFc] at KC
        have K := Lib.hid KC
        have HC := Lib.hid hFc
        have H1 := Lib.hid (And.intro h1 h2)
        clear KC hFc h1 h2
        go_wp2_with fail
        refine K.out.mono ?_
        rintro e w1 ⟨rfl, hB1⟩
        go_wp2_with fail
        go_roundw
        case rel =>
          refine ⟨c + 1, b, by go_num, rfl, by omega, hbL, fun k hk => ?_, H1.out.2, below2 hB hB1⟩
          obtain rfl : c = k := by omega
          exact HC.out
        case measure => simp [intOf]; omega
    · obtain rfl : a = b := by omega
      have H1 := Lib.hid (And.intro h1 h2)
      clear h1 h2
      go_wp2_with fail
      go_ret
      exact ⟨⟨a, rfl, hbL, H1.out.1, H1.out.2⟩, hB⟩


set_option maxHeartbeats 2000000 in
theorem place_br_calls (d : Nat) (S : List Ch) (p : List UInt8) (m : Int) (g : Nat) (ao : Option Addr) (cap : Nat) (w : World)
    (hg : w.cell? ⟨g, 0, none⟩ = some (.slice ao S.length cap)) (hR : VRow d w (.slice ao S.length cap) S) (hS : Wide S) (h2 : 2 ≤ S.length) (hm : S.length ≤ 100000) :
    Calls Tryz.prog 60 #[.pointer (some ⟨g, 0, none⟩), .agg #[.string ⟨p.toArray⟩, .int .i64 m]] w fun e w' => (∃ n i : Nat, e = .returned (.int .i64 i) ∧ Found S.length (fun j => lessK (p, m) ((S[j]?.map fK).getD ([], 0))) n ∧ i = n - 1) ∧ Below w.heap.size w w' := by
  have hB0 := below_alloc2 w (.cells #[.pointer (some ⟨g, 0, none⟩)] 119) (.cells #[.string ⟨p.toArray⟩, .int .i64 m] 65)
  have hb0 : Cx ((w.alloc (.cells #[.pointer (some ⟨g, 0, none⟩)] 119)).alloc (.cells #[.string ⟨p.toArray⟩, .int .i64 m] 65)) w.heap.size 119 [.pointer (some ⟨g, 0, none⟩)] :=
    (Cx.new w 119 [.pointer (some ⟨g, 0, none⟩)]).below (below_alloc _ _)
  have hk0 := kbox_new (w.alloc (.cells #[.pointer (some ⟨g, 0, none⟩)] 119)) p m
  have K := Lib.hid (search_calls S.length (fun j => lessK (p, m) ((S[j]?.map fK).getD ([], 0))) (.pointer (some ⟨w.heap.size + 1, 0, none⟩)) (.pointer (some ⟨w.heap.size, 0, none⟩)) _ hm (fun W hB i hi => by
    have := place1_calls d S p m (w.heap.size + 1) w.heap.size g ao cap i W (by rw [World.size_alloc] at hk0; exact hk0.below hB) (hb0.below hB) (look_below (below2 hB0 hB) hg) (hR.below (below2 hB0 hB)) hS hi
    rw [List.getElem?_eq_getElem hi]
    exact this))
  have hl : g < w.heap.size := World.block_lt_of_cell? w _ hg
  go_enter Tryz.func60, Tryz.ntmps60
  go_wp2_with fail
  refine K.out.mono ?_
  rintro e w1 ⟨⟨n, rfl, hn⟩, hB1⟩
  have HN := Lib.hid hn
  have hn1 := hn.1
  clear hn
  by_cases h0 : n = 0
  · subst h0
    go_wp2_with fail
    go_ret
    exact ⟨⟨0, 0, rfl, HN.out, rfl⟩, below2 hB0 hB1⟩
  · obtain ⟨i, rfl⟩ : ∃ i, n = i + 1 := ⟨n - 1, by omega⟩
    have hmx : max (0 : Int) (i : Int) = (i : Int) := by omega
    go_wp2_with fail

    go_ret
    exact ⟨⟨i + 1, i, rfl, HN.out, rfl⟩, below2 hB0 hB1⟩

end Go.Proofs.YtaaabmnaindgaaaGreatDoor

/-
  Which vertex of a row a key belongs to: what stands in those ahead of it, and behind it.
-/
namespace Go.Proofs.YtaaabmnaindgaaaGreatDoor
set_option maxRecDepth 100000
open Go.RowKit

/-- The i-th vertex is the key's. -/
def Spot (S : List Ch) (k : Ky) (i : Nat) : Prop := i < S.length ∧ (∀ x ∈ allC (S.take i), lessK x.1 k = true) ∧ ∀ x ∈ allC (S.drop (i + 1)), lessK k x.1 = true
theorem drop_first {S : List Ch} (hr : Rises (allC S)) {j : Nat} (hj : j < S.length) (hne : S[j].2.1 ≠ []) : (∀ x ∈ allC (S.take j), lessK x.1 (fK S[j]) = true) ∧ ∀ x ∈ allC (S.drop j), x.1 = fK S[j] ∨ lessK (fK S[j]) x.1 = true := by
  have e := allC_parts hj
  cases h : S[j].2.1 with
  | nil => exact absurd h hne
  | cons y r =>
    have hf : fK S[j] = y.1 := by unfold fK; rw [h]
    have e2 : allC (S.drop j) = y :: (r ++ allC (S.drop (j + 1))) := by
      rw [← List.getElem_cons_drop hj, allC_cons, h]
      rfl
    rw [h] at e
    rw [e] at hr
    obtain ⟨h1, h2, h3⟩ := List.pairwise_append.1 hr
    rw [hf]
    refine ⟨fun x hx => h3 x hx y (by simp), fun x hx => ?_⟩
    rw [e2] at hx
    rcases List.mem_cons.1 hx with rfl | hx
    · exact .inl rfl
    · exact .inr ((List.pairwise_cons.1 h2).1 x hx)
theorem found_spot {S : List Ch} {k : Ky} {n : Nat} (hr : Rises (allC S)) (hne : ∀ c ∈ S, c.2.1 ≠ []) (h0 : 1 ≤ S.length) (h : Found S.length (fun j => lessK k ((S[j]?.map fK).getD ([], 0))) n) : Spot S k (n - 1) := by
  obtain ⟨hn, h1, h2⟩ := h
  dsimp only at h1 h2
  cases n with
  | zero =>
    have hk := h2 (by omega)
    rw [List.getElem?_eq_getElem (by omega)] at hk
    refine ⟨by omega, by simp [allC], fun x hx => ?_⟩
    obtain ⟨_, h4⟩ := drop_first hr (j := 0) (by omega) (hne _ (List.getElem_mem _))
    rcases h4 x (by
      rw [← List.getElem_cons_drop (show 0 < S.length by omega), allC_cons]
      exact List.mem_append_right _ hx) with e | e
    · rw [e]
      exact hk
    · exact lessK_trans hk e
  | succ i =>
    have hi := h1 i rfl
    rw [List.getElem?_eq_getElem (by omega)] at hi
    simp only [Nat.add_sub_cancel]
    refine ⟨by omega, fun x hx => ?_, fun x hx => ?_⟩
    · obtain ⟨h3, _⟩ := drop_first hr (j := i) (by omega) (hne _ (List.getElem_mem _))
      have := h3 x hx
      by_cases e : k = fK S[i]
      · rw [e]
        exact this
      · exact lessK_trans this (lessK_total hi e)
    · by_cases hl : i + 1 < S.length
      · have hk := h2 hl
        rw [List.getElem?_eq_getElem hl] at hk
        obtain ⟨_, h4⟩ := drop_first hr hl (hne _ (List.getElem_mem _))
        rcases h4 x hx with e | e
        · rw [e]
          exact hk
        · exact lessK_trans hk e
      · rw [List.drop_eq_nil_of_le (by omega)] at hx
        simp [allC] at hx
theorem spot_calls (d : Nat) (S : List Ch) (p : List UInt8) (m : Int) (g : Nat) (ao : Option Addr) (cap : Nat) (w : World)
    (hg : w.cell? ⟨g, 0, none⟩ = some (.slice ao S.length cap)) (hR : VRow d w (.slice ao S.length cap) S) (hS : Wide S) (h2 : 2 ≤ S.length) (hm : S.length ≤ 100000) (hr : Rises (allC S)) :
    Calls Tryz.prog 60 #[.pointer (some ⟨g, 0, none⟩), .agg #[.string ⟨p.toArray⟩, .int .i64 m]] w fun e w' => (∃ i : Nat, e = .returned (.int .i64 i) ∧ Spot S (p, m) i) ∧ Below w.heap.size w w' := by
  refine (place_br_calls d S p m g ao cap w hg hR hS h2 hm).mono ?_
  rintro e w' ⟨⟨n, i, rfl, hF, rfl⟩, hB⟩
  refine ⟨⟨_, rfl, found_spot hr (fun c hc => ?_) (by omega) hF⟩, hB⟩
  obtain ⟨x, r, h⟩ := (hR.2 c hc).first (by have := hS c hc; omega)
  rw [h]
  simp
/-- All pairs, parted at a spot. -/
theorem Spot.parts {S : List Ch} {k : Ky} {i : Nat} (h : Spot S k i) : allC S = allC (S.take i) ++ ((S[i]'h.1).2.1 ++ allC (S.drop (i + 1))) := allC_parts h.1

end Go.Proofs.YtaaabmnaindgaaaGreatDoor

/-
  tree: what the type switches tell.
-/
namespace Go.Proofs.YtaaabmnaindgaaaGreatDoor
set_option maxRecDepth 100000
open Go.RowKit

theorem asLeaf (u : Value) (W : World) : (Instr.typeAssert (.iface 117 u) 76 117 true).run Tryz.prog W = .ok (.tuple #[u, .bool true]) W := by kernel_rfl
theorem asLeafNot (u : Value) (W : World) : (Instr.typeAssert (.iface 119 u) 76 117 true).run Tryz.prog W = .ok (.tuple #[.slice none 0 0, .bool false]) W := by kernel_rfl
theorem asBranch (u : Value) (W : World) : (Instr.typeAssert (.iface 119 u) 76 119 true).run Tryz.prog W = .ok (.tuple #[u, .bool true]) W := by kernel_rfl
theorem asLeaf1 (u : Value) (W : World) : (Instr.typeAssert (.iface 117 u) 76 117 false).run Tryz.prog W = .ok u W := by kernel_rfl
theorem asBranch1 (u : Value) (W : World) : (Instr.typeAssert (.iface 119 u) 76 119 false).run Tryz.prog W = .ok u W := by kernel_rfl

end Go.Proofs.YtaaabmnaindgaaaGreatDoor

/-
  tree: gather.
-/
namespace Go.Proofs.YtaaabmnaindgaaaGreatDoor
set_option maxRecDepth 100000
open Go.RowKit

theorem KBox.keep {w w' : World} {g : Nat} {k : Ky} (h : KBox w g k) (hk : KeepN w w') : KBox w' g k := by
  unfold KBox at h ⊢
  exact Cx.keep h hk (by decide)

set_option maxHeartbeats 8000000 in
set_option maxRecDepth 100000 in
theorem gather_leaf (p : List UInt8) (m : Int) (N : Nat) (v a : Value) (l A : List Pr) (w0 w : World) (hp : Prs w0 v l) (hB : Below w0.heap.size w0 w) (ho : OwnP w w0.heap.size a A) (hA : A.length ≤ N) (hN : N ≤ 100000) (hm : l.length ≤ 100000) :
    Calls Tryz.prog 32 #[a, .iface 117 v, .agg #[.string ⟨p.toArray⟩, .int .i64 m], .int .i64 N] w fun e w' => ∃ u, e = .returned u ∧ OwnP w' w0.heap.size u (A ++ (tailL l (p, m)).take (N - A.length)) ∧ Below w0.heap.size w0 w' ∧ KeepN w w' := by
  obtain ⟨ao, cap, rfl⟩ := hp.form
  obtain ⟨aa, ca, rfl⟩ := ho.form
  have hB0 := below_alloc w (.cells #[.string ⟨p.toArray⟩, .int .i64 m] 65)
  obtain ⟨k0, k1, _⟩ := (kbox_new w p m).two
  have KF := Lib.hid (find_calls _ l p m _ ((hp.below hB).below hB0) (by omega))
  have hil := placeN_le l (p, m)
  obtain ⟨i, hi⟩ : ∃ i, placeN l (p, m) = i := ⟨_, rfl⟩
  obtain ⟨t, ht⟩ : ∃ t, A.length = t := ⟨_, rfl⟩
  obtain ⟨n, hn⟩ : ∃ n, l.length = n := ⟨_, rfl⟩
  have hTL : tailL l (p, m) = l.drop i := by unfold tailL; rw [hi]
  obtain ⟨r, hr⟩ : ∃ r, min n (i + N - t) = r := ⟨_, rfl⟩
  obtain ⟨q, hq⟩ : ∃ q, i + q = r := ⟨r - i, by omega⟩
  rw [hi] at hil KF
  rw [hn] at hp hil hm KF ⊢
  rw [ht] at hA ho ⊢
  obtain ⟨a1, c1, hr1, hp1⟩ := leaf_range hp i r q (by omega) hq
  have htk : (l.drop i).take q = (tailL l (p, m)).take (N - t) := by
    rw [hTL]
    rcases Nat.lt_or_ge (N - t) (n - i) with h | h
    · congr 1
      omega
    · rw [List.take_of_length_le (by rw [List.length_drop]; omega), List.take_of_length_le (by rw [List.length_drop]; omega)]
  rw [htk] at hp1
  have hmin : min (n : Int) ((i : Int) + (N : Int) - (t : Int)) = (r : Int) := by omega
  have HP := Lib.hid (And.intro hp1 ho)
  obtain ⟨U, hU⟩ : ∃ U, A ++ (tailL l (p, m)).take (N - t) = U := ⟨_, rfl⟩
  have hq2 : q = ((tailL l (p, m)).take (N - t)).length := hp1.len.symm
  have HU := Lib.hid (And.intro hU (show U.length = t + q by rw [← hU, List.length_append, ht, ← hq2]))
  rw [hU]
  have hb1 : t + q ≤ 1000000 := by omega
  have ha := asLeaf (.slice ao n cap)
  clear hp1 ho hp htk hTL hi ht hn hr hU hq2
  go_enter Tryz.func32, Tryz.ntmps32
  go_wp2_with fail
  refine KF.out.mono ?_
  rintro e w1 ⟨rfl, hB1⟩
  have hB2 := below2 hB0 hB1
  go_wp2_with (at_builtin; refine wpList_append_keep rfl _ _ 22 117 Tryz.underlying22 leaf_slice2 rfl w0.heap.size _ A rfl (HP.out.2.stays hB2) _ q _ _ rfl (HP.out.1.below (below2 hB hB2)) U HU.out.1 (t + q) HU.out.2 hb1 w0 (below2 hB hB2) (Nat.le_refl _) ?_; intro a3 c3 w3 ho3 hB3 hk3 _)
  go_ret
  obtain ⟨e1, e2⟩ := HU.out
  exact ⟨_, rfl, ho3, hB3, (KeepN.below hB2).trans hk3⟩

/-- What is gathered of the first k vertices. -/
def gatherTo (S : List Ch) (k : Ky) (A : List Pr) (N i : Nat) : List Pr := A ++ (tailL (allC (S.take i)) k).take (N - A.length)
theorem gatherTo_start {S : List Ch} {k : Ky} {i : Nat} (h : Spot S k i) (A : List Pr) (N : Nat) : gatherTo S k A N i = A := by
  unfold gatherTo
  rw [tail_full h.2.1]
  simp
theorem gatherTo_le {S : List Ch} {k : Ky} {A : List Pr} {N : Nat} (hA : A.length ≤ N) (i : Nat) : (gatherTo S k A N i).length ≤ N := gather_le _ _ hA
theorem gatherTo_succ {S : List Ch} {k : Ky} {A : List Pr} {N i : Nat} (hr : Rises (allC S)) (hi : i < S.length) : gatherTo S k A N i ++ (tailL S[i].2.1 k).take (N - (gatherTo S k A N i).length) = gatherTo S k A N (i + 1) := by
  have h1 : Rises (allC (S.take i) ++ S[i].2.1) := by
    rw [← allC_succ hi]
    rw [← List.take_append_drop (i + 1) S, allC_append] at hr
    exact hr.sublist (List.sublist_append_left _ _)
  unfold gatherTo
  rw [gather_more, allC_succ hi, tail_append h1]
theorem gatherTo_end (S : List Ch) (k : Ky) (A : List Pr) (N : Nat) : gatherTo S k A N S.length = A ++ (tailL (allC S) k).take (N - A.length) := by
  unfold gatherTo
  rw [List.take_length]
theorem gatherTo_full {S : List Ch} {k : Ky} {A : List Pr} {N i : Nat} (hr : Rises (allC S)) (hA : A.length ≤ N) (h : N ≤ (gatherTo S k A N i).length) : gatherTo S k A N i = A ++ (tailL (allC S) k).take (N - A.length) := by
  have e : allC S = allC (S.take i) ++ allC (S.drop i) := by rw [← allC_append, List.take_append_drop]
  rw [e] at hr ⊢
  rw [tail_append hr]
  exact gather_full h hA _

set_option maxHeartbeats 8000000 in
set_option maxRecDepth 100000 in
theorem gather_calls (p : List UInt8) (m : Int) (N : Nat) (hN : N ≤ 100000) : ∀ (d : Nat) (v a : Value) (l A : List Pr) (n : Nat) (w0 w : World), Vx d w0 v l n → Rises l → Below w0.heap.size w0 w → OwnP w w0.heap.size a A → A.length ≤ N → l.length ≤ 100000 →
    Calls Tryz.prog 32 #[a, v, .agg #[.string ⟨p.toArray⟩, .int .i64 m], .int .i64 N] w fun e w' => ∃ u, e = .returned u ∧ OwnP w' w0.heap.size u (A ++ (tailL l (p, m)).take (N - A.length)) ∧ Below w0.heap.size w0 w' ∧ KeepN w w'
  | 0, v, a, l, A, n, w0, w, ⟨_, u, hv, hp⟩, hr, hB, ho, hA, hm => by
    subst hv
    exact gather_leaf p m N u a l A w0 w hp hB ho hA hN hm
  | d + 1, v, a, l, A, n, w0, w, hV, hr, hB, ho, hA, hm => by
    obtain ⟨g, ao, cap, S, x0, rfl, rfl, h2, rfl, _, c0, _, _, _, hR, hS⟩ := hV.open
    have hcn := hR.count hS
    have ha := asLeafNot (.pointer (some ⟨g, 0, none⟩))
    have hb := asBranch (.pointer (some ⟨g, 0, none⟩))
    have hB0 := below_alloc w (.cells #[.string ⟨p.toArray⟩, .int .i64 m] 65)
    have hkb := kbox_new w p m
    obtain ⟨k0, k1, _⟩ := hkb.two
    obtain ⟨b, off, rfl, hcs⟩ := hR.vals h2
    obtain ⟨F, hF⟩ : ∃ F : Nat → Value, ∀ k (h : k < S.length), S[k].1 = F k := ⟨fun k => (S[k]?.map (·.1)).getD undef, fun k h => by simp [List.getElem?_eq_getElem h]⟩
    have hcs' : ∀ k, k < S.length → w0.cell? ⟨b, off + k, none⟩ = some (F k) := fun k h => by rw [hcs k h, hF k h]
    have KP := Lib.hid (fun W (hB : Below w0.heap.size w0 W) => spot_calls d S p m g (some ⟨b, off, none⟩) cap W (look_below hB c0) (hR.below hB) hS h2 (by omega) hr)
    have KE : Hid (∀ i (hi : i < S.length) W u, Below w0.heap.size w0 W → OwnP W w0.heap.size u (gatherTo S (p, m) A N i) → Calls Tryz.prog 32 #[u, F i, .agg #[.string ⟨p.toArray⟩, .int .i64 m], .int .i64 N] W fun e w' => ∃ u', e = .returned u' ∧ OwnP w' w0.heap.size u' (gatherTo S (p, m) A N (i + 1)) ∧ Below w0.heap.size w0 w' ∧ KeepN W w') :=
      Lib.hid (fun i hi W u hB hu => by
        have hp := allC_parts hi
        rw [← hF i hi, ← gatherTo_succ hr hi]
        exact gather_calls p m N hN d _ u _ _ _ w0 W (hR.2 _ (List.getElem_mem hi)) (by
          rw [hp] at hr
          exact (hr.sublist (List.sublist_append_right _ _)).sublist (List.sublist_append_left _ _)) hB hu (gatherTo_le hA i) (by have := allC_mem_le (List.getElem_mem hi); omega))
    have HS : Hid (∀ W, Below w0.heap.size w0 W → KBox W w.heap.size (p, m) → W.cell? ⟨w.heap.size, 0, none⟩ = some (.string ⟨p.toArray⟩) ∧ W.cell? ⟨w.heap.size, 1, none⟩ = some (.int .i64 m) ∧ W.cell? ⟨g, 0, none⟩ = some (.slice (some ⟨b, off, none⟩) S.length cap) ∧ ∀ k, k < S.length → W.cell? ⟨b, off + k, none⟩ = some (F k)) :=
      Lib.hid (fun W hB hk => ⟨hk.two.1, hk.two.2.1, look_below hB c0, fun k h => look_below hB (hcs' k h)⟩)
    have HG := Lib.hid (And.intro hr hA)
    have HB := Lib.hid (And.intro hB ho)
    have HK := Lib.hid hkb
    obtain ⟨aa, ca, rfl⟩ := ho.form
    obtain ⟨t, ht⟩ : ∃ t, A.length = t := ⟨_, rfl⟩
    have HT := Lib.hid ht
    rw [ht] at HB hA ⊢
    have hsm : S.length ≤ 100000 := by omega
    obtain ⟨s, hs⟩ : ∃ s, S.length = s := ⟨_, rfl⟩
    have HSL := Lib.hid hs
    have c0' := look_below hB c0
    rw [hs] at HS c0' hsm
    clear hcs hcs' hF hR hS hr hV c0 hm hcn h2 hA hkb hB ho ht hs
    go_enter Tryz.func32, Tryz.ntmps32
    go_wp2_with fail
    refine (KP.out _ (below2 HB.out.1 hB0)).mono ?_
    rintro e w1 ⟨⟨i0, rfl, hi⟩, hB1⟩
    have hi0 := hi.1
    have HI := Lib.hid hi
    clear hi
    go_wp2_with fail
    go_loopw [0, 13] (fun lv i wr => ∃ k : Nat, i = .int .i64 k ∧ k ≤ s ∧ (∃ ao n cap, lv = .slice ao n cap ∧ OwnP wr w0.heap.size (.slice ao n cap) (gatherTo S (p, m) A N k)) ∧ Below w0.heap.size w0 wr ∧ KeepN w wr ∧ KBox wr w.heap.size (p, m)) (fun _ i _ => s - (intOf i).toNat)
    case atStart =>
      have h1 := below2 hB0 hB1
      refine ⟨i0, rfl, by rw [← HSL.out]; omega, ⟨aa, t, ca, rfl, ?_⟩, below2 HB.out.1 h1, KeepN.below h1, HK.out.below hB1⟩
      rw [gatherTo_start HI.out]
      exact HB.out.2.stays h1
    case round =>
      obtain ⟨k, rfl, hk, ⟨al, nl, cl, rfl, hol⟩, hBl, hkl, hkb⟩ := hrel
      have hln := hol.prs.len
      have hle := gatherTo_le (S := S) (k := (p, m)) (A := A) (N := N) HG.out.2 k
      rw [hln] at hle
      obtain ⟨k0r, k1r, cgr, _⟩ := HS.out wr hBl hkb
      by_cases hlt : k < s
      · by_cases hlN : nl < N
        · have hks : k < S.length := by rw [HSL.out]; exact hlt
          have KE1 := Lib.hid (fun W u => KE.out k hks W u)
          have HO := Lib.hid (hol.stays (drew_below wr))
          have HB2 := Lib.hid (And.intro hBl hkl)
          have hbr : Below w0.heap.size w0 wr.drew := hBl.drew
          have hkr : KBox wr.drew w.heap.size (p, m) := hkb.below (drew_below _)
          clear hol hBl hkl hkb hln hle hks
          go_wp2_with fail
          go_region_held3 (fun w' => w'.cell? ⟨w.heap.size, 0, none⟩ = some (.string ⟨p.toArray⟩) ∧ w'.cell? ⟨w.heap.size, 1, none⟩ = some (.int .i64 m) ∧ w'.cell? ⟨g, 0, none⟩ = some (.slice (some ⟨b, off, none⟩) s cap) ∧ ∀ k, k < s → w'.cell? ⟨b, off + k, none⟩ = some (F k)) (first | exact HS.out _ hbr hkr) (first
            | ((with_reducible refine (KE1.out _ _ hbr HO.out).mono ?_); rintro e w2 ⟨u2, rfl, hu2, hB2, hk2⟩; have hbr := hB2; have hkr := hkr.keep hk2; have HU := Lib.hid (And.intro hu2 hk2); clear hu2 hk2; obtain ⟨a2, n2, c2, rfl⟩ := HU.out.1.prs.any))
          go_wp2_with fail
          go_roundw
          case rel => exact ⟨k + 1, by go_num, by omega, ⟨a2, n2, c2, rfl, HU.out.1⟩, hbr, (HB2.out.2.trans (KeepN.below (drew_below _))).trans HU.out.2, hkr⟩
          case measure => simp [intOf]; omega
        · have HO := Lib.hid (And.intro hol (And.intro hBl hkl))
          have hNl : N ≤ nl := by omega
          have HE := Lib.hid (show gatherTo S (p, m) A N k = A ++ (tailL (allC S) (p, m)).take (N - t) by
            rw [← HT.out]
            exact gatherTo_full HG.out.1 HG.out.2 (by omega))
          clear hol hBl hkl hkb hln
          go_wp2_with fail
          go_ret
          exact ⟨_, rfl, by rw [← HE.out]; exact HO.out.1, HO.out.2.1, HO.out.2.2⟩
      · obtain rfl : s = k := by omega
        have HO := Lib.hid (And.intro hol (And.intro hBl hkl))
        have HE := Lib.hid (show gatherTo S (p, m) A N s = A ++ (tailL (allC S) (p, m)).take (N - t) by
          rw [← HT.out, ← HSL.out]
          exact gatherTo_end S (p, m) A N)
        clear hol hBl hkl hkb hln hle
        go_wp2_with fail
        go_ret
        exact ⟨_, rfl, by rw [← HE.out]; exact HO.out.1, HO.out.2.1, HO.out.2.2⟩

end Go.Proofs.YtaaabmnaindgaaaGreatDoor

/-
  tree: From, All.
-/
namespace Go.Proofs.YtaaabmnaindgaaaGreatDoor
set_option maxRecDepth 100000
open Go.RowKit

/-- What From tells. -/
def fromL (l : List Pr) (k : Ky) (n : Int) : List Pr := (tailL l k).take n.toNat
theorem fromL_min (l : List Pr) (k : Ky) (n : Int) (N : Nat) (h : max 0 (min n (l.length : Int)) = (N : Int)) : (tailL l k).take N = fromL l k n := by
  unfold fromL
  have hl : (tailL l k).length ≤ l.length := by unfold tailL; rw [List.length_drop]; omega
  by_cases hn : n.toNat ≤ l.length
  · have e : N = n.toNat := by omega
    rw [e]
  · rw [List.take_of_length_le (by omega), List.take_of_length_le (by omega)]
/-- The root is one and the same, whenever it is asked for. -/
theorem top_fixed {w : World} {v : Value} {l : List Pr} (ht : TreeV w v l) : ∃ T x d n, Vx d w (.iface T x) l n ∧ ∀ W, Below w.heap.size w W → Calls Tryz.prog 33 #[v] W fun e w' => e = .returned (.iface T x) ∧ w' = W := by
  obtain ⟨hr, ⟨rfl, rfl⟩ | ⟨g, u, rfl, hc, ⟨rfl, rfl⟩ | ⟨d, n, hu⟩⟩⟩ := ht
  · refine ⟨_, _, 0, 0, leaf_nil w, fun W hB => ?_⟩
    go_enter Tryz.func33, Tryz.ntmps33
    go_wp2_with fail
    go_ret
    exact ⟨rfl, rfl⟩
  · refine ⟨_, _, 0, 0, leaf_nil w, fun W hB => ?_⟩
    have hc' := look_below hB hc
    go_enter Tryz.func33, Tryz.ntmps33
    go_wp2_with fail
    go_ret
    exact ⟨rfl, rfl⟩
  · obtain ⟨T, u, rfl⟩ := hu.iface
    refine ⟨_, _, d, n, hu, fun W hB => ?_⟩
    have hc' := look_below hB hc
    have he := top_eqTo T u
    go_enter Tryz.func33, Tryz.ntmps33
    go_wp2_with fail
    go_ret
    exact ⟨rfl, rfl⟩

set_option maxHeartbeats 4000000 in
set_option maxRecDepth 100000 in
theorem from_calls (v : Value) (l : List Pr) (p : List UInt8) (m n : Int) (w : World) (ht : TreeV w v l) (hm : l.length ≤ 100000) :
    Calls Tryz.prog 106 #[v, .agg #[.string ⟨p.toArray⟩, .int .i64 m], .int .i64 n] w fun e w' => ∃ u, e = .returned u ∧ OwnP w' w.heap.size u (fromL l (p, m) n) ∧ Below w.heap.size w w' := by
  have hB0 := below_alloc w (.cells #[.string ⟨p.toArray⟩, .int .i64 m] 65)
  have hkb := kbox_new w p m
  obtain ⟨k0, k1, _⟩ := hkb.two
  obtain ⟨T, x, d, k, hv, hT⟩ := top_fixed ht
  have KT := Lib.hid hT
  have KN := Lib.hid (fun W (hB : Below w.heap.size w W) => tlen_calls v l W (ht.below hB))
  obtain ⟨q, hq⟩ : ∃ q, min n (l.length : Int) = q := ⟨_, rfl⟩
  obtain ⟨N, hN⟩ : ∃ N : Nat, max 0 q = (N : Int) := ⟨(max 0 q).toNat, by omega⟩
  have hNl : N ≤ 100000 := by omega
  have HF := Lib.hid (fromL_min l (p, m) n N (by rw [hq]; exact hN))
  have KG := Lib.hid (fun W (hB : Below w.heap.size w W) => gather_calls p m N hNl d _ (.slice none 0 0) l [] k w W hv ht.1 hB (OwnP.nil W _) (Nat.zero_le _) hm)
  obtain ⟨t, htl⟩ : ∃ t, l.length = t := ⟨_, rfl⟩
  rw [htl] at KN hq
  have HS : Hid (∀ W, KBox W w.heap.size (p, m) → W.cell? ⟨w.heap.size, 0, none⟩ = some (.string ⟨p.toArray⟩) ∧ W.cell? ⟨w.heap.size, 1, none⟩ = some (.int .i64 m)) :=
    Lib.hid (fun W hk => ⟨hk.two.1, hk.two.2.1⟩)
  have hbr : Below w.heap.size w (w.alloc (.cells #[.string ⟨p.toArray⟩, .int .i64 m] 65)).drew := hB0.drew
  have hkr : KBox (w.alloc (.cells #[.string ⟨p.toArray⟩, .int .i64 m] 65)).drew w.heap.size (p, m) := hkb.below (drew_below _)
  clear ht hkb k0 k1 hT hv htl hm
  go_enter Tryz.func106, Tryz.ntmps106
  go_wp2_with fail
  go_region_held3 (fun w' => w'.cell? ⟨w.heap.size, 0, none⟩ = some (.string ⟨p.toArray⟩) ∧ w'.cell? ⟨w.heap.size, 1, none⟩ = some (.int .i64 m)) (first | exact HS.out _ hkr) (first
    | ((with_reducible refine (KT.out _ hbr).mono ?_); rintro e w1 ⟨rfl, rfl⟩)
    | ((with_reducible refine (KN.out _ hbr).mono ?_); rintro e w2 ⟨rfl, rfl⟩)
    | ((with_reducible refine (KG.out _ hbr).mono ?_); rintro e w3 ⟨u3, rfl, ho3, hB3, hk3⟩; have hbr := hB3; have hkr := hkr.keep hk3; have HO := Lib.hid ho3; clear ho3; obtain ⟨a3, n3, c3, rfl⟩ := HO.out.prs.any))
  go_wp2_with fail
  go_ret
  refine ⟨_, rfl, ?_, hbr⟩
  rw [← HF.out]
  exact HO.out

end Go.Proofs.YtaaabmnaindgaaaGreatDoor

/-
  tree: All.
-/
namespace Go.Proofs.YtaaabmnaindgaaaGreatDoor
set_option maxRecDepth 100000
open Go.RowKit

/-- Times are numbers of the program's. -/
def Timed (l : List Pr) : Prop := ∀ x ∈ l, x.1.2 ≤ 9223372036854775807
theorem less_first {k : Ky} (h : k.2 ≤ 9223372036854775807) : lessK k ([], 9223372036854775807) = false := by
  unfold lessK cmpK
  rw [decide_eq_false_iff_not]
  obtain ⟨p, m⟩ := k
  dsimp only at h ⊢
  split
  · unfold Lib.compareInt
    repeat' split
    all_goals omega
  · cases p with
    | nil => simp [Lib.compareBytes]
    | cons x r => simp [Lib.compareBytes]
theorem tail_first {l : List Pr} (h : Timed l) : tailL l ([], 9223372036854775807) = l := by
  unfold tailL
  rw [placeN_zero fun x hx => less_first (h x hx)]
  rfl

set_option maxHeartbeats 4000000 in
set_option maxRecDepth 100000 in
theorem all_calls (v : Value) (l : List Pr) (w : World) (ht : TreeV w v l) (hm : l.length ≤ 100000) (hti : Timed l) :
    Calls Tryz.prog 10 #[v] w fun e w' => ∃ u, e = .returned u ∧ OwnP w' w.heap.size u l ∧ Below w.heap.size w w' := by
  have hB0 := below_alloc w (.cells #[.string ⟨#[]⟩, .int .i64 9223372036854775807] 65)
  have hkb : KBox (w.alloc (.cells #[.string ⟨#[]⟩, .int .i64 9223372036854775807] 65)) w.heap.size ([], 9223372036854775807) := kbox_new w [] 9223372036854775807
  obtain ⟨k0, k1, _⟩ := hkb.two
  obtain ⟨T, x, d, k, hv, hT⟩ := top_fixed ht
  have KT := Lib.hid hT
  have KN := Lib.hid (fun W (hB : Below w.heap.size w W) => tlen_calls v l W (ht.below hB))
  obtain ⟨t, htl⟩ : ∃ t, l.length = t := ⟨_, rfl⟩
  have HF := Lib.hid (show (tailL l ([], 9223372036854775807)).take (t - 0) = l by rw [tail_first hti, Nat.sub_zero, ← htl, List.take_length])
  have KG := Lib.hid (fun W a (hB : Below w.heap.size w W) (ha : OwnP W w.heap.size a []) => gather_calls [] 9223372036854775807 t (by omega) d _ a l [] k w W hv ht.1 hB ha (Nat.zero_le _) hm)
  rw [htl] at KN hm
  have hMK := make_pairs t (by omega)
  have HM := Lib.hid (fun W => made_own W t (by omega))
  have HS : Hid (∀ W, KBox W w.heap.size ([], 9223372036854775807) → W.cell? ⟨w.heap.size, 0, none⟩ = some (.string ⟨#[]⟩) ∧ W.cell? ⟨w.heap.size, 1, none⟩ = some (.int .i64 9223372036854775807)) :=
    Lib.hid (fun W hk => ⟨hk.two.1, hk.two.2.1⟩)
  have hbr : Below w.heap.size w (w.alloc (.cells #[.string ⟨#[]⟩, .int .i64 9223372036854775807] 65)).drew := hB0.drew
  have hkr : KBox (w.alloc (.cells #[.string ⟨#[]⟩, .int .i64 9223372036854775807] 65)).drew w.heap.size ([], 9223372036854775807) := hkb.below (drew_below _)
  have hW1 : Below w.heap.size w ((w.alloc (.cells #[.string ⟨#[]⟩, .int .i64 9223372036854775807] 65)).alloc (.cells (madeCells #[.string ⟨#[]⟩, .int .i64 0, .string ⟨#[]⟩] (t * 3)) 67)).drew := (hB0.alloc hB0.size _).drew
  have hkW : KBox ((w.alloc (.cells #[.string ⟨#[]⟩, .int .i64 9223372036854775807] 65)).alloc (.cells (madeCells #[.string ⟨#[]⟩, .int .i64 0, .string ⟨#[]⟩] (t * 3)) 67)).drew w.heap.size ([], 9223372036854775807) := hkb.below ((below_alloc _ _).drew)
  have hoW : Hid (OwnP ((w.alloc (.cells #[.string ⟨#[]⟩, .int .i64 9223372036854775807] 65)).alloc (.cells (madeCells #[.string ⟨#[]⟩, .int .i64 0, .string ⟨#[]⟩] (t * 3)) 67)).drew w.heap.size (.slice (some ⟨w.heap.size + 1, 0, none⟩) 0 t) []) := by
    have h := HM.out (w.alloc (.cells #[.string ⟨#[]⟩, .int .i64 9223372036854775807] 65))
    rw [World.size_alloc] at h
    exact Lib.hid ((h.weak (by omega)).stays (drew_below _))
  clear ht hkb k0 k1 hT hv htl
  go_enter Tryz.func10, Tryz.ntmps10
  go_wp2_with fail
  go_region_held3 (fun w' => w'.cell? ⟨w.heap.size, 0, none⟩ = some (.string ⟨#[]⟩) ∧ w'.cell? ⟨w.heap.size, 1, none⟩ = some (.int .i64 9223372036854775807)) (first | exact HS.out _ hkr | exact HS.out _ hkW) (first
    | ((with_reducible refine (KT.out _ (by first | exact hbr | exact hW1)).mono ?_); rintro e w1 ⟨rfl, rfl⟩)
    | ((with_reducible refine (KN.out _ (by first | exact hbr | exact hW1)).mono ?_); rintro e w2 ⟨rfl, rfl⟩)
    | ((with_reducible refine (KG.out _ _ hW1 hoW.out).mono ?_); rintro e w3 ⟨u3, rfl, ho3, hB3, hk3⟩; have hbr := hB3; have hkr := hkW.keep hk3; have HO := Lib.hid ho3; clear ho3; obtain ⟨a3, n3, c3, rfl⟩ := HO.out.prs.any))
  all_goals
    go_wp2_with fail
    go_ret
    refine ⟨_, rfl, ?_, hbr⟩
    have h := HO.out
    rw [List.nil_append, List.length_nil, HF.out] at h
    exact h

end Go.Proofs.YtaaabmnaindgaaaGreatDoor

/-
  slices.Grow of nil: rows of vertices, leaves.
-/
namespace Go.Proofs.YtaaabmnaindgaaaGreatDoor
set_option maxRecDepth 100000
open Go.RowKit

theorem infoV : (Tryz.prog.info? 76).map (fun i => (i.zero, i.size, i.bytes)) = some (some .nilIface, 1, 16) := by kernel_rfl


set_option maxHeartbeats 2000000 in
set_option maxRecDepth 100000 in
theorem growV_calls (n : Nat) (w : World) (hm : n ≤ 1000000) :
    Calls Tryz.prog 153 #[.slice none 0 0, .int .i64 n] w fun e w' => ∃ ao cap, e = .returned (.slice ao 0 cap) ∧ w'.ownsRow w.heap.size 76 1 (.slice ao 0 cap) 0 [] ∧ Below w.heap.size w w' := by
  obtain ⟨i0, hi, hz0, hz1, hz2⟩ := info_parts infoV
  by_cases h0 : n = 0
  · subst h0
    go_enter Tryz.func153, Tryz.ntmps153
    go_wp2_with fail
    go_ret
    exact ⟨none, 0, rfl, World.ownsRow_nil _ _ _ _, Below.refl _ _⟩
  · obtain ⟨cap, w1, hr, hc1, hc2, ho, hB⟩ := grow_nil w 121 76 i0 _ 1 16 Tryz.underlying121 int_under hi hz0 hz1 hz2 rfl (by decide) n (by omega) hm (by decide)
    have HO := Lib.hid ho
    have hp : (0 : Int) < (n : Int) := by omega
    unfold maxLen at hc2
    have hsl : ∀ W, (Instr.slice 121 (.slice (some ⟨w.heap.size, 0, none⟩) n cap) none (some (.int .i64 0)) none).run Tryz.prog W = .ok (.slice (some ⟨w.heap.size, 0, none⟩) 0 cap) W := fun W => by
      have := run_slice_h (P := Tryz.prog) W 121 (some ⟨w.heap.size, 0, none⟩) n cap row_slice .i64 0 (by omega) (by omega)
      simpa [row_elem, row_size, sliced, Result.andThen, Addr.add] using this
    clear ho
    go_enter Tryz.func153, Tryz.ntmps153
    go_wp2_with (at_builtin; refine Lib.wpList_append_run _ rfl _ _ _ _ rfl _ _ rfl rfl _ _ (hr _) ?_)
    go_ret
    exact ⟨_, cap, rfl, HO.out, hB⟩

set_option maxHeartbeats 2000000 in
set_option maxRecDepth 100000 in
theorem growL_calls (n : Nat) (w : World) (hm : n ≤ 1000000) :
    Calls Tryz.prog 168 #[.slice none 0 0, .int .i64 n] w fun e w' => ∃ ao cap, e = .returned (.slice ao 0 cap) ∧ w'.ownsRow w.heap.size 67 3 (.slice ao 0 cap) 0 [] ∧ Below w.heap.size w w' := by
  obtain ⟨i0, hi, hz0, hz1, hz2⟩ := info_parts infoP
  by_cases h0 : n = 0
  · subst h0
    go_enter Tryz.func168, Tryz.ntmps168
    go_wp2_with fail
    go_ret
    exact ⟨none, 0, rfl, World.ownsRow_nil _ _ _ _, Below.refl _ _⟩
  · obtain ⟨cap, w1, hr, hc1, hc2, ho, hB⟩ := grow_nil w 117 67 i0 _ 3 40 leaf_slice2 int_under hi hz0 hz1 hz2 rfl (by decide) n (by omega) hm (by decide)
    have HO := Lib.hid ho
    have hp : (0 : Int) < (n : Int) := by omega
    unfold maxLen at hc2
    have hsl : ∀ W, (Instr.slice 117 (.slice (some ⟨w.heap.size, 0, none⟩) n cap) none (some (.int .i64 0)) none).run Tryz.prog W = .ok (.slice (some ⟨w.heap.size, 0, none⟩) 0 cap) W := fun W => by
      have := run_slice_h (P := Tryz.prog) W 117 (some ⟨w.heap.size, 0, none⟩) n cap leaf_slice .i64 0 (by omega) (by omega)
      simpa [leaf_elem, pair_size, sliced, Result.andThen, Addr.add] using this
    clear ho
    go_enter Tryz.func168, Tryz.ntmps168
    go_wp2_with (at_builtin; refine Lib.wpList_append_run _ rfl _ _ _ _ rfl _ _ rfl rfl _ _ (hr _) ?_)
    go_ret
    exact ⟨_, cap, rfl, HO.out, hB⟩

end Go.Proofs.YtaaabmnaindgaaaGreatDoor

/-
  slices.Clone: rows of vertices, of pairs.
-/
namespace Go.Proofs.YtaaabmnaindgaaaGreatDoor
set_option maxRecDepth 100000
open Go.RowKit

set_option maxHeartbeats 2000000 in
set_option maxRecDepth 100000 in
theorem cloneV_raw (v : Value) (n : Nat) (cs : List Value) (w : World) (h : Rw w 1 v n cs) (h1 : ∀ u ∈ cs, u.oneCell' = true) (hm : n ≤ 1000000) :
    Calls Tryz.prog 134 #[v] w fun e w' => ∃ ao cap, e = .returned (.slice ao n cap) ∧ Rw w' 1 (.slice ao n cap) n cs ∧ Below w.heap.size w w' := by
  obtain ⟨i0, hi, hz0, hz1, hz2⟩ := info_parts infoV
  obtain ⟨ao, cap, rfl⟩ := h.form
  cases ao with
  | none =>
    have HO := Lib.hid h
    have heq : ∀ W, (binOp .eql 121 (.slice none n cap) (.slice none 0 0)).run Tryz.prog W = .ok (.bool true) W := fun W => Lib.run_eql_slice_nil W _ _ none n cap 0 0 Tryz.underlying121
    clear h
    go_enter Tryz.func134, Tryz.ntmps134
    go_wp2_with fail
    go_ret
    obtain ⟨hl, ao, c, he, hc, h0 | ⟨b, off, h, _⟩⟩ := HO.out
    · subst h0
      exact ⟨none, 0, rfl, ⟨hl, none, 0, rfl, Nat.le_refl _, .inl rfl⟩, Below.refl _ _⟩
    · cases he
      cases h
  | some ad =>
    have HO := Lib.hid h
    have H1 := Lib.hid h1
    have hB0 := below_alloc w (.cells #[] 76)
    have hown : (w.alloc (.cells #[] 76)).ownsRow w.heap.size 76 1 (.slice (some ⟨w.heap.size, 0, none⟩) 0 0) 0 [] := World.ownsRow_made w #[] 0 (Nat.le_refl _) (Nat.zero_le _) rfl
    have HW := Lib.hid hown
    have heq : ∀ W, (binOp .eql 121 (.slice (some ad) n cap) (.slice none 0 0)).run Tryz.prog W = .ok (.bool false) W := fun W => Lib.run_eql_slice_nil W _ _ (some ad) n cap 0 0 Tryz.underlying121
    clear h h1 hown
    go_enter Tryz.func134, Tryz.ntmps134
    go_wp2_with (at_builtin; refine wpList_append_rw rfl _ _ 121 rfl w.heap.size 76 i0 _ 1 16 Tryz.underlying121 hi hz0 hz1 hz2 rfl (by decide) _ 0 [] rfl HW.out (some ad) n cap cs rfl (HO.out.below hB0) H1.out n (Nat.zero_add _) (by unfold maxLen; omega) (by omega) hB0.size ?_; intro a3 c3 w3 hown3 hg3)
    have hB3 := hB0.grown hg3 hB0.size (fun j e => (HW.out.lt j e).1)
    go_ret
    exact ⟨a3, c3, rfl, Rw.own hown3, hB3⟩

set_option maxHeartbeats 2000000 in
set_option maxRecDepth 100000 in
theorem cloneP_raw (v : Value) (n : Nat) (cs : List Value) (w : World) (h : Rw w 3 v n cs) (h1 : ∀ u ∈ cs, u.oneCell' = true) (hm : n ≤ 1000000) :
    Calls Tryz.prog 133 #[v] w fun e w' => ∃ ao cap, e = .returned (.slice ao n cap) ∧ Rw w' 3 (.slice ao n cap) n cs ∧ Below w.heap.size w w' := by
  obtain ⟨i0, hi, hz0, hz1, hz2⟩ := info_parts infoP
  obtain ⟨ao, cap, rfl⟩ := h.form
  cases ao with
  | none =>
    have HO := Lib.hid h
    have heq : ∀ W, (binOp .eql 22 (.slice none n cap) (.slice none 0 0)).run Tryz.prog W = .ok (.bool true) W := fun W => Lib.run_eql_slice_nil W _ _ none n cap 0 0 Tryz.underlying22
    clear h
    go_enter Tryz.func133, Tryz.ntmps133
    go_wp2_with fail
    go_ret
    obtain ⟨hl, ao, c, he, hc, h0 | ⟨b, off, h, _⟩⟩ := HO.out
    · subst h0
      exact ⟨none, 0, rfl, ⟨hl, none, 0, rfl, Nat.le_refl _, .inl rfl⟩, Below.refl _ _⟩
    · cases he
      cases h
  | some ad =>
    have HO := Lib.hid h
    have H1 := Lib.hid h1
    have hB0 := below_alloc w (.cells #[] 67)
    have hown : (w.alloc (.cells #[] 67)).ownsRow w.heap.size 67 3 (.slice (some ⟨w.heap.size, 0, none⟩) 0 0) 0 [] := World.ownsRow_made w #[] 0 (Nat.le_refl _) (Nat.zero_le _) rfl
    have HW := Lib.hid hown
    have heq : ∀ W, (binOp .eql 22 (.slice (some ad) n cap) (.slice none 0 0)).run Tryz.prog W = .ok (.bool false) W := fun W => Lib.run_eql_slice_nil W _ _ (some ad) n cap 0 0 Tryz.underlying22
    clear h h1 hown
    go_enter Tryz.func133, Tryz.ntmps133
    go_wp2_with (at_builtin; refine wpList_append_rw rfl _ _ 22 rfl w.heap.size 67 i0 _ 3 40 Tryz.underlying22 hi hz0 hz1 hz2 rfl (by decide) _ 0 [] rfl HW.out (some ad) n cap cs rfl (HO.out.below hB0) H1.out n (Nat.zero_add _) (by unfold maxLen; omega) (by omega) hB0.size ?_; intro a3 c3 w3 hown3 hg3)
    have hB3 := hB0.grown hg3 hB0.size (fun j e => (HW.out.lt j e).1)
    go_ret
    exact ⟨a3, c3, rfl, Rw.own hown3, hB3⟩

theorem cloneP_calls (v : Value) (l : List Pr) (w : World) (h : Prs w v l) (hm : l.length ≤ 1000000) :
    Calls Tryz.prog 133 #[v] w fun e w' => ∃ u, e = .returned u ∧ Prs w' u l ∧ Below w.heap.size w w' := by
  refine (cloneP_raw v l.length (pcells l) w h (pcells_one l) hm).mono ?_
  rintro e w' ⟨ao, cap, rfl, hR, hB⟩
  exact ⟨_, rfl, hR, hB⟩
theorem Vx.oneCell {w : World} {d : Nat} {v : Value} {l : List Pr} {n : Nat} (h : Vx d w v l n) : v.oneCell' = true := by
  cases d with
  | zero =>
    obtain ⟨_, u, rfl, _⟩ := h
    rfl
  | succ d =>
    obtain ⟨_, _, _, _, rfl, _⟩ := h
    rfl
theorem VRow.ones {w : World} {d : Nat} {rv : Value} {S : List Ch} (h : VRow d w rv S) : ∀ u ∈ S.map (·.1), u.oneCell' = true := by
  intro u hu
  obtain ⟨c, hc, rfl⟩ := List.mem_map.1 hu
  exact (h.2 c hc).oneCell
theorem cloneV_calls (d : Nat) (v : Value) (S : List Ch) (w : World) (h : VRow d w v S) (hm : S.length ≤ 1000000) :
    Calls Tryz.prog 134 #[v] w fun e w' => ∃ u, e = .returned u ∧ VRow d w' u S ∧ Below w.heap.size w w' := by
  refine (cloneV_raw v S.length (S.map (·.1)) w h.1 h.ones hm).mono ?_
  rintro e w' ⟨ao, cap, rfl, hR, hB⟩
  exact ⟨_, rfl, ⟨hR, fun c hc => (h.2 c hc).below hB⟩, hB⟩

end Go.Proofs.YtaaabmnaindgaaaGreatDoor

/-
  slices.Concat: rows of vertices, leaves.
-/
namespace Go.Proofs.YtaaabmnaindgaaaGreatDoor
set_option maxRecDepth 100000
open Go.RowKit

set_option maxHeartbeats 4000000 in
set_option maxRecDepth 100000 in
theorem concatV_raw (v : Value) (R : List Rin) (w : World) (hs : RwsN w 1 v R) (h1 : ∀ x ∈ R, ∀ u ∈ x.2.2, u.oneCell' = true) (hn : R.length ≤ 1000) (hm : catN R ≤ 1000000) :
    Calls Tryz.prog 135 #[v] w fun e w' => ∃ ao cap, e = .returned (.slice ao (catN R) cap) ∧ Rw w' 1 (.slice ao (catN R) cap) (catN R) (catC R) ∧ Below w.heap.size w w' := by
  obtain ⟨i0, hi, hz0, hz1, hz2⟩ := info_parts infoV
  obtain ⟨av, cv, rfl⟩ := hs.form
  have HS := Lib.hid (And.intro hs h1)
  clear hs h1
  go_enter Tryz.func135, Tryz.ntmps135
  go_wp2_with fail
  go_loop [3, 11] (fun n i => ∃ k : Nat, k ≤ R.length ∧ i = .int .i64 k ∧ n = .int .i64 (catN (R.take k))) (fun _ i => R.length - (intOf i).toNat)
  case atStart => exact ⟨0, Nat.zero_le _, rfl, by simp [catN]⟩
  case round =>
    obtain ⟨k, hk, rfl, rfl⟩ := hrel
    by_cases hlt : k < R.length
    · obtain ⟨b, off, ar, cr, rfl, c0, hp⟩ := HS.out.1.at hlt
      have hl := catN_succ hlt
      have hl2 := catN_le R (k + 1)
      obtain ⟨m, hm1⟩ : ∃ m, R[k].2.1 = m := ⟨_, rfl⟩
      obtain ⟨t, ht⟩ : ∃ t, catN (R.take k) = t := ⟨_, rfl⟩
      rw [hm1] at hl c0
      rw [ht] at hl ⊢
      have HL := Lib.hid hl
      have hb : t + m ≤ 1000000 := by omega
      have hneg : decide ((t : Int) + (m : Int) < 0) = false := by rw [decide_eq_false_iff_not]; omega
      clear hl hl2 hp hm1 ht
      go_wp2_with fail
      go_round
      case rel => exact ⟨k + 1, by omega, by go_num, by rw [HL.out]; go_num⟩
      case measure => simp [intOf]; omega
    · obtain rfl : k = R.length := by omega
      rw [List.take_length]
      obtain ⟨t, ht⟩ : ∃ t, catN R = t := ⟨_, rfl⟩
      rw [ht] at hm ⊢
      have HT := Lib.hid ht
      have KG := Lib.hid (growV_calls t w hm)
      clear ht
      go_wp2_with fail
      refine KG.out.mono ?_
      rintro e w0 ⟨a0, cap0, rfl, ho, hB0⟩
      have HO := Lib.hid ho
      clear ho
      go_wp2_with fail
      go_loopw [6, 27] (fun r i wr => ∃ k : Nat, k ≤ R.length ∧ i = .int .i64 k ∧ (∃ ao cap, r = .slice ao (catN (R.take k)) cap ∧ wr.ownsRow w.heap.size 76 1 (.slice ao (catN (R.take k)) cap) (catN (R.take k)) (catC (R.take k))) ∧ Below w.heap.size w wr) (fun _ i _ => R.length - (intOf i).toNat)
      case atStart => exact ⟨0, Nat.zero_le _, rfl, ⟨a0, cap0, by simp [catN], by simpa [catN, catC] using HO.out⟩, hB0⟩
      case round =>
        obtain ⟨k, hk, rfl, ⟨ao, cap, rfl, hown⟩, hB⟩ := hrel
        by_cases hlt : k < R.length
        · obtain ⟨b, off, ar, cr, rfl, c0, hp⟩ := (HS.out.1.below hB).at hlt
          have hone := HS.out.2 _ (List.getElem_mem hlt)
          have hl := catN_succ hlt
          have hl2 := catN_le R (k + 1)
          have hcs := catC_succ hlt
          rw [HT.out] at hl2
          obtain ⟨m, hm1⟩ : ∃ m, R[k].2.1 = m := ⟨_, rfl⟩
          obtain ⟨cs, hcs1⟩ : ∃ cs, R[k].2.2 = cs := ⟨_, rfl⟩
          obtain ⟨n, hm2⟩ : ∃ n, catN (R.take k) = n := ⟨_, rfl⟩
          obtain ⟨q, hm3⟩ : ∃ q, catN (R.take (k + 1)) = q := ⟨_, rfl⟩
          rw [hm1, hcs1] at hp
          rw [hm1] at c0 hl
          rw [hcs1] at hone hcs
          rw [hm2] at hown hl ⊢
          rw [hm3] at hl hl2
          have HP := Lib.hid (And.intro hp (And.intro hown (And.intro hcs (And.intro hm3 hone))))
          have hb : n + m = q := by omega
          have hb2 : q ≤ 1000000 := by omega
          clear hl hl2 hcs hp hown hm1 hm2 hm3 hone hcs1
          go_wp2_with (at_builtin; refine wpList_append_rw rfl (.tmp 31) (.tmp 32) 121 rfl w.heap.size 76 i0 _ 1 16 Tryz.underlying121 hi hz0 hz1 hz2 rfl (by decide) _ n _ rfl HP.out.2.1 ar m cr cs rfl HP.out.1 HP.out.2.2.2.2 q hb (by unfold maxLen; omega) (by omega) hB.size ?_; intro a3 c3 w3 hown3 hg3)
          have hB3 := hB.grown hg3 hB.size (fun j e => (HP.out.2.1.lt j e).1)
          go_roundw
          case rel =>
            obtain ⟨_, _, f3, f4, _⟩ := HP.out
            refine ⟨k + 1, by omega, by go_num, ⟨a3, c3, by rw [f4], ?_⟩, hB3⟩
            rw [f4, f3]
            exact hown3
          case measure => simp [intOf]; omega
        · obtain rfl : k = R.length := by omega
          rw [List.take_length, HT.out] at hown ⊢
          have HW := Lib.hid hown
          clear hown
          go_wp2_with fail
          go_ret
          exact ⟨ao, cap, by rw [HT.out]; rfl, by rw [HT.out]; exact Rw.own HW.out, hB⟩

set_option maxHeartbeats 4000000 in
set_option maxRecDepth 100000 in
theorem concatL_raw (v : Value) (R : List Rin) (w : World) (hs : RwsN w 3 v R) (h1 : ∀ x ∈ R, ∀ u ∈ x.2.2, u.oneCell' = true) (hn : R.length ≤ 1000) (hm : catN R ≤ 1000000) :
    Calls Tryz.prog 154 #[v] w fun e w' => ∃ ao cap, e = .returned (.slice ao (catN R) cap) ∧ Rw w' 3 (.slice ao (catN R) cap) (catN R) (catC R) ∧ Below w.heap.size w w' := by
  obtain ⟨i0, hi, hz0, hz1, hz2⟩ := info_parts infoP
  obtain ⟨av, cv, rfl⟩ := hs.form
  have HS := Lib.hid (And.intro hs h1)
  clear hs h1
  go_enter Tryz.func154, Tryz.ntmps154
  go_wp2_with fail
  go_loop [3, 11] (fun n i => ∃ k : Nat, k ≤ R.length ∧ i = .int .i64 k ∧ n = .int .i64 (catN (R.take k))) (fun _ i => R.length - (intOf i).toNat)
  case atStart => exact ⟨0, Nat.zero_le _, rfl, by simp [catN]⟩
  case round =>
    obtain ⟨k, hk, rfl, rfl⟩ := hrel
    by_cases hlt : k < R.length
    · obtain ⟨b, off, ar, cr, rfl, c0, hp⟩ := HS.out.1.at hlt
      have hl := catN_succ hlt
      have hl2 := catN_le R (k + 1)
      obtain ⟨m, hm1⟩ : ∃ m, R[k].2.1 = m := ⟨_, rfl⟩
      obtain ⟨t, ht⟩ : ∃ t, catN (R.take k) = t := ⟨_, rfl⟩
      rw [hm1] at hl c0
      rw [ht] at hl ⊢
      have HL := Lib.hid hl
      have hb : t + m ≤ 1000000 := by omega
      have hneg : decide ((t : Int) + (m : Int) < 0) = false := by rw [decide_eq_false_iff_not]; omega
      clear hl hl2 hp hm1 ht
      go_wp2_with fail
      go_round
      case rel => exact ⟨k + 1, by omega, by go_num, by rw [HL.out]; go_num⟩
      case measure => simp [intOf]; omega
    · obtain rfl : k = R.length := by omega
      rw [List.take_length]
      obtain ⟨t, ht⟩ : ∃ t, catN R = t := ⟨_, rfl⟩
      rw [ht] at hm ⊢
      have HT := Lib.hid ht
      have KG := Lib.hid (growL_calls t w hm)
      clear ht
      go_wp2_with fail
      refine KG.out.mono ?_
      rintro e w0 ⟨a0, cap0, rfl, ho, hB0⟩
      have HO := Lib.hid ho
      clear ho
      go_wp2_with fail
      go_loopw [6, 27] (fun r i wr => ∃ k : Nat, k ≤ R.length ∧ i = .int .i64 k ∧ (∃ ao cap, r = .slice ao (catN (R.take k)) cap ∧ wr.ownsRow w.heap.size 67 3 (.slice ao (catN (R.take k)) cap) (catN (R.take k)) (catC (R.take k))) ∧ Below w.heap.size w wr) (fun _ i _ => R.length - (intOf i).toNat)
      case atStart => exact ⟨0, Nat.zero_le _, rfl, ⟨a0, cap0, by simp [catN], by simpa [catN, catC] using HO.out⟩, hB0⟩
      case round =>
        obtain ⟨k, hk, rfl, ⟨ao, cap, rfl, hown⟩, hB⟩ := hrel
        by_cases hlt : k < R.length
        · obtain ⟨b, off, ar, cr, rfl, c0, hp⟩ := (HS.out.1.below hB).at hlt
          have hone := HS.out.2 _ (List.getElem_mem hlt)
          have hl := catN_succ hlt
          have hl2 := catN_le R (k + 1)
          have hcs := catC_succ hlt
          rw [HT.out] at hl2
          obtain ⟨m, hm1⟩ : ∃ m, R[k].2.1 = m := ⟨_, rfl⟩
          obtain ⟨cs, hcs1⟩ : ∃ cs, R[k].2.2 = cs := ⟨_, rfl⟩
          obtain ⟨n, hm2⟩ : ∃ n, catN (R.take k) = n := ⟨_, rfl⟩
          obtain ⟨q, hm3⟩ : ∃ q, catN (R.take (k + 1)) = q := ⟨_, rfl⟩
          rw [hm1, hcs1] at hp
          rw [hm1] at c0 hl
          rw [hcs1] at hone hcs
          rw [hm2] at hown hl ⊢
          rw [hm3] at hl hl2
          have HP := Lib.hid (And.intro hp (And.intro hown (And.intro hcs (And.intro hm3 hone))))
          have hb : n + m = q := by omega
          have hb2 : q ≤ 1000000 := by omega
          clear hl hl2 hcs hp hown hm1 hm2 hm3 hone hcs1
          go_wp2_with (at_builtin; refine wpList_append_rw rfl (.tmp 31) (.tmp 32) 117 rfl w.heap.size 67 i0 _ 3 40 leaf_slice2 hi hz0 hz1 hz2 rfl (by decide) _ n _ rfl HP.out.2.1 ar m cr cs rfl HP.out.1 HP.out.2.2.2.2 q hb (by unfold maxLen; omega) (by omega) hB.size ?_; intro a3 c3 w3 hown3 hg3)
          have hB3 := hB.grown hg3 hB.size (fun j e => (HP.out.2.1.lt j e).1)
          go_roundw
          case rel =>
            obtain ⟨_, _, f3, f4, _⟩ := HP.out
            refine ⟨k + 1, by omega, by go_num, ⟨a3, c3, by rw [f4], ?_⟩, hB3⟩
            rw [f4, f3]
            exact hown3
          case measure => simp [intOf]; omega
        · obtain rfl : k = R.length := by omega
          rw [List.take_length, HT.out] at hown ⊢
          have HW := Lib.hid hown
          clear hown
          go_wp2_with fail
          go_ret
          exact ⟨ao, cap, by rw [HT.out]; rfl, by rw [HT.out]; exact Rw.own HW.out, hB⟩

/-! ### What is put together -/

/-- Rows of vertices in a row. -/
def VRws (d : Nat) (w : World) (v : Value) (R : List (Value × List Ch)) : Prop := Rw w 1 v R.length (R.map (·.1)) ∧ ∀ x ∈ R, VRow d w x.1 x.2
theorem concatV_calls (d : Nat) (v : Value) (R : List (Value × List Ch)) (w : World) (h : VRws d w v R) (hn : R.length ≤ 1000) (hm : (R.flatMap (·.2)).length ≤ 1000000) :
    Calls Tryz.prog 135 #[v] w fun e w' => ∃ u, e = .returned u ∧ VRow d w' u (R.flatMap (·.2)) ∧ Below w.heap.size w w' := by
  have e1 : catN (R.map fun x => ((x.1, x.2.length, x.2.map (·.1)) : Rin)) = (R.flatMap (·.2)).length := by
    rw [List.length_flatMap]
    simp [catN, Function.comp_def]
  have e2 : catC (R.map fun x => ((x.1, x.2.length, x.2.map (·.1)) : Rin)) = (R.flatMap (·.2)).map (·.1) := by
    simp [catC, List.flatMap_map, List.map_flatMap]
  have hR : RwsN w 1 v (R.map fun x => ((x.1, x.2.length, x.2.map (·.1)) : Rin)) := by
    refine ⟨?_, fun x hx => ?_⟩
    · rw [List.length_map, List.map_map]
      exact h.1
    · obtain ⟨y, hy, rfl⟩ := List.mem_map.1 hx
      exact (h.2 y hy).1
  refine (concatV_raw v _ w hR (fun x hx u hu => ?_) (by simpa using hn) (by rw [e1]; exact hm)).mono ?_
  · obtain ⟨y, hy, rfl⟩ := List.mem_map.1 hx
    exact (h.2 y hy).ones u hu
  · rw [e1, e2]
    rintro e w' ⟨ao, cap, rfl, hr, hB⟩
    refine ⟨_, rfl, ⟨hr, fun c hc => ?_⟩, hB⟩
    obtain ⟨y, hy, hc⟩ := List.mem_flatMap.1 hc
    exact ((h.2 y hy).2 c hc).below hB
theorem concatL_calls (v : Value) (R : List (Value × List Pr)) (w : World) (h : Rws w v R) (hn : R.length ≤ 1000) (hm : (allP R).length ≤ 1000000) :
    Calls Tryz.prog 154 #[v] w fun e w' => ∃ u, e = .returned u ∧ Prs w' u (allP R) ∧ Below w.heap.size w w' := by
  have e1 : catN (R.map fun x => ((x.1, x.2.length, pcells x.2) : Rin)) = (allP R).length := by
    unfold allP
    rw [List.length_flatMap]
    simp [catN, Function.comp_def]
  have e2 : catC (R.map fun x => ((x.1, x.2.length, pcells x.2) : Rin)) = pcells (allP R) := by
    simp [catC, List.flatMap_map, allP, pcells, List.flatMap_assoc]
  have hR : RwsN w 3 v (R.map fun x => ((x.1, x.2.length, pcells x.2) : Rin)) := by
    refine ⟨?_, fun x hx => ?_⟩
    · rw [List.length_map, List.map_map]
      exact h.1
    · obtain ⟨y, hy, rfl⟩ := List.mem_map.1 hx
      exact h.2 y hy
  refine (concatL_raw v _ w hR (fun x hx u hu => ?_) (by simpa using hn) (by rw [e1]; exact hm)).mono ?_
  · obtain ⟨y, hy, rfl⟩ := List.mem_map.1 hx
    exact pcells_one _ u hu
  · rw [e1, e2]
    rintro e w' ⟨ao, cap, rfl, hr, hB⟩
    exact ⟨_, rfl, hr, hB⟩

end Go.Proofs.YtaaabmnaindgaaaGreatDoor

/-
  tree: over (a branch of a row), leafOf.
-/
namespace Go.Proofs.YtaaabmnaindgaaaGreatDoor
set_option maxRecDepth 100000
open Go.RowKit

theorem leafOf_calls (v : Value) (w : World) : Calls Tryz.prog 112 #[v] w fun e w' => e = .returned (.iface 117 v) ∧ w' = w := by
  go_enter Tryz.func112, Tryz.ntmps112
  go_wp2_with fail
  go_ret
  exact ⟨rfl, rfl⟩

theorem Cx.four {w : World} {b : Nat} {t : TypeId} {v0 v1 v2 v3 : Value} (h : Cx w b t [v0, v1, v2, v3]) : w.cell? ⟨b, 0, none⟩ = some v0 ∧ w.cell? ⟨b, 1, none⟩ = some v1 ∧ w.cell? ⟨b, 2, none⟩ = some v2 ∧ w.cell? ⟨b, 3, none⟩ = some v3 ∧ w.frozen? ⟨b, 3, none⟩ = false ∧ b < w.heap.size :=
  ⟨h.cell rfl, h.cell rfl, h.cell rfl, h.cell rfl, h.frozen _, h.lt⟩
theorem allC_first {S : List Ch} {x : Pr} {r : List Pr} (h0 : 0 < S.length) (h : (S[0]'h0).2.1 = x :: r) : (allC S).head? = some x := by
  cases S with
  | nil => simp at h0
  | cons c r' =>
    rw [allC_cons]
    simp at h
    rw [h]
    rfl

set_option maxHeartbeats 4000000 in
set_option maxRecDepth 100000 in
theorem over_one (d : Nat) (rv : Value) (c : Ch) (w : World) (h : VRow d w rv [c]) :
    Calls Tryz.prog 88 #[rv] w fun e w' => e = .returned c.1 ∧ w' = w := by
  obtain ⟨ao, cap, rfl⟩ := h.form
  obtain ⟨b, off, rfl, c0, hx⟩ := h.at (k := 0) (by simp)
  rw [Nat.add_zero] at c0
  simp only [List.getElem_cons_zero] at c0 hx
  obtain ⟨v0, hv0⟩ : ∃ v, c.1 = v := ⟨_, rfl⟩
  rw [hv0] at c0 hx ⊢
  obtain ⟨T, u, rfl⟩ := hx.iface
  clear h hx hv0
  simp only [List.length_singleton]
  go_enter Tryz.func88, Tryz.ntmps88
  go_wp2_with fail
  go_ret
  exact ⟨rfl, rfl⟩

set_option maxHeartbeats 4000000 in
set_option maxRecDepth 100000 in
theorem over_calls (d : Nat) (rv : Value) (S : List Ch) (w : World) (h : VRow d w rv S) (hw : Wide S) (h1 : 2 ≤ S.length) (hm : (allC S).length ≤ 1000000) :
    Calls Tryz.prog 88 #[rv] w fun e w' => ∃ v, e = .returned v ∧ Vx (d + 1) w' v (allC S) S.length ∧ Below w.heap.size w w' := by
  obtain ⟨ao, cap, rfl⟩ := h.form
  have hcn := h.count hw
  obtain ⟨b, off, rfl, c0, hx⟩ := h.at (k := 0) (by omega)
  rw [Nat.add_zero] at c0
  obtain ⟨x, r, hxr⟩ := hx.first (by have := hw _ (List.getElem_mem (show 0 < S.length by omega)); omega)
  have hfst := allC_first (by omega) hxr
  obtain ⟨v0, hv0⟩ : ∃ v, S[0].1 = v := ⟨_, rfl⟩
  rw [hv0] at c0 hx
  obtain ⟨T, u, rfl⟩ := hx.iface
  obtain ⟨s, hs⟩ : ∃ s, S.length = s := ⟨_, rfl⟩
  have hs2 : 2 ≤ s := by omega
  rw [hxr] at hx
  obtain ⟨f, hmf, hc, hf⟩ := hx.least
  unfold Enters at hc
  have KF := Lib.hid (hf _ (Below.refl _ _))
  have HR := Lib.hid (And.intro h (And.intro hw hfst))
  obtain ⟨⟨p, m⟩, t⟩ := x
  have hne : decide ((s : Int) = 1) = false := by rw [decide_eq_false_iff_not]; omega
  rw [hs] at hcn ⊢
  have HSL := Lib.hid hs
  clear h hw hx hxr hfst hv0 hf
  rw [hs] at HR
  clear hs
  go_enter Tryz.func88, Tryz.ntmps88
  go_wp2_with fail
  refine KF.out.mono ?_
  rintro e w1 ⟨rfl, hB1⟩
  have c0' := look_below hB1 c0
  have hB2 := hB1.alloc hB1.size (.cells #[.slice (some ⟨b, off, none⟩) s cap, .string ⟨p.toArray⟩, .int .i64 m, .int .i64 0] 123)
  have HC := Lib.hid (Cx.new w1 123 [.slice (some ⟨b, off, none⟩) s cap, .string ⟨p.toArray⟩, .int .i64 m, .int .i64 0])
  go_wp2_with fail
  go_loopw [21] (fun i wr => ∃ k : Nat, k ≤ s ∧ i = .int .i64 k ∧ Cx wr w1.heap.size 123 [.slice (some ⟨b, off, none⟩) s cap, .string ⟨p.toArray⟩, .int .i64 m, .int .i64 (allC (S.take k)).length] ∧ Below w.heap.size w wr) (fun i _ => s - (intOf i).toNat)
  case atStart => exact ⟨0, Nat.zero_le _, rfl, HC.out, hB2⟩
  case round =>
    obtain ⟨k, hk, rfl, hC, hB⟩ := hrel
    by_cases hlt : k < s
    · have hlt2 : k < S.length := by rw [HSL.out]; exact hlt
      obtain ⟨b', off', he, ck, hx⟩ := (HR.out.1.below hB).at hlt2
      cases he
      have hl := congrArg List.length (allC_succ hlt2)
      have hl2 := allC_le S (k + 1)
      rw [List.length_append] at hl
      obtain ⟨vk, hvk⟩ : ∃ v, S[k].1 = v := ⟨_, rfl⟩
      obtain ⟨L, hL⟩ : ∃ L, S[k].2.1 = L := ⟨_, rfl⟩
      obtain ⟨t1, ht1⟩ : ∃ t, (allC (S.take k)).length = t := ⟨_, rfl⟩
      obtain ⟨t2, ht2⟩ : ∃ t, (allC (S.take (k + 1))).length = t := ⟨_, rfl⟩
      obtain ⟨t3, ht3⟩ : ∃ t, L.length = t := ⟨_, rfl⟩
      rw [hvk] at ck hx
      rw [hL] at hx hl
      rw [ht2, ht1, ht3] at hl
      rw [ht2] at hl2
      rw [ht1] at hC
      obtain ⟨T', u', rfl⟩ := hx.iface
      obtain ⟨f', hmf', hc', hf'⟩ := hx.size
      unfold Enters at hc'
      rw [ht3] at hf'
      have KS := Lib.hid hf'
      have HT := Lib.hid ht2
      have hb : t1 + t3 ≤ 1000000 := by omega
      have HL := Lib.hid hl
      obtain ⟨d0, d1, d2, d3, d4, d5⟩ := hC.four
      have HK := Lib.hid hC
      clear hl hl2 hx hf' hvk hL ht1 ht2 ht3 hC
      go_wp2_with fail
      go_region_with (first | ((with_reducible refine (KS.out _ (by first | exact Below.refl _ _ | exact drew_below _)).mono ?_); rintro e w3 ⟨rfl, rfl⟩))
      all_goals
        go_wp2_with fail
        go_roundw
        case rel =>
          refine ⟨k + 1, by omega, by go_num, ?_, hB.drew.setCell hB1.size _⟩
          rw [HT.out, HL.out]
          exact (HK.out.below (drew_below _)).set 3 _
        case measure => simp [intOf]; omega
    · obtain rfl : k = s := by omega
      have HK := Lib.hid (And.intro hC hB)
      clear hC
      go_wp2_with fail
      go_ret
      obtain ⟨hC, hB⟩ := HK.out
      have e := HSL.out
      rw [List.take_of_length_le (by omega)] at hC
      obtain ⟨d0, d1, d2, d3, d4, d5⟩ := hC.four
      obtain ⟨hV, hW, hf⟩ := HR.out
      have := Vx.shut (d := d) (by omega) hf d0 d1 d2 d3 (hV.below hB) hW
      exact ⟨_, rfl, by rw [← e]; exact this, hB⟩

end Go.Proofs.YtaaabmnaindgaaaGreatDoor

/-
  tree: cut.
-/
namespace Go.Proofs.YtaaabmnaindgaaaGreatDoor
set_option maxRecDepth 100000
open Go.RowKit

/-- What stands in a vertex's place: one as wide as N, or two that are not too narrow. -/
def News (N : Nat) (S : List Ch) : Prop := (∃ c, S = [c] ∧ N ≤ c.2.2) ∨ ∃ a b, S = [a, b] ∧ 4 ≤ a.2.2 ∧ 4 ≤ b.2.2
theorem News.less {N M : Nat} {S : List Ch} (h : News N S) (hm : M ≤ N) : News M S := by
  rcases h with ⟨c, rfl, h⟩ | h
  · exact .inl ⟨c, rfl, by omega⟩
  · exact .inr h
/-- Vertices that are laid as they stand. -/
theorem vrow_lit (d : Nat) (w : World) (S : List Ch) (t : TypeId) (h : ∀ c ∈ S, Vx d w c.1 c.2.1 c.2.2) : VRow d (w.alloc (.cells (S.map (·.1)).toArray t)) (.slice (some ⟨w.heap.size, 0, none⟩) S.length S.length) S := by
  refine ⟨⟨by simp, _, _, rfl, Nat.le_refl _, .inr ⟨_, 0, rfl, fun j hj => ?_⟩⟩, fun x hx => (h x hx).below (below_alloc w _)⟩
  rw [Nat.zero_add, World.cell?_alloc_new]
  simp only [List.getElem?_toArray, List.getElem?_eq_getElem hj]
theorem vrow_one {d : Nat} {w : World} {v : Value} {l : List Pr} {n : Nat} (h : Vx d w v l n) : VRow d (w.alloc (.cells #[v] 76)) (.slice (some ⟨w.heap.size, 0, none⟩) 1 1) [(v, l, n)] :=
  vrow_lit d w [(v, l, n)] _ (fun c hc => by simp only [List.mem_singleton] at hc; subst hc; exact h)
theorem vrow_two {d : Nat} {w : World} {v1 v2 : Value} {l1 l2 : List Pr} {n1 n2 : Nat} (h1 : Vx d w v1 l1 n1) (h2 : Vx d w v2 l2 n2) : VRow d (w.alloc (.cells #[v1, v2] 76)) (.slice (some ⟨w.heap.size, 0, none⟩) 2 2) [(v1, l1, n1), (v2, l2, n2)] :=
  vrow_lit d w [(v1, l1, n1), (v2, l2, n2)] _ (fun c hc => by
    simp only [List.mem_cons, List.not_mem_nil, or_false] at hc
    rcases hc with rfl | rfl
    · exact h1
    · exact h2)
theorem vx_leaf {w : World} {v : Value} {l : List Pr} (h : Prs w v l) : Vx 0 w (.iface 117 v) l l.length := ⟨rfl, v, rfl, h⟩

set_option maxHeartbeats 4000000 in
set_option maxRecDepth 100000 in
theorem cutP_calls (v : Value) (l : List Pr) (w : World) (h : Prs w v l) (hm : l.length ≤ 1000000) :
    Calls Tryz.prog 111 #[v, .func (.func 112) #[] #[]] w fun e w' => ∃ u S, e = .returned u ∧ VRow 0 w' u S ∧ allC S = l ∧ News l.length S ∧ Below w.heap.size w w' := by
  obtain ⟨ao, cap, rfl⟩ := h.form
  have KL := Lib.hid (fun v w => leafOf_calls v w)
  by_cases h8 : l.length ≤ 8
  · have HO := Lib.hid (And.intro h h8)
    obtain ⟨n, hn⟩ : ∃ n, l.length = n := ⟨_, rfl⟩
    rw [hn] at HO h8 ⊢
    have HN := Lib.hid hn
    have h8d : decide ((n : Int) ≤ 8) = true := by rw [decide_eq_true_eq]; omega
    clear h hm hn
    go_enter Tryz.func111, Tryz.ntmps111
    go_wp2_with fail
    refine (KL.out _ _).mono ?_
    rintro e w1 ⟨rfl, rfl⟩
    go_wp2_with fail
    go_ret
    have e := HN.out
    exact ⟨_, _, rfl, vrow_one (vx_leaf HO.out.1), allC_one _, .inl ⟨_, rfl, by dsimp only; omega⟩, below_alloc _ _⟩
  · obtain ⟨n, hn⟩ : ∃ n, l.length / 2 = n := ⟨_, rfl⟩
    obtain ⟨r, hr⟩ : ∃ r, n + r = l.length := ⟨l.length - n, by omega⟩
    have HL := Lib.hid (show (l.take n).length = n ∧ (l.drop n).length = r ∧ 4 ≤ n ∧ 4 ≤ r by simp; omega)
    obtain ⟨k, hk⟩ : ∃ k, l.length = k := ⟨_, rfl⟩
    rw [hk] at h hr hm hn h8 ⊢
    have hq : ((k : Int) / 2) = (n : Int) := by omega
    have h8d : decide ((k : Int) ≤ 8) = false := by rw [decide_eq_false_iff_not]; omega
    obtain ⟨hr1, hp1⟩ := slice_to h n (by omega)
    obtain ⟨a2, c2, hr2, hp2⟩ := slice_from h n r (by omega) hr
    obtain ⟨A, hA⟩ : ∃ A, l.take n = A := ⟨_, rfl⟩
    obtain ⟨B, hB⟩ : ∃ B, l.drop n = B := ⟨_, rfl⟩
    have HAB := Lib.hid (show A ++ B = l by rw [← hA, ← hB, List.take_append_drop])
    rw [hA, hB] at HL
    rw [hA] at hp1
    rw [hB] at hp2
    have KA := Lib.hid (fun W (hW : Below w.heap.size w W) => cloneP_calls _ A W (hp1.below hW) (by have := HL.out.1; omega))
    have KB := Lib.hid (fun W (hW : Below w.heap.size w W) => cloneP_calls _ B W (hp2.below hW) (by have := HL.out.2.1; omega))
    have hbr : Below w.heap.size w w.drew := drew_below _
    clear h hp1 hp2 hk hn hA hB
    go_enter Tryz.func111, Tryz.ntmps111
    go_wp2_with fail
    go_region_held3 (fun _ => True) (exact trivial) (first
      | ((with_reducible refine (KL.out _ _).mono ?_); rintro e w2 ⟨rfl, rfl⟩)
      | ((with_reducible refine (KA.out _ hbr).mono ?_); rintro e w3 ⟨uA, rfl, hA, hB3⟩; have hbr := below2 hbr hB3; (try replace hB := hB.below hB3))
      | ((with_reducible refine (KB.out _ hbr).mono ?_); rintro e w4 ⟨uB, rfl, hB, hB4⟩; have hbr := below2 hbr hB4; (try replace hA := hA.below hB4)))
    go_wp2_with fail
    go_ret
    obtain ⟨e1, e2, e3, e4⟩ := HL.out
    exact ⟨_, _, rfl, vrow_two (vx_leaf hA) (vx_leaf hB), by rw [allC_cons, allC_one]; exact HAB.out, .inr ⟨_, _, rfl, by dsimp only; omega, by dsimp only; omega⟩, below2 hbr (below_alloc _ _)⟩

/-- One that stands alone. -/
theorem cutV_one (d : Nat) (v : Value) (c : Ch) (w : World) (h : VRow d w v [c]) :
    Calls Tryz.prog 113 #[v, .func (.func 88) #[] #[]] w fun e w' => ∃ u, e = .returned u ∧ VRow d w' u [c] ∧ Below w.heap.size w w' := by
  obtain ⟨ao, cap, rfl⟩ := h.form
  simp only [List.length_singleton]
  have hv := h.2 c (by simp)
  have ho := over_one d _ c w h
  obtain ⟨v, l, n⟩ := c
  dsimp only at hv ho
  obtain ⟨T, u, rfl⟩ := hv.iface
  have KO := Lib.hid ho
  have HV := Lib.hid hv
  clear h hv ho
  go_enter Tryz.func113, Tryz.ntmps113
  go_wp2_with fail
  refine KO.out.mono ?_
  rintro e w1 ⟨rfl, rfl⟩
  go_wp2_with fail
  go_ret
  exact ⟨_, rfl, vrow_one HV.out, below_alloc _ _⟩

set_option maxHeartbeats 4000000 in
set_option maxRecDepth 100000 in
theorem cutV_calls (d : Nat) (v : Value) (S : List Ch) (w : World) (h : VRow d w v S) (hw : Wide S) (h2 : 2 ≤ S.length) (hm : (allC S).length ≤ 1000000) :
    Calls Tryz.prog 113 #[v, .func (.func 88) #[] #[]] w fun e w' => ∃ u T, e = .returned u ∧ VRow (d + 1) w' u T ∧ allC T = allC S ∧ News S.length T ∧ Below w.heap.size w w' := by
  have hcn := h.count hw
  obtain ⟨ao, cap, rfl⟩ := h.form
  by_cases h8 : S.length ≤ 8
  · have KO := Lib.hid (over_calls d _ S w h hw h2 hm)
    obtain ⟨n, hn⟩ : ∃ n, S.length = n := ⟨_, rfl⟩
    rw [hn] at KO h8 hcn ⊢
    have h8d : decide ((n : Int) ≤ 8) = true := by rw [decide_eq_true_eq]; omega
    clear h hw hn
    go_enter Tryz.func113, Tryz.ntmps113
    go_wp2_with fail
    refine KO.out.mono ?_
    rintro e w1 ⟨u, rfl, hu, hB⟩
    obtain ⟨T, u, rfl⟩ := hu.iface
    go_wp2_with fail
    go_ret
    exact ⟨_, _, rfl, vrow_one hu, allC_one _, .inl ⟨_, rfl, Nat.le_refl _⟩, below2 hB (below_alloc _ _)⟩
  · obtain ⟨n, hn⟩ : ∃ n, S.length / 2 = n := ⟨_, rfl⟩
    obtain ⟨r, hr⟩ : ∃ r, n + r = S.length := ⟨S.length - n, by omega⟩
    have HL := Lib.hid (show (S.take n).length = n ∧ (S.drop n).length = r ∧ 4 ≤ n ∧ 4 ≤ r by simp; omega)
    obtain ⟨k, hk⟩ : ∃ k, S.length = k := ⟨_, rfl⟩
    rw [hk] at h hr hcn hn h8 ⊢
    have hq : ((k : Int) / 2) = (n : Int) := by omega
    have h8d : decide ((k : Int) ≤ 8) = false := by rw [decide_eq_false_iff_not]; omega
    obtain ⟨a1, c1, hr1, hp1⟩ := vrow_to h n (by omega)
    obtain ⟨a2, c2, hr2, hp2⟩ := vrow_from h n r hr
    obtain ⟨A, hA⟩ : ∃ A, S.take n = A := ⟨_, rfl⟩
    obtain ⟨B, hB⟩ : ∃ B, S.drop n = B := ⟨_, rfl⟩
    have hAB : A ++ B = S := by rw [← hA, ← hB, List.take_append_drop]
    have hwA : Wide A := fun c hc => hw c (by rw [← hAB]; simp [hc])
    have hwB : Wide B := fun c hc => hw c (by rw [← hAB]; simp [hc])
    have hcAB : allC A ++ allC B = allC S := by rw [← allC_append, hAB]
    have hmA : (allC A).length ≤ 1000000 ∧ (allC B).length ≤ 1000000 := by
      have := congrArg List.length hcAB
      rw [List.length_append] at this
      omega
    have HAB := Lib.hid hcAB
    have hkm : k ≤ 1000000 := by omega
    rw [hA, hB] at HL
    rw [hA] at hp1
    rw [hB] at hp2
    have KA := Lib.hid (fun W (hW : Below w.heap.size w W) => cloneV_calls d _ A W (hp1.below hW) (by have := HL.out.1; omega))
    have KB := Lib.hid (fun W (hW : Below w.heap.size w W) => cloneV_calls d _ B W (hp2.below hW) (by have := HL.out.2.1; omega))
    have KOA := Lib.hid (fun u W (hu : VRow d W u A) => over_calls d u A W hu hwA (by have := HL.out; omega) hmA.1)
    have KOB := Lib.hid (fun u W (hu : VRow d W u B) => over_calls d u B W hu hwB (by have := HL.out; omega) hmA.2)
    have hbr : Below w.heap.size w w.drew := drew_below _
    clear h hp1 hp2 hk hn hA hB hw hAB hwA hwB hcAB hmA hm
    go_enter Tryz.func113, Tryz.ntmps113
    go_wp2_with fail
    go_region_held3 (fun _ => True) (exact trivial) (first
      | ((with_reducible refine (KA.out _ hbr).mono ?_); rintro e w3 ⟨uA, rfl, hA, hB3⟩; have hbr := below2 hbr hB3; (try replace hB := hB.below hB3); (try replace hvB := hvB.below hB3))
      | ((with_reducible refine (KB.out _ hbr).mono ?_); rintro e w4 ⟨uB, rfl, hB, hB4⟩; have hbr := below2 hbr hB4; (try replace hA := hA.below hB4); (try replace hvA := hvA.below hB4))
      | ((with_reducible refine (KOA.out _ _ hA).mono ?_); rintro e w5 ⟨vA, rfl, hvA, hB5⟩; obtain ⟨TA, vA, rfl⟩ := hvA.iface; have hbr := below2 hbr hB5; (try replace hB := hB.below hB5); (try replace hvB := hvB.below hB5))
      | ((with_reducible refine (KOB.out _ _ hB).mono ?_); rintro e w6 ⟨vB, rfl, hvB, hB6⟩; obtain ⟨TB, vB, rfl⟩ := hvB.iface; have hbr := below2 hbr hB6; (try replace hA := hA.below hB6); (try replace hvA := hvA.below hB6)))
    go_wp2_with fail
    go_ret
    obtain ⟨e1, e2, e3, e4⟩ := HL.out
    exact ⟨_, _, rfl, vrow_two hvA hvB, by rw [allC_cons, allC_one]; exact HAB.out, .inr ⟨_, _, rfl, by dsimp only; omega, by dsimp only; omega⟩, below2 hbr (below_alloc _ _)⟩

end Go.Proofs.YtaaabmnaindgaaaGreatDoor

/-
  tree: levelled.
-/
namespace Go.Proofs.YtaaabmnaindgaaaGreatDoor
set_option maxRecDepth 100000
open Go.RowKit

/-- Rows of vertices that are laid as they stand. -/
theorem vrws_lit (d : Nat) (w : World) (R : List (Value × List Ch)) (t : TypeId) (h : ∀ x ∈ R, VRow d w x.1 x.2) : VRws d (w.alloc (.cells (R.map (·.1)).toArray t)) (.slice (some ⟨w.heap.size, 0, none⟩) R.length R.length) R := by
  refine ⟨⟨by simp, _, _, rfl, Nat.le_refl _, .inr ⟨_, 0, rfl, fun j hj => ?_⟩⟩, fun x hx => (h x hx).below (below_alloc w _)⟩
  rw [Nat.zero_add, World.cell?_alloc_new]
  simp only [List.getElem?_toArray, List.getElem?_eq_getElem hj]
theorem vrws_two {d : Nat} {w : World} {v1 v2 : Value} {S1 S2 : List Ch} (t : TypeId) (h1 : VRow d w v1 S1) (h2 : VRow d w v2 S2) : VRws d (w.alloc (.cells #[v1, v2] t)) (.slice (some ⟨w.heap.size, 0, none⟩) 2 2) [(v1, S1), (v2, S2)] :=
  vrws_lit d w [(v1, S1), (v2, S2)] t (fun c hc => by
    simp only [List.mem_cons, List.not_mem_nil, or_false] at hc
    rcases hc with rfl | rfl
    · exact h1
    · exact h2)
theorem vrws_three {d : Nat} {w : World} {v1 v2 v3 : Value} {S1 S2 S3 : List Ch} (t : TypeId) (h1 : VRow d w v1 S1) (h2 : VRow d w v2 S2) (h3 : VRow d w v3 S3) : VRws d (w.alloc (.cells #[v1, v2, v3] t)) (.slice (some ⟨w.heap.size, 0, none⟩) 3 3) [(v1, S1), (v2, S2), (v3, S3)] :=
  vrws_lit d w [(v1, S1), (v2, S2), (v3, S3)] t (fun c hc => by
    simp only [List.mem_cons, List.not_mem_nil, or_false] at hc
    rcases hc with rfl | rfl | rfl
    · exact h1
    · exact h2
    · exact h3)
theorem rws_pair {w : World} {v1 v2 : Value} {L1 L2 : List Pr} (t : TypeId) (h1 : Prs w v1 L1) (h2 : Prs w v2 L2) : Rws (w.alloc (.cells #[v1, v2] t)) (.slice (some ⟨w.heap.size, 0, none⟩) 2 2) [(v1, L1), (v2, L2)] :=
  rws_lit w [(v1, L1), (v2, L2)] t (fun x hx => by
    simp only [List.mem_cons, List.not_mem_nil, or_false] at hx
    rcases hx with rfl | rfl
    · exact h1
    · exact h2)
theorem wide_append {A B : List Ch} (ha : Wide A) (hb : Wide B) : Wide (A ++ B) := fun c hc => by
  rcases List.mem_append.1 hc with h | h
  · exact ha c h
  · exact hb c h

set_option maxHeartbeats 4000000 in
set_option maxRecDepth 100000 in
theorem levelled_calls : ∀ (d : Nat) (a b : Value) (la lb : List Pr) (na nb : Nat) (w : World), Vx d w a la na → Vx d w b lb nb → (la ++ lb).length ≤ 1000000 →
    Calls Tryz.prog 136 #[a, b] w fun e w' => ∃ u S, e = .returned u ∧ VRow d w' u S ∧ allC S = la ++ lb ∧ News (na + nb) S ∧ Below w.heap.size w w'
  | 0, a, b, la, lb, na, nb, w, ⟨hna, ua, ha, hpa⟩, ⟨hnb, ub, hb, hpb⟩, hm => by
    subst ha hb
    have h1 := asLeaf ua
    have h2 := asLeaf1 ub
    have hR := rws_pair 117 hpa hpb
    have hall : allP [(ua, la), (ub, lb)] = la ++ lb := by simp [allP]
    have KC := Lib.hid (concatL_calls _ _ _ hR (by simp) (by rw [hall]; exact hm))
    rw [hall] at KC
    have KK := Lib.hid (fun u W (h : Prs W u (la ++ lb)) => cutP_calls u (la ++ lb) W h hm)
    have HN := Lib.hid (show na + nb ≤ (la ++ lb).length by rw [List.length_append]; omega)
    obtain ⟨a1, c1, rfl⟩ := hpa.form
    obtain ⟨a2, c2, rfl⟩ := hpb.form
    clear hpa hpb hna hnb hR hall hm
    go_enter Tryz.func136, Tryz.ntmps136
    go_wp2_with fail
    refine KC.out.mono ?_
    rintro e w1 ⟨u, rfl, hu, hB1⟩
    go_wp2_with fail
    refine (KK.out u w1 hu).mono ?_
    rintro e w2 ⟨v, S, rfl, hv, hS, hN, hB2⟩
    have HF := Lib.hid (And.intro hv (And.intro hS hN))
    clear hv hS hN
    obtain ⟨av, cv, rfl⟩ := HF.out.1.form
    go_wp2_with fail
    go_ret
    obtain ⟨hv, hS, hN⟩ := HF.out
    exact ⟨_, S, rfl, hv, hS, hN.less HN.out, below2 (below2 (below_alloc _ _) hB1) hB2⟩
  | d + 1, a, b, la, lb, na, nb, w, hVa, hVb, hm => by
    obtain ⟨ga, aoa, capa, Sa, xa, rfl, rfl, h2a, rfl, _, ca, _, _, _, hRa, hSa⟩ := hVa.open
    obtain ⟨gb, aob, capb, Sb, xb, rfl, rfl, h2b, rfl, _, cb, _, _, _, hRb, hSb⟩ := hVb.open
    have ha := asLeafNot (.pointer (some ⟨ga, 0, none⟩))
    have h1 := asBranch (.pointer (some ⟨ga, 0, none⟩))
    have h2 := asBranch1 (.pointer (some ⟨gb, 0, none⟩))
    have HS : Hid (∀ W, Below w.heap.size w W → W.cell? ⟨ga, 0, none⟩ = some (.slice aoa Sa.length capa) ∧ W.cell? ⟨gb, 0, none⟩ = some (.slice aob Sb.length capb)) := Lib.hid (fun W hB => ⟨look_below hB ca, look_below hB cb⟩)
    have hB0 : Below w.heap.size w (w.alloc (.cells #[.slice aoa Sa.length capa, .slice aob Sb.length capb] 121)).drew := first_below w _
    have hV : VRws d (w.alloc (.cells #[.slice aoa Sa.length capa, .slice aob Sb.length capb] 121)).drew (.slice (some ⟨w.heap.size, 0, none⟩) 2 2) [(.slice aoa Sa.length capa, Sa), (.slice aob Sb.length capb, Sb)] := by
      have := vrws_two 121 hRa hRb
      exact ⟨this.1.below (drew_below _), fun x hx => (this.2 x hx).below (drew_below _)⟩
    have hfl : [(Value.slice aoa Sa.length capa, Sa), (Value.slice aob Sb.length capb, Sb)].flatMap (·.2) = Sa ++ Sb := by simp
    have hall : allC (Sa ++ Sb) = allC Sa ++ allC Sb := allC_append _ _
    have hcn := hRa.count hSa
    have hcm := hRb.count hSb
    rw [List.length_append] at hm
    have KC := Lib.hid (concatV_calls d _ _ _ hV (by simp) (by rw [hfl, List.length_append]; omega))
    rw [hfl] at KC
    have KK := Lib.hid (fun u W (h : VRow d W u (Sa ++ Sb)) => cutV_calls d u (Sa ++ Sb) W h (wide_append hSa hSb) (by rw [List.length_append]; omega) (by rw [hall, List.length_append]; omega))
    have HE := Lib.hid (And.intro hall (show (Sa ++ Sb).length = Sa.length + Sb.length from List.length_append))
    have hbr : Below w.heap.size w w.drew := drew_below _
    clear hVa hVb hRa hRb hSa hSb hV hfl hall hm hcn hcm ca cb
    go_enter Tryz.func136, Tryz.ntmps136
    go_wp2_with fail
    go_region_held3 (fun w' => w'.cell? ⟨ga, 0, none⟩ = some (.slice aoa Sa.length capa) ∧ w'.cell? ⟨gb, 0, none⟩ = some (.slice aob Sb.length capb)) (first | exact HS.out _ hbr | exact HS.out _ hB0) (first
      | ((with_reducible refine KC.out.mono ?_); rintro e w1 ⟨u, rfl, hu, hB1⟩; have hbr := below2 hB0 hB1)
      | ((with_reducible refine (KK.out _ _ hu).mono ?_); rintro e w2 ⟨v, S, rfl, hv, hS, hN, hB2⟩; have hbr := below2 hbr hB2; have HF := Lib.hid (And.intro hv (And.intro hS hN)); clear hv hS hN; obtain ⟨av, cv, rfl⟩ := HF.out.1.form))
    go_wp2_with fail
    go_ret
    obtain ⟨hv, hS, hN⟩ := HF.out
    obtain ⟨e1, e2⟩ := HE.out
    exact ⟨_, S, rfl, hv, by rw [hS, e1], by rw [← e2]; exact hN, hbr⟩

end Go.Proofs.YtaaabmnaindgaaaGreatDoor

/-
  tree: with (a branch's row with other vertices at a place).
-/
namespace Go.Proofs.YtaaabmnaindgaaaGreatDoor
set_option maxRecDepth 100000
open Go.RowKit

theorem VRow.drew {d : Nat} {w : World} {v : Value} {S : List Ch} (h : VRow d w v S) : VRow d w.drew v S := h.below (drew_below _)
theorem VRws.drew {d : Nat} {w : World} {v : Value} {R : List (Value × List Ch)} (h : VRws d w v R) : VRws d w.drew v R := ⟨h.1.below (drew_below _), fun x hx => (h.2 x hx).drew⟩
theorem vrow_wide_take {S : List Ch} (h : Wide S) (n : Nat) : Wide (S.take n) := fun c hc => h c (List.mem_of_mem_take hc)
theorem vrow_wide_drop {S : List Ch} (h : Wide S) (n : Nat) : Wide (S.drop n) := fun c hc => h c (List.mem_of_mem_drop hc)
theorem vrow_slots {d : Nat} {w : World} {v : Value} {S : List Ch} (h : VRow d w v S) (h0 : 1 ≤ S.length) : ∃ b off cap, v = .slice (some ⟨b, off, none⟩) S.length cap ∧ ∀ k (hk : k < S.length), w.cell? ⟨b, off + k, none⟩ = some S[k].1 := by
  obtain ⟨ao, cap, rfl⟩ := h.form
  obtain ⟨b, off, e, _⟩ := h.at (k := 0) (by omega)
  subst e
  refine ⟨b, off, cap, rfl, fun k hk => ?_⟩
  obtain ⟨b', off', e', c, _⟩ := h.at hk
  cases e'
  exact c
theorem VRow.any {d : Nat} {w : World} {v : Value} {S : List Ch} (h : VRow d w v S) : ∃ ao n cap, v = .slice ao n cap := by
  obtain ⟨ao, cap, e⟩ := h.form
  exact ⟨ao, _, cap, e⟩
/-- What with makes of a row. -/
def Withs (S T : List Ch) (i : Nat) (R : List Ch) : Prop := Wide R ∧ allC R = allC (S.take i) ++ (allC T ++ allC (S.drop (i + 1))) ∧ S.length ≤ R.length + 1 ∧ 1 ≤ R.length
theorem News.wide {N : Nat} {T : List Ch} (h : News N T) (h0 : ∀ (h : 0 < T.length), 4 ≤ (T[0]'h).2.2) : Wide T := by
  intro c hc
  rcases h with ⟨x, rfl, _⟩ | ⟨x, y, rfl, h1, h2⟩
  · simp only [List.mem_singleton] at hc
    subst hc
    exact h0 (by simp)
  · simp only [List.mem_cons, List.not_mem_nil, or_false] at hc
    rcases hc with rfl | rfl
    · exact h1
    · exact h2
theorem News.some {N : Nat} {T : List Ch} (h : News N T) : 1 ≤ T.length := by
  rcases h with ⟨x, rfl, _⟩ | ⟨x, y, rfl, _⟩ <;> simp
theorem News.most {N : Nat} {T : List Ch} (h : News N T) : T.length ≤ 2 := by
  rcases h with ⟨x, rfl, _⟩ | ⟨x, y, rfl, _⟩ <;> simp
theorem News.alone {N : Nat} {T : List Ch} (h : News N T) (h0 : 0 < T.length) (h1 : (T[0]'h0).2.2 < 4) : ∃ c, T = [c] ∧ N ≤ c.2.2 := by
  rcases h with h | ⟨x, y, rfl, h2, _⟩
  · exact h
  · simp at h1
    omega
theorem withs_same {S T : List Ch} {i : Nat} (hS : Wide S) (hT : Wide T) (h1 : 1 ≤ T.length) (hi : i < S.length) : Withs S T i (S.take i ++ (T ++ S.drop (i + 1))) := by
  refine ⟨wide_append (vrow_wide_take hS _) (wide_append hT (vrow_wide_drop hS _)), by rw [allC_append, allC_append], ?_, ?_⟩ <;>
    simp only [List.length_append, List.length_take, List.length_drop] <;> omega
theorem withs_front {S L : List Ch} {c : Ch} (hS : Wide S) (h2 : 2 ≤ S.length) (hL : allC L = c.2.1 ++ (S[1]'(by omega)).2.1) (hw : Wide L) (h1 : 1 ≤ L.length) : Withs S [c] 0 (L ++ S.drop 2) := by
  refine ⟨wide_append hw (vrow_wide_drop hS _), ?_, ?_, ?_⟩
  · rw [allC_append, hL, allC_one, List.take_zero, allC_nil, List.nil_append, List.append_assoc]
    congr 1
    rw [← List.getElem_cons_drop (show 0 + 1 < S.length by omega), allC_cons]
  · simp only [List.length_append, List.length_drop]; omega
  · simp only [List.length_append]; omega
theorem withs_behind {S L : List Ch} {c : Ch} {j : Nat} (hS : Wide S) (hj : j + 1 < S.length) (hL : allC L = (S[j]'(by omega)).2.1 ++ c.2.1) (hw : Wide L) (h1 : 1 ≤ L.length) : Withs S [c] (j + 1) (S.take j ++ (L ++ S.drop (j + 1 + 1))) := by
  refine ⟨wide_append (vrow_wide_take hS _) (wide_append hw (vrow_wide_drop hS _)), ?_, ?_, ?_⟩
  · rw [allC_append, allC_append, hL, allC_one, allC_succ (show j < S.length by omega)]
    simp only [List.append_assoc]
  · simp only [List.length_append, List.length_take, List.length_drop]; omega
  · simp only [List.length_append, List.length_take, List.length_drop]; omega
/-- Two neighbours, of which one is as wide as another one and the other one nearly. -/
theorem news_wide {N : Nat} {L : List Ch} (h : News N L) (hN : 4 ≤ N) : Wide L := h.wide fun h0 => by
  rcases h with ⟨x, rfl, h⟩ | ⟨x, y, rfl, h, _⟩
  · simpa using Nat.le_trans hN h
  · simpa using h

set_option maxHeartbeats 4000000 in
set_option maxRecDepth 100000 in
theorem with_same_calls (d : Nat) (g : Nat) (ao : Option Addr) (cap i : Nat) (S T : List Ch) (nv : Value) (w : World) (cg : w.cell? ⟨g, 0, none⟩ = some (.slice ao S.length cap)) (hR : VRow d w (.slice ao S.length cap) S) (hS : Wide S)
    (hT : VRow d w nv T) (hTw : Wide T) (hT2 : 1 ≤ T.length ∧ T.length ≤ 2) (hi : i < S.length) (hm : S.length ≤ 100000) :
    Calls Tryz.prog 114 #[.pointer (some ⟨g, 0, none⟩), .int .i64 i, nv] w fun e w' => ∃ u R, e = .returned u ∧ VRow d w' u R ∧ Withs S T i R ∧ Below w.heap.size w w' := by
  obtain ⟨b, off, capT, rfl, hcT⟩ := vrow_slots hT hT2.1
  have hvx := hT.2 _ (List.getElem_mem (show 0 < T.length by omega))
  have hw4 := hTw _ (List.getElem_mem (show 0 < T.length by omega))
  have c0 := hcT 0 (by omega)
  rw [Nat.add_zero] at c0
  obtain ⟨v0, hv0⟩ : ∃ v, T[0].1 = v := ⟨_, rfl⟩
  obtain ⟨n0, hn0⟩ : ∃ v, T[0].2.2 = v := ⟨_, rfl⟩
  rw [hv0] at c0 hvx
  rw [hn0] at hw4 hvx
  obtain ⟨T0, u0, rfl⟩ := hvx.iface
  obtain ⟨f, hmf, hc, hf⟩ := hvx.width
  unfold Enters at hc
  have KW := Lib.hid (hf _ (Below.refl _ _))
  obtain ⟨n, hn⟩ : ∃ n, S.length = n := ⟨_, rfl⟩
  obtain ⟨tn, htn⟩ : ∃ n, T.length = n := ⟨_, rfl⟩
  have HW := Lib.hid (withs_same (i := i) hS hTw hT2.1 hi)
  rw [hn] at hR hi hm cg
  obtain ⟨r, hr⟩ : ∃ r, i + 1 + r = n := ⟨n - (i + 1), by omega⟩
  obtain ⟨a1, c1, hr1, hp1⟩ := vrow_to hR i (by omega)
  obtain ⟨a2, c2, hr2, hp2⟩ := vrow_from hR (i + 1) r hr
  rw [show (((i + 1 : Nat)) : Int) = (i : Int) + 1 by omega] at hr2
  have hV : VRws d (w.alloc (.cells #[.slice a1 i c1, .slice (some ⟨b, off, none⟩) T.length capT, .slice a2 r c2] 121)).drew (.slice (some ⟨w.heap.size, 0, none⟩) 3 3) [(.slice a1 i c1, S.take i), (.slice (some ⟨b, off, none⟩) T.length capT, T), (.slice a2 r c2, S.drop (i + 1))] := (vrws_three _ hp1 hT hp2).drew
  have hfl : [((.slice a1 i c1 : Value), S.take i), (.slice (some ⟨b, off, none⟩) T.length capT, T), (.slice a2 r c2, S.drop (i + 1))].flatMap (·.2) = S.take i ++ (T ++ S.drop (i + 1)) := by simp
  have KC := Lib.hid (concatV_calls d _ _ _ hV (by simp) (by rw [hfl]; simp only [List.length_append, List.length_take, List.length_drop]; omega))
  rw [hfl] at KC
  clear hcT
  rw [htn] at KC hT2 ⊢
  have HS : Hid (∀ W, Below w.heap.size w W → W.cell? ⟨g, 0, none⟩ = some (.slice ao n cap)) := Lib.hid (fun W hB => look_below hB cg)
  have hB0 : Below w.heap.size w (w.alloc (.cells #[.slice a1 i c1, .slice (some ⟨b, off, none⟩) tn capT, .slice a2 r c2] 121)).drew := first_below w _
  have hbr : Below w.heap.size w w.drew := drew_below _
  have hge : decide ((4 : Int) ≤ (n0 : Int)) = true := by rw [decide_eq_true_eq]; omega
  have hi1 : IntKind.i64.wrap ((i : Int) + 1) = (i : Int) + 1 := by rw [IntKind.wrap_i64]; omega
  clear hV hfl hp1 hp2 hR hT hTw hS hvx hv0 hn0 hn htn hf cg
  go_enter Tryz.func114, Tryz.ntmps114
  go_wp2_with fail
  refine KW.out.mono ?_
  rintro e w1 ⟨rfl, rfl⟩
  go_wp2_with fail
  go_region_held3 (fun w' => w'.cell? ⟨g, 0, none⟩ = some (.slice ao n cap)) (first | exact HS.out _ hbr | exact HS.out _ hB0) (first
    | ((with_reducible refine KC.out.mono ?_); rintro e w1 ⟨u, rfl, hu, hB1⟩; have hbr := below2 hB0 hB1; have HU := Lib.hid hu; clear hu; obtain ⟨au, nu, cu, rfl⟩ := HU.out.any))
  go_wp2_with fail
  go_ret
  exact ⟨_, _, rfl, HU.out, HW.out, hbr⟩

set_option maxHeartbeats 4000000 in
set_option maxRecDepth 100000 in
theorem with_front_calls (d : Nat) (g : Nat) (ao : Option Addr) (cap : Nat) (S : List Ch) (c : Ch) (nv : Value) (w : World) (cg : w.cell? ⟨g, 0, none⟩ = some (.slice ao S.length cap)) (hR : VRow d w (.slice ao S.length cap) S) (hS : Wide S)
    (hT : VRow d w nv [c]) (hc3 : 3 ≤ c.2.2) (hc4 : c.2.2 < 4) (h2 : 2 ≤ S.length) (hm : S.length ≤ 100000) (hm2 : c.2.1.length + (allC S).length ≤ 1000000) :
    Calls Tryz.prog 114 #[.pointer (some ⟨g, 0, none⟩), .int .i64 0, nv] w fun e w' => ∃ u R, e = .returned u ∧ VRow d w' u R ∧ Withs S [c] 0 R ∧ Below w.heap.size w w' := by
  obtain ⟨b, off, capT, rfl, hcT⟩ := vrow_slots hT (by simp)
  simp only [List.length_singleton] at hT hcT ⊢
  have hvx := hT.2 c (by simp)
  have c0 := hcT 0 (by simp)
  rw [Nat.add_zero, List.getElem_cons_zero] at c0
  obtain ⟨v0, l0, n0⟩ := c
  dsimp only at c0 hvx hc3 hc4 hm2
  obtain ⟨T0, u0, rfl⟩ := hvx.iface
  obtain ⟨f, hmf, hc, hf⟩ := hvx.width
  unfold Enters at hc
  have KW := Lib.hid (hf _ (Below.refl _ _))
  obtain ⟨b1, off1, capS, hsl, hcS⟩ := vrow_slots hR (by omega)
  cases hsl
  have c1 := hcS 1 (by omega)
  have hv1 := hR.2 _ (List.getElem_mem (show 1 < S.length by omega))
  have hw1 := hS _ (List.getElem_mem (show 1 < S.length by omega))
  have hle := allC_mem_le (List.getElem_mem (show 1 < S.length by omega))
  have HW := Lib.hid (fun L hL hw h1 => withs_front (S := S) (L := L) (c := (.iface T0 u0, l0, n0)) hS h2 hL hw h1)
  dsimp only at HW
  obtain ⟨x1, hx1⟩ : ∃ v, S[1].1 = v := ⟨_, rfl⟩
  obtain ⟨l1, hl1⟩ : ∃ v, S[1].2.1 = v := ⟨_, rfl⟩
  obtain ⟨n1, hn1⟩ : ∃ v, S[1].2.2 = v := ⟨_, rfl⟩
  rw [hx1] at c1 hv1
  rw [hl1] at hle hv1 HW
  rw [hn1] at hw1 hv1
  obtain ⟨T1, u1, rfl⟩ := hv1.iface
  have KL := Lib.hid (fun W (hW : Below w.heap.size w W) => levelled_calls d _ _ _ _ _ _ W (hvx.below hW) (hv1.below hW) (by rw [List.length_append]; omega))
  obtain ⟨n, hn⟩ : ∃ n, S.length = n := ⟨_, rfl⟩
  rw [hn] at hR h2 hm cg
  obtain ⟨r, hr⟩ : ∃ r, 2 + r = n := ⟨n - 2, by omega⟩
  obtain ⟨a2, c2, hr2, hp2⟩ := vrow_from hR 2 r hr
  rw [show (((2 : Nat)) : Int) = 2 from rfl] at hr2
  have KC := Lib.hid (fun (W : World) (a : Option Addr) (m c : Nat) (L : List Ch) (hW : Below w.heap.size w W) (hL : VRow d W (.slice a m c) L) (hl : L.length ≤ 2) => by
    have hfl : [((.slice a m c : Value), L), (.slice a2 r c2, S.drop 2)].flatMap (·.2) = L ++ S.drop 2 := by simp
    have := concatV_calls d _ _ _ (vrws_two 121 hL (hp2.below hW)) (by simp) (by rw [hfl]; simp only [List.length_append, List.length_drop]; omega)
    rw [hfl] at this
    exact this)
  have HN := Lib.hid (show 4 ≤ n0 + n1 by omega)
  have HS : Hid (∀ W, Below w.heap.size w W → W.cell? ⟨g, 0, none⟩ = some (.slice (some ⟨b1, off1, none⟩) n cap) ∧ W.cell? ⟨b, off, none⟩ = some (.iface T0 u0) ∧ W.cell? ⟨b1, off1 + 1, none⟩ = some (.iface T1 u1)) := Lib.hid (fun W hB => ⟨look_below hB cg, look_below hB c0, look_below hB c1⟩)
  have hbr : Below w.heap.size w w.drew := drew_below _
  have hge : decide ((4 : Int) ≤ (n0 : Int)) = false := by rw [decide_eq_false_iff_not]; omega
  have h1n : (1 : Int) < (n : Int) := by omega
  have h1m : 1 < n := by omega
  clear hp2 hR hT hS hvx hn hf cg hcT hcS c1 hv1 hx1 hl1 hn1 hw1 hle
  go_enter Tryz.func114, Tryz.ntmps114
  go_wp2_with fail
  refine KW.out.mono ?_
  rintro e w1 ⟨rfl, rfl⟩
  go_wp2_with fail
  go_region_held3 (fun w' => w'.cell? ⟨g, 0, none⟩ = some (.slice (some ⟨b1, off1, none⟩) n cap) ∧ w'.cell? ⟨b, off, none⟩ = some (.iface T0 u0) ∧ w'.cell? ⟨b1, off1 + 1, none⟩ = some (.iface T1 u1)) (first | exact HS.out _ hbr | exact HS.out _ (hbr.alloc hbr.size _)) (first
    | ((with_reducible refine (KL.out _ hbr).mono ?_); rintro e w1 ⟨u, L, rfl, hu, hL, hN, hB1⟩; have hbr := below2 hbr hB1; have HU := Lib.hid (And.intro hu (And.intro hL hN)); clear hu hL hN; obtain ⟨au, nu, cu, rfl⟩ := HU.out.1.any)
    | ((with_reducible refine (KC.out _ _ _ _ _ hbr HU.out.1 HU.out.2.2.most).mono ?_); rintro e w1 ⟨u, rfl, hu, hB1⟩; have hbr := below2 (hbr.alloc hbr.size _) hB1; have HU2 := Lib.hid hu; clear hu; obtain ⟨au, nu, cu, rfl⟩ := HU2.out.any))
  go_wp2_with fail
  go_ret
  exact ⟨_, _, rfl, HU2.out, HW.out _ HU.out.2.1 (news_wide HU.out.2.2 HN.out) HU.out.2.2.some, hbr⟩

set_option maxHeartbeats 4000000 in
set_option maxRecDepth 100000 in
theorem with_behind_calls (d : Nat) (g : Nat) (ao : Option Addr) (cap j : Nat) (S : List Ch) (c : Ch) (nv : Value) (w : World) (cg : w.cell? ⟨g, 0, none⟩ = some (.slice ao S.length cap)) (hR : VRow d w (.slice ao S.length cap) S) (hS : Wide S)
    (hT : VRow d w nv [c]) (hc3 : 3 ≤ c.2.2) (hc4 : c.2.2 < 4) (hj : j + 1 < S.length) (hm : S.length ≤ 100000) (hm2 : c.2.1.length + (allC S).length ≤ 1000000) :
    Calls Tryz.prog 114 #[.pointer (some ⟨g, 0, none⟩), .int .i64 ((j : Int) + 1), nv] w fun e w' => ∃ u R, e = .returned u ∧ VRow d w' u R ∧ Withs S [c] (j + 1) R ∧ Below w.heap.size w w' := by
  obtain ⟨b, off, capT, rfl, hcT⟩ := vrow_slots hT (by simp)
  simp only [List.length_singleton] at hT hcT ⊢
  have hvx := hT.2 c (by simp)
  have c0 := hcT 0 (by simp)
  rw [Nat.add_zero, List.getElem_cons_zero] at c0
  obtain ⟨v0, l0, n0⟩ := c
  dsimp only at c0 hvx hc3 hc4 hm2
  obtain ⟨T0, u0, rfl⟩ := hvx.iface
  obtain ⟨f, hmf, hc, hf⟩ := hvx.width
  unfold Enters at hc
  have KW := Lib.hid (hf _ (Below.refl _ _))
  obtain ⟨b1, off1, capS, hsl, hcS⟩ := vrow_slots hR (by omega)
  cases hsl
  have c1 := hcS j (by omega)
  have hv1 := hR.2 _ (List.getElem_mem (show j < S.length by omega))
  have hw1 := hS _ (List.getElem_mem (show j < S.length by omega))
  have hle := allC_mem_le (List.getElem_mem (show j < S.length by omega))
  have HW := Lib.hid (fun L hL hw h1 => withs_behind (S := S) (L := L) (c := (.iface T0 u0, l0, n0)) hS hj hL hw h1)
  dsimp only at HW
  obtain ⟨x1, hx1⟩ : ∃ v, S[j].1 = v := ⟨_, rfl⟩
  obtain ⟨l1, hl1⟩ : ∃ v, S[j].2.1 = v := ⟨_, rfl⟩
  obtain ⟨n1, hn1⟩ : ∃ v, S[j].2.2 = v := ⟨_, rfl⟩
  rw [hx1] at c1 hv1
  rw [hl1] at hle hv1 HW
  rw [hn1] at hw1 hv1
  obtain ⟨T1, u1, rfl⟩ := hv1.iface
  have KL := Lib.hid (fun W (hW : Below w.heap.size w W) => levelled_calls d _ _ _ _ _ _ W (hv1.below hW) (hvx.below hW) (by rw [List.length_append]; omega))
  obtain ⟨n, hn⟩ : ∃ n, S.length = n := ⟨_, rfl⟩
  rw [hn] at hR hj hm cg
  obtain ⟨r, hr⟩ : ∃ r, j + 1 + 1 + r = n := ⟨n - (j + 1 + 1), by omega⟩
  obtain ⟨a1, k1, hr1, hp1⟩ := vrow_to hR j (by omega)
  obtain ⟨a2, c2, hr2, hp2⟩ := vrow_from hR (j + 1 + 1) r hr
  rw [show (((j + 1 + 1 : Nat)) : Int) = (j : Int) + 1 + 1 by omega] at hr2
  have KC := Lib.hid (fun (W : World) (a : Option Addr) (m c : Nat) (L : List Ch) (hW : Below w.heap.size w W) (hL : VRow d W (.slice a m c) L) (hl : L.length ≤ 2) => by
    have hfl : [((.slice a1 j k1 : Value), S.take j), (.slice a m c, L), (.slice a2 r c2, S.drop (j + 1 + 1))].flatMap (·.2) = S.take j ++ (L ++ S.drop (j + 1 + 1)) := by simp
    have := concatV_calls d _ _ _ (vrws_three 121 (hp1.below hW) hL (hp2.below hW)) (by simp) (by rw [hfl]; simp only [List.length_append, List.length_take, List.length_drop]; omega)
    rw [hfl] at this
    exact this)
  have HN := Lib.hid (show 4 ≤ n1 + n0 by omega)
  have HS : Hid (∀ W, Below w.heap.size w W → W.cell? ⟨g, 0, none⟩ = some (.slice (some ⟨b1, off1, none⟩) n cap) ∧ W.cell? ⟨b, off, none⟩ = some (.iface T0 u0) ∧ W.cell? ⟨b1, off1 + j, none⟩ = some (.iface T1 u1)) := Lib.hid (fun W hB => ⟨look_below hB cg, look_below hB c0, look_below hB c1⟩)
  have hbr : Below w.heap.size w w.drew := drew_below _
  have hge : decide ((4 : Int) ≤ (n0 : Int)) = false := by rw [decide_eq_false_iff_not]; omega
  have h1n : (j : Int) < (n : Int) := by omega
  have h1m : j < n := by omega
  have hz : decide ((j : Int) + 1 = 0) = false := by rw [decide_eq_false_iff_not]; omega
  have hz2 : ((j : Int) + 1 == 0) = false := by rw [beq_eq_false_iff_ne]; omega
  have hi1 : IntKind.i64.wrap ((j : Int) + 1 + 1) = (j : Int) + 1 + 1 := by rw [IntKind.wrap_i64]; omega
  have hi0 : IntKind.i64.wrap ((j : Int) + 1 - 1) = (j : Int) := by rw [IntKind.wrap_i64]; omega
  have hi2 : IntKind.i64.wrap (j : Int) = (j : Int) := by rw [IntKind.wrap_i64]; omega
  clear hp1 hp2 hR hT hS hvx hn hf cg hcT hcS c1 hv1 hx1 hl1 hn1 hw1 hle
  go_enter Tryz.func114, Tryz.ntmps114
  go_wp2_with fail
  refine KW.out.mono ?_
  rintro e w1 ⟨rfl, rfl⟩
  go_wp2_with fail
  go_region_held3 (fun w' => w'.cell? ⟨g, 0, none⟩ = some (.slice (some ⟨b1, off1, none⟩) n cap) ∧ w'.cell? ⟨b, off, none⟩ = some (.iface T0 u0) ∧ w'.cell? ⟨b1, off1 + j, none⟩ = some (.iface T1 u1)) (first | exact HS.out _ hbr | exact HS.out _ (hbr.alloc hbr.size _)) (first
    | ((with_reducible refine (KL.out _ hbr).mono ?_); rintro e w1 ⟨u, L, rfl, hu, hL, hN, hB1⟩; have hbr := below2 hbr hB1; have HU := Lib.hid (And.intro hu (And.intro hL hN)); clear hu hL hN; obtain ⟨au, nu, cu, rfl⟩ := HU.out.1.any)
    | ((with_reducible refine (KC.out _ _ _ _ _ hbr HU.out.1 HU.out.2.2.most).mono ?_); rintro e w1 ⟨u, rfl, hu, hB1⟩; have hbr := below2 (hbr.alloc hbr.size _) hB1; have HU2 := Lib.hid hu; clear hu; obtain ⟨au, nu, cu, rfl⟩ := HU2.out.any))
  go_wp2_with fail
  go_ret
  exact ⟨_, _, rfl, HU2.out, HW.out _ HU.out.2.1 (news_wide HU.out.2.2 HN.out) HU.out.2.2.some, hbr⟩

end Go.Proofs.YtaaabmnaindgaaaGreatDoor

/-
  tree: edited.
-/
namespace Go.Proofs.YtaaabmnaindgaaaGreatDoor
set_option maxRecDepth 100000
open Go.RowKit

theorem with_calls (d : Nat) (g : Nat) (ao : Option Addr) (cap i : Nat) (S T : List Ch) (nv : Value) (w : World) (cg : w.cell? ⟨g, 0, none⟩ = some (.slice ao S.length cap)) (hR : VRow d w (.slice ao S.length cap) S) (hS : Wide S)
    (hT : VRow d w nv T) (hN : News 3 T) (h2 : 2 ≤ S.length) (hi : i < S.length) (hm : S.length ≤ 100000) (hm2 : (allC T).length + (allC S).length ≤ 1000000) :
    Calls Tryz.prog 114 #[.pointer (some ⟨g, 0, none⟩), .int .i64 i, nv] w fun e w' => ∃ u R, e = .returned u ∧ VRow d w' u R ∧ Withs S T i R ∧ Below w.heap.size w w' := by
  by_cases h4 : 4 ≤ (T[0]'hN.some).2.2
  · exact with_same_calls d g ao cap i S T nv w cg hR hS hT (hN.wide fun _ => h4) ⟨hN.some, hN.most⟩ hi hm
  · obtain ⟨c, rfl, h3⟩ := hN.alone hN.some (by omega)
    rw [allC_one] at hm2
    have h4' : c.2.2 < 4 := by simpa using h4
    cases i with
    | zero => exact with_front_calls d g ao cap S c nv w cg hR hS hT h3 h4' h2 hm hm2
    | succ j =>
      rw [show ((j + 1 : Nat) : Int) = (j : Int) + 1 by omega]
      exact with_behind_calls d g ao cap j S c nv w cg hR hS hT h3 h4' hi hm hm2

/-- What cut makes of what with made. -/
theorem cut_with_calls (d : Nat) (i : Nat) (S T R : List Ch) (v : Value) (w : World) (h : VRow d w v R) (hw : Withs S T i R) (hm : (allC R).length ≤ 1000000) :
    Calls Tryz.prog 113 #[v, .func (.func 88) #[] #[]] w fun e w' => ∃ u Z d', e = .returned u ∧ VRow d' w' u Z ∧ allC Z = allC R ∧ News (S.length - 1) Z ∧ (3 ≤ S.length → d' = d + 1) ∧ Below w.heap.size w w' := by
  obtain ⟨h1, _, h3, h4⟩ := hw
  by_cases h2 : 2 ≤ R.length
  · refine (cutV_calls d v R w h h1 h2 hm).mono ?_
    rintro e w' ⟨u, Z, rfl, hv, hZ, hN, hB⟩
    exact ⟨u, Z, d + 1, rfl, hv, hZ, hN.less (by omega), fun _ => rfl, hB⟩
  · obtain ⟨c, rfl⟩ := List.length_eq_one_iff.1 (show R.length = 1 by omega)
    refine (cutV_one d v c w h).mono ?_
    rintro e w' ⟨u, rfl, hv, hB⟩
    have hc := h1 c (by simp)
    simp only [List.length_singleton] at h3
    exact ⟨u, [c], d, rfl, hv, rfl, .inl ⟨c, rfl, by omega⟩, fun _ => by omega, hB⟩

/-- The closure edits pairs so. -/
def Edits (f : FuncId) (x : Value) (s : Option (List UInt8)) (k : Ky) (w : World) : Prop :=
  ∀ W u l, Below w.heap.size w W → Prs W u l → l.length ≤ 100000 → Calls Tryz.prog f #[u, x] W fun e w' => ∃ u', e = .returned u' ∧ Prs w' u' (editL s k l) ∧ Below W.heap.size W w'
theorem Edits.below {f : FuncId} {x : Value} {s : Option (List UInt8)} {k : Ky} {w w' : World} (h : Edits f x s k w) (hB : Below w.heap.size w w') : Edits f x s k w' := fun W u l hW => h W u l (below2 hB hW)
set_option maxHeartbeats 8000000 in
set_option maxRecDepth 100000 in
theorem edited_calls (f : FuncId) (hc : Enters f) (x : Value) (s : Option (List UInt8)) (p : List UInt8) (m : Int) : ∀ (d : Nat) (v : Value) (l : List Pr) (n : Nat) (w : World), Vx d w v l n → Rises l → l.length ≤ 99999 → Edits f x s (p, m) w →
    Calls Tryz.prog 89 #[v, .agg #[.string ⟨p.toArray⟩, .int .i64 m], .func (.func f) #[] #[x]] w fun e w' => ∃ u Z d', e = .returned u ∧ VRow d' w' u Z ∧ allC Z = editL s (p, m) l ∧ News (n - 1) Z ∧ (3 ≤ n → d' = d) ∧ Below w.heap.size w w'
  | 0, v, l, n, w, ⟨hn, u, hv, hp⟩, hr, hm, hE => by
    subst hv hn
    have ha := asLeaf u
    unfold Enters at hc
    have hB0 := below_alloc w (.cells #[.string ⟨p.toArray⟩, .int .i64 m] 65)
    have KE := Lib.hid (hE _ _ _ hB0 (hp.below hB0) (by omega))
    have hl := edit_length s (p, m) l
    have KK := Lib.hid (fun u W (h : Prs W u (editL s (p, m) l)) => cutP_calls u _ W h (by omega))
    have HL := Lib.hid (show l.length - 1 ≤ (editL s (p, m) l).length by omega)
    obtain ⟨a1, n1, c1, rfl⟩ := hp.any
    clear hp hr hm hE hl
    go_enter Tryz.func89, Tryz.ntmps89
    go_wp2_with fail
    refine KE.out.mono ?_
    rintro e w1 ⟨u1, rfl, hu1, hB1⟩
    have HU := Lib.hid hu1
    clear hu1
    obtain ⟨a2, n2, c2, rfl⟩ := HU.out.any
    go_wp2_with fail
    refine (KK.out _ _ HU.out).mono ?_
    rintro e w2 ⟨u2, Z, rfl, hv, hZ, hN, hB2⟩
    have HF := Lib.hid (And.intro hv (And.intro hZ hN))
    clear hv hZ hN
    obtain ⟨a3, n3, c3, rfl⟩ := HF.out.1.any
    go_wp2_with fail
    go_ret
    obtain ⟨hv, hZ, hN⟩ := HF.out
    exact ⟨_, Z, 0, rfl, hv, hZ, hN.less HL.out, fun _ => rfl, below2 (below2 hB0 hB1) hB2⟩
  | d + 1, v, l, n, w, hV, hr, hm, hE => by
    obtain ⟨g, ao, cap, S, x0, rfl, rfl, h2, rfl, _, c0, _, _, _, hR, hS⟩ := hV.open
    have hcn := hR.count hS
    have ha := asLeafNot (.pointer (some ⟨g, 0, none⟩))
    have hb := asBranch (.pointer (some ⟨g, 0, none⟩))
    have hB0 := below_alloc w (.cells #[.string ⟨p.toArray⟩, .int .i64 m] 65)
    obtain ⟨k0, k1, _⟩ := (kbox_new w p m).two
    obtain ⟨b, off, rfl, hcs⟩ := hR.vals h2
    obtain ⟨F, hF⟩ : ∃ F : Nat → Value, ∀ k (h : k < S.length), S[k].1 = F k := ⟨fun k => (S[k]?.map (·.1)).getD undef, fun k h => by simp [List.getElem?_eq_getElem h]⟩
    have hcs' : ∀ k, k < S.length → w.cell? ⟨b, off + k, none⟩ = some (F k) := fun k h => by rw [hcs k h, hF k h]
    have KP := Lib.hid (fun W (hB : Below w.heap.size w W) => spot_calls d S p m g (some ⟨b, off, none⟩) cap W (look_below hB c0) (hR.below hB) hS h2 (by omega) hr)
    have KE : Hid (∀ i (hi : Spot S (p, m) i), ∀ W, Below w.heap.size w W → Calls Tryz.prog 89 #[F i, .agg #[.string ⟨p.toArray⟩, .int .i64 m], .func (.func f) #[] #[x]] W fun e w' => ∃ u T, e = .returned u ∧ VRow d w' u T ∧ (allC T = editL s (p, m) (S[i]'hi.1).2.1 ∧ News 3 T) ∧ Below W.heap.size W w') :=
      Lib.hid (fun i hi W hB => by
        obtain ⟨hlt, ha, hc'⟩ := hi
        have hp := allC_parts hlt
        rw [← hF i hlt]
        have h4 := hS _ (List.getElem_mem hlt)
        refine (edited_calls f hc x s p m d _ _ _ W ((hR.2 _ (List.getElem_mem hlt)).below hB) (by
          rw [hp] at hr
          exact (hr.sublist (List.sublist_append_right _ _)).sublist (List.sublist_append_left _ _)) (by have := allC_mem_le (List.getElem_mem hlt); omega) (hE.below hB)).mono ?_
        rintro e w' ⟨u, Z, d', rfl, hv, hZ, hN, hd, hB'⟩
        obtain rfl := hd (by omega)
        exact ⟨u, Z, rfl, hv, ⟨hZ, hN.less (by omega)⟩, hB'⟩)
    have KW := Lib.hid (fun i T u W (hi : Spot S (p, m) i) (hB : Below w.heap.size w W) (hT : VRow d W u T) (hN : allC T = editL s (p, m) (S[i]'hi.1).2.1 ∧ News 3 T) => with_calls d g (some ⟨b, off, none⟩) cap i S T u W (look_below hB c0) (hR.below hB) hS hT hN.2 h2 hi.1 (by omega) (by
        have h1 := edit_length s (p, m) (S[i]'hi.1).2.1
        have := allC_mem_le (List.getElem_mem hi.1)
        rw [hN.1]
        omega))
    have HE := Lib.hid (fun i T R (hi : Spot S (p, m) i) (hN : allC T = editL s (p, m) (S[i]'hi.1).2.1 ∧ News 3 T) (hW : Withs S T i R) => show allC R = editL s (p, m) (allC S) by
        rw [hW.2.1, hN.1, hi.parts, parts_edit s hi.2.1 hi.2.2])
    have KC := Lib.hid (fun i T R u W (hi : Spot S (p, m) i) (hN : allC T = editL s (p, m) (S[i]'hi.1).2.1 ∧ News 3 T) (hW : Withs S T i R) (hv : VRow d W u R) => cut_with_calls d i S T R u W hv hW (by
        rw [HE.out i T R hi hN hW]
        have := edit_length s (p, m) (allC S)
        omega))
    have HS : Hid (∀ W, Below (w.alloc (.cells #[.string ⟨p.toArray⟩, .int .i64 m] 65)).heap.size (w.alloc (.cells #[.string ⟨p.toArray⟩, .int .i64 m] 65)) W → W.cell? ⟨w.heap.size, 0, none⟩ = some (.string ⟨p.toArray⟩) ∧ W.cell? ⟨w.heap.size, 1, none⟩ = some (.int .i64 m) ∧ W.cell? ⟨g, 0, none⟩ = some (.slice (some ⟨b, off, none⟩) S.length cap) ∧ ∀ k, k < S.length → W.cell? ⟨b, off + k, none⟩ = some (F k)) :=
      Lib.hid (fun W hB => ⟨look_below hB k0, look_below hB k1, look_below (below2 hB0 hB) c0, fun k h => look_below (below2 hB0 hB) (hcs' k h)⟩)
    unfold Enters at hc
    clear hcs hcs' hF hR hS hr hV c0 hE hm hcn h2
    go_enter Tryz.func89, Tryz.ntmps89
    go_wp2_with fail
    refine (KP.out _ hB0).mono ?_
    rintro e w1 ⟨⟨i, rfl, hi⟩, hB1⟩
    have hlt := hi.1
    have HI := Lib.hid hi
    clear hi
    have hbr := hB1.drew
    go_wp2_with fail
    go_region_held3 (fun w' => w'.cell? ⟨w.heap.size, 0, none⟩ = some (.string ⟨p.toArray⟩) ∧ w'.cell? ⟨w.heap.size, 1, none⟩ = some (.int .i64 m) ∧ w'.cell? ⟨g, 0, none⟩ = some (.slice (some ⟨b, off, none⟩) S.length cap) ∧ ∀ k, k < S.length → w'.cell? ⟨b, off + k, none⟩ = some (F k)) (first | exact HS.out _ hbr) (first
      | ((with_reducible refine (KE.out _ HI.out _ (below2 hB0 hbr)).mono ?_); rintro e w2 ⟨u2, T, rfl, hT, hN, hB2⟩; have hbr := below2 hbr hB2; have HT := Lib.hid (And.intro hT hN); clear hT hN; obtain ⟨a2, n2, c2, rfl⟩ := HT.out.1.any)
      | ((with_reducible refine (KW.out _ T _ _ HI.out (below2 hB0 hbr) HT.out.1 HT.out.2).mono ?_); rintro e w3 ⟨u3, R, rfl, hR, hW, hB3⟩; have hbr := below2 hbr hB3; have HR := Lib.hid (And.intro hR hW); clear hR hW; obtain ⟨a3, n3, c3, rfl⟩ := HR.out.1.any)
      | ((with_reducible refine (KC.out _ T R _ _ HI.out HT.out.2 HR.out.2 HR.out.1).mono ?_); rintro e w4 ⟨u4, Z, d', rfl, hv, hZ, hN4, hd, hB4⟩; have hbr := below2 hbr hB4; have HZ := Lib.hid (And.intro hv (And.intro hZ (And.intro hN4 hd))); clear hv hZ hN4 hd; obtain ⟨a4, n4, c4, rfl⟩ := HZ.out.1.any))
    go_wp2_with fail
    go_ret
    obtain ⟨hv, hZ, hN4, hd⟩ := HZ.out
    exact ⟨_, Z, d', rfl, hv, by rw [hZ, HE.out i T R HI.out HT.out.2 HR.out.2], hN4, hd, below2 hB0 hbr⟩

end Go.Proofs.YtaaabmnaindgaaaGreatDoor

/-
  tree: another.
-/
namespace Go.Proofs.YtaaabmnaindgaaaGreatDoor
set_option maxRecDepth 100000
open Go.RowKit

theorem root_calls {N : Nat} (d : Nat) (rv : Value) (Z : List Ch) (w : World) (h : VRow d w rv Z) (hN : News N Z) (hm : (allC Z).length ≤ 1000000) :
    Calls Tryz.prog 88 #[rv] w fun e w' => ∃ v d' n, e = .returned v ∧ Vx d' w' v (allC Z) n ∧ Below w.heap.size w w' := by
  rcases hN with ⟨c, rfl, _⟩ | ⟨a, b, rfl, h1, h2⟩
  · refine (over_one d rv c w h).mono ?_
    rintro e w' ⟨rfl, rfl⟩
    exact ⟨c.1, d, c.2.2, rfl, by rw [allC_one]; exact h.2 c (by simp), Below.refl _ _⟩
  · refine (over_calls d rv [a, b] w h (fun c hc => by
      simp only [List.mem_cons, List.not_mem_nil, or_false] at hc
      rcases hc with rfl | rfl
      · exact h1
      · exact h2) (by simp) hm).mono ?_
    rintro e w' ⟨v, rfl, hv, hB⟩
    exact ⟨v, d + 1, 2, rfl, hv, hB⟩

set_option maxHeartbeats 4000000 in
set_option maxRecDepth 100000 in
theorem another_calls (f : FuncId) (hc : Enters f) (x : Value) (s : Option (List UInt8)) (p : List UInt8) (m : Int) (v : Value) (l : List Pr) (w : World) (ht : TreeV w v l) (hm : l.length ≤ 99999) (hE : Edits f x s (p, m) w) :
    Calls Tryz.prog 56 #[v, .agg #[.string ⟨p.toArray⟩, .int .i64 m], .func (.func f) #[] #[x]] w fun e w' => ∃ u, e = .returned u ∧ TreeV w' u (editL s (p, m) l) ∧ Below w.heap.size w w' := by
  have hB0 := below_alloc w (.cells #[.string ⟨p.toArray⟩, .int .i64 m] 65)
  obtain ⟨k0, k1, _⟩ := (kbox_new w p m).two
  have HR := Lib.hid (edit_rises ht.1 s (p, m))
  have KT := Lib.hid (fun W (hB : Below w.heap.size w W) => top_calls v l W (ht.below hB))
  have KE := Lib.hid (fun d u n W (hB : Below w.heap.size w W) (hv : Vx d W u l n) => edited_calls f hc x s p m d u l n W hv ht.1 hm (hE.below hB))
  have KO := Lib.hid (fun (N d : Nat) (u : Value) (Z : List Ch) (W : World) (h : VRow d W u Z) (hN : News N Z) (hZ : allC Z = editL s (p, m) l) => root_calls d u Z W h hN (by
    have := edit_length s (p, m) l
    rw [hZ]
    omega))
  have HS : Hid (∀ W, Below (w.alloc (.cells #[.string ⟨p.toArray⟩, .int .i64 m] 65)).heap.size (w.alloc (.cells #[.string ⟨p.toArray⟩, .int .i64 m] 65)) W → W.cell? ⟨w.heap.size, 0, none⟩ = some (.string ⟨p.toArray⟩) ∧ W.cell? ⟨w.heap.size, 1, none⟩ = some (.int .i64 m)) :=
    Lib.hid (fun W hB => ⟨look_below hB k0, look_below hB k1⟩)
  have hbr : Below (w.alloc (.cells #[.string ⟨p.toArray⟩, .int .i64 m] 65)).heap.size (w.alloc (.cells #[.string ⟨p.toArray⟩, .int .i64 m] 65)) (w.alloc (.cells #[.string ⟨p.toArray⟩, .int .i64 m] 65)).drew := drew_below _
  unfold Enters at hc
  clear ht hE k0 k1
  go_enter Tryz.func56, Tryz.ntmps56
  go_wp2_with fail
  go_region_held3 (fun w' => w'.cell? ⟨w.heap.size, 0, none⟩ = some (.string ⟨p.toArray⟩) ∧ w'.cell? ⟨w.heap.size, 1, none⟩ = some (.int .i64 m)) (first | exact HS.out _ hbr | exact HS.out _ (hbr.alloc hbr.size _)) (first
    | ((with_reducible refine (KT.out _ (below2 hB0 hbr)).mono ?_); rintro e w1 ⟨rfl, u1, d1, n1, rfl, hv1⟩; have HV := Lib.hid hv1; clear hv1; obtain ⟨T1, x1, rfl⟩ := HV.out.iface)
    | ((with_reducible refine (KE.out _ _ _ _ (below2 hB0 hbr) HV.out).mono ?_); rintro e w2 ⟨u2, Z, d2, rfl, hv2, hZ, hN, _, hB2⟩; have hbr := below2 hbr hB2; have HZ := Lib.hid (And.intro hv2 (And.intro hN hZ)); clear hv2 hZ hN; obtain ⟨a2, n2, c2, rfl⟩ := HZ.out.1.any)
    | ((with_reducible refine (KO.out _ _ _ _ _ HZ.out.1 HZ.out.2.1 HZ.out.2.2).mono ?_); rintro e w3 ⟨u3, d3, n3, rfl, hv3, hB3⟩; have hbr := below2 hbr hB3; have HW := Lib.hid hv3; clear hv3; obtain ⟨T3, x3, rfl⟩ := HW.out.iface))
  go_wp2_with fail
  go_ret
  have e := HZ.out.2.2
  refine ⟨_, rfl, ⟨HR.out, .inr ⟨_, _, rfl, by rw [World.cell?_alloc_new]; rfl, .inr ⟨d3, n3, ?_⟩⟩⟩, below2 (below2 hB0 hbr) (below_alloc _ _)⟩
  rw [← e]
  exact HW.out.below (below_alloc _ _)

end Go.Proofs.YtaaabmnaindgaaaGreatDoor

/-
  tree: Drop.
-/
namespace Go.Proofs.YtaaabmnaindgaaaGreatDoor
set_option maxRecDepth 100000
open Go.RowKit

theorem entersDrop : Enters 65 := fun _ _ => by kernel_rfl


set_option maxHeartbeats 2000000 in
theorem edits_drop {w : World} {g : Nat} {p : List UInt8} {m : Int} (h : KBox w g (p, m)) : Edits 65 (.pointer (some ⟨g, 0, none⟩)) none (p, m) w := by
  intro W u l hB hP hm
  have K := Lib.hid (drop_calls u l p m W hP hm)
  obtain ⟨c0, c1, _⟩ := (h.below hB).two
  obtain ⟨ao, n, cap, rfl⟩ := hP.any
  clear hP h
  go_enter Tryz.func65, Tryz.ntmps65
  go_wp2_with fail
  refine K.out.mono ?_
  rintro e w1 ⟨a1, n1, k1, rfl, ho, hB1⟩
  have HO := Lib.hid ho.prs
  clear ho
  go_wp2_with fail
  go_ret
  exact ⟨_, rfl, HO.out, hB1⟩

set_option maxHeartbeats 2000000 in
theorem tdrop_calls (v : Value) (l : List Pr) (p : List UInt8) (m : Int) (w : World) (ht : TreeV w v l) (hm : l.length ≤ 99999) :
    Calls Tryz.prog 39 #[v, .agg #[.string ⟨p.toArray⟩, .int .i64 m]] w fun e w' => ∃ u, e = .returned u ∧ TreeV w' u (dropL l (p, m)) ∧ Below w.heap.size w w' := by
  have hB0 := below_alloc w (.cells #[.string ⟨p.toArray⟩, .int .i64 m] 65)
  have hX := kbox_new w p m
  have K := Lib.hid (another_calls _ entersDrop _ none p m v l _ (ht.below hB0) hm (edits_drop hX))
  obtain ⟨c0, c1, _⟩ := hX.two
  clear ht hX
  go_enter Tryz.func39, Tryz.ntmps39
  go_wp2_with fail
  refine K.out.mono ?_
  rintro e w1 ⟨u, rfl, hu, hB1⟩
  have HU := Lib.hid hu
  clear hu
  go_wp2_with fail
  go_ret
  exact ⟨_, rfl, HU.out, below2 hB0 hB1⟩

end Go.Proofs.YtaaabmnaindgaaaGreatDoor

/-
  Rows of one's own whose cells are all of one kind (pointers; slices): trees and rows of pairs stay while such a row grows.
-/
namespace Go.Proofs.YtaaabmnaindgaaaGreatDoor
set_option maxRecDepth 100000
open Go.RowKit

def isPtr : Value → Bool | .pointer _ => true | _ => false
/-- No text, no interface is of this kind. -/
def Kind (K : Value → Bool) : Prop := (∀ s, K (.string s) = false) ∧ (∀ T u, K (.iface T u) = false) ∧ K .nilIface = false
theorem kind_ptr : Kind isPtr := ⟨fun _ => rfl, fun _ _ => rfl, rfl⟩
/-- At most one block is another one: of this type, with cells of this kind alone. -/
def StepK (K : Value → Bool) (e : TypeId) (w w' : World) : Prop := w.heap.size ≤ w'.heap.size ∧ ∃ g : Nat, (∀ cur t f, w.heap[g]? = some (.cells cur t f) → t = e ∧ ∀ u ∈ cur.toList, K u = true) ∧ ∀ i, i ≠ g → i < w.heap.size → w'.heap[i]? = w.heap[i]?
theorem StepK.of_below {K : Value → Bool} {e : TypeId} {w w' : World} (h : Below w.heap.size w w') : StepK K e w w' :=
  ⟨h.size, w.heap.size, fun cur t f hg => by
    have := (Array.getElem?_eq_some_iff.1 hg).1
    omega, fun i _ hi => h.block i hi⟩
theorem cell_block {w w' : World} {b o : Nat} (h : w'.heap[b]? = w.heap[b]?) : w'.cell? ⟨b, o, none⟩ = w.cell? ⟨b, o, none⟩ := by
  unfold World.cell?
  rw [h]
/-- A block in which a cell is not of this kind stays. -/
theorem StepK.cell {K : Value → Bool} {e : TypeId} {w w' : World} (h : StepK K e w w') {b o : Nat} {v : Value} (hc : w.cell? ⟨b, o, none⟩ = some v) (hv : K v = false) (o' : Nat) : w'.cell? ⟨b, o', none⟩ = w.cell? ⟨b, o', none⟩ := by
  obtain ⟨_, g, hg, hk⟩ := h
  refine cell_block (hk b (fun e => ?_) (World.block_lt_of_cell? w _ hc))
  subst e
  unfold World.cell? at hc
  dsimp only at hc
  split at hc
  · rename_i c t f hb
    have hcb := hc
    simp only [Option.isSome_none, Bool.false_eq_true, if_false] at hcb
    obtain ⟨ho, hx⟩ := Array.getElem?_eq_some_iff.1 hcb
    have := (hg c t f hb).2 v (by rw [← hx]; exact Array.getElem_mem_toList ho)
    rw [hv] at this
    cases this
  · cases hc
theorem Prs.step {K : Value → Bool} (hK : Kind K) {e : TypeId} {w w' : World} (h : StepK K e w w') {v : Value} {l : List Pr} (hp : Prs w v l) : Prs w' v l := by
  obtain ⟨hl, ao, cap, he, hc, h0 | ⟨b, off, rfl, hcs⟩⟩ := hp
  · exact ⟨hl, ao, cap, he, hc, .inl h0⟩
  · refine ⟨hl, _, cap, he, hc, .inr ⟨b, off, rfl, fun j hj => ?_⟩⟩
    have h0 := hcs 0 (by omega)
    obtain ⟨x, r, rfl⟩ : ∃ x r, l = x :: r := by
      cases l with
      | nil => simp [pcells] at hj
      | cons x r => exact ⟨x, r, rfl⟩
    have e0 : (pcells (x :: r))[0]'(by omega) = .string ⟨x.1.1.toArray⟩ := rfl
    rw [e0, Nat.add_zero] at h0
    rw [h.cell h0 (hK.1 _)]
    exact hcs j hj
theorem Vx.step {K : Value → Bool} (hK : Kind K) {e : TypeId} {w w' : World} (h : StepK K e w w') : ∀ {d : Nat} {v : Value} {l : List Pr} {n : Nat}, Vx d w v l n → Vx d w' v l n
  | 0, _, _, _, ⟨hn, u, hv, hp⟩ => ⟨hn, u, hv, hp.step hK h⟩
  | _ + 1, _, _, _, ⟨g, rv, S, x, hv, hn, h2, hl, hx, c0, c1, c2, c3, hR, hS⟩ => by
    have hc := fun o => h.cell c1 (hK.1 _) o
    refine ⟨g, rv, S, x, hv, hn, h2, hl, hx, (hc 0).trans c0, (hc 1).trans c1, (hc 2).trans c2, (hc 3).trans c3, ?_, fun c hc' => ⟨(hS c hc').1.step hK h, (hS c hc').2⟩⟩
    obtain ⟨hrl, ao, cap, he, hcp, h0 | ⟨b, off, rfl, hcs⟩⟩ := hR
    · exact ⟨hrl, ao, cap, he, hcp, .inl h0⟩
    · refine ⟨hrl, _, cap, he, hcp, .inr ⟨b, off, rfl, fun j hj => ?_⟩⟩
      have hj' := hcs j hj
      rw [← hj']
      have hjS : j < S.length := by simpa using hj
      obtain ⟨T, u, hi⟩ := (hS _ (List.getElem_mem hjS)).1.iface
      refine h.cell hj' ?_ _
      rw [List.getElem_map, hi]
      exact hK.2.1 _ _
theorem TreeV.step {K : Value → Bool} (hK : Kind K) {e : TypeId} {w w' : World} (h : StepK K e w w') {v : Value} {l : List Pr} (ht : TreeV w v l) : TreeV w' v l := by
  obtain ⟨hr, ⟨hv, hl⟩ | ⟨g, u, hv, hc, hu⟩⟩ := ht
  · exact ⟨hr, .inl ⟨hv, hl⟩⟩
  · rcases hu with ⟨rfl, hl⟩ | ⟨d, n, hu⟩
    · exact ⟨hr, .inr ⟨g, _, hv, (h.cell hc hK.2.2 _).trans hc, .inl ⟨rfl, hl⟩⟩⟩
    · obtain ⟨T, x, rfl⟩ := hu.iface
      exact ⟨hr, .inr ⟨g, _, hv, (h.cell hc (hK.2.1 _ _) _).trans hc, .inr ⟨d, n, hu.step hK h⟩⟩⟩

/-- A row of the call's own, all of whose cells, up to its room, are of one kind. -/
def OwnK (w : World) (base : Nat) (e : TypeId) (K : Value → Bool) (v : Value) (xs : List Value) : Prop :=
  ∃ g cap cur, v = .slice (some ⟨g, 0, none⟩) xs.length cap ∧ base ≤ g ∧ w.heap[g]? = some (.cells cur e (0, 0)) ∧ xs.length ≤ cap ∧ cap ≤ maxLen ∧ cur.size = cap ∧ cur.toList.take xs.length = xs ∧ ∀ u ∈ cur.toList, K u = true
theorem OwnK.stays {w w' : World} {base : Nat} {e : TypeId} {K : Value → Bool} {v : Value} {xs : List Value} (h : OwnK w base e K v xs) (hB : Below w.heap.size w w') : OwnK w' base e K v xs := by
  obtain ⟨g, cap, cur, hv, hb, hg, h1⟩ := h
  exact ⟨g, cap, cur, hv, hb, (hB.block g (Array.getElem?_eq_some_iff.1 hg).1).trans hg, h1⟩
theorem OwnK.step {w w' : World} {base : Nat} {e e' : TypeId} {K K' : Value → Bool} {v : Value} {xs : List Value} (h : OwnK w base e K v xs) (hs : StepK K' e' w w') (hne : e ≠ e') : OwnK w' base e K v xs := by
  obtain ⟨g, cap, cur, hv, hb, hg, h1⟩ := h
  obtain ⟨_, g', hg', hk⟩ := hs
  refine ⟨g, cap, cur, hv, hb, (hk g (fun e0 => ?_) (Array.getElem?_eq_some_iff.1 hg).1).trans hg, h1⟩
  subst e0
  exact hne (hg' _ _ _ hg).1
theorem OwnK.form {w : World} {base : Nat} {e : TypeId} {K : Value → Bool} {v : Value} {xs : List Value} (h : OwnK w base e K v xs) : ∃ g cap, v = .slice (some ⟨g, 0, none⟩) xs.length cap ∧ ∀ j (hj : j < xs.length), w.cell? ⟨g, 0 + j, none⟩ = some xs[j] := by
  obtain ⟨g, cap, cur, hv, hb, hg, _, _, hs, ht, _⟩ := h
  refine ⟨g, cap, hv, fun j hj => ?_⟩
  rw [cell_of_row w g (0 + j) _ _ _ hg, Nat.zero_add, ← Array.getElem?_toList]
  have : (cur.toList.take xs.length)[j]? = some xs[j] := by rw [ht, List.getElem?_eq_getElem hj]
  rw [List.getElem?_take] at this
  simpa [hj] using this
theorem OwnK.one {w : World} {e : TypeId} {K : Value → Bool} {u : Value} (hu : K u = true) : OwnK (w.alloc (.cells #[u] e)) w.heap.size e K (.slice (some ⟨w.heap.size, 0, none⟩) 1 1) [u] :=
  ⟨w.heap.size, 1, #[u], rfl, Nat.le_refl _, heap_alloc_new w _, Nat.le_refl _, by unfold maxLen; omega, rfl, rfl, fun x hx => by
    simp at hx
    subst hx
    exact hu⟩
theorem OwnK.weak {w : World} {b b' : Nat} {e : TypeId} {K : Value → Bool} {v : Value} {xs : List Value} (h : OwnK w b' e K v xs) (hb : b ≤ b') : OwnK w b e K v xs := by
  obtain ⟨g, cap, cur, hv, hb', h1⟩ := h
  exact ⟨g, cap, cur, hv, Nat.le_trans hb hb', h1⟩
end Go.Proofs.YtaaabmnaindgaaaGreatDoor

/-
  tree: Put.
-/
namespace Go.Proofs.YtaaabmnaindgaaaGreatDoor
set_option maxRecDepth 100000
open Go.RowKit

theorem entersPut : Enters 57 := fun _ _ => by kernel_rfl

set_option maxHeartbeats 2000000 in
theorem edits_put {w : World} {g : Nat} {p : List UInt8} {m : Int} {s : List UInt8} (h : Cx w g 67 [.string ⟨p.toArray⟩, .int .i64 m, .string ⟨s.toArray⟩]) : Edits 57 (.pointer (some ⟨g, 0, none⟩)) (some s) (p, m) w := by
  intro W u l hB hP hm
  have K := Lib.hid (put_calls u l p m s W hP hm)
  obtain ⟨c0, c1, c2, _⟩ := (h.below hB).three
  obtain ⟨ao, n, cap, rfl⟩ := hP.any
  clear hP h
  go_enter Tryz.func57, Tryz.ntmps57
  go_wp2_with fail
  refine K.out.mono ?_
  rintro e w1 ⟨a1, k1, rfl, ho, hB1⟩
  have HO := Lib.hid ho.prs
  clear ho
  obtain ⟨n1, hn1⟩ : ∃ n, (putL l ((p, m), s)).length = n := ⟨_, rfl⟩
  rw [hn1] at HO ⊢
  go_wp2_with fail
  go_ret
  exact ⟨_, rfl, HO.out, hB1⟩
set_option maxHeartbeats 2000000 in
theorem tput_calls (v : Value) (l : List Pr) (p : List UInt8) (m : Int) (s : List UInt8) (w : World) (ht : TreeV w v l) (hm : l.length ≤ 99999) :
    Calls Tryz.prog 31 #[v, .agg #[.string ⟨p.toArray⟩, .int .i64 m, .string ⟨s.toArray⟩]] w fun e w' => ∃ u, e = .returned u ∧ TreeV w' u (putL l ((p, m), s)) ∧ Below w.heap.size w w' := by
  have hB0 := below_alloc w (.cells #[.string ⟨p.toArray⟩, .int .i64 m, .string ⟨s.toArray⟩] 67)
  have hX := Cx.new w 67 [.string ⟨p.toArray⟩, .int .i64 m, .string ⟨s.toArray⟩]
  have K := Lib.hid (another_calls _ entersPut _ (some s) p m v l _ (ht.below hB0) hm (edits_put hX))
  obtain ⟨c0, c1, c2, _⟩ := hX.three
  clear ht hX
  go_enter Tryz.func31, Tryz.ntmps31
  go_wp2_with fail
  refine K.out.mono ?_
  rintro e w1 ⟨u, rfl, hu, hB1⟩
  have HU := Lib.hid hu
  clear hu
  go_wp2_with fail
  go_ret
  exact ⟨_, rfl, HU.out, below2 hB0 hB1⟩

end Go.Proofs.YtaaabmnaindgaaaGreatDoor

/-
  tree: lookup, Get.
-/
namespace Go.Proofs.YtaaabmnaindgaaaGreatDoor
set_option maxRecDepth 100000
open Go.RowKit

theorem getS_here {l : List Pr} {k : Ky} (h : hereB l k = true) : getS l k = (l[placeN l k]'(hereB_lt h)).2 := by
  unfold getS
  rw [if_pos h, List.getElem?_eq_getElem (hereB_lt h)]
  rfl
theorem getS_not {l : List Pr} {k : Ky} (h : hereB l k = false) : getS l k = [] := by
  unfold getS
  rw [if_neg (by simp [h])]

set_option maxHeartbeats 4000000 in
theorem lookup_calls (p : List UInt8) (m : Int) : ∀ (d : Nat) (v : Value) (l : List Pr) (n : Nat) (w : World), Vx d w v l n → Rises l → l.length ≤ 100000 →
    Calls Tryz.prog 55 #[v, .agg #[.string ⟨p.toArray⟩, .int .i64 m]] w fun e w' => e = .returned (.tuple #[.string ⟨(getS l (p, m)).toArray⟩, .bool (hereB l (p, m))]) ∧ Below w.heap.size w w'
  | 0, v, l, n, w, ⟨_, u, hv, hp⟩, hr, hm => by
    subst hv
    obtain ⟨ao, cap, rfl⟩ := hp.form
    have ha := asLeaf (.slice ao l.length cap)
    have hB0 := below_alloc w (.cells #[.string ⟨p.toArray⟩, .int .i64 m] 65)
    have KF := find_calls _ l p m _ (hp.below hB0) (by omega)
    cases hh : hereB l (p, m) with
    | true =>
      have hlt := hereB_lt hh
      have HG := Lib.hid (getS_here hh)
      obtain ⟨i, hi⟩ : ∃ i, placeN l (p, m) = i := ⟨_, rfl⟩
      simp only [hi] at HG
      rw [hi] at hlt
      rw [hh, hi] at KF
      have K := Lib.hid KF
      obtain ⟨b, off, rfl, _, _, c2⟩ := hp.at hlt
      obtain ⟨t, ht⟩ : ∃ t, l[i].2 = t := ⟨_, rfl⟩
      rw [ht] at HG c2
      clear KF hh hi hp hr ht
      go_enter Tryz.func55, Tryz.ntmps55
      go_wp2_with fail
      refine K.out.mono ?_
      rintro e w1 ⟨rfl, hB1⟩
      have c2' := look_below (below2 hB0 hB1) c2
      go_wp2_with fail
      go_ret2
      exact ⟨by rw [HG.out]; rfl, below2 hB0 hB1⟩
    | false =>
      have HG := Lib.hid (getS_not hh)
      rw [hh] at KF
      have K := Lib.hid KF
      clear KF hh hp hr
      go_enter Tryz.func55, Tryz.ntmps55
      go_wp2_with fail
      refine K.out.mono ?_
      rintro e w1 ⟨rfl, hB1⟩
      go_wp2_with fail
      go_ret2
      exact ⟨by rw [HG.out]; rfl, below2 hB0 hB1⟩
  | d + 1, v, l, n, w, hV, hr, hm => by
    obtain ⟨g, ao, cap, S, x, rfl, rfl, h2, rfl, _, c0, _, _, _, hR, hS⟩ := hV.open
    have hcn := hR.count hS
    have ha := asLeafNot (.pointer (some ⟨g, 0, none⟩))
    have hb := asBranch (.pointer (some ⟨g, 0, none⟩))
    have hB0 := below_alloc w (.cells #[.string ⟨p.toArray⟩, .int .i64 m] 65)
    obtain ⟨k0, k1, _⟩ := (kbox_new w p m).two
    obtain ⟨b, off, rfl, hcs⟩ := hR.vals h2
    obtain ⟨F, hF⟩ : ∃ F : Nat → Value, ∀ k (h : k < S.length), S[k].1 = F k := ⟨fun k => (S[k]?.map (·.1)).getD undef, fun k h => by simp [List.getElem?_eq_getElem h]⟩
    have hcs' : ∀ k, k < S.length → w.cell? ⟨b, off + k, none⟩ = some (F k) := fun k h => by rw [hcs k h, hF k h]
    have KP := Lib.hid (fun W (hB : Below w.heap.size w W) => spot_calls d S p m g (some ⟨b, off, none⟩) cap W (look_below hB c0) (hR.below hB) hS h2 (by omega) hr)
    have KL : Hid (∀ i, Spot S (p, m) i → ∀ W, Below w.heap.size w W → Calls Tryz.prog 55 #[F i, .agg #[.string ⟨p.toArray⟩, .int .i64 m]] W fun e w' => e = .returned (.tuple #[.string ⟨(getS (allC S) (p, m)).toArray⟩, .bool (hereB (allC S) (p, m))]) ∧ Below W.heap.size W w') :=
      Lib.hid (fun i hi W hB => by
        obtain ⟨hlt, ha, hc⟩ := hi
        have hp := allC_parts hlt
        rw [hp, parts_get ha hc, parts_here ha hc, ← hF i hlt]
        exact lookup_calls p m d _ _ _ W ((hR.2 _ (List.getElem_mem hlt)).below hB) (by
          rw [hp] at hr
          exact (hr.sublist (List.sublist_append_right _ _)).sublist (List.sublist_append_left _ _)) (by have := allC_mem_le (List.getElem_mem hlt); omega))
    have HS : Hid (∀ W, Below (w.alloc (.cells #[.string ⟨p.toArray⟩, .int .i64 m] 65)).heap.size (w.alloc (.cells #[.string ⟨p.toArray⟩, .int .i64 m] 65)) W → W.cell? ⟨w.heap.size, 0, none⟩ = some (.string ⟨p.toArray⟩) ∧ W.cell? ⟨w.heap.size, 1, none⟩ = some (.int .i64 m) ∧ W.cell? ⟨g, 0, none⟩ = some (.slice (some ⟨b, off, none⟩) S.length cap) ∧ ∀ k, k < S.length → W.cell? ⟨b, off + k, none⟩ = some (F k)) :=
      Lib.hid (fun W hB => ⟨look_below hB k0, look_below hB k1, look_below (below2 hB0 hB) c0, fun k h => look_below (below2 hB0 hB) (hcs' k h)⟩)
    have hbr : Below (w.alloc (.cells #[.string ⟨p.toArray⟩, .int .i64 m] 65)).heap.size (w.alloc (.cells #[.string ⟨p.toArray⟩, .int .i64 m] 65)) (w.alloc (.cells #[.string ⟨p.toArray⟩, .int .i64 m] 65)).drew := drew_below _
    clear hcs hcs' hF hR hS hr hV c0 k0 k1
    go_enter Tryz.func55, Tryz.ntmps55
    go_wp2_with fail
    go_region_held3 (fun w' => w'.cell? ⟨w.heap.size, 0, none⟩ = some (.string ⟨p.toArray⟩) ∧ w'.cell? ⟨w.heap.size, 1, none⟩ = some (.int .i64 m) ∧ w'.cell? ⟨g, 0, none⟩ = some (.slice (some ⟨b, off, none⟩) S.length cap) ∧ ∀ k, k < S.length → w'.cell? ⟨b, off + k, none⟩ = some (F k)) (first | exact HS.out _ hbr) (first | (go_at_call 60; ((with_reducible refine (KP.out _ (below2 hB0 hbr)).mono ?_); rintro e w2 ⟨⟨i, rfl, hi⟩, hB2⟩; have hbr := below2 hbr hB2; have hlt := hi.1; have HI := Lib.hid hi; clear hi)) | (go_at_call 55; ((with_reducible refine (KL.out _ HI.out _ (below2 hB0 hbr)).mono ?_); rintro e w1 ⟨rfl, hB1⟩; have hbr := below2 hbr hB1)))
    go_wp2_with fail
    go_ret2
    exact ⟨rfl, below2 hB0 hbr⟩

end Go.Proofs.YtaaabmnaindgaaaGreatDoor

/-
  tree: Get.
-/
namespace Go.Proofs.YtaaabmnaindgaaaGreatDoor
set_option maxRecDepth 100000
open Go.RowKit

set_option maxHeartbeats 4000000 in
theorem tget_calls (v : Value) (l : List Pr) (p : List UInt8) (m : Int) (w : World) (ht : TreeV w v l) (hm : l.length ≤ 100000) :
    Calls Tryz.prog 29 #[v, .agg #[.string ⟨p.toArray⟩, .int .i64 m]] w fun e w' => e = .returned (.tuple #[.string ⟨(getS l (p, m)).toArray⟩, .bool (hereB l (p, m))]) ∧ Below w.heap.size w w' := by
  have hB0 := below_alloc w (.cells #[.string ⟨p.toArray⟩, .int .i64 m] 65)
  obtain ⟨k0, k1, _⟩ := (kbox_new w p m).two
  have KT := Lib.hid (fun W (hB : Below w.heap.size w W) => top_calls v l W (ht.below hB))
  have KL := Lib.hid (fun d u n W (hv : Vx d W u l n) => lookup_calls p m d u l n W hv ht.1 hm)
  have HS : Hid (∀ W, Below (w.alloc (.cells #[.string ⟨p.toArray⟩, .int .i64 m] 65)).heap.size (w.alloc (.cells #[.string ⟨p.toArray⟩, .int .i64 m] 65)) W → W.cell? ⟨w.heap.size, 0, none⟩ = some (.string ⟨p.toArray⟩) ∧ W.cell? ⟨w.heap.size, 1, none⟩ = some (.int .i64 m)) :=
    Lib.hid (fun W hB => ⟨look_below hB k0, look_below hB k1⟩)
  have hbr : Below (w.alloc (.cells #[.string ⟨p.toArray⟩, .int .i64 m] 65)).heap.size (w.alloc (.cells #[.string ⟨p.toArray⟩, .int .i64 m] 65)) (w.alloc (.cells #[.string ⟨p.toArray⟩, .int .i64 m] 65)).drew := drew_below _
  clear ht k0 k1
  go_enter Tryz.func29, Tryz.ntmps29
  go_wp2_with fail
  go_region_held3 (fun w' => w'.cell? ⟨w.heap.size, 0, none⟩ = some (.string ⟨p.toArray⟩) ∧ w'.cell? ⟨w.heap.size, 1, none⟩ = some (.int .i64 m)) (first | exact HS.out _ hbr) (first
    | ((with_reducible refine (KT.out _ (below2 hB0 hbr)).mono ?_); rintro e w1 ⟨rfl, u1, d1, n1, rfl, hv1⟩; have HV := Lib.hid hv1; clear hv1; obtain ⟨T1, x1, rfl⟩ := HV.out.iface)
    | ((with_reducible refine (KL.out _ _ _ _ HV.out).mono ?_); rintro e w2 ⟨rfl, hB2⟩; have hbr := below2 hbr hB2))
  go_wp2_with fail
  go_ret2
  exact ⟨rfl, below2 hB0 hbr⟩

end Go.Proofs.YtaaabmnaindgaaaGreatDoor
