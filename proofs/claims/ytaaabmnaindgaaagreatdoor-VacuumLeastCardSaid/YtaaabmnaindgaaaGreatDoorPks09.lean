/-
  The texts of one folder in one: NdSpec, Prs, NdPlace, NdJoin, NdApart, NdDrop, NdPut, NdBig, NdSame, NdOpens.
-/
import Derived.Test.YtaaabmnaindgaaaGreatDoorPks08
import Derived.Test.YtaaabmnaindgaaaGreatDoorPkbase
import Derived.Deep.RegionHeld3
import Derived.Laws.MakeOwn
import Derived.Lib.SmallJoins
import Derived.Deep.Grids
import Derived.ChangeSame

/-
  The plain functions of layer 9 (node): where a key stands among pairs, what is put, dropped, split and levelled. No program is named here.
-/
namespace Go.Proofs.YtaaabmnaindgaaaGreatDoor
set_option maxRecDepth 100000

/-- A pair: its key, its text. -/
abbrev Pr := Ky × List UInt8
/-- How many of l, from the first one on, stand ahead of k. -/
def placeN (l : List Pr) (k : Ky) : Nat := match l with | [] => 0 | x :: r => if lessK x.1 k = true then placeN r k + 1 else 0
/-- Has the pair at k's place the key k? -/
def hereB (l : List Pr) (k : Ky) : Bool := decide ((l[placeN l k]?).map (·.1) = some k)
/-- Where what stands behind k's place begins. -/
def nextN (l : List Pr) (k : Ky) : Nat := if hereB l k = true then placeN l k + 1 else placeN l k
def putL (l : List Pr) (p : Pr) : List Pr := l.take (placeN l p.1) ++ p :: l.drop (nextN l p.1)
def dropL (l : List Pr) (k : Ky) : List Pr := l.take (placeN l k) ++ l.drop (nextN l k)
/-- Are pairs more than are looked at? -/
def bigP (l : List Pr) : Bool := decide (80 < l.length) || l.any fun x => decide (200 < x.1.1.length) || decide (300 < x.2.length)
/-! ### Places -/

theorem placeN_le (l : List Pr) (k : Ky) : placeN l k ≤ l.length := by
  induction l with
  | nil => simp [placeN]
  | cons x r ih =>
    unfold placeN
    split
    · simp; omega
    · simp
theorem placeN_ahead {l : List Pr} {k : Ky} {i : Nat} (h : i < placeN l k) : ∃ x, l[i]? = some x ∧ lessK x.1 k = true := by
  induction l generalizing i with
  | nil => simp [placeN] at h
  | cons x r ih =>
    unfold placeN at h
    split at h
    · rename_i hx
      cases i with
      | zero => exact ⟨x, rfl, hx⟩
      | succ i => exact ih (by omega)
    · omega
/-- So far all stand ahead, and this one does not: this is the place. -/
theorem placeN_is {l : List Pr} {k : Ky} {n : Nat} (hn : n ≤ l.length) (h1 : ∀ i (h : i < n), lessK (l[i]'(by omega)).1 k = true) (h2 : ∀ (h : n < l.length), lessK l[n].1 k = false) : placeN l k = n := by
  induction l generalizing n with
  | nil => simp at hn; simp [placeN, hn]
  | cons x r ih =>
    unfold placeN
    cases n with
    | zero =>
      have := h2 (by simp)
      simp at this
      simp [this]
    | succ n =>
      have hx := h1 0 (by omega)
      simp at hx
      rw [if_pos hx]
      congr 1
      exact ih (by simpa using hn) (fun i h => by simpa using h1 (i + 1) (by omega)) (fun h => h2 (by simpa using h))
theorem nextN_le (l : List Pr) (k : Ky) : placeN l k ≤ nextN l k ∧ nextN l k ≤ l.length := by
  have h0 := placeN_le l k
  unfold nextN
  split
  · rename_i h
    unfold hereB at h
    rw [decide_eq_true_eq] at h
    by_cases hl : placeN l k < l.length
    · omega
    · rw [List.getElem?_eq_none (by omega)] at h
      cases h
  · omega
theorem hereB_at {l : List Pr} {k : Ky} (h : placeN l k < l.length) : hereB l k = decide (l[placeN l k].1 = k) := by
  unfold hereB
  rw [List.getElem?_eq_getElem h]
  simp
theorem hereB_end {l : List Pr} {k : Ky} (h : placeN l k = l.length) : hereB l k = false := by
  unfold hereB
  rw [List.getElem?_eq_none (by omega)]
  rfl
theorem hereB_lt {l : List Pr} {k : Ky} (h : hereB l k = true) : placeN l k < l.length := by
  by_cases hl : placeN l k < l.length
  · exact hl
  · rw [hereB_end (by have := placeN_le l k; omega)] at h
    cases h
theorem putL_length (l : List Pr) (p : Pr) : (putL l p).length = if hereB l p.1 = true then l.length else l.length + 1 := by
  have h0 := placeN_le l p.1
  have h1 := nextN_le l p.1
  unfold putL
  simp only [List.length_append, List.length_take, List.length_cons, List.length_drop]
  unfold nextN at h1 ⊢
  split <;> rename_i h <;> simp only [h, if_true, if_false, Bool.false_eq_true] at h1 <;> omega
theorem dropL_length (l : List Pr) (k : Ky) : (dropL l k).length = if hereB l k = true then l.length - 1 else l.length := by
  have h0 := placeN_le l k
  have h1 := nextN_le l k
  unfold dropL
  simp only [List.length_append, List.length_take, List.length_drop]
  unfold nextN at h1 ⊢
  split <;> rename_i h <;> simp only [h, if_true, if_false, Bool.false_eq_true] at h1 <;> omega
theorem putL_le (l : List Pr) (p : Pr) : (putL l p).length ≤ l.length + 1 := by
  rw [putL_length]
  split <;> omega

/-! ### Rows that rise -/

/-- Each stands ahead of all behind it. -/
abbrev Rises (l : List Pr) : Prop := l.Pairwise fun x y => lessK x.1 y.1 = true
theorem lessK_irrefl (k : Ky) : lessK k k = false := by
  unfold lessK
  rw [cmpK_self]
  rfl
theorem lessK_total {a b : Ky} (h : lessK a b = false) (hne : a ≠ b) : lessK b a = true := by
  unfold lessK at h ⊢
  rw [cmpK_swap a b]
  simp only [decide_eq_true_eq, decide_eq_false_iff_not] at h ⊢
  have : cmpK a b ≠ 0 := fun e => hne (cmpK_zero e)
  omega
/-- Of a row that rises: where each pair is. -/
theorem rises_place {l : List Pr} (h : Rises l) {i : Nat} (hi : i < l.length) : placeN l l[i].1 = i ∧ hereB l l[i].1 = true := by
  have h0 := List.pairwise_iff_getElem.1 h
  have e : placeN l l[i].1 = i := placeN_is (by omega) (fun j hj => h0 j i (by omega) hi hj) (fun _ => lessK_irrefl _)
  refine ⟨e, ?_⟩
  rw [hereB_at (by omega)]
  simp [e]
theorem rises_mem {l : List Pr} (h : Rises l) {x : Pr} (hx : x ∈ l) : hereB l x.1 = true ∧ l[placeN l x.1]? = some x := by
  obtain ⟨i, hi, rfl⟩ := List.getElem_of_mem hx
  obtain ⟨h1, h2⟩ := rises_place h hi
  exact ⟨h2, by rw [h1, List.getElem?_eq_getElem hi]⟩
theorem here_mem {l : List Pr} {k : Ky} (h : hereB l k = true) : ∃ x ∈ l, x.1 = k := by
  have hl := hereB_lt h
  rw [hereB_at hl, decide_eq_true_eq] at h
  exact ⟨_, List.getElem_mem hl, h⟩
/-- What stands behind k's place, but for the one there that has it, stands behind k. -/
theorem rises_behind {l : List Pr} (h : Rises l) {k : Ky} {x : Pr} (hx : x ∈ l.drop (nextN l k)) : lessK k x.1 = true := by
  obtain ⟨i, hi, rfl⟩ := List.getElem_of_mem hx
  rw [List.length_drop] at hi
  rw [List.getElem_drop]
  have h0 := List.pairwise_iff_getElem.1 h
  have hn := nextN_le l k
  have hp : placeN l k < l.length := by omega
  have h2 : lessK l[placeN l k].1 k = false := by
    cases hc : lessK l[placeN l k].1 k with
    | false => rfl
    | true =>
      exfalso
      have := placeN_is (l := l) (k := k) (n := placeN l k) (by omega) (fun j hj => by
        obtain ⟨x, e1, e2⟩ := placeN_ahead hj
        rw [List.getElem?_eq_getElem (by omega)] at e1
        cases e1
        exact e2)
      have hs : ∀ (l : List Pr) (k : Ky) (h : placeN l k < l.length), lessK (l[placeN l k]'h).1 k = false := by
        intro l k
        induction l with
        | nil => intro h; simp at h
        | cons y r ih =>
          intro h
          cases hy : lessK y.1 k with
          | true =>
            have e : placeN (y :: r) k = placeN r k + 1 := by rw [placeN, if_pos hy]
            simp only [e] at h ⊢
            simpa using ih (by simpa using h)
          | false =>
            have e : placeN (y :: r) k = 0 := by rw [placeN, if_neg (by simp [hy])]
            simp only [e]
            simpa using hy
      rw [hs l k hp] at hc
      cases hc
  by_cases he : l[placeN l k].1 = k
  · have hh : hereB l k = true := by rw [hereB_at hp]; simpa using he
    have e : nextN l k = placeN l k + 1 := by unfold nextN; rw [if_pos hh]
    have := h0 (placeN l k) (nextN l k + i) hp (by omega) (by omega)
    rwa [he] at this
  · have h3 := lessK_total h2 he
    have hh : hereB l k = false := by rw [hereB_at hp]; simpa using he
    have e : nextN l k = placeN l k := by unfold nextN; rw [if_neg (by simp [hh])]
    by_cases hi0 : i = 0
    · subst hi0
      simp only [e, Nat.add_zero]
      exact h3
    · exact lessK_trans h3 (h0 (placeN l k) (nextN l k + i) hp (by omega) (by omega))
theorem take_ahead {l : List Pr} {k : Ky} {x : Pr} (hx : x ∈ l.take (placeN l k)) : lessK x.1 k = true := by
  obtain ⟨i, hi, rfl⟩ := List.getElem_of_mem hx
  rw [List.length_take] at hi
  rw [List.getElem_take]
  obtain ⟨x, e1, e2⟩ := placeN_ahead (l := l) (k := k) (i := i) (by omega)
  rw [List.getElem?_eq_getElem (by omega)] at e1
  cases e1
  exact e2
theorem put_rises {l : List Pr} (h : Rises l) (p : Pr) : Rises (putL l p) := by
  unfold putL Rises
  rw [List.pairwise_append, List.pairwise_cons]
  refine ⟨h.sublist (List.take_sublist _ _), ⟨fun x hx => rises_behind h hx, h.sublist (List.drop_sublist _ _)⟩, fun x hx y hy => ?_⟩
  have h1 := take_ahead hx
  rcases List.mem_cons.1 hy with rfl | hy
  · exact h1
  · exact lessK_trans h1 (rises_behind h hy)
theorem drop_rises {l : List Pr} (h : Rises l) (k : Ky) : Rises (dropL l k) := by
  unfold dropL Rises
  rw [List.pairwise_append]
  exact ⟨h.sublist (List.take_sublist _ _), h.sublist (List.drop_sublist _ _), fun x hx y hy => lessK_trans (take_ahead hx) (rises_behind h hy)⟩
/-- What is there behind a put: the pair, and those of other keys. -/
theorem mem_put {l : List Pr} (h : Rises l) (p x : Pr) : x ∈ putL l p ↔ x = p ∨ (x ∈ l ∧ x.1 ≠ p.1) := by
  unfold putL
  rw [List.mem_append, List.mem_cons]
  constructor
  · rintro (hx | rfl | hx)
    · exact .inr ⟨List.mem_of_mem_take hx, fun e => by have := take_ahead hx; rw [e, lessK_irrefl] at this; cases this⟩
    · exact .inl rfl
    · exact .inr ⟨List.mem_of_mem_drop hx, fun e => by have := rises_behind h hx; rw [e, lessK_irrefl] at this; cases this⟩
  · rintro (rfl | ⟨hx, hne⟩)
    · exact .inr (.inl rfl)
    · obtain ⟨i, hi, rfl⟩ := List.getElem_of_mem hx
      by_cases h1 : i < placeN l p.1
      · left
        rw [List.mem_take_iff_getElem]
        exact ⟨i, by omega, rfl⟩
      · right; right
        rw [List.mem_drop_iff_getElem]
        refine ⟨i - nextN l p.1, ?_, ?_⟩
        all_goals
          have hni : nextN l p.1 ≤ i := by
            unfold nextN
            split
            · rename_i hh
              by_cases e : i = placeN l p.1
              · subst e
                rw [hereB_at hi, decide_eq_true_eq] at hh
                exact absurd hh hne
              · omega
            · omega
        · omega
        · congr 1; omega
theorem mem_drop {l : List Pr} (h : Rises l) (k : Ky) (x : Pr) : x ∈ dropL l k ↔ x ∈ l ∧ x.1 ≠ k := by
  have h1 := mem_put h (k, []) x
  unfold putL at h1
  unfold dropL
  rw [List.mem_append, List.mem_cons] at h1
  rw [List.mem_append]
  constructor
  · rintro (hx | hx)
    · exact ⟨List.mem_of_mem_take hx, fun e => by have := take_ahead hx; rw [e, lessK_irrefl] at this; cases this⟩
    · exact ⟨List.mem_of_mem_drop hx, fun e => by have := rises_behind h hx; rw [e, lessK_irrefl] at this; cases this⟩
  · rintro ⟨hx, hne⟩
    rcases h1.2 (.inr ⟨hx, hne⟩) with h2 | h2 | h2
    · exact .inl h2
    · subst h2
      exact absurd rfl hne
    · exact .inr h2
/-- Two rows that rise and have the same pairs are one. -/
theorem rises_same : ∀ {a b : List Pr}, Rises a → Rises b → (∀ x, x ∈ a ↔ x ∈ b) → a = b
  | [], [], _, _, _ => rfl
  | [], y :: b, _, _, h => by simpa using (h y).2 (by simp)
  | x :: a, [], _, _, h => by simpa using (h x).1 (by simp)
  | x :: a, y :: b, ha, hb, h => by
    have h1 := List.pairwise_cons.1 ha
    have h2 := List.pairwise_cons.1 hb
    have irr : ∀ {z : Pr}, lessK z.1 z.1 = true → False := fun {z} e => by rw [lessK_irrefl] at e; cases e
    have exy : x = y := by
      have hx := (h x).1 (by simp)
      have hy := (h y).2 (by simp)
      rcases List.mem_cons.1 hx with e | hx
      · exact e
      · rcases List.mem_cons.1 hy with e | hy
        · exact e.symm
        · exact (irr (lessK_trans (h1.1 _ hy) (h2.1 _ hx))).elim
    subst exy
    congr 1
    refine rises_same h1.2 h2.2 fun z => ?_
    constructor
    · intro hz
      rcases List.mem_cons.1 ((h z).1 (List.mem_cons_of_mem _ hz)) with e | hz2
      · subst e
        exact (irr (h1.1 _ hz)).elim
      · exact hz2
    · intro hz
      rcases List.mem_cons.1 ((h z).2 (List.mem_cons_of_mem _ hz)) with e | hz2
      · subst e
        exact (irr (h2.1 _ hz)).elim
      · exact hz2

/-! ### What the statements ask -/

end Go.Proofs.YtaaabmnaindgaaaGreatDoor

/-
  Rows of pairs: three cells each.
-/
namespace Go.Proofs.YtaaabmnaindgaaaGreatDoor
set_option maxRecDepth 100000
open Go.RowKit

/-- A pair's cells. -/
def pcell (x : Pr) : List Value := [.string ⟨x.1.1.toArray⟩, .int .i64 x.1.2, .string ⟨x.2.toArray⟩]
def pcells (l : List Pr) : List Value := l.flatMap pcell
theorem pcells_cons (x : Pr) (r : List Pr) : pcells (x :: r) = .string ⟨x.1.1.toArray⟩ :: .int .i64 x.1.2 :: .string ⟨x.2.toArray⟩ :: pcells r := rfl
theorem pcells_len (l : List Pr) : (pcells l).length = l.length * 3 := by
  induction l with
  | nil => rfl
  | cons x r ih => rw [pcells_cons]; simp only [List.length_cons, ih]; omega
theorem pcells_append (a b : List Pr) : pcells (a ++ b) = pcells a ++ pcells b := by simp [pcells]
theorem pcells_one (l : List Pr) : ∀ u ∈ pcells l, u.oneCell' = true := by
  intro u hu
  obtain ⟨x, _, hx⟩ := List.mem_flatMap.1 hu
  simp [pcell] at hx
  rcases hx with rfl | rfl | rfl <;> rfl
theorem pcells_take (l : List Pr) (n : Nat) : pcells (l.take n) = (pcells l).take (n * 3) := by
  induction l generalizing n with
  | nil => simp [pcells]
  | cons x r ih =>
    cases n with
    | zero => simp [pcells]
    | succ n =>
      rw [List.take_succ_cons, pcells_cons, pcells_cons, ih, show (n + 1) * 3 = n * 3 + 1 + 1 + 1 by omega]
      simp
theorem pcells_drop (l : List Pr) (n : Nat) : pcells (l.drop n) = (pcells l).drop (n * 3) := by
  induction l generalizing n with
  | nil => simp [pcells]
  | cons x r ih =>
    cases n with
    | zero => simp
    | succ n =>
      rw [List.drop_succ_cons, pcells_cons, ih, show (n + 1) * 3 = n * 3 + 1 + 1 + 1 by omega]
      simp
theorem pcells_at (l : List Pr) (i : Nat) (h : i < l.length) : (pcells l)[i * 3]? = some (.string ⟨l[i].1.1.toArray⟩) ∧ (pcells l)[i * 3 + 1]? = some (.int .i64 l[i].1.2) ∧ (pcells l)[i * 3 + 2]? = some (.string ⟨l[i].2.toArray⟩) := by
  induction l generalizing i with
  | nil => simp at h
  | cons x r ih =>
    cases i with
    | zero => exact ⟨rfl, rfl, rfl⟩
    | succ i =>
      have h1 := ih i (by simpa using h)
      rw [pcells_cons, show (i + 1) * 3 = i * 3 + 1 + 1 + 1 by omega]
      exact h1

/-- The slice v reads as these pairs. -/
def Prs (w : World) (v : Value) (l : List Pr) : Prop := Rw w 3 v l.length (pcells l)
/-- A row of pairs in memory of the call's own. -/
def OwnP (w : World) (base : Nat) (v : Value) (l : List Pr) : Prop := w.ownsRow base 67 3 v l.length (pcells l)
theorem Prs.below {w w' : World} {v : Value} {l : List Pr} (h : Prs w v l) (hb : Below w.heap.size w w') : Prs w' v l := Rw.below h hb
theorem Prs.form {w : World} {v : Value} {l : List Pr} (h : Prs w v l) : ∃ ao cap, v = .slice ao l.length cap := Rw.form h
theorem Prs.nil (w : World) : Prs w (.slice none 0 0) [] := Rw.nil w 3
theorem OwnP.prs {w : World} {base : Nat} {v : Value} {l : List Pr} (h : OwnP w base v l) : Prs w v l := Rw.own h
theorem OwnP.form {w : World} {base : Nat} {v : Value} {l : List Pr} (h : OwnP w base v l) : ∃ ao cap, v = .slice ao l.length cap := Rw.form h.prs
theorem OwnP.weak {w : World} {b b' : Nat} {v : Value} {l : List Pr} (h : OwnP w b' v l) (hb : b ≤ b') : OwnP w b v l := own_weak h hb
theorem OwnP.stays {w w' : World} {base : Nat} {v : Value} {l : List Pr} (h : OwnP w base v l) (hb : Below w.heap.size w w') : OwnP w' base v l := own_stays h hb
theorem OwnP.nil (w : World) (base : Nat) : OwnP w base (.slice none 0 0) [] := World.ownsRow_nil _ _ _ _
theorem Prs.at {w : World} {ao : Option Addr} {n cap : Nat} {l : List Pr} (h : Prs w (.slice ao n cap) l) {k : Nat} (hk : k < l.length) :
    ∃ b off, ao = some ⟨b, off, none⟩ ∧ w.cell? ⟨b, off + k * 3, none⟩ = some (.string ⟨l[k].1.1.toArray⟩) ∧ w.cell? ⟨b, off + k * 3 + 1, none⟩ = some (.int .i64 l[k].1.2) ∧ w.cell? ⟨b, off + k * 3 + 2, none⟩ = some (.string ⟨l[k].2.toArray⟩) := by
  obtain ⟨hl, ao', cap', he, _, hc⟩ := h
  cases he
  rcases hc with h0 | ⟨b, off, rfl, hc⟩
  · omega
  · have h2 := pcells_len l
    obtain ⟨e1, e2, e3⟩ := pcells_at l k hk
    refine ⟨b, off, rfl, ?_, ?_, ?_⟩
    · rw [hc (k * 3) (by omega), ← e1, List.getElem?_eq_getElem (by omega)]
    · rw [Nat.add_assoc, hc (k * 3 + 1) (by omega), ← e2, List.getElem?_eq_getElem (by omega)]
    · rw [Nat.add_assoc, hc (k * 3 + 2) (by omega), ← e3, List.getElem?_eq_getElem (by omega)]
/-- The first k pairs. -/
theorem Prs.take {w : World} {ao : Option Addr} {n cap : Nat} {l : List Pr} (h : Prs w (.slice ao n cap) l) {k : Nat} (hk : k ≤ l.length) : Prs w (.slice ao k cap) (l.take k) := by
  obtain ⟨hl, ao', c, he, hc, h⟩ := h
  cases he
  have e : (l.take k).length = k := by simp; omega
  refine ⟨pcells_len _, ao, cap, by rw [e], by omega, ?_⟩
  rcases h with h0 | ⟨b, off, rfl, hcs⟩
  · exact .inl (by omega)
  · refine .inr ⟨b, off, rfl, fun j hj => ?_⟩
    rw [pcells_len, e] at hj
    have h2 := pcells_len l
    rw [hcs j (by omega)]
    simp only [pcells_take]
    rw [List.getElem_take]
/-- The pairs from the k-th one on. -/
theorem Prs.drop {w : World} {b off n cap : Nat} {l : List Pr} (h : Prs w (.slice (some ⟨b, off, none⟩) n cap) l) {k m cap' : Nat} (hk : k ≤ l.length) (hm : m = l.length - k) (hc' : m ≤ cap') (o : Nat) (ho : o = off + k * 3 ∨ k = l.length) : Prs w (.slice (some ⟨b, o, none⟩) m cap') (l.drop k) := by
  obtain ⟨hl, ao', c, he, hc, h⟩ := h
  cases he
  have e : (l.drop k).length = m := by simp; omega
  refine ⟨pcells_len _, _, cap', by rw [e], by omega, ?_⟩
  by_cases h0 : k = l.length
  · exact .inl (by omega)
  · rcases h with h1 | ⟨b', off', he, hcs⟩
    · exact .inl (by omega)
    · cases he
      obtain rfl := ho.resolve_right h0
      refine .inr ⟨b, _, rfl, fun j hj => ?_⟩
      rw [pcells_len, e] at hj
      have h2 := pcells_len l
      rw [Nat.add_assoc, hcs (k * 3 + j) (by omega)]
      simp only [pcells_drop]
      rw [List.getElem_drop]
theorem Prs.of_nil {w : World} {n cap : Nat} {l : List Pr} (h : Prs w (.slice none n cap) l) : l = [] := by
  obtain ⟨_, ao, c, he, _, h0 | ⟨b, off, h, _⟩⟩ := h
  · exact List.eq_nil_of_length_eq_zero h0
  · cases he; cases h
theorem Prs.spot {w : World} {a : Addr} {n cap : Nat} {l : List Pr} (h : Prs w (.slice (some a) n cap) l) (h0 : l ≠ []) : ∃ b off, a = ⟨b, off, none⟩ := by
  obtain ⟨_, ao, c, he, _, h1 | ⟨b, off, h, _⟩⟩ := h
  · exact absurd (List.eq_nil_of_length_eq_zero h1) h0
  · cases he; cases h; exact ⟨b, off, rfl⟩

theorem pair_elem : Tryz.prog.elem 22 = 67 := by kernel_rfl
theorem pair_slice : Tryz.prog.underlying 22 = some (.slice (Tryz.prog.elem 22)) := by kernel_rfl
theorem pair_size (W : World) : (sizeOf 67).run Tryz.prog W = .ok 3 W := by
  have h : (Tryz.prog.info? 67).map (·.size) = some 3 := by kernel_rfl
  cases hq : Tryz.prog.info? 67 with
  | none => simp [hq] at h
  | some i =>
    have hs : i.size = 3 := by simpa [hq] using h
    simp [sizeOf, typeInfo, hq, hs]
/-- A slice from the n-th pair on. -/
theorem slice_from {w : World} {ao : Option Addr} {k cap : Nat} {l : List Pr} (h : Prs w (.slice ao k cap) l) (n m : Nat) (hn : n ≤ k) (hm : n + m = k) :
    ∃ a1 c1, (∀ W, (Instr.slice 22 (.slice ao k cap) (some (.int .i64 (n : Int))) none none).run Tryz.prog W = .ok (.slice a1 m c1) W) ∧ Prs w (.slice a1 m c1) (l.drop n) := by
  have hc : k ≤ cap ∧ k = l.length := by
    obtain ⟨_, ao', c, he, hc, _⟩ := h
    cases he
    exact ⟨hc, rfl⟩
  obtain ⟨hc, rfl⟩ := hc
  have hm' : m = l.length - n := by omega
  have hr : ∀ W, (Instr.slice 22 (.slice ao l.length cap) (some (.int .i64 (n : Int))) none none).run Tryz.prog W = .ok (sliced ao n l.length cap 3) W := by
    intro W
    rw [run_slice_l W _ ao l.length cap pair_slice .i64 n (by omega) (by omega), pair_elem, pair_size]
    rfl
  unfold sliced at hr
  rw [← hm'] at hr
  refine ⟨_, _, hr, ?_⟩
  cases ao with
  | none =>
    obtain rfl := h.of_nil
    obtain rfl : m = 0 := by simpa using hm'
    have e : (if cap = n then (none : Option Addr) else Option.map (fun a : Addr => a.add (n * 3)) none) = none := by split <;> rfl
    rw [e]
    rw [List.drop_nil]
    exact ⟨rfl, none, _, rfl, Nat.zero_le _, .inl rfl⟩
  | some a =>
    by_cases h0 : l = []
    · subst h0
      obtain rfl : m = 0 := by simpa using hm'
      rw [List.drop_nil]
      exact ⟨rfl, _, _, rfl, Nat.zero_le _, .inl rfl⟩
    · obtain ⟨b, off, rfl⟩ := h.spot h0
      by_cases hcn : cap = n
      · rw [if_pos hcn]
        exact h.drop hn hm' (cap' := cap - n) (by omega) off (.inr (by omega))
      · rw [if_neg hcn, Option.map_some, Go.WideShapes.add_plain]
        exact h.drop hn hm' (cap' := cap - n) (by omega) _ (.inl rfl)
/-- A slice of the first n pairs. -/
theorem slice_to {w : World} {ao : Option Addr} {k cap : Nat} {l : List Pr} (h : Prs w (.slice ao k cap) l) (n : Nat) (hn : n ≤ k) :
    (∀ W, (Instr.slice 22 (.slice ao k cap) none (some (.int .i64 (n : Int))) none).run Tryz.prog W = .ok (.slice ao n cap) W) ∧ Prs w (.slice ao n cap) (l.take n) := by
  have hc : k ≤ cap ∧ k = l.length := by
    obtain ⟨_, ao', c, he, hc, _⟩ := h
    cases he
    exact ⟨hc, rfl⟩
  obtain ⟨hc, rfl⟩ := hc
  refine ⟨fun W => ?_, h.take hn⟩
  rw [run_slice_h W _ ao l.length cap pair_slice .i64 n (by omega) (by omega), pair_elem, pair_size]
  cases ao <;> simp [sliced, Result.andThen, Addr.add]
theorem Prs.len {w : World} {ao : Option Addr} {k cap : Nat} {l : List Pr} (h : Prs w (.slice ao k cap) l) : l.length = k := by
  obtain ⟨_, ao', c, he, hc, _⟩ := h
  cases he
  rfl
/-- Pairs that are laid as they stand. -/
theorem prs_lit (w : World) (l : List Pr) (t : TypeId) : Prs (w.alloc (.cells (pcells l).toArray t)) (.slice (some ⟨w.heap.size, 0, none⟩) l.length l.length) l := by
  refine ⟨pcells_len l, _, _, rfl, Nat.le_refl _, .inr ⟨_, 0, rfl, fun j hj => ?_⟩⟩
  rw [Nat.zero_add, World.cell?_alloc_new]
  simp [List.getElem?_eq_getElem hj]

end Go.Proofs.YtaaabmnaindgaaaGreatDoor

/-
  node: the closure that Find hands on; place; Find.
-/
namespace Go.Proofs.YtaaabmnaindgaaaGreatDoor
set_option maxRecDepth 100000
open Go.RowKit

/-- A box that holds a key. -/
def KBox (w : World) (g : Nat) (k : Ky) : Prop := Cx w g 65 [.string ⟨k.1.toArray⟩, .int .i64 k.2]

set_option maxHeartbeats 1000000 in
theorem find1_calls (x : Pr) (k : Ky) (g : Nat) (w : World) (hk : KBox w g k) :
    Calls Tryz.prog 92 #[.agg #[.string ⟨x.1.1.toArray⟩, .int .i64 x.1.2, .string ⟨x.2.toArray⟩], .pointer (some ⟨g, 0, none⟩)] w fun e w' => e = .returned (.bool (lessK x.1 k)) ∧ Below w.heap.size w w' := by
  obtain ⟨⟨p, n⟩, s⟩ := x
  obtain ⟨q, m⟩ := k
  dsimp only
  have hk1 := hk.below (below_alloc w (.cells #[.string ⟨p.toArray⟩, .int .i64 n, .string ⟨s.toArray⟩] 67))
  obtain ⟨c0, c1, _, _, hg⟩ := hk1.two
  dsimp only at c0 c1
  go_enter Tryz.func92, Tryz.ntmps92
  go_wp2_with fail
  refine (kLess_calls p q n m _).mono ?_
  rintro e w1 ⟨rfl, hB⟩
  go_wp2_with fail
  go_ret
  exact ⟨rfl, below2 (below_alloc w _) hB⟩

/-- So far all stand ahead. -/
def aheadTo (l : List Pr) (k : Ky) (n : Nat) : Prop := ∀ i (h : i < l.length), i < n → lessK l[i].1 k = true
theorem aheadTo_succ {l : List Pr} {k : Ky} {n : Nat} (h : aheadTo l k n) (hn : n < l.length) (h1 : lessK l[n].1 k = true) : aheadTo l k (n + 1) := by
  intro i hi h2
  by_cases e : i = n
  · subst e; exact h1
  · exact h i hi (by omega)
theorem aheadTo_here {l : List Pr} {k : Ky} {n : Nat} (h : aheadTo l k n) (hn : n < l.length) (h1 : lessK l[n].1 k = false) : placeN l k = n :=
  placeN_is (by omega) (fun i hi => h i (by omega) hi) (fun _ => h1)
theorem aheadTo_end {l : List Pr} {k : Ky} {n : Nat} (h : aheadTo l k n) (hn : n = l.length) : placeN l k = n :=
  placeN_is (by omega) (fun i hi => h i (by omega) hi) (fun _ => by omega)

set_option maxHeartbeats 2000000 in
theorem place_calls (v : Value) (l : List Pr) (k : Ky) (g : Nat) (w : World) (hs : Prs w v l) (hk : KBox w g k) (hm : l.length ≤ 1000000) :
    Calls Tryz.prog 91 #[v, .func (.func 92) #[] #[.pointer (some ⟨g, 0, none⟩)]] w fun e w' => e = .returned (.int .i64 (placeN l k)) ∧ Below w.heap.size w w' := by
  obtain ⟨ao, cap, rfl⟩ := hs.form
  have HS := Lib.hid hs
  have HK := Lib.hid hk
  clear hs hk
  go_enter Tryz.func91, Tryz.ntmps91
  go_wp2_with fail
  go_loopw [5] (fun i wr => ∃ n : Nat, n ≤ l.length ∧ i = .int .i64 n ∧ aheadTo l k n ∧ Below w.heap.size w wr) (fun i _ => l.length - (intOf i).toNat)
  case atStart => exact ⟨0, Nat.zero_le _, rfl, fun i _ h => by omega, Below.refl _ _⟩
  case round =>
    obtain ⟨n, hn, rfl, hf, hB⟩ := hrel
    by_cases hlt : n < l.length
    · obtain ⟨b, off, rfl, c0, c1, c2⟩ := (HS.out.below hB).at hlt
      obtain ⟨x, hx⟩ : ∃ x, l[n] = x := ⟨_, rfl⟩
      rw [hx] at c0 c1 c2
      have HX := Lib.hid hx
      clear hx
      have KC := find1_calls x k g _ (HK.out.below hB)
      cases hle : lessK x.1 k with
      | true =>
        have HL := Lib.hid hle
        rw [hle] at KC
        have K := Lib.hid KC
        clear KC hle
        go_wp2_with fail
        refine K.out.mono ?_
        rintro e w1 ⟨rfl, hB1⟩
        go_wp2_with fail
        go_roundw
        case rel => exact ⟨n + 1, by omega, by go_num, aheadTo_succ hf hlt (by rw [HX.out]; exact HL.out), below2 hB hB1⟩
        case measure => simp [intOf]; omega
      | false =>
        have HL := Lib.hid hle
        rw [hle] at KC
        have K := Lib.hid KC
        clear KC hle
        go_wp2_with fail
        refine K.out.mono ?_
        rintro e w1 ⟨rfl, hB1⟩
        have HR := Lib.hid (aheadTo_here hf hlt (by rw [HX.out]; exact HL.out))
        go_wp2_with fail
        go_ret
        exact ⟨by rw [HR.out]; rfl, below2 hB hB1⟩
    · obtain rfl : n = l.length := by omega
      have HR := Lib.hid (aheadTo_end hf rfl)
      go_wp2_with fail
      go_ret
      exact ⟨by rw [HR.out]; rfl, hB⟩

theorem kbox_new (w : World) (p : List UInt8) (n : Int) : KBox (w.alloc (.cells #[.string ⟨p.toArray⟩, .int .i64 n] 65)) w.heap.size (p, n) := Cx.new w _ [.string ⟨p.toArray⟩, .int .i64 n]
/-- Two keys are the same, or their paths are unlike, or their times alone. -/
theorem key_cases (q p : List UInt8) (z m : Int) : (decide (((q, z) : Ky) = (p, m)) = true ∧ (q == p) = true ∧ (z == m) = true) ∨ (decide (((q, z) : Ky) = (p, m)) = false ∧ (q == p) = false) ∨ (decide (((q, z) : Ky) = (p, m)) = false ∧ (q == p) = true ∧ (z == m) = false) := by
  by_cases h1 : q = p
  · by_cases h2 : z = m
    · left; simp [h1, h2]
    · right; right; simp [h1, h2]
  · right; left; simp [h1]

set_option maxHeartbeats 4000000 in
theorem find_calls (v : Value) (l : List Pr) (p : List UInt8) (m : Int) (w : World) (hs : Prs w v l) (hm : l.length ≤ 1000000) :
    Calls Tryz.prog 59 #[v, .agg #[.string ⟨p.toArray⟩, .int .i64 m]] w fun e w' => e = .returned (.tuple #[.int .i64 (placeN l (p, m)), .bool (hereB l (p, m))]) ∧ Below w.heap.size w w' := by
  obtain ⟨ao, cap, rfl⟩ := hs.form
  have hB0 := below_alloc w (.cells #[.string ⟨p.toArray⟩, .int .i64 m] 65)
  have KP := place_calls _ l (p, m) _ _ (hs.below hB0) (kbox_new w p m) hm
  have HS := Lib.hid hs
  have HK := Lib.hid (kbox_new w p m)
  clear hs
  obtain ⟨n, hn⟩ : ∃ n, placeN l (p, m) = n := ⟨_, rfl⟩
  have hnl : n ≤ l.length := by rw [← hn]; exact placeN_le l _
  rw [hn] at KP
  rw [hn]
  have HN := Lib.hid hn
  have K := Lib.hid KP
  clear KP hn
  by_cases hlt : n < l.length
  · obtain ⟨⟨⟨q, z⟩, s⟩, hx⟩ : ∃ x, l[n] = x := ⟨_, rfl⟩
    have hh : hereB l (p, m) = decide (((q, z) : Ky) = (p, m)) := by
      have := hereB_at (l := l) (k := (p, m)) (by rw [HN.out]; exact hlt)
      simp only [HN.out, hx] at this
      exact this
    have HX := Lib.hid hx
    clear hx
    rcases key_cases q p z m with ⟨he, e1, e2⟩ | ⟨he, e1⟩ | ⟨he, e1, e2⟩
    all_goals
      rw [he] at hh
      have HH := Lib.hid hh
      clear hh he
      go_enter Tryz.func59, Tryz.ntmps59
      go_wp2_with fail
      refine K.out.mono ?_
      rintro e w1 ⟨rfl, hB1⟩
      obtain ⟨k0, k1, _⟩ := (HK.out.below hB1).two
      obtain ⟨b, off, rfl, c0, c1, c2⟩ := (HS.out.below (below2 hB0 hB1)).at hlt
      rw [HX.out] at c0 c1 c2
      dsimp only at c0 c1 k0 k1
      clear c2
      go_wp2_with fail
      go_region_held3 (fun w' => w'.cell? ⟨b, off + n * 3, none⟩ = some (.string ⟨q.toArray⟩) ∧ w'.cell? ⟨b, off + n * 3 + 1, none⟩ = some (.int .i64 z) ∧ w'.cell? ⟨w.heap.size, 0, none⟩ = some (.string ⟨p.toArray⟩) ∧ w'.cell? ⟨w.heap.size, 1, none⟩ = some (.int .i64 m)) (first | exact ⟨c0, c1, k0, k1⟩) (first | fail)
      all_goals
        go_wp2_with fail
        go_ret2
        exact ⟨by rw [HH.out]; rfl, below3 hB0 hB1 (drew_below _)⟩
  · have hnl2 : n = l.length := by omega
    have HH := Lib.hid (hereB_end (HN.out.trans hnl2))
    clear hnl2
    go_enter Tryz.func59, Tryz.ntmps59
    go_wp2_with fail
    refine K.out.mono ?_
    rintro e w1 ⟨rfl, hB1⟩
    go_wp2_with fail
    refine held0 (S := (fun _ => True)) (by kernel_rfl) (trivial) (fun hHeld => ?_)
    iterate 6 (refine heldT (oi := ⟨_, _, _, _, _, _⟩) (v := ?_) hHeld rfl rfl (by kernel_rfl) (by kernel_rfl) (by kernel_rfl) (fun _ _ _ h => h) ?_ ?_; rotate_left; (intro w hSw; (try dsimp only at hSw); go_simp; try with_reducible rfl); try simp only [Act.put, List.setIfInBounds_toArray, List.set_cons_zero, List.set_cons_succ])
    iterate 7 (refine heldU (oi := ⟨_, _, _, _, _, _⟩) hHeld rfl rfl (by kernel_rfl) (by kernel_rfl) (by kernel_rfl) (fun _ _ _ h => h) ?_; try simp only [Act.put, List.setIfInBounds_toArray, List.set_cons_zero, List.set_cons_succ])
    iterate 3 (refine heldT (oi := ⟨_, _, _, _, _, _⟩) (v := ?_) hHeld rfl rfl (by kernel_rfl) (by kernel_rfl) (by kernel_rfl) (fun _ _ _ h => h) ?_ ?_; rotate_left; (intro w hSw; (try dsimp only at hSw); go_simp; try with_reducible rfl); try simp only [Act.put, List.setIfInBounds_toArray, List.set_cons_zero, List.set_cons_succ])
    refine wpAnyH_done (by kernel_rfl) ?_ _
    go_wp2_with fail
    go_ret2
    exact ⟨by rw [HH.out]; rfl, below3 hB0 hB1 (drew_below _)⟩

end Go.Proofs.YtaaabmnaindgaaaGreatDoor

/-
  node: joined (rows of pairs put together, on memory of its own).
-/
namespace Go.Proofs.YtaaabmnaindgaaaGreatDoor
set_option maxRecDepth 100000
open Go.RowKit

theorem infoP : (Tryz.prog.info? 67).map (fun i => (i.zero, i.size, i.bytes)) = some (some (.agg #[.string ⟨#[]⟩, .int .i64 0, .string ⟨#[]⟩]), 3, 40) := by kernel_rfl

/-- Rows of pairs, in a row. -/
def Rws (w : World) (v : Value) (S : List (Value × List Pr)) : Prop := Rw w 1 v S.length (S.map (·.1)) ∧ ∀ x ∈ S, Prs w x.1 x.2
/-- All of them. -/
def allP (S : List (Value × List Pr)) : List Pr := S.flatMap (·.2)
theorem Rws.below {w w' : World} {v : Value} {S : List (Value × List Pr)} (h : Rws w v S) (hb : Below w.heap.size w w') : Rws w' v S := ⟨Rw.below h.1 hb, fun x hx => (h.2 x hx).below hb⟩
theorem Rws.form {w : World} {v : Value} {S : List (Value × List Pr)} (h : Rws w v S) : ∃ ao cap, v = .slice ao S.length cap := Rw.form h.1
theorem Rws.at {w : World} {ao : Option Addr} {n cap : Nat} {S : List (Value × List Pr)} (h : Rws w (.slice ao n cap) S) {k : Nat} (hk : k < S.length) : ∃ b off ar cr, ao = some ⟨b, off, none⟩ ∧ S[k].1 = .slice ar S[k].2.length cr ∧ w.cell? ⟨b, off + k, none⟩ = some (.slice ar S[k].2.length cr) ∧ Prs w (.slice ar S[k].2.length cr) S[k].2 := by
  have hx := h.2 _ (List.getElem_mem hk)
  obtain ⟨ar, cr, hv⟩ := hx.form
  obtain ⟨⟨_, ao', cap', he, _, hc⟩, _⟩ := h
  cases he
  rcases hc with h0 | ⟨b, off, rfl, hc⟩
  · omega
  · have := hc k (by simpa using hk)
    rw [List.getElem_map] at this
    exact ⟨b, off, ar, cr, rfl, hv, hv ▸ this, hv ▸ hx⟩
theorem allP_succ {S : List (Value × List Pr)} {k : Nat} (hk : k < S.length) : allP (S.take (k + 1)) = allP (S.take k) ++ S[k].2 := by
  unfold allP
  rw [List.take_succ_eq_append_getElem hk, List.flatMap_append]
  simp
theorem allP_len {S : List (Value × List Pr)} {k : Nat} (hk : k < S.length) : (allP (S.take (k + 1))).length = (allP (S.take k)).length + S[k].2.length := by rw [allP_succ hk, List.length_append]
theorem allP_le (S : List (Value × List Pr)) (k : Nat) : (allP (S.take k)).length ≤ (allP S).length := by
  unfold allP
  rw [← List.take_append_drop k S, List.flatMap_append]
  simp

theorem make_pairs (n : Nat) (h : n ≤ 1000000) (w : World) : (Instr.makeSlice 22 (.int .i64 0) (.int .i64 (n : Int))).run Tryz.prog w = .ok (.slice (some ⟨w.heap.size, 0, none⟩) 0 n) (w.alloc (.cells (madeCells #[.string ⟨#[]⟩, .int .i64 0, .string ⟨#[]⟩] (n * 3)) 67)) := by
  obtain ⟨i0, hi, hz0, hz1, hz2⟩ := info_parts infoP
  have hr := run_make (P := Tryz.prog) w 22 67 i0 _ Tryz.underlying22 hi hz0 .i64 .i64 0 n (by omega) (by omega) (by rw [hz2]; omega) (by omega)
  simpa [hz1, Value.cells] using hr
theorem made_own (w : World) (n : Nat) (h : n ≤ 1000000) : OwnP (w.alloc (.cells (madeCells #[.string ⟨#[]⟩, .int .i64 0, .string ⟨#[]⟩] (n * 3)) 67)) w.heap.size (.slice (some ⟨w.heap.size, 0, none⟩) 0 n) [] :=
  World.ownsRow_made w _ n (Nat.le_refl _) (by unfold maxLen; omega) (by simp [madeCells])

set_option maxHeartbeats 4000000 in
theorem joined_calls (v : Value) (S : List (Value × List Pr)) (w : World) (hs : Rws w v S) (hn : S.length ≤ 1000) (hm : (allP S).length ≤ 1000000) :
    Calls Tryz.prog 90 #[v] w fun e w' => ∃ ao cap, e = .returned (.slice ao (allP S).length cap) ∧ OwnP w' w.heap.size (.slice ao (allP S).length cap) (allP S) ∧ Below w.heap.size w w' := by
  obtain ⟨i0, hi, hz0, hz1, hz2⟩ := info_parts infoP
  obtain ⟨av, cv, rfl⟩ := hs.form
  have HS := Lib.hid hs
  clear hs
  go_enter Tryz.func90, Tryz.ntmps90
  go_wp2_with fail
  go_loop [3, 11] (fun n i => ∃ k : Nat, k ≤ S.length ∧ i = .int .i64 k ∧ n = .int .i64 (allP (S.take k)).length) (fun _ i => S.length - (intOf i).toNat)
  case atStart => exact ⟨0, Nat.zero_le _, rfl, by simp [allP]⟩
  case round =>
    obtain ⟨k, hk, rfl, rfl⟩ := hrel
    by_cases hlt : k < S.length
    · obtain ⟨b, off, ar, cr, rfl, hv, c0, hp⟩ := HS.out.at hlt
      have hl := allP_len hlt
      have hl2 := allP_le S (k + 1)
      obtain ⟨m, hm1⟩ : ∃ m, S[k].2.length = m := ⟨_, rfl⟩
      obtain ⟨t, ht⟩ : ∃ t, (allP (S.take k)).length = t := ⟨_, rfl⟩
      rw [hm1] at hl c0
      rw [ht] at hl ⊢
      have HL := Lib.hid hl
      have hb : t + m ≤ 1000000 := by omega
      clear hl hl2 hp hv hm1 ht
      go_wp2_with fail
      go_round
      case rel => exact ⟨k + 1, by omega, by go_num, by rw [HL.out]; go_num⟩
      case measure => simp [intOf]; omega
    · obtain rfl : k = S.length := by omega
      rw [List.take_length]
      obtain ⟨t, ht⟩ : ∃ t, (allP S).length = t := ⟨_, rfl⟩
      rw [ht] at hm ⊢
      have HT := Lib.hid ht
      clear ht
      obtain ⟨W0, HMK, ho, hBm⟩ : ∃ W0, (Instr.makeSlice 22 (.int .i64 0) (.int .i64 (t : Int))).run Tryz.prog w = .ok (.slice (some ⟨w.heap.size, 0, none⟩) 0 t) W0 ∧ OwnP W0 w.heap.size (.slice (some ⟨w.heap.size, 0, none⟩) 0 t) [] ∧ Below w.heap.size w W0 := ⟨_, make_pairs t (by omega) w, made_own w t (by omega), below_alloc w _⟩
      have HO := Lib.hid ho
      clear ho
      go_wp2_with fail
      go_loopw [6, 24] (fun r i wr => ∃ k : Nat, k ≤ S.length ∧ i = .int .i64 k ∧ (∃ ao cap, r = .slice ao (allP (S.take k)).length cap ∧ OwnP wr w.heap.size (.slice ao (allP (S.take k)).length cap) (allP (S.take k))) ∧ Below w.heap.size w wr) (fun _ i _ => S.length - (intOf i).toNat)
      case atStart => exact ⟨0, Nat.zero_le _, rfl, ⟨some ⟨w.heap.size, 0, none⟩, t, by simp [allP], by simpa [allP] using HO.out⟩, hBm⟩
      case round =>
        obtain ⟨k, hk, rfl, ⟨ao, cap, rfl, hown⟩, hB⟩ := hrel
        by_cases hlt : k < S.length
        · obtain ⟨b, off, ar, cr, rfl, hv, c0, hp⟩ := (HS.out.below hB).at hlt
          have hl := allP_len hlt
          have hl2 := allP_le S (k + 1)
          rw [HT.out] at hl2
          have hs := allP_succ hlt
          obtain ⟨R, hR⟩ : ∃ R, S[k].2 = R := ⟨_, rfl⟩
          obtain ⟨T, hT⟩ : ∃ T, allP (S.take k) = T := ⟨_, rfl⟩
          obtain ⟨U, hU⟩ : ∃ U, allP (S.take (k + 1)) = U := ⟨_, rfl⟩
          rw [hR] at hl hs c0 hp
          rw [hT] at hl hs hown ⊢
          rw [hU] at hl hs hl2
          have HP := Lib.hid (And.intro hp (And.intro hown (And.intro hs hU)))
          obtain ⟨m, hm1⟩ : ∃ m, R.length = m := ⟨_, rfl⟩
          obtain ⟨n, hm2⟩ : ∃ n, T.length = n := ⟨_, rfl⟩
          obtain ⟨q, hm3⟩ : ∃ q, U.length = q := ⟨_, rfl⟩
          have HM := Lib.hid (And.intro hm1 (And.intro hm2 hm3))
          rw [hm1] at c0
          rw [hm2]
          have hb : n + m = q := by omega
          have hb2 : q ≤ 1000000 := by omega
          clear hl hl2 hs hp hown hv hm1 hm2 hm3 hR hT hU
          go_wp2_with (at_builtin; refine wpList_append_rw rfl (.tmp 28) (.tmp 29) 22 rfl w.heap.size 67 i0 _ 3 40 Tryz.underlying22 hi hz0 hz1 hz2 rfl (by decide) _ n (pcells T) rfl (by have := HP.out.2.1; unfold OwnP at this; rw [HM.out.2.1] at this; exact this) ar m cr (pcells R) rfl (by have := HP.out.1; unfold Prs at this; rw [HM.out.1] at this; exact this) (pcells_one R) q hb (by unfold maxLen; omega) (by omega) hB.size ?_; intro a3 c3 w3 hown3 hg3)
          have hB3 := hB.grown hg3 hB.size (fun j e => by
            have h3 := HP.out.2.1
            unfold OwnP at h3
            rw [HM.out.2.1] at h3
            exact (h3.lt j e).1)
          go_roundw
          case rel =>
            obtain ⟨e1, e2, e3⟩ := HM.out
            obtain ⟨_, _, f3, f4⟩ := HP.out
            refine ⟨k + 1, by omega, by go_num, ⟨a3, c3, by rw [f4, e3], ?_⟩, hB3⟩
            rw [f4, e3]
            unfold OwnP
            rw [e3, f3, pcells_append]
            exact hown3
          case measure => simp [intOf]; omega
        · obtain rfl : k = S.length := by omega
          rw [List.take_length, HT.out] at hown ⊢
          have HW := Lib.hid hown
          clear hown
          go_wp2_with fail
          go_ret
          refine ⟨ao, cap, ?_, ?_, hB⟩
          · rw [HT.out]; rfl
          · rw [HT.out]; exact HW.out

/-- Rows that are laid as they stand. -/
theorem rws_lit (w : World) (S : List (Value × List Pr)) (t : TypeId) (h : ∀ x ∈ S, Prs w x.1 x.2) : Rws (w.alloc (.cells (S.map (·.1)).toArray t)) (.slice (some ⟨w.heap.size, 0, none⟩) S.length S.length) S := by
  refine ⟨⟨by simp, _, _, rfl, Nat.le_refl _, .inr ⟨_, 0, rfl, fun j hj => ?_⟩⟩, fun x hx => (h x hx).below (below_alloc w _)⟩
  rw [Nat.zero_add, World.cell?_alloc_new]
  simp only [List.getElem?_toArray, List.getElem?_eq_getElem hj]
theorem rws_one {w : World} {v : Value} {L : List Pr} (h : Prs w v L) : Rws (w.alloc (.cells #[v] 22)) (.slice (some ⟨w.heap.size, 0, none⟩) 1 1) [(v, L)] :=
  rws_lit w [(v, L)] _ (fun x hx => by simp only [List.mem_singleton] at hx; subst hx; exact h)
theorem rws_two {w : World} {v1 v2 : Value} {L1 L2 : List Pr} (h1 : Prs w v1 L1) (h2 : Prs w v2 L2) : Rws (w.alloc (.cells #[v1, v2] 22)) (.slice (some ⟨w.heap.size, 0, none⟩) 2 2) [(v1, L1), (v2, L2)] :=
  rws_lit w [(v1, L1), (v2, L2)] _ (fun x hx => by
    simp only [List.mem_cons, List.not_mem_nil, or_false] at hx
    rcases hx with rfl | rfl
    · exact h1
    · exact h2)
/-- What Put puts together: a row, one pair, a row. -/
theorem rws_put {w : World} {v1 v2 : Value} {L1 L2 : List Pr} (p : List UInt8) (m : Int) (s : List UInt8) (h1 : Prs w v1 L1) (h2 : Prs w v2 L2) :
    Rws (((w.alloc (.cells #[.string ⟨p.toArray⟩, .int .i64 m, .string ⟨s.toArray⟩] 67)).alloc (.cells #[v1, .slice (some ⟨w.heap.size, 0, none⟩) 1 1, v2] 22)).drew) (.slice (some ⟨w.heap.size + 1, 0, none⟩) 3 3) [(v1, L1), (.slice (some ⟨w.heap.size, 0, none⟩) 1 1, [((p, m), s)]), (v2, L2)] := by
  have hB := below_alloc w (.cells #[.string ⟨p.toArray⟩, .int .i64 m, .string ⟨s.toArray⟩] 67)
  have hx := prs_lit w [((p, m), s)] 67
  have h := rws_lit (w.alloc (.cells #[.string ⟨p.toArray⟩, .int .i64 m, .string ⟨s.toArray⟩] 67)) [(v1, L1), (.slice (some ⟨w.heap.size, 0, none⟩) 1 1, [((p, m), s)]), (v2, L2)] 22 (fun x hx' => by
    simp only [List.mem_cons, List.not_mem_nil, or_false] at hx'
    rcases hx' with rfl | rfl | rfl
    · exact h1.below hB
    · exact hx
    · exact h2.below hB)
  rw [World.size_alloc] at h
  exact h.below (drew_below _)

end Go.Proofs.YtaaabmnaindgaaaGreatDoor

/-
  Rows of the call's own that lie in unlike blocks; two of them put together.
-/
namespace Go.Proofs.YtaaabmnaindgaaaGreatDoor
set_option maxRecDepth 100000
open Go.RowKit

/-- Two rows of the call's own lie in unlike blocks. -/
def Apart (x y : Value) : Prop := x.ownBlock = none ∨ x.ownBlock ≠ y.ownBlock
theorem Apart.symm {x y : Value} (h : Apart x y) (hy : y.ownBlock = none ∨ y.ownBlock ≠ none) : Apart y x := by
  unfold Apart at h ⊢
  rcases hy with hy | hy
  · exact .inl hy
  · rcases h with h | h
    · exact .inr (by rw [h]; exact hy)
    · exact .inr (Ne.symm h)
theorem first_below (w : World) (o : Obj) : Below w.heap.size w (w.alloc o).drew := below2 (below_alloc w o) (drew_below _)
end Go.Proofs.YtaaabmnaindgaaaGreatDoor

/-
  node: Drop.
-/
namespace Go.Proofs.YtaaabmnaindgaaaGreatDoor
set_option maxRecDepth 100000
open Go.RowKit

theorem drop_here {l : List Pr} {k : Ky} {n : Nat} (hn : placeN l k = n) (hh : hereB l k = true) : l.take n ++ (l.drop (n + 1) ++ []) = dropL l k := by
  unfold dropL nextN
  rw [hn, if_pos hh]
  simp
theorem drop_not {l : List Pr} {k : Ky} (hh : hereB l k = false) : dropL l k = l := by
  unfold dropL nextN
  rw [if_neg (by simp [hh])]
  simp

set_option maxHeartbeats 4000000 in
theorem drop_calls (v : Value) (l : List Pr) (p : List UInt8) (m : Int) (w : World) (hs : Prs w v l) (hm : l.length ≤ 100000) :
    Calls Tryz.prog 66 #[v, .agg #[.string ⟨p.toArray⟩, .int .i64 m]] w fun e w' => ∃ ao n cap, e = .returned (.slice ao n cap) ∧ OwnP w' w.heap.size (.slice ao n cap) (dropL l (p, m)) ∧ Below w.heap.size w w' := by
  obtain ⟨ao, cap, rfl⟩ := hs.form
  have hB0 := below_alloc w (.cells #[.string ⟨p.toArray⟩, .int .i64 m] 65)
  have hX := Lib.hid (kbox_new w p m)
  have KP := find_calls _ l p m _ (hs.below hB0) (by omega)
  have HS := Lib.hid hs
  clear hs
  obtain ⟨n, hn⟩ : ∃ n, placeN l (p, m) = n := ⟨_, rfl⟩
  have hnl : n ≤ l.length := by rw [← hn]; exact placeN_le l _
  rw [hn] at KP
  cases hh : hereB l (p, m) with
  | true =>
    rw [hh] at KP
    have K := Lib.hid KP
    have HU := Lib.hid (drop_here hn hh)
    have hnl2 : n < l.length := by rw [← hn]; exact hereB_lt hh
    have hle := Lib.hid (show (dropL l (p, m)).length ≤ l.length by rw [dropL_length]; split <;> omega)
    clear KP hh hn
    obtain ⟨r, hr⟩ : ∃ r, n + 1 + r = l.length := ⟨l.length - n - 1, by omega⟩
    obtain ⟨a2, c2, hr2, hp2⟩ := slice_from HS.out (n + 1) r (by omega) hr
    obtain ⟨hr3, hp3⟩ := slice_to HS.out n hnl
    have hr4 : ∀ W, (Instr.slice 22 (.slice ao l.length cap) (some (.int .i64 ((n : Int) + 1))) none none).run Tryz.prog W = .ok (.slice a2 r c2) W := hr2
    have hw1 : IntKind.i64.wrap ((n : Int) + 1) = (n : Int) + 1 := IntWalk.i64_in _ (by omega)
    have HP := Lib.hid (And.intro hp2 hp3)
    clear hr2 hp2 hp3
    go_enter Tryz.func66, Tryz.ntmps66
    go_wp2_with fail
    refine K.out.mono ?_
    rintro e w1 ⟨rfl, hB1⟩
    obtain ⟨x0, x1, _, _, xl⟩ := (hX.out.below hB1).two
    have hBB1 := below2 hB0 hB1
    have HJ := joined_calls _ _ _ ((rws_two (w := w1) (HP.out.2.below hBB1) (HP.out.1.below hBB1)).below (drew_below _)) (by simp) (by
      have := hle.out
      rw [← HU.out] at this
      show (l.take n ++ (l.drop (n + 1) ++ [])).length ≤ _
      omega)
    rw [show allP [(.slice ao n cap, l.take n), (.slice a2 r c2, l.drop (n + 1))] = dropL l (p, m) from HU.out] at HJ
    have HJ := Lib.hid HJ
    have hBd := below3 hBB1 (below_alloc w1 (.cells #[.slice ao n cap, .slice a2 r c2] 22)) (drew_below _)
    go_wp2_with fail
    go_region_with (go_at_call 90; refine HJ.out.mono ?_; rintro e w2 ⟨a4, c4, rfl, ho, hB2⟩)
    all_goals
      have hO := Lib.hid ho
      clear ho
      go_wp2_with fail
      go_ret
      exact ⟨a4, _, c4, rfl, hO.out.weak hBd.size, below2 hBd hB2⟩
  | false =>
    rw [hh] at KP
    have K := Lib.hid KP
    have HU := Lib.hid (drop_not hh)
    clear KP hh hn
    go_enter Tryz.func66, Tryz.ntmps66
    go_wp2_with fail
    refine K.out.mono ?_
    rintro e w1 ⟨rfl, hB1⟩
    have hBB1 := below2 hB0 hB1
    have hBd := below2 hBB1 (below_alloc w1 (.cells #[.slice ao l.length cap] 22))
    have HJ := Lib.hid (joined_calls _ _ _ (rws_one (w := w1) (HS.out.below hBB1)) (by simp) (by simp [allP]; omega))
    go_wp2_with fail
    refine HJ.out.mono ?_
    rintro e w2 ⟨a4, c4, rfl, ho, hB2⟩
    have hO := Lib.hid (show OwnP w2 _ (.slice a4 _ c4) (dropL l (p, m)) by
      have e1 : allP [((.slice ao l.length cap : Value), l)] = dropL l (p, m) := by rw [HU.out]; simp [allP]
      rw [e1] at ho
      exact ho)
    clear ho
    go_wp2_with fail
    go_ret
    exact ⟨a4, _, c4, rfl, by simpa [allP, HU.out] using hO.out.weak hBd.size, below2 hBd hB2⟩

end Go.Proofs.YtaaabmnaindgaaaGreatDoor

/-
  node: Put.
-/
namespace Go.Proofs.YtaaabmnaindgaaaGreatDoor
set_option maxRecDepth 100000
open Go.RowKit

theorem put_here {l : List Pr} {x : Pr} {n : Nat} (hn : placeN l x.1 = n) (hh : hereB l x.1 = true) : l.take n ++ ([x] ++ (l.drop (n + 1) ++ [])) = putL l x := by
  unfold putL nextN
  rw [hn, if_pos hh]
  simp
theorem put_new {l : List Pr} {x : Pr} {n : Nat} (hn : placeN l x.1 = n) (hh : hereB l x.1 = false) : l.take n ++ ([x] ++ (l.drop n ++ [])) = putL l x := by
  unfold putL nextN
  rw [hn, if_neg (by simp [hh])]
  simp

set_option maxHeartbeats 4000000 in
theorem put_calls (v : Value) (l : List Pr) (p : List UInt8) (m : Int) (s : List UInt8) (w : World) (hs : Prs w v l) (hm : l.length ≤ 100000) :
    Calls Tryz.prog 58 #[v, .agg #[.string ⟨p.toArray⟩, .int .i64 m, .string ⟨s.toArray⟩]] w fun e w' => ∃ ao cap, e = .returned (.slice ao (putL l ((p, m), s)).length cap) ∧ OwnP w' w.heap.size (.slice ao (putL l ((p, m), s)).length cap) (putL l ((p, m), s)) ∧ Below w.heap.size w w' := by
  obtain ⟨ao, cap, rfl⟩ := hs.form
  have hB0 := below_alloc w (.cells #[.string ⟨p.toArray⟩, .int .i64 m, .string ⟨s.toArray⟩] 67)
  have hX := Lib.hid (Cx.new w 67 [.string ⟨p.toArray⟩, .int .i64 m, .string ⟨s.toArray⟩])
  have KP := find_calls _ l p m _ (hs.below hB0) (by omega)
  have HS := Lib.hid hs
  clear hs
  obtain ⟨n, hn⟩ : ∃ n, placeN l (p, m) = n := ⟨_, rfl⟩
  have hnl : n ≤ l.length := by rw [← hn]; exact placeN_le l _
  rw [hn] at KP
  cases hh : hereB l (p, m) with
  | true =>
    rw [hh] at KP
    have K := Lib.hid KP
    have HU := Lib.hid (put_here (x := ((p, m), s)) hn hh)
    have hnl2 : n < l.length := by rw [← hn]; exact hereB_lt hh
    have hle := Lib.hid (putL_le l ((p, m), s))
    clear KP hh hn
    obtain ⟨r, hr⟩ : ∃ r, n + 1 + r = l.length := ⟨l.length - n - 1, by omega⟩
    obtain ⟨a1, c1, hr1, hp1⟩ := slice_from HS.out n (r + 1) hnl (by omega)
    obtain ⟨a2, c2, hr2, hp2⟩ := slice_from hp1 1 r (by omega) (by omega)
    obtain ⟨hr3, hp3⟩ := slice_to HS.out n hnl
    rw [List.drop_drop] at hp2
    have hr4 : ∀ W, (Instr.slice 22 (.slice a1 (r + 1) c1) (some (.int .i64 1)) none none).run Tryz.prog W = .ok (.slice a2 r c2) W := hr2
    have HP := Lib.hid (And.intro hp2 hp3)
    clear hr2 hp1 hp2 hp3
    go_enter Tryz.func58, Tryz.ntmps58
    go_wp2_with fail
    refine K.out.mono ?_
    rintro e w1 ⟨rfl, hB1⟩
    obtain ⟨x0, x1, x2, _, _, _, xl⟩ := (hX.out.below hB1).three
    have hBB1 := below2 hB0 hB1
    have HJ := joined_calls _ _ _ (rws_put (w := w1) p m s (HP.out.2.below hBB1) (HP.out.1.below hBB1)) (by simp) (by
      have := hle.out
      rw [← HU.out] at this
      show (l.take n ++ ([((p, m), s)] ++ (l.drop (n + 1) ++ []))).length ≤ _
      omega)
    rw [show allP [(.slice ao n cap, l.take n), (.slice (some ⟨w1.heap.size, 0, none⟩) 1 1, [((p, m), s)]), (.slice a2 r c2, l.drop (n + 1))] = putL l ((p, m), s) from HU.out] at HJ
    have HJ := Lib.hid HJ
    have hBd := below3 hBB1 (below_alloc2 w1 (.cells #[.string ⟨p.toArray⟩, .int .i64 m, .string ⟨s.toArray⟩] 67) (.cells #[.slice ao n cap, .slice (some ⟨w1.heap.size, 0, none⟩) 1 1, .slice a2 r c2] 22)) (drew_below _)
    go_wp2_with fail
    go_region_with (go_at_call 90; refine HJ.out.mono ?_; rintro e w2 ⟨a4, c4, rfl, ho, hB2⟩)
    all_goals
      have hO := Lib.hid ho
      clear ho
      go_wp2_with fail
      go_ret
      exact ⟨a4, c4, rfl, hO.out.weak hBd.size, below2 hBd hB2⟩
  | false =>
    rw [hh] at KP
    have K := Lib.hid KP
    have HU := Lib.hid (put_new (x := ((p, m), s)) hn hh)
    have hle := Lib.hid (putL_le l ((p, m), s))
    clear KP hh hn
    obtain ⟨r, hr⟩ : ∃ r, n + r = l.length := ⟨l.length - n, by omega⟩
    obtain ⟨a2, c2, hr2, hp2⟩ := slice_from HS.out n r hnl hr
    obtain ⟨hr3, hp3⟩ := slice_to HS.out n hnl
    have HP := Lib.hid (And.intro hp2 hp3)
    clear hp2 hp3
    go_enter Tryz.func58, Tryz.ntmps58
    go_wp2_with fail
    refine K.out.mono ?_
    rintro e w1 ⟨rfl, hB1⟩
    obtain ⟨x0, x1, x2, _, _, _, xl⟩ := (hX.out.below hB1).three
    have hBB1 := below2 hB0 hB1
    have HJ := joined_calls _ _ _ (rws_put (w := w1) p m s (HP.out.2.below hBB1) (HP.out.1.below hBB1)) (by simp) (by
      have := hle.out
      rw [← HU.out] at this
      show (l.take n ++ ([((p, m), s)] ++ (l.drop n ++ []))).length ≤ _
      omega)
    rw [show allP [(.slice ao n cap, l.take n), (.slice (some ⟨w1.heap.size, 0, none⟩) 1 1, [((p, m), s)]), (.slice a2 r c2, l.drop n)] = putL l ((p, m), s) from HU.out] at HJ
    have HJ := Lib.hid HJ
    have hBd := below3 hBB1 (below_alloc2 w1 (.cells #[.string ⟨p.toArray⟩, .int .i64 m, .string ⟨s.toArray⟩] 67) (.cells #[.slice ao n cap, .slice (some ⟨w1.heap.size, 0, none⟩) 1 1, .slice a2 r c2] 22)) (drew_below _)
    go_wp2_with fail
    go_region_with (go_at_call 90; refine HJ.out.mono ?_; rintro e w2 ⟨a4, c4, rfl, ho, hB2⟩)
    all_goals
      have hO := Lib.hid ho
      clear ho
      go_wp2_with fail
      go_ret
      exact ⟨a4, c4, rfl, hO.out.weak hBd.size, below2 hBd hB2⟩

end Go.Proofs.YtaaabmnaindgaaaGreatDoor

/-
  The document's own Big of pairs.
-/
namespace Go.Proofs.YtaaabmnaindgaaaGreatDoor
set_option maxRecDepth 100000
open Go.RowKit

/-- None of the first k pairs is too great. -/
def smallTo (l : List Pr) (k : Nat) : Prop := (l.take k).any (fun x => decide (200 < x.1.1.length) || decide (300 < x.2.length)) = false
theorem smallTo_succ {l : List Pr} {k : Nat} (h : smallTo l k) (hk : k < l.length) (h1 : l[k].1.1.length ≤ 200) (h2 : l[k].2.length ≤ 300) : smallTo l (k + 1) := by
  unfold smallTo at h ⊢
  rw [List.take_succ_eq_append_getElem hk, List.any_append, h]
  simp [h1, h2]
theorem big_not {l : List Pr} (hl : l.length ≤ 80) (h : smallTo l l.length) : bigP l = false := by
  unfold smallTo at h
  rw [List.take_length] at h
  unfold bigP
  rw [h]
  simp [hl]
theorem big_one {l : List Pr} {k : Nat} (hk : k < l.length) (h : 200 < l[k].1.1.length ∨ 300 < l[k].2.length) : bigP l = true := by
  unfold bigP
  have : l.any (fun x => decide (200 < x.1.1.length) || decide (300 < x.2.length)) = true := List.any_eq_true.2 ⟨l[k], List.getElem_mem hk, by simpa using h⟩
  simp [this]
theorem big_len {l : List Pr} (h : 80 < l.length) : bigP l = true := by
  unfold bigP
  simp [h]
theorem small_facts {l : List Pr} (h : bigP l = false) : l.length ≤ 80 := by
  unfold bigP at h
  simp only [Bool.or_eq_false_iff, decide_eq_false_iff_not] at h
  omega

theorem bigP_small {l : List Pr} (h : bigP l = false) : l.length ≤ 80 ∧ ∀ x ∈ l, x.1.1.length ≤ 200 ∧ x.2.length ≤ 300 := by
  refine ⟨small_facts h, fun x hx => ?_⟩
  by_cases h1 : x.1.1.length ≤ 200 ∧ x.2.length ≤ 300
  · exact h1
  · obtain ⟨i, hi, rfl⟩ := List.getElem_of_mem hx
    rw [big_one hi (by omega)] at h
    cases h

set_option maxHeartbeats 2000000 in
theorem big_calls (v : Value) (l : List Pr) (w : World) (hs : Prs w v l) (hm : l.length ≤ 9223372036854775807) :
    Calls Tryz.prog 8 #[v] w fun e w' => e = .returned (.bool (bigP l)) ∧ w = w' := by
  obtain ⟨ao, cap, rfl⟩ := hs.form
  have HS := Lib.hid hs
  clear hs
  by_cases h80 : 80 < l.length
  · have HR := Lib.hid (big_len h80)
    go_enter Tryz.func8, Tryz.ntmps8
    go_wp2_with fail
    go_loop [3] (fun i => i = .int .i64 0) (fun _ => 0)
    case atStart => rfl
    case round =>
      subst hrel
      go_wp2_with fail
      go_ret
      exact ⟨by rw [HR.out]; rfl, rfl⟩
  · have h81 : l.length ≤ 80 := by omega
    clear hm
    go_enter Tryz.func8, Tryz.ntmps8
    go_wp2_with fail
    go_loop [3] (fun i => ∃ k : Nat, k ≤ l.length ∧ i = .int .i64 k ∧ smallTo l k) (fun i => l.length - (intOf i).toNat)
    case atStart => exact ⟨0, Nat.zero_le _, rfl, by simp [smallTo]⟩
    case round =>
      obtain ⟨k, hk, rfl, hf⟩ := hrel
      by_cases hlt : k < l.length
      · obtain ⟨b, off, rfl, c0, c1, c2⟩ := HS.out.at hlt
        obtain ⟨⟨⟨p, n⟩, s⟩, hx⟩ : ∃ x, l[k] = x := ⟨_, rfl⟩
        rw [hx] at c0 c1 c2
        dsimp only at c0 c1 c2
        clear c1
        have HX := Lib.hid hx
        clear hx
        by_cases h1 : 200 < p.length
        · have HR := Lib.hid (big_one hlt (.inl (by rw [HX.out]; exact h1)))
          clear hf
          go_wp2_with fail
          go_ret
          exact ⟨by rw [HR.out]; rfl, rfl⟩
        · have h1' : p.length ≤ 200 := by omega
          by_cases h2 : 300 < s.length
          · have HR := Lib.hid (big_one hlt (.inr (by rw [HX.out]; exact h2)))
            clear hf
            go_wp2_with fail
            go_ret
            exact ⟨by rw [HR.out]; rfl, rfl⟩
          · have h2' : s.length ≤ 300 := by omega
            have HR := Lib.hid (smallTo_succ hf hlt (by rw [HX.out]; exact h1') (by rw [HX.out]; exact h2'))
            clear hf
            go_wp2_with fail
            go_round
            case rel => exact ⟨k + 1, by omega, by go_num, HR.out⟩
            case measure => simp [intOf]; omega
      · obtain rfl : k = l.length := by omega
        have HR := Lib.hid (big_not (by omega) hf)
        have hd : decide ((80 : Int) < (l.length : Int)) = false := by rw [decide_eq_false_iff_not]; omega
        clear hf
        go_wp2_with fail
        go_ret
        exact ⟨by rw [HR.out]; rfl, rfl⟩

end Go.Proofs.YtaaabmnaindgaaaGreatDoor

/-
  The document's own Same of pairs.
-/
namespace Go.Proofs.YtaaabmnaindgaaaGreatDoor
set_option maxRecDepth 100000
open Go.RowKit

/-- The first k pairs are the same. -/
def sameTo (a b : List Pr) (k : Nat) : Prop := a.take k = b.take k
theorem sameTo_succ {a b : List Pr} {k : Nat} (h : sameTo a b k) (ha : k < a.length) (hb : k < b.length) (he : a[k] = b[k]) : sameTo a b (k + 1) := by
  unfold sameTo at h ⊢
  rw [List.take_succ_eq_append_getElem ha, List.take_succ_eq_append_getElem hb, h, he]
theorem sameTo_all {a b : List Pr} (hl : a.length = b.length) (h : sameTo a b a.length) : decide (a = b) = true := by
  unfold sameTo at h
  rw [List.take_length, hl, List.take_length] at h
  simp [h]
theorem pair_cases (p q : List UInt8) (n m : Int) (s t : List UInt8) : (((p, n), s) = (((q, m), t) : Pr) ∧ (p == q) = true ∧ (n == m) = true ∧ (s == t) = true) ∨ (((p, n), s) ≠ (((q, m), t) : Pr) ∧ (p == q) = false) ∨ (((p, n), s) ≠ (((q, m), t) : Pr) ∧ (p == q) = true ∧ (n == m) = false) ∨ (((p, n), s) ≠ (((q, m), t) : Pr) ∧ (p == q) = true ∧ (n == m) = true ∧ (s == t) = false) := by
  by_cases h1 : p = q
  · by_cases h2 : n = m
    · by_cases h3 : s = t
      · left; simp [h1, h2, h3]
      · right; right; right; simp [h1, h2, h3]
    · right; right; left; simp [h1, h2]
  · right; left; simp [h1]

set_option maxHeartbeats 4000000 in
theorem same_calls (va vb : Value) (a b : List Pr) (w : World) (ha : Prs w va a) (hb : Prs w vb b) (hm : a.length ≤ 100000) :
    Calls Tryz.prog 19 #[va, vb] w fun e w' => e = .returned (.bool (decide (a = b))) ∧ Below w.heap.size w w' := by
  obtain ⟨aa, ca, rfl⟩ := ha.form
  obtain ⟨ab, cb, rfl⟩ := hb.form
  have HA := Lib.hid ha
  have HB := Lib.hid hb
  clear ha hb
  by_cases hl : a.length = b.length
  · have hne : ((a.length : Int) != (b.length : Int)) = false := by simp [hl]
    have HL := Lib.hid hl
    have hle1 : a.length ≤ b.length := by omega
    have hle2 : b.length ≤ a.length := by omega
    clear hl
    go_enter Tryz.func19, Tryz.ntmps19
    go_wp2_with fail
    go_loopw [5] (fun i wr => ∃ k : Nat, k ≤ a.length ∧ i = .int .i64 k ∧ sameTo a b k ∧ Below w.heap.size w wr) (fun i _ => a.length - (intOf i).toNat)
    case atStart => exact ⟨0, Nat.zero_le _, rfl, by simp [sameTo], Below.refl _ _⟩
    case round =>
      obtain ⟨k, hk, rfl, hf, hB⟩ := hrel
      by_cases hlt : k < a.length
      · have hlt2 : k < b.length := by omega
        obtain ⟨b1, o1, rfl, c0, c1, c2⟩ := (HA.out.below hB).at hlt
        obtain ⟨b2, o2, rfl, d0, d1, d2⟩ := (HB.out.below hB).at hlt2
        obtain ⟨⟨⟨p, n⟩, s⟩, hx⟩ : ∃ x, a[k] = x := ⟨_, rfl⟩
        obtain ⟨⟨⟨q, m⟩, t⟩, hy⟩ : ∃ x, b[k] = x := ⟨_, rfl⟩
        rw [hx] at c0 c1 c2
        rw [hy] at d0 d1 d2
        dsimp only at c0 c1 c2 d0 d1 d2
        have HX := Lib.hid (And.intro hx hy)
        clear hx hy
        rcases pair_cases p q n m s t with ⟨he, e1, e2, e3⟩ | ⟨he, e1⟩ | ⟨he, e1, e2⟩ | ⟨he, e1, e2, e3⟩
        · have HR := Lib.hid (sameTo_succ hf hlt hlt2 (by rw [HX.out.1, HX.out.2, he]))
          clear he hf
          go_wp2_with fail
          go_region_held3 (fun w' => w'.cell? ⟨b1, o1 + k * 3, none⟩ = some (.string ⟨p.toArray⟩) ∧ w'.cell? ⟨b1, o1 + k * 3 + 1, none⟩ = some (.int .i64 n) ∧ w'.cell? ⟨b1, o1 + k * 3 + 2, none⟩ = some (.string ⟨s.toArray⟩) ∧ w'.cell? ⟨b2, o2 + k * 3, none⟩ = some (.string ⟨q.toArray⟩) ∧ w'.cell? ⟨b2, o2 + k * 3 + 1, none⟩ = some (.int .i64 m) ∧ w'.cell? ⟨b2, o2 + k * 3 + 2, none⟩ = some (.string ⟨t.toArray⟩)) (first | exact ⟨c0, c1, c2, d0, d1, d2⟩) (first | fail)
          all_goals
            go_wp2_with fail
            go_roundw
            case rel => exact ⟨k + 1, by omega, by go_num, HR.out, below2 hB (drew_below _)⟩
            case measure => simp [intOf]; omega
        all_goals
          have HR := Lib.hid (show decide (a = b) = false by
            rw [decide_eq_false_iff_not]
            intro e
            have h : a[k] = b[k] := by subst e; rfl
            rw [HX.out.1, HX.out.2] at h
            exact he h)
          clear he hf
          go_wp2_with fail
          go_region_held3 (fun w' => w'.cell? ⟨b1, o1 + k * 3, none⟩ = some (.string ⟨p.toArray⟩) ∧ w'.cell? ⟨b1, o1 + k * 3 + 1, none⟩ = some (.int .i64 n) ∧ w'.cell? ⟨b1, o1 + k * 3 + 2, none⟩ = some (.string ⟨s.toArray⟩) ∧ w'.cell? ⟨b2, o2 + k * 3, none⟩ = some (.string ⟨q.toArray⟩) ∧ w'.cell? ⟨b2, o2 + k * 3 + 1, none⟩ = some (.int .i64 m) ∧ w'.cell? ⟨b2, o2 + k * 3 + 2, none⟩ = some (.string ⟨t.toArray⟩)) (first | exact ⟨c0, c1, c2, d0, d1, d2⟩) (first | fail)
          all_goals
            go_wp2_with fail
            go_ret
            exact ⟨by rw [HR.out]; rfl, below2 hB (drew_below _)⟩
      · obtain rfl : k = a.length := by omega
        have HR := Lib.hid (sameTo_all HL.out hf)
        clear hf
        go_wp2_with fail
        go_ret
        exact ⟨by rw [HR.out]; rfl, hB⟩
  · have hne : ((a.length : Int) != (b.length : Int)) = true := by rw [bne_iff_ne]; omega
    have HR := Lib.hid (show decide (a = b) = false by
      rw [decide_eq_false_iff_not]
      intro e
      exact hl (by rw [e]))
    clear hl
    go_enter Tryz.func19, Tryz.ntmps19
    go_wp2_with fail
    go_ret
    exact ⟨by rw [HR.out]; rfl, Below.refl _ _⟩

end Go.Proofs.YtaaabmnaindgaaaGreatDoor

/-
  Pairs that came in, opened: one, and a row of them.
-/
namespace Go.Proofs.YtaaabmnaindgaaaGreatDoor
set_option maxRecDepth 100000
open Go.RowKit Go.Joins Go.ChangeShapes Go.WideShapes Go.Deep

theorem pairCells : Tryz.prog.cellsOf 67 = 3 := by kernel_rfl
theorem keyCells2 : Tryz.prog.cellsOf 65 = 2 := by kernel_rfl
end Go.Proofs.YtaaabmnaindgaaaGreatDoor
