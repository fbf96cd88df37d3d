/-
  The texts of one folder in one: SoSpec, SoMath, EntR, SoTook, SoList.
-/
import Derived.Test.YtogicnciheedoaaDoorPks11
import Derived.Test.YtogicnciheedoaaDoorPks08
import Derived.Test.YtogicnciheedoaaDoorPks14
import Derived.Test.YtogicnciheedoaaDoorPkbase

/-
  Stores in plain words: versions of paths, what is laid, what is told of a time. No program is named here.
-/
namespace Go.Proofs.YtogicnciheedoaaDoor
set_option maxRecDepth 100000

/-! ### The last time -/

/-! ### Stores stay stores -/

end Go.Proofs.YtogicnciheedoaaDoor

/-
  Stores in plain words: a version's place, the files under a path, batches one behind the other. No program is named here.
-/
namespace Go.Proofs.YtogicnciheedoaaDoor
set_option maxRecDepth 100000

/-! ### The files under a path -/

/-- What is told of a version: its path, its time, its meta; nothing of one that is gone. -/
abbrev En := List UInt8 × Int × Mt
def told (x : Option Pr) : Option En := match x with
  | none => none
  | some x => if redG x.2 then none else some (x.1.1, x.1.2, redM x.2)
end Go.Proofs.YtogicnciheedoaaDoor

/-
  Rows of entries, read: five cells each, the last one a row of numbers.
-/
namespace Go.Proofs.YtogicnciheedoaaDoor
set_option maxRecDepth 100000
open Go.RowKit

/-- An entry, and the slice of its meta's Chunks. -/
abbrev Ev := En × Value
/-- An entry as a value. -/
abbrev EV (e : En) (v : Value) : Value := .agg #[.string ⟨e.1.toArray⟩, .int .i64 e.2.1, .int .i64 e.2.2.1, .int .i64 e.2.2.2.1, v]
def ecell (x : Ev) : List Value := [.string ⟨x.1.1.toArray⟩, .int .i64 x.1.2.1, .int .i64 x.1.2.2.1, .int .i64 x.1.2.2.2.1, x.2]
def ecells (S : List Ev) : List Value := S.flatMap ecell
/-- The changes alone. -/
abbrev ens (S : List Ev) : List En := S.map Prod.fst
theorem ecells_cons (x : Ev) (r : List Ev) : ecells (x :: r) = .string ⟨x.1.1.toArray⟩ :: .int .i64 x.1.2.1 :: .int .i64 x.1.2.2.1 :: .int .i64 x.1.2.2.2.1 :: x.2 :: ecells r := rfl
theorem ecells_len (S : List Ev) : (ecells S).length = S.length * 5 := by
  induction S with
  | nil => rfl
  | cons x r ih => rw [ecells_cons]; simp only [List.length_cons, ih]; omega
theorem ecells_take (S : List Ev) (n : Nat) : ecells (S.take n) = (ecells S).take (n * 5) := by
  induction S generalizing n with
  | nil => simp [ecells]
  | cons x r ih =>
    cases n with
    | zero => simp [ecells]
    | succ n =>
      rw [List.take_succ_cons, ecells_cons, ecells_cons, ih, show (n + 1) * 5 = n * 5 + 1 + 1 + 1 + 1 + 1 by omega]
      simp
theorem ecells_drop (S : List Ev) (n : Nat) : ecells (S.drop n) = (ecells S).drop (n * 5) := by
  induction S generalizing n with
  | nil => simp [ecells]
  | cons x r ih =>
    cases n with
    | zero => simp
    | succ n =>
      rw [List.drop_succ_cons, ecells_cons, ih, show (n + 1) * 5 = n * 5 + 1 + 1 + 1 + 1 + 1 by omega]
      simp
theorem ecells_at (S : List Ev) (i : Nat) (h : i < S.length) : (ecells S)[i * 5]? = some (.string ⟨S[i].1.1.toArray⟩) ∧ (ecells S)[i * 5 + 1]? = some (.int .i64 S[i].1.2.1) ∧ (ecells S)[i * 5 + 2]? = some (.int .i64 S[i].1.2.2.1) ∧
    (ecells S)[i * 5 + 3]? = some (.int .i64 S[i].1.2.2.2.1) ∧ (ecells S)[i * 5 + 4]? = some S[i].2 := by
  induction S generalizing i with
  | nil => simp at h
  | cons x r ih =>
    cases i with
    | zero => exact ⟨rfl, rfl, rfl, rfl, rfl⟩
    | succ i =>
      have h1 := ih i (by simpa using h)
      rw [ecells_cons, show (i + 1) * 5 = i * 5 + 1 + 1 + 1 + 1 + 1 by omega]
      exact h1

/-- The slice v reads as these changes. -/
def Ents (w : World) (v : Value) (S : List Ev) : Prop := Rw w 5 v S.length (ecells S) ∧ ∀ x ∈ S, Ints w x.2 x.1.2.2.2.2
theorem Ents.below {w w' : World} {v : Value} {S : List Ev} (h : Ents w v S) (hb : Below w.heap.size w w') : Ents w' v S := ⟨Rw.below h.1 hb, fun x hx => (h.2 x hx).below hb⟩
theorem Ents.form {w : World} {v : Value} {S : List Ev} (h : Ents w v S) : ∃ ao cap, v = .slice ao S.length cap := Rw.form h.1
theorem Ents.nil (w : World) : Ents w (.slice none 0 0) [] := ⟨Rw.nil w 5, fun x hx => by cases hx⟩
theorem Ents.at {w : World} {ao : Option Addr} {n cap : Nat} {S : List Ev} (h : Ents w (.slice ao n cap) S) {k : Nat} (hk : k < S.length) :
    ∃ b off, ao = some ⟨b, off, none⟩ ∧ (w.cell? ⟨b, off + k * 5, none⟩ = some (.string ⟨S[k].1.1.toArray⟩) ∧ w.cell? ⟨b, off + k * 5 + 1, none⟩ = some (.int .i64 S[k].1.2.1) ∧ w.cell? ⟨b, off + k * 5 + 2, none⟩ = some (.int .i64 S[k].1.2.2.1) ∧
      w.cell? ⟨b, off + k * 5 + 3, none⟩ = some (.int .i64 S[k].1.2.2.2.1) ∧ w.cell? ⟨b, off + k * 5 + 4, none⟩ = some S[k].2) ∧ Ints w S[k].2 S[k].1.2.2.2.2 := by
  obtain ⟨⟨hl, ao', cap', he, _, hc⟩, hx⟩ := h
  cases he
  rcases hc with h0 | ⟨b, off, rfl, hc⟩
  · omega
  · have h2 := ecells_len S
    obtain ⟨e1, e2, e3, e4, e5⟩ := ecells_at S k hk
    refine ⟨b, off, rfl, ⟨?_, ?_, ?_, ?_, ?_⟩, hx _ (List.getElem_mem hk)⟩
    · rw [hc (k * 5) (by omega), ← e1, List.getElem?_eq_getElem (by omega)]
    · rw [Nat.add_assoc, hc (k * 5 + 1) (by omega), ← e2, List.getElem?_eq_getElem (by omega)]
    · rw [Nat.add_assoc, hc (k * 5 + 2) (by omega), ← e3, List.getElem?_eq_getElem (by omega)]
    · rw [Nat.add_assoc, hc (k * 5 + 3) (by omega), ← e4, List.getElem?_eq_getElem (by omega)]
    · rw [Nat.add_assoc, hc (k * 5 + 4) (by omega), ← e5, List.getElem?_eq_getElem (by omega)]
theorem Ents.len {w : World} {ao : Option Addr} {k cap : Nat} {S : List Ev} (h : Ents w (.slice ao k cap) S) : S.length = k := by
  obtain ⟨⟨_, ao', c, he, _⟩, _⟩ := h
  cases he
  rfl
/-- The first k changes. -/
theorem Ents.take {w : World} {ao : Option Addr} {n cap : Nat} {S : List Ev} (h : Ents w (.slice ao n cap) S) {k : Nat} (hk : k ≤ S.length) : Ents w (.slice ao k cap) (S.take k) := by
  obtain ⟨⟨hl, ao', c, he, hc, h⟩, hx⟩ := h
  cases he
  have e : (S.take k).length = k := by simp; omega
  refine ⟨⟨ecells_len _, ao, cap, by rw [e], by omega, ?_⟩, fun x hm => hx x (List.mem_of_mem_take hm)⟩
  rcases h with h0 | ⟨b, off, rfl, hcs⟩
  · exact .inl (by omega)
  · refine .inr ⟨b, off, rfl, fun j hj => ?_⟩
    rw [ecells_len, e] at hj
    have h2 := ecells_len S
    rw [hcs j (by omega)]
    simp only [ecells_take]
    rw [List.getElem_take]
/-- The changes from the k-th one on. -/
theorem Ents.drop {w : World} {b off n cap : Nat} {S : List Ev} (h : Ents w (.slice (some ⟨b, off, none⟩) n cap) S) {k m cap' : Nat} (hk : k ≤ S.length) (hm : m = S.length - k) (hc' : m ≤ cap') (o : Nat) (ho : o = off + k * 5 ∨ k = S.length) : Ents w (.slice (some ⟨b, o, none⟩) m cap') (S.drop k) := by
  obtain ⟨⟨hl, ao', c, he, hc, h⟩, hx⟩ := h
  cases he
  have e : (S.drop k).length = m := by simp; omega
  refine ⟨⟨ecells_len _, _, cap', by rw [e], by omega, ?_⟩, fun x hm => hx x (List.mem_of_mem_drop hm)⟩
  by_cases h0 : k = S.length
  · exact .inl (by omega)
  · rcases h with h1 | ⟨b', off', he, hcs⟩
    · exact .inl (by omega)
    · cases he
      obtain rfl := ho.resolve_right h0
      refine .inr ⟨b, _, rfl, fun j hj => ?_⟩
      rw [ecells_len, e] at hj
      have h2 := ecells_len S
      rw [Nat.add_assoc, hcs (k * 5 + j) (by omega)]
      simp only [ecells_drop]
      rw [List.getElem_drop]
theorem Ents.of_nil {w : World} {n cap : Nat} {S : List Ev} (h : Ents w (.slice none n cap) S) : S = [] := by
  obtain ⟨⟨_, ao, c, he, _, h0 | ⟨b, off, h, _⟩⟩, _⟩ := h
  · exact List.eq_nil_of_length_eq_zero h0
  · cases he; cases h
theorem Ents.spot {w : World} {a : Addr} {n cap : Nat} {S : List Ev} (h : Ents w (.slice (some a) n cap) S) (h0 : S ≠ []) : ∃ b off, a = ⟨b, off, none⟩ := by
  obtain ⟨⟨_, ao, c, he, _, h1 | ⟨b, off, h, _⟩⟩, _⟩ := h
  · exact absurd (List.eq_nil_of_length_eq_zero h1) h0
  · cases he; cases h; exact ⟨b, off, rfl⟩
end Go.Proofs.YtogicnciheedoaaDoor

/-
  Stores in plain words: batches that were laid one behind the other, the latest one first. No program is named here.
-/
namespace Go.Proofs.YtogicnciheedoaaDoor
set_option maxRecDepth 100000

end Go.Proofs.YtogicnciheedoaaDoor

/-
  Stores in plain words: what List tells stays, and rises. No program is named here.
-/
namespace Go.Proofs.YtogicnciheedoaaDoor
set_option maxRecDepth 100000

/-- Entries whose paths rise. -/
def RiseE (l : List En) : Prop := l.Pairwise fun a b => Op.bytesLess a.1 b.1 = true
end Go.Proofs.YtogicnciheedoaaDoor
