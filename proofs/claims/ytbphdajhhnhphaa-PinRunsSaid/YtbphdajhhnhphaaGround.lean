/-
  What the texts of all stages share: bytes as lists, slices of texts, worlds.
-/
import Derived.Test.YtbphdajhhnhphaaRows
import Derived.WalkKit
import Derived.ProofKit
import Derived.OpenShut
import Derived.ShutString
import Derived.ChangeOld
import Derived.Below
import Derived.SliceStrings
import Derived.Maps.AppendAt
import Derived.Lib.Hide
import Derived.Lib.Strings
import Derived.Laws.IdiomStrings
import Derived.WalkLawsBesides
import Derived.WalkSmall
namespace Go.Proofs.Ytbphdajhhnhphaa
set_option maxRecDepth 100000
open Go.ChangeShapes Go.WideShapes Go.ChangeAt Go.RowKit
open Go.ChangeMaps (open_string shut_string)

theorem own_knob : ownKnob Try.prog.godebug = none := by kernel_rfl
theorem laid_out : laidOutB Try.prog = true := by kernel_rfl
def strLen : Value → Nat
  | .string s => s.size
  | _ => 0
theorem bytes_list (s : ByteArray) : ∃ l : List UInt8, s = ⟨l.toArray⟩ := ⟨s.data.toList, by cases s; simp⟩
theorem size_mk (l : List UInt8) : (ByteArray.mk l.toArray).size = l.length := by simp [ByteArray.size]
theorem app_mk (a b : List UInt8) : ByteArray.mk a.toArray ++ ByteArray.mk b.toArray = ⟨(a ++ b).toArray⟩ := by
  apply ByteArray.ext
  simp
theorem ext_take (s : List UInt8) (n : Nat) : (ByteArray.mk s.toArray).extract 0 n = ⟨(s.take n).toArray⟩ := by
  apply ByteArray.ext
  apply Array.toList_inj.1
  rw [Lib.extract_data]
  simp
theorem ext_drop (s : List UInt8) (n : Nat) : (ByteArray.mk s.toArray).extract n s.length = ⟨(s.drop n).toArray⟩ := by
  apply ByteArray.ext
  apply Array.toList_inj.1
  rw [Lib.extract_data]
  exact List.take_of_length_le (by simp)
theorem at_str (d : List UInt8) (k : Nat) (p : k < (ByteArray.mk d.toArray).size) : (ByteArray.mk d.toArray)[k]'p = d[k]'(by simpa [ByteArray.size] using p) := rfl

/-- A text as a cell. -/
def SV (t : List UInt8) : Value := .string ⟨t.toArray⟩
theorem SV_data (s : ByteArray) : SV s.data.toList = .string s := by cases s; simp [SV]

/-- The slice v reads as these texts. -/
def Strs (w : World) (v : Value) (ls : List (List UInt8)) : Prop :=
  ∃ ao cap, v = .slice ao ls.length cap ∧ (ls = [] ∨ ∃ b off, ao = some ⟨b, off, none⟩ ∧ ∀ i (h : i < ls.length), w.cell? ⟨b, off + i, none⟩ = some (.string ⟨ls[i].toArray⟩))

theorem Strs.below {w w' : World} {v : Value} {ls : List (List UInt8)} (h : Strs w v ls) (hb : Below w.heap.size w w') : Strs w' v ls := by
  obtain ⟨ao, cap, rfl, h | ⟨b, off, rfl, hc⟩⟩ := h
  · exact ⟨ao, cap, rfl, .inl h⟩
  · refine ⟨_, cap, rfl, .inr ⟨b, off, rfl, fun i hi => ?_⟩⟩
    have h1 := hc i hi
    exact (hb.cell (p := ⟨b, off + i, none⟩) (World.block_lt_of_cell? w _ h1)).trans h1
theorem Strs.at {w : World} {ao : Option Addr} {n cap : Nat} {ls : List (List UInt8)} (h : Strs w (.slice ao n cap) ls) {k : Nat} (hk : k < ls.length) : ∃ b off, ao = some ⟨b, off, none⟩ ∧ w.cell? ⟨b, off + k, none⟩ = some (.string ⟨ls[k].toArray⟩) := by
  obtain ⟨ao', cap', he, hc⟩ := h
  cases he
  rcases hc with h0 | ⟨b, off, rfl, hc⟩
  · subst h0; simp at hk
  · exact ⟨b, off, rfl, hc k hk⟩
theorem Strs.form {w : World} {v : Value} {ls : List (List UInt8)} (h : Strs w v ls) : ∃ ao cap, v = .slice ao ls.length cap := by
  obtain ⟨ao, cap, rfl, _⟩ := h
  exact ⟨ao, cap, rfl⟩
theorem strs_cells {w : World} {a : Addr} {n cap : Nat} {ls : List (List UInt8)} (h : Strs w (.slice (some a) n cap) ls) : ∀ j u, (ls.map SV)[j]? = some u → w.cell? (a.add j) = some u := by
  intro j u hu
  obtain ⟨ao, c, he, hc⟩ := h
  cases he
  rcases hc with h0 | ⟨b, off, he, hc⟩
  · subst h0; simp at hu
  · cases he
    have hj : j < ls.length := by
      have := (List.getElem?_eq_some_iff.1 hu).1
      simpa using this
    rw [Go.WideShapes.add_plain, hc j hj]
    simp [List.getElem?_eq_getElem hj, SV] at hu
    rw [← hu]
/-- What a slice of texts that the call owns reads as. -/
theorem strs_own {w : World} {base : Nat} {v : Value} {ts : List (List UInt8)} (h : w.ownsRow base 9 1 v ts.length (ts.map SV)) : Strs w v ts := by
  rcases h.2 with ⟨rfl, hn⟩ | ⟨g, cap, cur, rfl, _⟩
  · have : ts = [] := List.eq_nil_of_length_eq_zero hn
    subst this
    exact ⟨none, 0, rfl, .inl rfl⟩
  · refine ⟨_, cap, rfl, .inr ⟨g, 0, rfl, fun i hi => ?_⟩⟩
    have h1 := h.cells (g := g) rfl i (SV ts[i]) (by simp [List.getElem?_eq_getElem hi])
    rw [Go.WideShapes.add_plain] at h1
    exact h1

theorem below2 {a b c : World} (h1 : Below a.heap.size a b) (h2 : Below b.heap.size b c) : Below a.heap.size a c := h1.trans (h2.mono h1.size)
theorem below3 {a b c d : World} (h1 : Below a.heap.size a b) (h2 : Below b.heap.size b c) (h3 : Below c.heap.size c d) : Below a.heap.size a d := below2 (below2 h1 h2) h3
theorem below_alloc (w : World) (o : Obj) : Below w.heap.size w (w.alloc o) := (Below.refl _ w).alloc (Nat.le_refl _) o
theorem drewn_below (w : World) (q : Nat) : Below w.heap.size w (w.drewN q) := ⟨rfl, rfl, rfl, Nat.le_refl _, fun _ _ => rfl⟩
theorem drew_below (w : World) : Below w.heap.size w w.drew := ⟨rfl, rfl, rfl, Nat.le_refl _, fun _ _ => rfl⟩
theorem info9 : (Try.prog.info? 9).map (fun i => (i.zero, i.size, i.bytes)) = some (some (.string ⟨#[]⟩), 1, 16) := by kernel_rfl

/-- Texts in a slice, with room. -/
def Txts (w : World) (v : Value) (ls : List (List UInt8)) : Prop :=
  ∃ ao cap, v = .slice ao ls.length cap ∧ ls.length ≤ cap ∧ (ls = [] ∨ ∃ b off, ao = some ⟨b, off, none⟩ ∧ ∀ i (h : i < ls.length), w.cell? ⟨b, off + i, none⟩ = some (SV ls[i]))
theorem Txts.strs {w : World} {v : Value} {ls : List (List UInt8)} (h : Txts w v ls) : Strs w v ls := by
  obtain ⟨ao, cap, rfl, _, h⟩ := h
  exact ⟨ao, cap, rfl, h⟩
theorem Txts.below {w w' : World} {v : Value} {ls : List (List UInt8)} (h : Txts w v ls) (hb : Below w.heap.size w w') : Txts w' v ls := by
  obtain ⟨ao, cap, rfl, hc, h | ⟨b, off, rfl, hcs⟩⟩ := h
  · exact ⟨ao, cap, rfl, hc, .inl h⟩
  · refine ⟨_, cap, rfl, hc, .inr ⟨b, off, rfl, fun i hi => ?_⟩⟩
    have h1 := hcs i hi
    exact (hb.cell (p := ⟨b, off + i, none⟩) (World.block_lt_of_cell? w _ h1)).trans h1
theorem Txts.nil (w : World) : Txts w (.slice none 0 0) [] := ⟨none, 0, rfl, Nat.le_refl _, .inl rfl⟩
theorem Txts.take {w : World} {ao : Option Addr} {n cap : Nat} {ls : List (List UInt8)} (h : Txts w (.slice ao n cap) ls) (k : Nat) (hk : k ≤ ls.length) : Txts w (.slice ao k cap) (ls.take k) := by
  obtain ⟨ao', c, he, hc, h⟩ := h
  cases he
  have hl : (ls.take k).length = k := by simp; omega
  refine ⟨ao, cap, by rw [hl], by omega, ?_⟩
  rcases h with h0 | ⟨b', off', he, hcs⟩
  · subst h0; left; simp
  · exact .inr ⟨b', off', he, fun i hi => by rw [hcs i (by omega)]; simp⟩
theorem Txts.new (w : World) (ls : List (List UInt8)) (t : TypeId) : Txts (w.alloc (.cells (ls.map SV).toArray t)) (.slice (some ⟨w.heap.size, 0, none⟩) ls.length ls.length) ls := by
  refine ⟨_, _, rfl, Nat.le_refl _, .inr ⟨w.heap.size, 0, rfl, fun i hi => ?_⟩⟩
  rw [Nat.zero_add, World.cell?_alloc_new]
  simp [List.getElem?_eq_getElem hi]
theorem Txts.own {w : World} {base : Nat} {v : Value} {ts : List (List UInt8)} (h : w.ownsRow base 9 1 v ts.length (ts.map SV)) : Txts w v ts := by
  rcases h.2 with ⟨rfl, hn⟩ | ⟨g, cap, cur, rfl, _, _, hc, _⟩
  · have : ts = [] := List.eq_nil_of_length_eq_zero hn
    subst this
    exact Txts.nil w
  · refine ⟨_, cap, rfl, hc, .inr ⟨g, 0, rfl, fun i hi => ?_⟩⟩
    have h1 := h.cells (g := g) rfl i (SV ts[i]) (by simp [List.getElem?_eq_getElem hi])
    rw [Go.WideShapes.add_plain] at h1
    exact h1
/-- The slice is not empty: it has an address. -/
theorem Txts.some {w : World} {v : Value} {ls : List (List UInt8)} (h : Txts w v ls) (h0 : ls ≠ []) : ∃ b off cap, v = .slice (some ⟨b, off, none⟩) ls.length cap ∧ ls.length ≤ cap ∧ ∀ i (h : i < ls.length), w.cell? ⟨b, off + i, none⟩ = some (SV ls[i]) := by
  obtain ⟨ao, cap, rfl, hc, h⟩ := h
  obtain ⟨b, off, rfl, hcs⟩ := h.resolve_left h0
  exact ⟨b, off, cap, rfl, hc, hcs⟩

theorem grown_trans {a b c : World} {row : Option Nat} (h : a.grownBy b row) (k : b.grownBy c row) : a.grownBy c row :=
  ⟨k.os.trans h.os, k.tape.trans h.tape, k.output.trans h.output, Nat.le_trans h.size k.size, fun i hi hne => (k.block i (Nat.lt_of_lt_of_le hi h.size) hne).trans (h.block i hi hne)⟩

theorem grown_refl (w : World) (row : Option Nat) : w.grownBy w row := ⟨rfl, rfl, rfl, Nat.le_refl _, fun _ _ _ => rfl⟩

theorem below_box {w w2 : World} {o : Obj} (h : (w.alloc o).grownBy w2 (some w.heap.size)) : Below w.heap.size w w2 :=
  ((Below.refl _ w).alloc (Nat.le_refl _) o).grown h (by simp) (fun k e => by cases e; exact Nat.le_refl _)

theorem own_less {w : World} {b b' : Nat} {v : Value} {n : Nat} {xs : List Value} (h : w.ownsRow b' 9 1 v n xs) (hb : b ≤ b') : w.ownsRow b 9 1 v n xs := by
  refine ⟨h.1, ?_⟩
  rcases h.2 with hn | ⟨g, cap, cur, rfl, hbg, rest⟩
  · exact .inl hn
  · exact .inr ⟨g, cap, cur, rfl, Nat.le_trans hb hbg, rest⟩

theorem below_grown {w w' : World} (h : Below w.heap.size w w') : w.grownBy w' none := ⟨h.os, h.tape, h.output, h.size, fun k hk _ => h.block k hk⟩

theorem own_below {w w' : World} {base : Nat} {v : Value} {n : Nat} {xs : List Value} (h : w.ownsRow base 9 1 v n xs) (hb : Below w.heap.size w w') : w'.ownsRow base 9 1 v n xs :=
  h.kept (below_grown hb) (by cases hv : v.ownBlock <;> simp)

end Go.Proofs.Ytbphdajhhnhphaa
