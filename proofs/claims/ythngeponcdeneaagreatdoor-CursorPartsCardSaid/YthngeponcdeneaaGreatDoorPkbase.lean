/-
  The texts of one folder in one: Ground, Cell, Rw, NilApp, Base.
-/
import Derived.Test.YthngeponcdeneaaGreatDoorRows
import Derived.WalkKit
import Derived.ProofKit
import Derived.OpenShut
import Derived.ShutString
import Derived.ChangeOld
import Derived.Below
import Derived.SliceStrings
import Derived.Maps.AppendAt
import Derived.Lib.Hide
import Derived.Lib.Strings
import Derived.Laws.IdiomStrings
import Derived.WalkLawsBesides
import Derived.WalkSmall
import Derived.Laws.OwnMore
import Derived.Deep.RegionLaw

/-
  What the texts of all stages share: bytes as lists, slices of texts, worlds.
-/
namespace Go.Proofs.YthngeponcdeneaaGreatDoor
open Go.ChangeShapes Go.WideShapes Go.ChangeAt Go.RowKit
open Go.ChangeMaps (open_string shut_string)

theorem own_knob : ownKnob Tryz.prog.godebug = none := by kernel_rfl
theorem laid_out : laidOutB Tryz.prog = true := by kernel_rfl
theorem bytes_list (s : ByteArray) : ∃ l : List UInt8, s = ⟨l.toArray⟩ := ⟨s.data.toList, by cases s; simp⟩
theorem size_mk (l : List UInt8) : (ByteArray.mk l.toArray).size = l.length := by simp [ByteArray.size]
theorem app_mk (a b : List UInt8) : ByteArray.mk a.toArray ++ ByteArray.mk b.toArray = ⟨(a ++ b).toArray⟩ := by
  apply ByteArray.ext
  simp
theorem ext_take (s : List UInt8) (n : Nat) : (ByteArray.mk s.toArray).extract 0 n = ⟨(s.take n).toArray⟩ := by
  apply ByteArray.ext
  apply Array.toList_inj.1
  rw [Lib.extract_data]
  simp
theorem ext_drop (s : List UInt8) (n : Nat) : (ByteArray.mk s.toArray).extract n s.length = ⟨(s.drop n).toArray⟩ := by
  apply ByteArray.ext
  apply Array.toList_inj.1
  rw [Lib.extract_data]
  exact List.take_of_length_le (by simp)
theorem at_str (d : List UInt8) (k : Nat) (p : k < (ByteArray.mk d.toArray).size) : (ByteArray.mk d.toArray)[k]'p = d[k]'(by simpa [ByteArray.size] using p) := rfl

/-- A text as a cell. -/
def SV (t : List UInt8) : Value := .string ⟨t.toArray⟩
theorem SV_data (s : ByteArray) : SV s.data.toList = .string s := by cases s; simp [SV]

/-- The slice v reads as these texts. -/
def Strs (w : World) (v : Value) (ls : List (List UInt8)) : Prop :=
  ∃ ao cap, v = .slice ao ls.length cap ∧ (ls = [] ∨ ∃ b off, ao = some ⟨b, off, none⟩ ∧ ∀ i (h : i < ls.length), w.cell? ⟨b, off + i, none⟩ = some (.string ⟨ls[i].toArray⟩))

theorem Strs.below {w w' : World} {v : Value} {ls : List (List UInt8)} (h : Strs w v ls) (hb : Below w.heap.size w w') : Strs w' v ls := by
  obtain ⟨ao, cap, rfl, h | ⟨b, off, rfl, hc⟩⟩ := h
  · exact ⟨ao, cap, rfl, .inl h⟩
  · refine ⟨_, cap, rfl, .inr ⟨b, off, rfl, fun i hi => ?_⟩⟩
    have h1 := hc i hi
    exact (hb.cell (p := ⟨b, off + i, none⟩) (World.block_lt_of_cell? w _ h1)).trans h1
theorem Strs.at {w : World} {ao : Option Addr} {n cap : Nat} {ls : List (List UInt8)} (h : Strs w (.slice ao n cap) ls) {k : Nat} (hk : k < ls.length) : ∃ b off, ao = some ⟨b, off, none⟩ ∧ w.cell? ⟨b, off + k, none⟩ = some (.string ⟨ls[k].toArray⟩) := by
  obtain ⟨ao', cap', he, hc⟩ := h
  cases he
  rcases hc with h0 | ⟨b, off, rfl, hc⟩
  · subst h0; simp at hk
  · exact ⟨b, off, rfl, hc k hk⟩
theorem Strs.form {w : World} {v : Value} {ls : List (List UInt8)} (h : Strs w v ls) : ∃ ao cap, v = .slice ao ls.length cap := by
  obtain ⟨ao, cap, rfl, _⟩ := h
  exact ⟨ao, cap, rfl⟩
theorem strs_cells {w : World} {a : Addr} {n cap : Nat} {ls : List (List UInt8)} (h : Strs w (.slice (some a) n cap) ls) : ∀ j u, (ls.map SV)[j]? = some u → w.cell? (a.add j) = some u := by
  intro j u hu
  obtain ⟨ao, c, he, hc⟩ := h
  cases he
  rcases hc with h0 | ⟨b, off, he, hc⟩
  · subst h0; simp at hu
  · cases he
    have hj : j < ls.length := by
      have := (List.getElem?_eq_some_iff.1 hu).1
      simpa using this
    rw [Go.WideShapes.add_plain, hc j hj]
    simp [List.getElem?_eq_getElem hj, SV] at hu
    rw [← hu]
/-- What a slice of texts that the call owns reads as. -/
theorem strs_own {w : World} {base : Nat} {v : Value} {ts : List (List UInt8)} (h : w.ownsRow base 9 1 v ts.length (ts.map SV)) : Strs w v ts := by
  rcases h.2 with ⟨rfl, hn⟩ | ⟨g, cap, cur, rfl, _⟩
  · have : ts = [] := List.eq_nil_of_length_eq_zero hn
    subst this
    exact ⟨none, 0, rfl, .inl rfl⟩
  · refine ⟨_, cap, rfl, .inr ⟨g, 0, rfl, fun i hi => ?_⟩⟩
    have h1 := h.cells (g := g) rfl i (SV ts[i]) (by simp [List.getElem?_eq_getElem hi])
    rw [Go.WideShapes.add_plain] at h1
    exact h1

theorem below2 {a b c : World} (h1 : Below a.heap.size a b) (h2 : Below b.heap.size b c) : Below a.heap.size a c := h1.trans (h2.mono h1.size)
theorem below3 {a b c d : World} (h1 : Below a.heap.size a b) (h2 : Below b.heap.size b c) (h3 : Below c.heap.size c d) : Below a.heap.size a d := below2 (below2 h1 h2) h3
theorem below_alloc (w : World) (o : Obj) : Below w.heap.size w (w.alloc o) := (Below.refl _ w).alloc (Nat.le_refl _) o
theorem drewn_below (w : World) (q : Nat) : Below w.heap.size w (w.drewN q) := ⟨rfl, rfl, rfl, Nat.le_refl _, fun _ _ => rfl⟩
theorem drew_below (w : World) : Below w.heap.size w w.drew := ⟨rfl, rfl, rfl, Nat.le_refl _, fun _ _ => rfl⟩
theorem info9 : (Tryz.prog.info? 9).map (fun i => (i.zero, i.size, i.bytes)) = some (some (.string ⟨#[]⟩), 1, 16) := by kernel_rfl

/-- Texts in a slice, with room. -/
def Txts (w : World) (v : Value) (ls : List (List UInt8)) : Prop :=
  ∃ ao cap, v = .slice ao ls.length cap ∧ ls.length ≤ cap ∧ (ls = [] ∨ ∃ b off, ao = some ⟨b, off, none⟩ ∧ ∀ i (h : i < ls.length), w.cell? ⟨b, off + i, none⟩ = some (SV ls[i]))
theorem Txts.strs {w : World} {v : Value} {ls : List (List UInt8)} (h : Txts w v ls) : Strs w v ls := by
  obtain ⟨ao, cap, rfl, _, h⟩ := h
  exact ⟨ao, cap, rfl, h⟩
theorem Txts.below {w w' : World} {v : Value} {ls : List (List UInt8)} (h : Txts w v ls) (hb : Below w.heap.size w w') : Txts w' v ls := by
  obtain ⟨ao, cap, rfl, hc, h | ⟨b, off, rfl, hcs⟩⟩ := h
  · exact ⟨ao, cap, rfl, hc, .inl h⟩
  · refine ⟨_, cap, rfl, hc, .inr ⟨b, off, rfl, fun i hi => ?_⟩⟩
    have h1 := hcs i hi
    exact (hb.cell (p := ⟨b, off + i, none⟩) (World.block_lt_of_cell? w _ h1)).trans h1
theorem Txts.nil (w : World) : Txts w (.slice none 0 0) [] := ⟨none, 0, rfl, Nat.le_refl _, .inl rfl⟩
theorem Txts.take {w : World} {ao : Option Addr} {n cap : Nat} {ls : List (List UInt8)} (h : Txts w (.slice ao n cap) ls) (k : Nat) (hk : k ≤ ls.length) : Txts w (.slice ao k cap) (ls.take k) := by
  obtain ⟨ao', c, he, hc, h⟩ := h
  cases he
  have hl : (ls.take k).length = k := by simp; omega
  refine ⟨ao, cap, by rw [hl], by omega, ?_⟩
  rcases h with h0 | ⟨b', off', he, hcs⟩
  · subst h0; left; simp
  · exact .inr ⟨b', off', he, fun i hi => by rw [hcs i (by omega)]; simp⟩
theorem Txts.new (w : World) (ls : List (List UInt8)) (t : TypeId) : Txts (w.alloc (.cells (ls.map SV).toArray t)) (.slice (some ⟨w.heap.size, 0, none⟩) ls.length ls.length) ls := by
  refine ⟨_, _, rfl, Nat.le_refl _, .inr ⟨w.heap.size, 0, rfl, fun i hi => ?_⟩⟩
  rw [Nat.zero_add, World.cell?_alloc_new]
  simp [List.getElem?_eq_getElem hi]
theorem Txts.own {w : World} {base : Nat} {v : Value} {ts : List (List UInt8)} (h : w.ownsRow base 9 1 v ts.length (ts.map SV)) : Txts w v ts := by
  rcases h.2 with ⟨rfl, hn⟩ | ⟨g, cap, cur, rfl, _, _, hc, _⟩
  · have : ts = [] := List.eq_nil_of_length_eq_zero hn
    subst this
    exact Txts.nil w
  · refine ⟨_, cap, rfl, hc, .inr ⟨g, 0, rfl, fun i hi => ?_⟩⟩
    have h1 := h.cells (g := g) rfl i (SV ts[i]) (by simp [List.getElem?_eq_getElem hi])
    rw [Go.WideShapes.add_plain] at h1
    exact h1
/-- The slice is not empty: it has an address. -/
theorem Txts.some {w : World} {v : Value} {ls : List (List UInt8)} (h : Txts w v ls) (h0 : ls ≠ []) : ∃ b off cap, v = .slice (some ⟨b, off, none⟩) ls.length cap ∧ ls.length ≤ cap ∧ ∀ i (h : i < ls.length), w.cell? ⟨b, off + i, none⟩ = some (SV ls[i]) := by
  obtain ⟨ao, cap, rfl, hc, h⟩ := h
  obtain ⟨b, off, rfl, hcs⟩ := h.resolve_left h0
  exact ⟨b, off, cap, rfl, hc, hcs⟩

theorem grown_trans {a b c : World} {row : Option Nat} (h : a.grownBy b row) (k : b.grownBy c row) : a.grownBy c row :=
  ⟨k.os.trans h.os, k.tape.trans h.tape, k.output.trans h.output, Nat.le_trans h.size k.size, fun i hi hne => (k.block i (Nat.lt_of_lt_of_le hi h.size) hne).trans (h.block i hi hne)⟩

theorem grown_refl (w : World) (row : Option Nat) : w.grownBy w row := ⟨rfl, rfl, rfl, Nat.le_refl _, fun _ _ _ => rfl⟩

theorem below_box {w w2 : World} {o : Obj} (h : (w.alloc o).grownBy w2 (some w.heap.size)) : Below w.heap.size w w2 :=
  ((Below.refl _ w).alloc (Nat.le_refl _) o).grown h (by simp) (fun k e => by cases e; exact Nat.le_refl _)

theorem own_less {w : World} {b b' : Nat} {v : Value} {n : Nat} {xs : List Value} (h : w.ownsRow b' 9 1 v n xs) (hb : b ≤ b') : w.ownsRow b 9 1 v n xs := by
  refine ⟨h.1, ?_⟩
  rcases h.2 with hn | ⟨g, cap, cur, rfl, hbg, rest⟩
  · exact .inl hn
  · exact .inr ⟨g, cap, cur, rfl, Nat.le_trans hb hbg, rest⟩

theorem below_grown {w w' : World} (h : Below w.heap.size w w') : w.grownBy w' none := ⟨h.os, h.tape, h.output, h.size, fun k hk _ => h.block k hk⟩

theorem own_below {w w' : World} {base : Nat} {v : Value} {n : Nat} {xs : List Value} (h : w.ownsRow base 9 1 v n xs) (hb : Below w.heap.size w w') : w'.ownsRow base 9 1 v n xs :=
  h.kept (below_grown hb) (by cases hv : v.ownBlock <;> simp)

end Go.Proofs.YthngeponcdeneaaGreatDoor

/-
  Blocks of several cells: what is loaded of them; what stays below; the bounds of an int. No function is named here.
-/
namespace Go.Proofs.YthngeponcdeneaaGreatDoor
open Go.RowKit

theorem below_alloc2 (w : World) (o1 o2 : Obj) : Below w.heap.size w ((w.alloc o1).alloc o2) := (below_alloc w o1).alloc (by simp) o2
theorem below_alloc3 (w : World) (o1 o2 o3 : Obj) : Below w.heap.size w (((w.alloc o1).alloc o2).alloc o3) := (below_alloc2 w o1 o2).alloc (by simp; omega) o3
/-- What there was reads as it did, cell by cell. -/
theorem bcell {W w1 : World} (hb : Below W.heap.size W w1) : (∀ b o, b < W.heap.size → w1.cell? ⟨b, o, none⟩ = W.cell? ⟨b, o, none⟩) ∧ (∀ b o, b < W.heap.size → w1.frozen? ⟨b, o, none⟩ = W.frozen? ⟨b, o, none⟩) :=
  ⟨fun b o h => hb.cell (p := ⟨b, o, none⟩) h, fun b o h => hb.frozen (p := ⟨b, o, none⟩) h⟩
/-- One cell that there was reads as it did. -/
theorem look_below {W w1 : World} {b o : Nat} {v : Value} (hb : Below W.heap.size W w1) (h : W.cell? ⟨b, o, none⟩ = some v) : w1.cell? ⟨b, o, none⟩ = some v :=
  (hb.cell (p := ⟨b, o, none⟩) (World.block_lt_of_cell? W _ h)).trans h
/-- Two cells, as one value. -/
theorem load_two {ty : TypeId} {fs : Array Field} (hu : Tryz.prog.underlying ty = some (.struct fs)) (hi : (Tryz.prog.info? ty).map (·.size) = some 2) (w : World) (g o : Nat) (v0 v1 : Value)
    (c0 : w.cell? ⟨g, o, none⟩ = some v0) (c1 : w.cell? ⟨g, o + 1, none⟩ = some v1) : (loadVar ty ⟨g, o, none⟩).run Tryz.prog w = .ok (.agg #[v0, v1]) w := by
  have hagg : (isAgg ty).run Tryz.prog w = .ok true w := by simp [isAgg, run_underlying hu]
  cases hq : Tryz.prog.info? ty with
  | none => simp [hq] at hi
  | some i =>
    have hs : i.size = 2 := by simpa [hq] using hi
    have hl : (loadCells ⟨g, o, none⟩ 2).run Tryz.prog w = .ok #[v0, v1] w := run_loadCells_list (P := Tryz.prog) (w := w) (a := ⟨g, o, none⟩) (cs := [v0, v1]) (fun j u hu => by
      rw [Go.WideShapes.add_plain]
      match j, hu with
      | 0, hu => simp at hu; subst hu; exact c0
      | 1, hu => simp at hu; subst hu; exact c1)
    simp [loadVar, hagg, sizeOf, typeInfo, hq, hs, hl]
theorem own_weak {w : World} {b b' k : Nat} {e : TypeId} {v : Value} {n : Nat} {xs : List Value} (h : w.ownsRow b' e k v n xs) (hb : b ≤ b') : w.ownsRow b e k v n xs := by
  refine ⟨h.1, ?_⟩
  rcases h.2 with hn | ⟨g, cap, cur, rfl, hbg, rest⟩
  · exact .inl hn
  · exact .inr ⟨g, cap, cur, rfl, Nat.le_trans hb hbg, rest⟩
theorem own_stays {w w' : World} {base k : Nat} {e : TypeId} {v : Value} {n : Nat} {xs : List Value} (h : w.ownsRow base e k v n xs) (hb : Below w.heap.size w w') : w'.ownsRow base e k v n xs :=
  h.kept (below_grown hb) (by cases hv : v.ownBlock <;> simp)
/-- A whole row is owned. -/
theorem own_whole {w : World} {base g k n : Nat} {e : TypeId} {cs : List Value} (hg : w.heap[g]? = some (.cells cs.toArray e (0, 0))) (hb : base ≤ g) (hl : cs.length = n * k) (hm : n ≤ 1000000) : w.ownsRow base e k (.slice (some ⟨g, 0, none⟩) n n) n cs :=
  ⟨hl, .inr ⟨g, n, cs.toArray, rfl, hb, hg, Nat.le_refl _, by unfold maxLen; omega, by simpa using hl, by simp [← hl]⟩⟩

theorem news_row (w : World) (o : Obj) (y z : Value) (t : TypeId) : ∀ j u, [y, z][j]? = some u → ((w.alloc o).alloc (.cells #[y, z] t)).cell? ((⟨w.heap.size + 1, 0, none⟩ : Addr).add j) = some u := by
  intro j u hu
  have hg := heap_alloc_new (w.alloc o) (.cells #[y, z] t)
  rw [World.size_alloc] at hg
  rw [Go.WideShapes.add_plain, cell_of_row _ _ _ _ _ _ hg]
  simpa using hu

/-- As many cells as a value has, read as one. -/
theorem load_many {ty : TypeId} {w : World} {g o : Nat} {cs : List Value} (ha : (isAgg ty).run Tryz.prog w = .ok true w) (hi : (Tryz.prog.info? ty).map (·.size) = some cs.length)
    (hc : ∀ j u, cs[j]? = some u → w.cell? ⟨g, o + j, none⟩ = some u) : (loadVar ty ⟨g, o, none⟩).run Tryz.prog w = .ok (.agg cs.toArray) w := by
  cases hq : Tryz.prog.info? ty with
  | none => simp [hq] at hi
  | some i =>
    have hs : i.size = cs.length := by simpa [hq] using hi
    have hl : (loadCells ⟨g, o, none⟩ cs.length).run Tryz.prog w = .ok cs.toArray w := run_loadCells_list (P := Tryz.prog) (w := w) (a := ⟨g, o, none⟩) (cs := cs) (fun j u hu => by
      rw [Go.WideShapes.add_plain]
      exact hc j u hu)
    simp [loadVar, ha, sizeOf, typeInfo, hq, hs, hl]
/-- A block of a call's own, with these cells. -/
def Cx (w : World) (b : Nat) (t : TypeId) (cs : List Value) : Prop := w.heap[b]? = some (.cells cs.toArray t (0, 0))
theorem Cx.lt {w : World} {b : Nat} {t : TypeId} {cs : List Value} (h : Cx w b t cs) : b < w.heap.size := (Array.getElem?_eq_some_iff.1 h).1
theorem Cx.cell {w : World} {b : Nat} {t : TypeId} {cs : List Value} (h : Cx w b t cs) {j : Nat} {v : Value} (hj : cs[j]? = some v) : w.cell? ⟨b, j, none⟩ = some v := by
  rw [cell_of_row w b j _ _ _ h]
  simpa using hj
theorem Cx.frozen {w : World} {b : Nat} {t : TypeId} {cs : List Value} (h : Cx w b t cs) (j : Nat) : w.frozen? ⟨b, j, none⟩ = false := by
  unfold Cx at h
  simp [World.frozen?, h]
theorem Cx.below {w w' : World} {b : Nat} {t : TypeId} {cs : List Value} (h : Cx w b t cs) (hb : Below w.heap.size w w') : Cx w' b t cs := by
  unfold Cx
  rw [hb.block _ h.lt]
  exact h
theorem Cx.new (w : World) (t : TypeId) (cs : List Value) : Cx (w.alloc (.cells cs.toArray t)) w.heap.size t cs := heap_alloc_new w _
theorem Cx.set {w : World} {b : Nat} {t : TypeId} {cs : List Value} (h : Cx w b t cs) (j : Nat) (v : Value) : Cx (w.setCell ⟨b, j, none⟩ v) b t (cs.set j v) := by
  have h1 := heap_setCell_same w b j _ _ v h
  unfold Cx
  rw [h1]
  simp
theorem Cx.other {w : World} {b b' j : Nat} {t : TypeId} {cs : List Value} (h : Cx w b t cs) (hne : b ≠ b') (v : Value) : Cx (w.setCell ⟨b', j, none⟩ v) b t cs := by
  unfold Cx
  rw [heap_setCell_other _ ⟨b', j, none⟩ b v hne]
  exact h
theorem Cx.three {w : World} {b : Nat} {t : TypeId} {v0 v1 v2 : Value} (h : Cx w b t [v0, v1, v2]) : w.cell? ⟨b, 0, none⟩ = some v0 ∧ w.cell? ⟨b, 1, none⟩ = some v1 ∧ w.cell? ⟨b, 2, none⟩ = some v2 ∧
    w.frozen? ⟨b, 0, none⟩ = false ∧ w.frozen? ⟨b, 1, none⟩ = false ∧ w.frozen? ⟨b, 2, none⟩ = false ∧ b < w.heap.size :=
  ⟨h.cell rfl, h.cell rfl, h.cell rfl, h.frozen _, h.frozen _, h.frozen _, h.lt⟩
/-- Cells of a box of one's own, which reads as these. -/
theorem cells_box {w : World} {g : Nat} {t : TypeId} {cs : List Value} (h : w.heap[g]? = some (.cells cs.toArray t (0, 0))) : ∀ j u, cs[j]? = some u → w.cell? ⟨g, 0 + j, none⟩ = some u := by
  intro j u hu
  rw [Nat.zero_add, cell_of_row w g j _ _ _ h]
  simpa using hu
theorem i64_bounds {a : Int} (h : (Lit.int .i64 a).wf = true) : -9223372036854775808 ≤ a ∧ a ≤ 9223372036854775807 := by
  simp only [Lit.wf, IntKind.min, IntKind.max, IntKind.signed, IntKind.bits, Bool.and_eq_true] at h
  simpa using h

theorem or_step (a b : Nat) (ha : a ≤ 4294967295) (hb : b < 256) : bits .or .i64 ((a : Int) * 256) (wrap64 (b : Int)) = ((a * 256 + b : Nat) : Int) := by
  have hw : wrap64 (b : Int) = (b : Int) := IntWalk.wrap64_in _ ⟨by omega, by omega⟩
  have e : ((a : Int) * 256) = ((a * 256 : Nat) : Int) := by simp
  have hor : a * 256 ||| b = a * 256 + b := by
    have := Nat.two_pow_add_eq_or_of_lt (i := 8) (b := b) (by omega) a
    rw [Nat.mul_comm] at this
    exact this.symm
  rw [hw, e]
  show IntKind.i64.wrap ((BitVec.ofInt 64 ((a * 256 : Nat) : Int) ||| BitVec.ofInt 64 (b : Int)).toNat : Int) = _
  have h1 : (BitVec.ofInt 64 ((a * 256 : Nat) : Int)).toNat = a * 256 := by
    rw [BitVec.ofInt_natCast, BitVec.toNat_ofNat]; exact Nat.mod_eq_of_lt (by omega)
  have h2 : (BitVec.ofInt 64 (b : Int)).toNat = b := by
    rw [BitVec.ofInt_natCast, BitVec.toNat_ofNat]; exact Nat.mod_eq_of_lt (by omega)
  rw [BitVec.toNat_or, h1, h2, hor]
  exact IntWalk.i64_in _ (by omega)

theorem at_mk (d : List UInt8) (k : Nat) (_h : k < d.length) (p : k < (ByteArray.mk d.toArray).size) : (ByteArray.mk d.toArray)[k]'p = d[k] := by
  show d.toArray[k]'_ = _
  simp

end Go.Proofs.YthngeponcdeneaaGreatDoor

/-
  Rows of elements of several cells; appends of whatever row. No function is named here.
-/
namespace Go.Proofs.YthngeponcdeneaaGreatDoor
open Go.RowKit

/-- A row of n elements of k cells each reads as these cells. -/
def Rw (w : World) (k : Nat) (v : Value) (n : Nat) (cs : List Value) : Prop :=
  cs.length = n * k ∧ ∃ ao cap, v = .slice ao n cap ∧ n ≤ cap ∧ (n = 0 ∨ ∃ b off, ao = some ⟨b, off, none⟩ ∧ ∀ j (h : j < cs.length), w.cell? ⟨b, off + j, none⟩ = some cs[j])

theorem Rw.below {w w' : World} {k n : Nat} {v : Value} {cs : List Value} (h : Rw w k v n cs) (hb : Below w.heap.size w w') : Rw w' k v n cs := by
  obtain ⟨hl, ao, cap, rfl, hc, h | ⟨b, off, rfl, hcs⟩⟩ := h
  · exact ⟨hl, ao, cap, rfl, hc, .inl h⟩
  · refine ⟨hl, _, cap, rfl, hc, .inr ⟨b, off, rfl, fun j hj => ?_⟩⟩
    have h1 := hcs j hj
    exact (hb.cell (p := ⟨b, off + j, none⟩) (World.block_lt_of_cell? w _ h1)).trans h1
theorem Rw.nil (w : World) (k : Nat) : Rw w k (.slice none 0 0) 0 [] := ⟨by simp, none, 0, rfl, Nat.le_refl _, .inl rfl⟩
theorem Rw.form {w : World} {k n : Nat} {v : Value} {cs : List Value} (h : Rw w k v n cs) : ∃ ao cap, v = .slice ao n cap := by
  obtain ⟨_, ao, cap, rfl, _⟩ := h
  exact ⟨ao, cap, rfl⟩
theorem Rw.own {w : World} {base k n : Nat} {e : TypeId} {v : Value} {cs : List Value} (h : w.ownsRow base e k v n cs) : Rw w k v n cs := by
  rcases h.2 with ⟨rfl, rfl⟩ | ⟨g, cap, cur, rfl, _, _, hc, _⟩
  · exact ⟨h.1, none, 0, rfl, Nat.le_refl _, .inl rfl⟩
  · refine ⟨h.1, _, cap, rfl, hc, .inr ⟨g, 0, rfl, fun j hj => ?_⟩⟩
    have h1 := h.cells (g := g) rfl j cs[j] (by simp [List.getElem?_eq_getElem hj])
    rw [Go.WideShapes.add_plain] at h1
    exact h1
theorem Rw.txts {w : World} {v : Value} {ls : List (List UInt8)} (h : Txts w v ls) : Rw w 1 v ls.length (ls.map SV) := by
  obtain ⟨ao, cap, rfl, hc, h⟩ := h
  refine ⟨by simp, ao, cap, rfl, hc, ?_⟩
  rcases h with h | ⟨b, off, rfl, hcs⟩
  · exact .inl (by simp [h])
  · exact .inr ⟨b, off, rfl, fun j hj => by rw [hcs j (by simpa using hj)]; simp⟩
theorem texts_one (ls : List (List UInt8)) : ∀ u ∈ ls.map SV, u.oneCell' = true := by
  intro u hu
  obtain ⟨t, _, rfl⟩ := List.mem_map.1 hu
  rfl
theorem rw_news {w : World} {k n cap : Nat} {a : Addr} {cs : List Value} (h : Rw w k (.slice (some a) n cap) n cs) : ∀ j u, cs[j]? = some u → w.cell? (a.add j) = some u := by
  intro j u hj
  obtain ⟨hj1, hju⟩ := List.getElem?_eq_some_iff.1 hj
  obtain ⟨hl, ao, c, he, _, h0 | ⟨b, off, rfl, hc⟩⟩ := h
  · subst h0; omega
  · cases he
    rw [Go.WideShapes.add_plain, hc j hj1, hju]

theorem rowN_news {w : World} {k n cap : Nat} {a : Addr} {cs : List Value} (h : Rw w k (.slice (some a) n cap) n cs) : ∀ j u, cs[j]? = some u → w.cell? (a.add j) = some u := by
  intro j u hj
  obtain ⟨hj1, hju⟩ := List.getElem?_eq_some_iff.1 hj
  obtain ⟨hl, ao, c, he, _, h0 | ⟨b, off, rfl, hc⟩⟩ := h
  · subst h0; omega
  · cases he
    rw [Go.WideShapes.add_plain, hc j hj1, hju]
theorem own_form {w : World} {base k n : Nat} {e : TypeId} {v : Value} {xs : List Value} (h : w.ownsRow base e k v n xs) : ∃ ao n cap, v = .slice ao n cap := by
  obtain ⟨ao, cap, rfl⟩ := (Rw.own h).form
  exact ⟨ao, _, cap, rfl⟩
theorem below_of_grown {w w' : World} (h : w.grownBy w' none) : Below w.heap.size w w' := ⟨h.os, h.tape, h.output, h.size, fun k hk => h.block k hk (by simp)⟩


end Go.Proofs.YthngeponcdeneaaGreatDoor

/-
  An append to nil of whatever row, as one step of a region that draws.
-/
namespace Go.Proofs.YthngeponcdeneaaGreatDoor
open Go.RowKit

/-- An append of a nil slice to nil. -/
theorem run_append_nils (w : World) (t ty e : TypeId) (i : TypeInfo) (ht : Tryz.prog.underlying t = some (.slice e)) (hi : Tryz.prog.info? e = some i) (c : Nat) :
    (Builtin.append_ #[t, t] ty #[.slice none 0 0, .slice none 0 c]).run Tryz.prog w = .ok (.slice none 0 0) w := by
  simp [Builtin.append_, run_underlying ht, sizeOf, typeInfo, hi, Builtin.lenOf, Builtin.firstCells]
/-- An append to nil, as one step of a region that draws: of whatever row. -/
theorem step_append_nil {w : World} {ops : Array Oper} {o : Oper} {a : Act} {K : Act → World → Prop} {Q : Exit → Act → World → Prop} {E : Prop} (hgd : o.guard = none) (s x : Operand) (t : TypeId)
    (ho : o.op = .call { callee := .builtin .append, args := #[s, x], argTypes := #[t, t] })
    (base : Nat) (e : TypeId) (i : TypeInfo) (z : Value) (size bytes : Nat) (ht : Tryz.prog.underlying t = some (.slice e)) (hi : Tryz.prog.info? e = some i) (hz : i.zero = some z)
    (hsize : i.size = size) (hby : i.bytes = bytes) (hzs : z.cells.size = size) (hsz : 0 < size)
    (hs : a.eval s = .slice none 0 0) (ao : Option Addr) (m c : Nat) (news : List Value) (hx : a.eval x = .slice ao m c) (hR : Rw w size (.slice ao m c) m news) (h1 : ∀ u ∈ news, u.oneCell' = true)
    (hm : m ≤ 1000) (hbytes : bytes ≤ 1000) (hbase : base ≤ w.heap.size)
    (h : ∀ ao' cap' w', w'.ownsRow base e size (.slice ao' m cap') m news → Below w.heap.size w w' → K (a.put o.dst (.slice ao' m cap')) w') :
    if Region.wanted o (yielded ops a.tmps) = true then Oper.wp Tryz.prog o a w K Q else E := by
  have hw : Region.wanted o (yielded ops a.tmps) = true := by simp [Region.wanted, hgd]
  rw [if_pos hw]
  cases ao with
  | none =>
    have hm0 : m = 0 := by
      obtain ⟨_, ao, c', he, _, h0 | ⟨b, off, h, _⟩⟩ := hR
      · exact h0
      · cases he; cases h
    subst hm0
    obtain rfl : news = [] := List.eq_nil_of_length_eq_zero (by rw [hR.1]; omega)
    have hrun := run_append_nils w t o.type e i ht hi c
    unfold Oper.wp
    simp [execOp, ho, resolve, invoke, builtin, hs, hx, hrun, Result.andThen]
    exact h none 0 w (World.ownsRow_nil _ _ _ _) (Below.refl _ _)
  | some ad =>
    have hb : (0 + m) * bytes ≤ 140737488355328 := by
      have : m * bytes ≤ 1000 * 1000 := Nat.mul_le_mul hm hbytes
      rw [Nat.zero_add]
      omega
    obtain ⟨v', w', hr, h2, h3, _, _⟩ := run_append_own_at (P := Tryz.prog) w base t o.type e i z size bytes ht hi hz hsize hby hzs hsz (.slice none 0 0) 0 [] (World.ownsRow_nil _ _ _ _) ad m c news hR.1 (rowN_news hR) h1 (by unfold maxLen; omega) hb hbase
    rw [Nat.zero_add, List.nil_append] at h2
    obtain ⟨ao', cap', rfl⟩ := (Rw.own h2).form
    unfold Oper.wp
    simp only [execOp, ho, resolve, invoke, builtin, Sem.run_bind, Sem.run_pure, Result.andThen_ok, List.map_toArray, List.map_cons, List.map_nil, hs, hx, hr]
    exact h ao' cap' w' h2 ⟨h3.os, h3.tape, h3.output, h3.size, fun k hk => h3.block k hk (by simp [Value.ownBlock])⟩
/-- An append to nil, of whatever row. -/
theorem wpList_append_nil {w : World} {ops : Array Oper} {rest : List Oper} {o : Oper} {a : Act} {Q : Exit → Act → World → Prop} (hgd : o.guard = none) (s x : Operand) (t : TypeId)
    (ho : o.op = .call { callee := .builtin .append, args := #[s, x], argTypes := #[t, t] })
    (base : Nat) (e : TypeId) (i : TypeInfo) (z : Value) (size bytes : Nat) (ht : Tryz.prog.underlying t = some (.slice e)) (hi : Tryz.prog.info? e = some i) (hz : i.zero = some z)
    (hsize : i.size = size) (hby : i.bytes = bytes) (hzs : z.cells.size = size) (hsz : 0 < size)
    (hs : a.eval s = .slice none 0 0) (ao : Option Addr) (m c : Nat) (news : List Value) (hx : a.eval x = .slice ao m c) (hR : Rw w size (.slice ao m c) m news) (h1 : ∀ u ∈ news, u.oneCell' = true)
    (hm : m ≤ maxLen) (hbytes : m * bytes ≤ 140737488355328) (hbase : base ≤ w.heap.size)
    (h : ∀ ao' cap' w', w'.ownsRow base e size (.slice ao' m cap') m news → Below w.heap.size w w' → wpList Tryz.prog ops Q rest (a.put o.dst (.slice ao' m cap')) w') : wpList Tryz.prog ops Q (o :: rest) a w := by
  refine wpList_plain hgd fun K hK => ?_
  cases ao with
  | none =>
    have hm0 : m = 0 := by
      obtain ⟨_, ao, c', he, _, h0 | ⟨b, off, h, _⟩⟩ := hR
      · exact h0
      · cases he; cases h
    subst hm0
    obtain rfl : news = [] := List.eq_nil_of_length_eq_zero (by rw [hR.1]; omega)
    have hrun := run_append_nils w t o.type e i ht hi c
    unfold Oper.wp
    simp [execOp, ho, resolve, invoke, builtin, hs, hx, hrun, Result.andThen]
    exact hK _ _ (h none 0 w (World.ownsRow_nil _ _ _ _) (Below.refl _ _))
  | some ad =>
    obtain ⟨v', w', hr, h2, h3, _, _⟩ := run_append_own_at (P := Tryz.prog) w base t o.type e i z size bytes ht hi hz hsize hby hzs hsz (.slice none 0 0) 0 [] (World.ownsRow_nil _ _ _ _) ad m c news hR.1 (rowN_news hR) h1 (by rw [Nat.zero_add]; exact hm) (by rw [Nat.zero_add]; exact hbytes) hbase
    rw [Nat.zero_add, List.nil_append] at h2
    obtain ⟨ao', cap', rfl⟩ := (Rw.own h2).form
    unfold Oper.wp
    simp only [execOp, ho, resolve, invoke, builtin, Sem.run_bind, Sem.run_pure, Result.andThen_ok, List.map_toArray, List.map_cons, List.map_nil, hs, hx, hr]
    exact hK _ _ (h ao' cap' w' h2 ⟨h3.os, h3.tape, h3.output, h3.size, fun k hk => h3.block k hk (by simp [Value.ownBlock])⟩)

/-- An append of nil to a row of the call's own. -/
theorem run_append_noneC {w : World} (base : Nat) (t ty e : TypeId) (i : TypeInfo) (size c : Nat) (ht : Tryz.prog.underlying t = some (.slice e)) (hi : Tryz.prog.info? e = some i)
    (v : Value) (n : Nat) (xs : List Value) (hown : w.ownsRow base e size v n xs) :
    (Builtin.append_ #[t, t] ty #[v, .slice none 0 c]).run Tryz.prog w = .ok v w := by
  rcases hown.2 with ⟨rfl, rfl⟩ | ⟨g, cap, cur, rfl, _, _, hnc, _⟩
  · simp [Builtin.append_, run_underlying ht, sizeOf, typeInfo, hi, Builtin.lenOf, Builtin.firstCells]
  · simp [Builtin.append_, run_underlying ht, sizeOf, typeInfo, hi, Builtin.lenOf, Builtin.firstCells, hnc, storeCells]
/-- An append to a row of the call's own, of whatever row: nil, empty or not. -/
theorem wpList_append_rw {w : World} {ops : Array Oper} {rest : List Oper} {o : Oper} {a : Act} {Q : Exit → Act → World → Prop} (hgd : o.guard = none) (s x : Operand) (t : TypeId)
    (ho : o.op = .call { callee := .builtin .append, args := #[s, x], argTypes := #[t, t] })
    (base : Nat) (e : TypeId) (i : TypeInfo) (z : Value) (size bytes : Nat) (ht : Tryz.prog.underlying t = some (.slice e)) (hi : Tryz.prog.info? e = some i) (hz : i.zero = some z)
    (hsize : i.size = size) (hby : i.bytes = bytes) (hzs : z.cells.size = size) (hsz : 0 < size)
    (v : Value) (n : Nat) (xs : List Value) (hs : a.eval s = v) (hown : w.ownsRow base e size v n xs) (ao : Option Addr) (m c : Nat) (news : List Value) (hx : a.eval x = .slice ao m c) (hR : Rw w size (.slice ao m c) m news) (h1 : ∀ u ∈ news, u.oneCell' = true)
    (k : Nat) (hk : n + m = k) (hm : k ≤ maxLen) (hbytes : k * bytes ≤ 140737488355328) (hbase : base ≤ w.heap.size)
    (h : ∀ ao' cap' w', w'.ownsRow base e size (.slice ao' k cap') k (xs ++ news) → w.grownBy w' v.ownBlock → wpList Tryz.prog ops Q rest (a.put o.dst (.slice ao' k cap')) w') : wpList Tryz.prog ops Q (o :: rest) a w := by
  subst hk
  refine wpList_plain hgd fun K hK => ?_
  cases ao with
  | none =>
    have hm0 : m = 0 := by
      obtain ⟨_, ao, c', he, _, h0 | ⟨b, off, h, _⟩⟩ := hR
      · exact h0
      · cases he; cases h
    subst hm0
    obtain rfl : news = [] := List.eq_nil_of_length_eq_zero (by rw [hR.1]; omega)
    have hrun := run_append_noneC base t o.type e i size c ht hi v n xs hown
    obtain ⟨ao', cap', rfl⟩ := (Rw.own hown).form
    unfold Oper.wp
    simp only [execOp, ho, resolve, invoke, builtin, Sem.run_bind, Sem.run_pure, Result.andThen_ok, List.map_toArray, List.map_cons, List.map_nil, hs, hx, hrun]
    exact hK _ _ (h ao' cap' w (by simpa using hown) (grown_refl _ _))
  | some ad =>
    obtain ⟨v', w', hr, h2, h3, _, _⟩ := run_append_own_at (P := Tryz.prog) w base t o.type e i z size bytes ht hi hz hsize hby hzs hsz v n xs hown ad m c news hR.1 (rowN_news hR) h1 hm hbytes hbase
    obtain ⟨ao', cap', rfl⟩ := (Rw.own h2).form
    unfold Oper.wp
    simp only [execOp, ho, resolve, invoke, builtin, Sem.run_bind, Sem.run_pure, Result.andThen_ok, List.map_toArray, List.map_cons, List.map_nil, hs, hx, hr]
    exact hK _ _ (h ao' cap' w' h2 h3)

end Go.Proofs.YthngeponcdeneaaGreatDoor

/-
  What the texts of all stages share that meet slices of texts as arguments: such a slice, opened.
-/
namespace Go.Proofs.YthngeponcdeneaaGreatDoor
open Go.ChangeShapes Go.WideShapes Go.ChangeAt Go.RowKit
open Go.ChangeMaps (open_string shut_string)

set_option maxRecDepth 100000 in
/-- A slice of strings that came in reads as some texts. -/
theorem strs_open {W : World} {base : Nat} {v : Value} {H : Type} {enc : TypeId × Value → H} {d : DataW H} {p : List MemPlace} (hv : Value.okWide Tryz.prog W .any base 82 v)
    (h : DataW.Trod enc Tryz.prog W 0 (fun _ => true) true 82 v d p) : ∃ ls : List (List UInt8), Strs W v ls ∧ ls.length ≤ maxLen := by
  obtain ⟨a0, len, cap, rfl⟩ := okWide_slice Tryz.underlying82 hv
  obtain ⟨fuel, hf⟩ := h
  rcases open_strings Tryz.underlying82 Tryz.underlying9 (by kernel_rfl) hf with ⟨hcs, _⟩ | ⟨a, l, c, ss, hcs, _, hl, hm, hz, _, hcell, _⟩
  · simp [Value.cells] at hcs
    obtain ⟨rfl, rfl, rfl⟩ := hcs
    exact ⟨[], ⟨none, 0, rfl, .inl rfl⟩, by simp⟩
  · simp [Value.cells] at hcs
    obtain ⟨rfl, rfl, rfl⟩ := hcs
    have hz' : ss.length = cap := by simpa using hz
    have hll : ((ss.take len).map fun s => s.data.toList).length = len := by simp; omega
    refine ⟨(ss.take len).map fun s => s.data.toList, ⟨some a, cap, by rw [hll], ?_⟩, by rw [hll]; omega⟩
    by_cases h0 : len = 0
    · left; subst h0; simp
    · right
      obtain ⟨b, off, spot⟩ := a
      have hspot : spot = none := by simpa [Addr.add] using World.cell?_spot (hcell 0 (by omega))
      subst hspot
      refine ⟨b, off, rfl, fun i hi => ?_⟩
      rw [hll] at hi
      have h1 := hcell i (by omega)
      rw [Go.WideShapes.add_plain] at h1
      rw [h1]
      have hi2 : i < ss.length := by omega
      simp [List.getD, List.getElem?_eq_getElem hi2]

set_option maxRecDepth 100000 in
/-- A slice of strings that came in reads as some texts; it has room for them. -/
theorem txts_open {W : World} {base : Nat} {v : Value} {H : Type} {enc : TypeId × Value → H} {d : DataW H} {p : List MemPlace} (hv : Value.okWide Tryz.prog W .any base 82 v)
    (h : DataW.Trod enc Tryz.prog W 0 (fun _ => true) true 82 v d p) : ∃ ls : List (List UInt8), Txts W v ls ∧ ls.length ≤ maxLen := by
  obtain ⟨a0, len, cap, rfl⟩ := okWide_slice Tryz.underlying82 hv
  obtain ⟨fuel, hf⟩ := h
  rcases open_strings Tryz.underlying82 Tryz.underlying9 (by kernel_rfl) hf with ⟨hcs, _⟩ | ⟨a, l, c, ss, hcs, _, hl, hm, hz, _, hcell, _⟩
  · simp [Value.cells] at hcs
    obtain ⟨rfl, rfl, rfl⟩ := hcs
    exact ⟨[], Txts.nil W, by simp⟩
  · simp [Value.cells] at hcs
    obtain ⟨rfl, rfl, rfl⟩ := hcs
    have hz' : ss.length = cap := by simpa using hz
    have hll : ((ss.take len).map fun s => s.data.toList).length = len := by simp; omega
    refine ⟨(ss.take len).map fun s => s.data.toList, ⟨some a, cap, by rw [hll], by rw [hll]; omega, ?_⟩, by rw [hll]; omega⟩
    by_cases h0 : len = 0
    · left; subst h0; simp
    · right
      obtain ⟨b, off, spot⟩ := a
      have hspot : spot = none := by simpa [Addr.add] using World.cell?_spot (hcell 0 (by omega))
      subst hspot
      refine ⟨b, off, rfl, fun i hi => ?_⟩
      rw [hll] at hi
      have h1 := hcell i (by omega)
      rw [Go.WideShapes.add_plain] at h1
      rw [h1]
      have hi2 : i < ss.length := by omega
      simp [List.getD, List.getElem?_eq_getElem hi2, SV]

end Go.Proofs.YthngeponcdeneaaGreatDoor
