/-
  The texts of one folder in one: Ground, Held, Cell, Rw, Ints, Base, NilApp, Keeps, RowOf, GrowN, Rws, Build, IntsFrom.
-/
import Derived.Test.YtaaabmnaindgaaaGreatDoorRows
import Derived.WalkKit
import Derived.ProofKit
import Derived.OpenShut
import Derived.ShutString
import Derived.ChangeOld
import Derived.Below
import Derived.SliceStrings
import Derived.Maps.AppendAt
import Derived.Lib.Hide
import Derived.Lib.Strings
import Derived.Laws.IdiomStrings
import Derived.WalkLawsBesides
import Derived.WalkSmall
import Derived.Deep.RegionHeld3
import Derived.Laws.OwnMore
import Derived.SizedLaws
import Derived.ChangeSlices
import Derived.Deep.RegionLaw
import Derived.RangeFuncBox
import Derived.RangeFuncOwn
import Derived.OwnWalk
import Derived.Lib.AppendZeros
import Derived.Test.YtaaabmnaindgaaaGreatDoorShelf
import Derived.Lib.Builder
import Derived.Lib.AppendStr
import Derived.Lib.UnsafeStr
import Derived.Lib.SliceRun

/-
  What the texts of all stages share: bytes as lists, slices of texts, worlds.
-/
namespace Go.Proofs.YtaaabmnaindgaaaGreatDoor
set_option maxRecDepth 100000
open Go.ChangeShapes Go.WideShapes Go.ChangeAt Go.RowKit
open Go.ChangeMaps (open_string shut_string)

theorem own_knob : ownKnob Tryz.prog.godebug = none := by kernel_rfl
theorem laid_out : laidOutB Tryz.prog = true := by kernel_rfl
def strLen : Value → Nat
  | .string s => s.size
  | _ => 0
theorem bytes_list (s : ByteArray) : ∃ l : List UInt8, s = ⟨l.toArray⟩ := ⟨s.data.toList, by cases s; simp⟩
theorem size_mk (l : List UInt8) : (ByteArray.mk l.toArray).size = l.length := by simp [ByteArray.size]
theorem app_mk (a b : List UInt8) : ByteArray.mk a.toArray ++ ByteArray.mk b.toArray = ⟨(a ++ b).toArray⟩ := by
  apply ByteArray.ext
  simp
theorem ext_take (s : List UInt8) (n : Nat) : (ByteArray.mk s.toArray).extract 0 n = ⟨(s.take n).toArray⟩ := by
  apply ByteArray.ext
  apply Array.toList_inj.1
  rw [Lib.extract_data]
  simp
theorem ext_drop (s : List UInt8) (n : Nat) : (ByteArray.mk s.toArray).extract n s.length = ⟨(s.drop n).toArray⟩ := by
  apply ByteArray.ext
  apply Array.toList_inj.1
  rw [Lib.extract_data]
  exact List.take_of_length_le (by simp)
theorem at_str (d : List UInt8) (k : Nat) (p : k < (ByteArray.mk d.toArray).size) : (ByteArray.mk d.toArray)[k]'p = d[k]'(by simpa [ByteArray.size] using p) := rfl

/-- A text as a cell. -/
def SV (t : List UInt8) : Value := .string ⟨t.toArray⟩
theorem SV_data (s : ByteArray) : SV s.data.toList = .string s := by cases s; simp [SV]

/-- The slice v reads as these texts. -/
def Strs (w : World) (v : Value) (ls : List (List UInt8)) : Prop :=
  ∃ ao cap, v = .slice ao ls.length cap ∧ (ls = [] ∨ ∃ b off, ao = some ⟨b, off, none⟩ ∧ ∀ i (h : i < ls.length), w.cell? ⟨b, off + i, none⟩ = some (.string ⟨ls[i].toArray⟩))

theorem Strs.below {w w' : World} {v : Value} {ls : List (List UInt8)} (h : Strs w v ls) (hb : Below w.heap.size w w') : Strs w' v ls := by
  obtain ⟨ao, cap, rfl, h | ⟨b, off, rfl, hc⟩⟩ := h
  · exact ⟨ao, cap, rfl, .inl h⟩
  · refine ⟨_, cap, rfl, .inr ⟨b, off, rfl, fun i hi => ?_⟩⟩
    have h1 := hc i hi
    exact (hb.cell (p := ⟨b, off + i, none⟩) (World.block_lt_of_cell? w _ h1)).trans h1
theorem Strs.at {w : World} {ao : Option Addr} {n cap : Nat} {ls : List (List UInt8)} (h : Strs w (.slice ao n cap) ls) {k : Nat} (hk : k < ls.length) : ∃ b off, ao = some ⟨b, off, none⟩ ∧ w.cell? ⟨b, off + k, none⟩ = some (.string ⟨ls[k].toArray⟩) := by
  obtain ⟨ao', cap', he, hc⟩ := h
  cases he
  rcases hc with h0 | ⟨b, off, rfl, hc⟩
  · subst h0; simp at hk
  · exact ⟨b, off, rfl, hc k hk⟩
theorem Strs.form {w : World} {v : Value} {ls : List (List UInt8)} (h : Strs w v ls) : ∃ ao cap, v = .slice ao ls.length cap := by
  obtain ⟨ao, cap, rfl, _⟩ := h
  exact ⟨ao, cap, rfl⟩
theorem below2 {a b c : World} (h1 : Below a.heap.size a b) (h2 : Below b.heap.size b c) : Below a.heap.size a c := h1.trans (h2.mono h1.size)
theorem below3 {a b c d : World} (h1 : Below a.heap.size a b) (h2 : Below b.heap.size b c) (h3 : Below c.heap.size c d) : Below a.heap.size a d := below2 (below2 h1 h2) h3
theorem below_alloc (w : World) (o : Obj) : Below w.heap.size w (w.alloc o) := (Below.refl _ w).alloc (Nat.le_refl _) o
theorem drewn_below (w : World) (q : Nat) : Below w.heap.size w (w.drewN q) := ⟨rfl, rfl, rfl, Nat.le_refl _, fun _ _ => rfl⟩
theorem drew_below (w : World) : Below w.heap.size w w.drew := ⟨rfl, rfl, rfl, Nat.le_refl _, fun _ _ => rfl⟩
theorem info9 : (Tryz.prog.info? 9).map (fun i => (i.zero, i.size, i.bytes)) = some (some (.string ⟨#[]⟩), 1, 16) := by kernel_rfl

/-- Texts in a slice, with room. -/
def Txts (w : World) (v : Value) (ls : List (List UInt8)) : Prop :=
  ∃ ao cap, v = .slice ao ls.length cap ∧ ls.length ≤ cap ∧ (ls = [] ∨ ∃ b off, ao = some ⟨b, off, none⟩ ∧ ∀ i (h : i < ls.length), w.cell? ⟨b, off + i, none⟩ = some (SV ls[i]))
theorem Txts.strs {w : World} {v : Value} {ls : List (List UInt8)} (h : Txts w v ls) : Strs w v ls := by
  obtain ⟨ao, cap, rfl, _, h⟩ := h
  exact ⟨ao, cap, rfl, h⟩
theorem Txts.below {w w' : World} {v : Value} {ls : List (List UInt8)} (h : Txts w v ls) (hb : Below w.heap.size w w') : Txts w' v ls := by
  obtain ⟨ao, cap, rfl, hc, h | ⟨b, off, rfl, hcs⟩⟩ := h
  · exact ⟨ao, cap, rfl, hc, .inl h⟩
  · refine ⟨_, cap, rfl, hc, .inr ⟨b, off, rfl, fun i hi => ?_⟩⟩
    have h1 := hcs i hi
    exact (hb.cell (p := ⟨b, off + i, none⟩) (World.block_lt_of_cell? w _ h1)).trans h1
theorem Txts.nil (w : World) : Txts w (.slice none 0 0) [] := ⟨none, 0, rfl, Nat.le_refl _, .inl rfl⟩
theorem Txts.take {w : World} {ao : Option Addr} {n cap : Nat} {ls : List (List UInt8)} (h : Txts w (.slice ao n cap) ls) (k : Nat) (hk : k ≤ ls.length) : Txts w (.slice ao k cap) (ls.take k) := by
  obtain ⟨ao', c, he, hc, h⟩ := h
  cases he
  have hl : (ls.take k).length = k := by simp; omega
  refine ⟨ao, cap, by rw [hl], by omega, ?_⟩
  rcases h with h0 | ⟨b', off', he, hcs⟩
  · subst h0; left; simp
  · exact .inr ⟨b', off', he, fun i hi => by rw [hcs i (by omega)]; simp⟩
theorem Txts.new (w : World) (ls : List (List UInt8)) (t : TypeId) : Txts (w.alloc (.cells (ls.map SV).toArray t)) (.slice (some ⟨w.heap.size, 0, none⟩) ls.length ls.length) ls := by
  refine ⟨_, _, rfl, Nat.le_refl _, .inr ⟨w.heap.size, 0, rfl, fun i hi => ?_⟩⟩
  rw [Nat.zero_add, World.cell?_alloc_new]
  simp [List.getElem?_eq_getElem hi]
theorem Txts.own {w : World} {base : Nat} {v : Value} {ts : List (List UInt8)} (h : w.ownsRow base 9 1 v ts.length (ts.map SV)) : Txts w v ts := by
  rcases h.2 with ⟨rfl, hn⟩ | ⟨g, cap, cur, rfl, _, _, hc, _⟩
  · have : ts = [] := List.eq_nil_of_length_eq_zero hn
    subst this
    exact Txts.nil w
  · refine ⟨_, cap, rfl, hc, .inr ⟨g, 0, rfl, fun i hi => ?_⟩⟩
    have h1 := h.cells (g := g) rfl i (SV ts[i]) (by simp [List.getElem?_eq_getElem hi])
    rw [Go.WideShapes.add_plain] at h1
    exact h1
/-- The slice is not empty: it has an address. -/
theorem Txts.some {w : World} {v : Value} {ls : List (List UInt8)} (h : Txts w v ls) (h0 : ls ≠ []) : ∃ b off cap, v = .slice (some ⟨b, off, none⟩) ls.length cap ∧ ls.length ≤ cap ∧ ∀ i (h : i < ls.length), w.cell? ⟨b, off + i, none⟩ = some (SV ls[i]) := by
  obtain ⟨ao, cap, rfl, hc, h⟩ := h
  obtain ⟨b, off, rfl, hcs⟩ := h.resolve_left h0
  exact ⟨b, off, cap, rfl, hc, hcs⟩

theorem grown_trans {a b c : World} {row : Option Nat} (h : a.grownBy b row) (k : b.grownBy c row) : a.grownBy c row :=
  ⟨k.os.trans h.os, k.tape.trans h.tape, k.output.trans h.output, Nat.le_trans h.size k.size, fun i hi hne => (k.block i (Nat.lt_of_lt_of_le hi h.size) hne).trans (h.block i hi hne)⟩

theorem grown_refl (w : World) (row : Option Nat) : w.grownBy w row := ⟨rfl, rfl, rfl, Nat.le_refl _, fun _ _ _ => rfl⟩

theorem below_box {w w2 : World} {o : Obj} (h : (w.alloc o).grownBy w2 (some w.heap.size)) : Below w.heap.size w w2 :=
  ((Below.refl _ w).alloc (Nat.le_refl _) o).grown h (by simp) (fun k e => by cases e; exact Nat.le_refl _)

theorem below_grown {w w' : World} (h : Below w.heap.size w w') : w.grownBy w' none := ⟨h.os, h.tape, h.output, h.size, fun k hk _ => h.block k hk⟩

end Go.Proofs.YtaaabmnaindgaaaGreatDoor

/-
  A region that is walked operation by operation, in the text's order. No function and no type is named here.
-/
namespace Go.Proofs.YtaaabmnaindgaaaGreatDoor
set_option maxRecDepth 100000

/-- The first k of n have come up. -/
def upTo (n : Nat) : Nat → Array Bool
  | 0 => Array.replicate n false
  | k + 1 => (upTo n k).setIfInBounds k true
section
variable {P : Program} {ops : Array Oper} {Q : Exit → Act → World → Prop} {md : Region.Mode} {S : World → Prop} {n k : Nat} {oi : Oper} {fuel : Nat} {a : Act} {w : World}
theorem held0 {id : Nat} (hm : P.follows .mixedOrders = true) (hS : S w.drew) (h : S w.drew → wpAnyH P .any ops Q S ops.size (upTo ops.size 0) a w.drew) : (Code.region id ops true).wp P Q a w :=
  wp_region_held_drew hm hS h
theorem heldU (hS : S w) (hi : ops[k]? = some oi) (hw : Region.wanted oi (yielded ops a.tmps) = false)
    (hs : Region.noSelect ops = true) (hf : Region.free md ops (upTo n k) k = true) (hr : (Region.ready md ops (upTo n k)).contains k = true) (hQ : ∀ c a w, Q (.panic c) (a.put oi.dst undef) w → Q (.panic c) a w)
    (h : wpAnyH P md ops Q S fuel (upTo n (k + 1)) (a.put oi.dst undef) w) : wpAnyH P md ops Q S (fuel + 1) (upTo n k) a w :=
  wpAnyH_take hi hs hf hr hQ (.inr ⟨hw, rfl⟩) hS h
theorem heldT {v : Value} (hS : S w) (hi : ops[k]? = some oi) (hw : Region.wanted oi (yielded ops a.tmps) = true)
    (hs : Region.noSelect ops = true) (hf : Region.free md ops (upTo n k) k = true) (hr : (Region.ready md ops (upTo n k)).contains k = true) (hQ : ∀ c a w, Q (.panic c) (a.put oi.dst v) w → Q (.panic c) a w)
    (hy : ∀ w, S w → (execOp a.eval oi).run P w = .ok (.value v) w)
    (h : wpAnyH P md ops Q S fuel (upTo n (k + 1)) (a.put oi.dst v) w) : wpAnyH P md ops Q S (fuel + 1) (upTo n k) a w :=
  wpAnyH_take hi hs hf hr hQ (.inl ⟨hw, hy⟩) hS h
end

end Go.Proofs.YtaaabmnaindgaaaGreatDoor

/-
  Blocks of several cells: what is loaded of them; what stays below; the bounds of an int. No function is named here.
-/
namespace Go.Proofs.YtaaabmnaindgaaaGreatDoor
set_option maxRecDepth 100000
open Go.RowKit

theorem below_alloc2 (w : World) (o1 o2 : Obj) : Below w.heap.size w ((w.alloc o1).alloc o2) := (below_alloc w o1).alloc (by simp) o2
theorem below_alloc3 (w : World) (o1 o2 o3 : Obj) : Below w.heap.size w (((w.alloc o1).alloc o2).alloc o3) := (below_alloc2 w o1 o2).alloc (by simp; omega) o3
/-- One cell that there was reads as it did. -/
theorem look_below {W w1 : World} {b o : Nat} {v : Value} (hb : Below W.heap.size W w1) (h : W.cell? ⟨b, o, none⟩ = some v) : w1.cell? ⟨b, o, none⟩ = some v :=
  (hb.cell (p := ⟨b, o, none⟩) (World.block_lt_of_cell? W _ h)).trans h
/-- Two cells, as one value. -/
theorem load_two {ty : TypeId} {fs : Array Field} (hu : Tryz.prog.underlying ty = some (.struct fs)) (hi : (Tryz.prog.info? ty).map (·.size) = some 2) (w : World) (g o : Nat) (v0 v1 : Value)
    (c0 : w.cell? ⟨g, o, none⟩ = some v0) (c1 : w.cell? ⟨g, o + 1, none⟩ = some v1) : (loadVar ty ⟨g, o, none⟩).run Tryz.prog w = .ok (.agg #[v0, v1]) w := by
  have hagg : (isAgg ty).run Tryz.prog w = .ok true w := by simp [isAgg, run_underlying hu]
  cases hq : Tryz.prog.info? ty with
  | none => simp [hq] at hi
  | some i =>
    have hs : i.size = 2 := by simpa [hq] using hi
    have hl : (loadCells ⟨g, o, none⟩ 2).run Tryz.prog w = .ok #[v0, v1] w := run_loadCells_list (P := Tryz.prog) (w := w) (a := ⟨g, o, none⟩) (cs := [v0, v1]) (fun j u hu => by
      rw [Go.WideShapes.add_plain]
      match j, hu with
      | 0, hu => simp at hu; subst hu; exact c0
      | 1, hu => simp at hu; subst hu; exact c1)
    simp [loadVar, hagg, sizeOf, typeInfo, hq, hs, hl]
theorem own_weak {w : World} {b b' k : Nat} {e : TypeId} {v : Value} {n : Nat} {xs : List Value} (h : w.ownsRow b' e k v n xs) (hb : b ≤ b') : w.ownsRow b e k v n xs := by
  refine ⟨h.1, ?_⟩
  rcases h.2 with hn | ⟨g, cap, cur, rfl, hbg, rest⟩
  · exact .inl hn
  · exact .inr ⟨g, cap, cur, rfl, Nat.le_trans hb hbg, rest⟩
theorem own_stays {w w' : World} {base k : Nat} {e : TypeId} {v : Value} {n : Nat} {xs : List Value} (h : w.ownsRow base e k v n xs) (hb : Below w.heap.size w w') : w'.ownsRow base e k v n xs :=
  h.kept (below_grown hb) (by cases hv : v.ownBlock <;> simp)
/-- As many cells as a value has, read as one. -/
theorem load_many {ty : TypeId} {w : World} {g o : Nat} {cs : List Value} (ha : (isAgg ty).run Tryz.prog w = .ok true w) (hi : (Tryz.prog.info? ty).map (·.size) = some cs.length)
    (hc : ∀ j u, cs[j]? = some u → w.cell? ⟨g, o + j, none⟩ = some u) : (loadVar ty ⟨g, o, none⟩).run Tryz.prog w = .ok (.agg cs.toArray) w := by
  cases hq : Tryz.prog.info? ty with
  | none => simp [hq] at hi
  | some i =>
    have hs : i.size = cs.length := by simpa [hq] using hi
    have hl : (loadCells ⟨g, o, none⟩ cs.length).run Tryz.prog w = .ok cs.toArray w := run_loadCells_list (P := Tryz.prog) (w := w) (a := ⟨g, o, none⟩) (cs := cs) (fun j u hu => by
      rw [Go.WideShapes.add_plain]
      exact hc j u hu)
    simp [loadVar, ha, sizeOf, typeInfo, hq, hs, hl]
/-- A block of a call's own, with these cells. -/
def Cx (w : World) (b : Nat) (t : TypeId) (cs : List Value) : Prop := w.heap[b]? = some (.cells cs.toArray t (0, 0))
theorem Cx.lt {w : World} {b : Nat} {t : TypeId} {cs : List Value} (h : Cx w b t cs) : b < w.heap.size := (Array.getElem?_eq_some_iff.1 h).1
theorem Cx.cell {w : World} {b : Nat} {t : TypeId} {cs : List Value} (h : Cx w b t cs) {j : Nat} {v : Value} (hj : cs[j]? = some v) : w.cell? ⟨b, j, none⟩ = some v := by
  rw [cell_of_row w b j _ _ _ h]
  simpa using hj
theorem Cx.frozen {w : World} {b : Nat} {t : TypeId} {cs : List Value} (h : Cx w b t cs) (j : Nat) : w.frozen? ⟨b, j, none⟩ = false := by
  unfold Cx at h
  simp [World.frozen?, h]
theorem Cx.below {w w' : World} {b : Nat} {t : TypeId} {cs : List Value} (h : Cx w b t cs) (hb : Below w.heap.size w w') : Cx w' b t cs := by
  unfold Cx
  rw [hb.block _ h.lt]
  exact h
theorem Cx.new (w : World) (t : TypeId) (cs : List Value) : Cx (w.alloc (.cells cs.toArray t)) w.heap.size t cs := heap_alloc_new w _
theorem Cx.set {w : World} {b : Nat} {t : TypeId} {cs : List Value} (h : Cx w b t cs) (j : Nat) (v : Value) : Cx (w.setCell ⟨b, j, none⟩ v) b t (cs.set j v) := by
  have h1 := heap_setCell_same w b j _ _ v h
  unfold Cx
  rw [h1]
  simp
theorem Cx.other {w : World} {b b' j : Nat} {t : TypeId} {cs : List Value} (h : Cx w b t cs) (hne : b ≠ b') (v : Value) : Cx (w.setCell ⟨b', j, none⟩ v) b t cs := by
  unfold Cx
  rw [heap_setCell_other _ ⟨b', j, none⟩ b v hne]
  exact h
theorem Cx.three {w : World} {b : Nat} {t : TypeId} {v0 v1 v2 : Value} (h : Cx w b t [v0, v1, v2]) : w.cell? ⟨b, 0, none⟩ = some v0 ∧ w.cell? ⟨b, 1, none⟩ = some v1 ∧ w.cell? ⟨b, 2, none⟩ = some v2 ∧
    w.frozen? ⟨b, 0, none⟩ = false ∧ w.frozen? ⟨b, 1, none⟩ = false ∧ w.frozen? ⟨b, 2, none⟩ = false ∧ b < w.heap.size :=
  ⟨h.cell rfl, h.cell rfl, h.cell rfl, h.frozen _, h.frozen _, h.frozen _, h.lt⟩
/-- Cells of a box of one's own, which reads as these. -/
theorem cells_box {w : World} {g : Nat} {t : TypeId} {cs : List Value} (h : w.heap[g]? = some (.cells cs.toArray t (0, 0))) : ∀ j u, cs[j]? = some u → w.cell? ⟨g, 0 + j, none⟩ = some u := by
  intro j u hu
  rw [Nat.zero_add, cell_of_row w g j _ _ _ h]
  simpa using hu
theorem i64_bounds {a : Int} (h : (Lit.int .i64 a).wf = true) : -9223372036854775808 ≤ a ∧ a ≤ 9223372036854775807 := by
  simp only [Lit.wf, IntKind.min, IntKind.max, IntKind.signed, IntKind.bits, Bool.and_eq_true] at h
  simpa using h

theorem or_step (a b : Nat) (ha : a ≤ 4294967295) (hb : b < 256) : bits .or .i64 ((a : Int) * 256) (wrap64 (b : Int)) = ((a * 256 + b : Nat) : Int) := by
  have hw : wrap64 (b : Int) = (b : Int) := IntWalk.wrap64_in _ ⟨by omega, by omega⟩
  have e : ((a : Int) * 256) = ((a * 256 : Nat) : Int) := by simp
  have hor : a * 256 ||| b = a * 256 + b := by
    have := Nat.two_pow_add_eq_or_of_lt (i := 8) (b := b) (by omega) a
    rw [Nat.mul_comm] at this
    exact this.symm
  rw [hw, e]
  show IntKind.i64.wrap ((BitVec.ofInt 64 ((a * 256 : Nat) : Int) ||| BitVec.ofInt 64 (b : Int)).toNat : Int) = _
  have h1 : (BitVec.ofInt 64 ((a * 256 : Nat) : Int)).toNat = a * 256 := by
    rw [BitVec.ofInt_natCast, BitVec.toNat_ofNat]; exact Nat.mod_eq_of_lt (by omega)
  have h2 : (BitVec.ofInt 64 (b : Int)).toNat = b := by
    rw [BitVec.ofInt_natCast, BitVec.toNat_ofNat]; exact Nat.mod_eq_of_lt (by omega)
  rw [BitVec.toNat_or, h1, h2, hor]
  exact IntWalk.i64_in _ (by omega)

theorem at_mk (d : List UInt8) (k : Nat) (_h : k < d.length) (p : k < (ByteArray.mk d.toArray).size) : (ByteArray.mk d.toArray)[k]'p = d[k] := by
  show d.toArray[k]'_ = _
  simp

end Go.Proofs.YtaaabmnaindgaaaGreatDoor

/-
  Rows of elements of several cells; appends of whatever row. No function is named here.
-/
namespace Go.Proofs.YtaaabmnaindgaaaGreatDoor
set_option maxRecDepth 100000
open Go.RowKit

/-- A row of n elements of k cells each reads as these cells. -/
def Rw (w : World) (k : Nat) (v : Value) (n : Nat) (cs : List Value) : Prop :=
  cs.length = n * k ∧ ∃ ao cap, v = .slice ao n cap ∧ n ≤ cap ∧ (n = 0 ∨ ∃ b off, ao = some ⟨b, off, none⟩ ∧ ∀ j (h : j < cs.length), w.cell? ⟨b, off + j, none⟩ = some cs[j])

theorem Rw.below {w w' : World} {k n : Nat} {v : Value} {cs : List Value} (h : Rw w k v n cs) (hb : Below w.heap.size w w') : Rw w' k v n cs := by
  obtain ⟨hl, ao, cap, rfl, hc, h | ⟨b, off, rfl, hcs⟩⟩ := h
  · exact ⟨hl, ao, cap, rfl, hc, .inl h⟩
  · refine ⟨hl, _, cap, rfl, hc, .inr ⟨b, off, rfl, fun j hj => ?_⟩⟩
    have h1 := hcs j hj
    exact (hb.cell (p := ⟨b, off + j, none⟩) (World.block_lt_of_cell? w _ h1)).trans h1
theorem Rw.nil (w : World) (k : Nat) : Rw w k (.slice none 0 0) 0 [] := ⟨by simp, none, 0, rfl, Nat.le_refl _, .inl rfl⟩
theorem Rw.form {w : World} {k n : Nat} {v : Value} {cs : List Value} (h : Rw w k v n cs) : ∃ ao cap, v = .slice ao n cap := by
  obtain ⟨_, ao, cap, rfl, _⟩ := h
  exact ⟨ao, cap, rfl⟩
theorem Rw.own {w : World} {base k n : Nat} {e : TypeId} {v : Value} {cs : List Value} (h : w.ownsRow base e k v n cs) : Rw w k v n cs := by
  rcases h.2 with ⟨rfl, rfl⟩ | ⟨g, cap, cur, rfl, _, _, hc, _⟩
  · exact ⟨h.1, none, 0, rfl, Nat.le_refl _, .inl rfl⟩
  · refine ⟨h.1, _, cap, rfl, hc, .inr ⟨g, 0, rfl, fun j hj => ?_⟩⟩
    have h1 := h.cells (g := g) rfl j cs[j] (by simp [List.getElem?_eq_getElem hj])
    rw [Go.WideShapes.add_plain] at h1
    exact h1
theorem rowN_news {w : World} {k n cap : Nat} {a : Addr} {cs : List Value} (h : Rw w k (.slice (some a) n cap) n cs) : ∀ j u, cs[j]? = some u → w.cell? (a.add j) = some u := by
  intro j u hj
  obtain ⟨hj1, hju⟩ := List.getElem?_eq_some_iff.1 hj
  obtain ⟨hl, ao, c, he, _, h0 | ⟨b, off, rfl, hc⟩⟩ := h
  · subst h0; omega
  · cases he
    rw [Go.WideShapes.add_plain, hc j hj1, hju]
theorem own_form {w : World} {base k n : Nat} {e : TypeId} {v : Value} {xs : List Value} (h : w.ownsRow base e k v n xs) : ∃ ao n cap, v = .slice ao n cap := by
  obtain ⟨ao, cap, rfl⟩ := (Rw.own h).form
  exact ⟨ao, _, cap, rfl⟩
end Go.Proofs.YtaaabmnaindgaaaGreatDoor

/-
  Rows of ints.
-/
namespace Go.Proofs.YtaaabmnaindgaaaGreatDoor
set_option maxRecDepth 100000
open Go.RowKit Go.ChangeShapes Go.WideShapes

/-- The slice v reads as these ints. -/
def Ints (w : World) (v : Value) (zs : List Int) : Prop := Rw w 1 v zs.length (zs.map (Value.int .i64))
theorem Ints.below {w w' : World} {v : Value} {zs : List Int} (h : Ints w v zs) (hb : Below w.heap.size w w') : Ints w' v zs := Rw.below h hb
theorem Ints.form {w : World} {v : Value} {zs : List Int} (h : Ints w v zs) : ∃ ao cap, v = .slice ao zs.length cap := Rw.form h
theorem Ints.at {w : World} {ao : Option Addr} {n cap : Nat} {zs : List Int} (h : Ints w (.slice ao n cap) zs) {k : Nat} (hk : k < zs.length) : ∃ b off, ao = some ⟨b, off, none⟩ ∧ w.cell? ⟨b, off + k, none⟩ = some (.int .i64 zs[k]) := by
  obtain ⟨_, ao', cap', he, _, hc⟩ := h
  cases he
  rcases hc with h0 | ⟨b, off, rfl, hc⟩
  · omega
  · refine ⟨b, off, rfl, ?_⟩
    have := hc k (by simpa using hk)
    simpa using this
/-- A row of ints that came in, as it lies in whatever holds it. -/
theorem ints_trod_wf {W : World} {n : Nat} {c : Value} {H : Type} {enc : TypeId × Value → H} {x : DataW H × List MemPlace} (hf : DataW.trod enc Tryz.prog W 0 (fun _ => true) true n 49 [c] = some x) : ∃ zs, Ints W c zs ∧ zs.length ≤ maxLen ∧ ∀ n ∈ zs, (Lit.int .i64 n).wf = true := by
  rcases open_ints Tryz.underlying49 Tryz.underlying3 (by kernel_rfl) hf with ⟨hcs, _⟩ | ⟨a, l, c, zs, hcs, _, hl, hm, hz, _, hcell, hwf⟩
  · simp at hcs
    subst hcs
    exact ⟨[], Rw.nil W 1, by simp, by simp⟩
  · simp at hcs
    subst hcs
    have hz' : zs.length = c := by simpa using hz
    have hll : (zs.take l).length = l := by rw [List.length_take]; omega
    refine ⟨zs.take l, ⟨by simp, some a, c, by rw [hll], by rw [hll]; omega, ?_⟩, by rw [hll]; omega, fun n hn => hwf n (List.mem_of_mem_take hn)⟩
    by_cases h0 : l = 0
    · left; rw [hll]; exact h0
    · right
      obtain ⟨b, off, spot⟩ := a
      have hspot : spot = none := by simpa [Addr.add] using World.cell?_spot (hcell 0 (by omega))
      subst hspot
      refine ⟨b, off, rfl, fun j hj => ?_⟩
      have hj2 : j < l := by rw [List.length_map, hll] at hj; exact hj
      have h1 := hcell j (by omega)
      rw [Go.WideShapes.add_plain] at h1
      rw [h1]
      have h3 : j < zs.length := by omega
      simp [List.getD, List.getElem?_eq_getElem h3]
theorem ints_trod {W : World} {n : Nat} {c : Value} {H : Type} {enc : TypeId × Value → H} {x : DataW H × List MemPlace} (hf : DataW.trod enc Tryz.prog W 0 (fun _ => true) true n 49 [c] = some x) : ∃ zs, Ints W c zs ∧ zs.length ≤ maxLen :=
  let ⟨zs, h1, h2, _⟩ := ints_trod_wf hf
  ⟨zs, h1, h2⟩
end Go.Proofs.YtaaabmnaindgaaaGreatDoor

/-
  What the texts of all stages share that meet slices of texts as arguments: such a slice, opened.
-/
namespace Go.Proofs.YtaaabmnaindgaaaGreatDoor
set_option maxRecDepth 100000
open Go.ChangeShapes Go.WideShapes Go.ChangeAt Go.RowKit
open Go.ChangeMaps (open_string shut_string)

end Go.Proofs.YtaaabmnaindgaaaGreatDoor

/-
  An append to nil of whatever row, as one step of a region that draws.
-/
namespace Go.Proofs.YtaaabmnaindgaaaGreatDoor
set_option maxRecDepth 100000
open Go.RowKit

/-- An append of a nil slice to nil. -/
theorem run_append_nils (w : World) (t ty e : TypeId) (i : TypeInfo) (ht : Tryz.prog.underlying t = some (.slice e)) (hi : Tryz.prog.info? e = some i) (c : Nat) :
    (Builtin.append_ #[t, t] ty #[.slice none 0 0, .slice none 0 c]).run Tryz.prog w = .ok (.slice none 0 0) w := by
  simp [Builtin.append_, run_underlying ht, sizeOf, typeInfo, hi, Builtin.lenOf, Builtin.firstCells]
/-- An append to nil, as one step of a region that draws: of whatever row. -/
theorem step_append_nil {w : World} {ops : Array Oper} {o : Oper} {a : Act} {K : Act → World → Prop} {Q : Exit → Act → World → Prop} {E : Prop} (hgd : o.guard = none) (s x : Operand) (t : TypeId)
    (ho : o.op = .call { callee := .builtin .append, args := #[s, x], argTypes := #[t, t] })
    (base : Nat) (e : TypeId) (i : TypeInfo) (z : Value) (size bytes : Nat) (ht : Tryz.prog.underlying t = some (.slice e)) (hi : Tryz.prog.info? e = some i) (hz : i.zero = some z)
    (hsize : i.size = size) (hby : i.bytes = bytes) (hzs : z.cells.size = size) (hsz : 0 < size)
    (hs : a.eval s = .slice none 0 0) (ao : Option Addr) (m c : Nat) (news : List Value) (hx : a.eval x = .slice ao m c) (hR : Rw w size (.slice ao m c) m news) (h1 : ∀ u ∈ news, u.oneCell' = true)
    (hm : m ≤ 1000) (hbytes : bytes ≤ 1000) (hbase : base ≤ w.heap.size)
    (h : ∀ ao' cap' w', w'.ownsRow base e size (.slice ao' m cap') m news → Below w.heap.size w w' → K (a.put o.dst (.slice ao' m cap')) w') :
    if Region.wanted o (yielded ops a.tmps) = true then Oper.wp Tryz.prog o a w K Q else E := by
  have hw : Region.wanted o (yielded ops a.tmps) = true := by simp [Region.wanted, hgd]
  rw [if_pos hw]
  cases ao with
  | none =>
    have hm0 : m = 0 := by
      obtain ⟨_, ao, c', he, _, h0 | ⟨b, off, h, _⟩⟩ := hR
      · exact h0
      · cases he; cases h
    subst hm0
    obtain rfl : news = [] := List.eq_nil_of_length_eq_zero (by rw [hR.1]; omega)
    have hrun := run_append_nils w t o.type e i ht hi c
    unfold Oper.wp
    simp [execOp, ho, resolve, invoke, builtin, hs, hx, hrun, Result.andThen]
    exact h none 0 w (World.ownsRow_nil _ _ _ _) (Below.refl _ _)
  | some ad =>
    have hb : (0 + m) * bytes ≤ 140737488355328 := by
      have : m * bytes ≤ 1000 * 1000 := Nat.mul_le_mul hm hbytes
      rw [Nat.zero_add]
      omega
    obtain ⟨v', w', hr, h2, h3, _, _⟩ := run_append_own_at (P := Tryz.prog) w base t o.type e i z size bytes ht hi hz hsize hby hzs hsz (.slice none 0 0) 0 [] (World.ownsRow_nil _ _ _ _) ad m c news hR.1 (rowN_news hR) h1 (by unfold maxLen; omega) hb hbase
    rw [Nat.zero_add, List.nil_append] at h2
    obtain ⟨ao', cap', rfl⟩ := (Rw.own h2).form
    unfold Oper.wp
    simp only [execOp, ho, resolve, invoke, builtin, Sem.run_bind, Sem.run_pure, Result.andThen_ok, List.map_toArray, List.map_cons, List.map_nil, hs, hx, hr]
    exact h ao' cap' w' h2 ⟨h3.os, h3.tape, h3.output, h3.size, fun k hk => h3.block k hk (by simp [Value.ownBlock])⟩
/-- An append of nil to a row of the call's own. -/
theorem run_append_noneC {w : World} (base : Nat) (t ty e : TypeId) (i : TypeInfo) (size c : Nat) (ht : Tryz.prog.underlying t = some (.slice e)) (hi : Tryz.prog.info? e = some i)
    (v : Value) (n : Nat) (xs : List Value) (hown : w.ownsRow base e size v n xs) :
    (Builtin.append_ #[t, t] ty #[v, .slice none 0 c]).run Tryz.prog w = .ok v w := by
  rcases hown.2 with ⟨rfl, rfl⟩ | ⟨g, cap, cur, rfl, _, _, hnc, _⟩
  · simp [Builtin.append_, run_underlying ht, sizeOf, typeInfo, hi, Builtin.lenOf, Builtin.firstCells]
  · simp [Builtin.append_, run_underlying ht, sizeOf, typeInfo, hi, Builtin.lenOf, Builtin.firstCells, hnc, storeCells]
/-- An append to a row of the call's own, of whatever row: nil, empty or not. -/
theorem wpList_append_rw {w : World} {ops : Array Oper} {rest : List Oper} {o : Oper} {a : Act} {Q : Exit → Act → World → Prop} (hgd : o.guard = none) (s x : Operand) (t : TypeId)
    (ho : o.op = .call { callee := .builtin .append, args := #[s, x], argTypes := #[t, t] })
    (base : Nat) (e : TypeId) (i : TypeInfo) (z : Value) (size bytes : Nat) (ht : Tryz.prog.underlying t = some (.slice e)) (hi : Tryz.prog.info? e = some i) (hz : i.zero = some z)
    (hsize : i.size = size) (hby : i.bytes = bytes) (hzs : z.cells.size = size) (hsz : 0 < size)
    (v : Value) (n : Nat) (xs : List Value) (hs : a.eval s = v) (hown : w.ownsRow base e size v n xs) (ao : Option Addr) (m c : Nat) (news : List Value) (hx : a.eval x = .slice ao m c) (hR : Rw w size (.slice ao m c) m news) (h1 : ∀ u ∈ news, u.oneCell' = true)
    (k : Nat) (hk : n + m = k) (hm : k ≤ maxLen) (hbytes : k * bytes ≤ 140737488355328) (hbase : base ≤ w.heap.size)
    (h : ∀ ao' cap' w', w'.ownsRow base e size (.slice ao' k cap') k (xs ++ news) → w.grownBy w' v.ownBlock → wpList Tryz.prog ops Q rest (a.put o.dst (.slice ao' k cap')) w') : wpList Tryz.prog ops Q (o :: rest) a w := by
  subst hk
  refine wpList_plain hgd fun K hK => ?_
  cases ao with
  | none =>
    have hm0 : m = 0 := by
      obtain ⟨_, ao, c', he, _, h0 | ⟨b, off, h, _⟩⟩ := hR
      · exact h0
      · cases he; cases h
    subst hm0
    obtain rfl : news = [] := List.eq_nil_of_length_eq_zero (by rw [hR.1]; omega)
    have hrun := run_append_noneC base t o.type e i size c ht hi v n xs hown
    obtain ⟨ao', cap', rfl⟩ := (Rw.own hown).form
    unfold Oper.wp
    simp only [execOp, ho, resolve, invoke, builtin, Sem.run_bind, Sem.run_pure, Result.andThen_ok, List.map_toArray, List.map_cons, List.map_nil, hs, hx, hrun]
    exact hK _ _ (h ao' cap' w (by simpa using hown) (grown_refl _ _))
  | some ad =>
    obtain ⟨v', w', hr, h2, h3, _, _⟩ := run_append_own_at (P := Tryz.prog) w base t o.type e i z size bytes ht hi hz hsize hby hzs hsz v n xs hown ad m c news hR.1 (rowN_news hR) h1 hm hbytes hbase
    obtain ⟨ao', cap', rfl⟩ := (Rw.own h2).form
    unfold Oper.wp
    simp only [execOp, ho, resolve, invoke, builtin, Sem.run_bind, Sem.run_pure, Result.andThen_ok, List.map_toArray, List.map_cons, List.map_nil, hs, hx, hr]
    exact hK _ _ (h ao' cap' w' h2 h3)

end Go.Proofs.YtaaabmnaindgaaaGreatDoor

/-
  What there was stays, but for one block; boxes. No function and no type is named here.
-/
namespace Go.Proofs.YtaaabmnaindgaaaGreatDoor
set_option maxRecDepth 100000
open Go.RowKit

/-- What there was stays, but for the block g. -/
def Keeps (g : Nat) (w w' : World) : Prop := w.grownBy w' (some g)
theorem Keeps.refl (g : Nat) (w : World) : Keeps g w w := grown_refl w _
theorem Keeps.below (g : Nat) {w w' : World} (h : Below w.heap.size w w') : Keeps g w w' := ⟨h.os, h.tape, h.output, h.size, fun k hk _ => h.block k hk⟩
theorem Keeps.trans {g : Nat} {a b c : World} (h : Keeps g a b) (k : Keeps g b c) : Keeps g a c := grown_trans h k
theorem Keeps.then {g : Nat} {a b c : World} (h : Keeps g a b) (k : Below b.heap.size b c) : Keeps g a c := h.trans (Keeps.below g k)
theorem Keeps.set {g : Nat} {w w' : World} (h : Keeps g w w') (j : Nat) (v : Value) : Keeps g w (w'.setCell ⟨g, j, none⟩ v) := by
  have hb : Below g w' (w'.setCell ⟨g, j, none⟩ v) := (Below.refl g w').setCell (Nat.le_refl _) v
  refine ⟨hb.os.trans h.os, hb.tape.trans h.tape, hb.output.trans h.output, Nat.le_trans h.size hb.size, fun i hi hne => ?_⟩
  rw [heap_setCell_other w' ⟨g, j, none⟩ i v (fun e => hne (by rw [e]))]
  exact h.block i hi hne
theorem Keeps.other {g : Nat} {w w' : World} (h : Keeps g w w') {b : Nat} (hb : w.heap.size ≤ b) (j : Nat) (v : Value) : Keeps g w (w'.setCell ⟨b, j, none⟩ v) := by
  have hb2 : Below b w' (w'.setCell ⟨b, j, none⟩ v) := (Below.refl b w').setCell (Nat.le_refl _) v
  refine ⟨hb2.os.trans h.os, hb2.tape.trans h.tape, hb2.output.trans h.output, Nat.le_trans h.size hb2.size, fun i hi hne => ?_⟩
  rw [heap_setCell_other w' ⟨b, j, none⟩ i v (by show i ≠ b; omega)]
  exact h.block i hi hne
theorem Keeps.set2 {g : Nat} {w w' : World} (h : Keeps g w w') (x y : Value) : Keeps g w ((w'.setCell ⟨g, 1, none⟩ x).setCell ⟨g, 2, none⟩ y) := (h.set 1 x).set 2 y
theorem Cx.keeps {w w' : World} {b g : Nat} {t : TypeId} {cs : List Value} (h : Cx w b t cs) (hne : b ≠ g) (hk : Keeps g w w') : Cx w' b t cs := by
  unfold Cx
  rw [hk.block _ h.lt (fun e => hne (by cases e; rfl))]
  exact h
theorem Keeps.on {g B : Nat} {w0 w w' : World} (hk : Keeps g w w') (hb : Below B w0 w) (hg : B ≤ g) (hB : B ≤ w.heap.size) : Below B w0 w' :=
  ⟨hk.os.trans hb.os, hk.tape.trans hb.tape, hk.output.trans hb.output, Nat.le_trans hb.size hk.size, fun i hi => (hk.block i (Nat.lt_of_lt_of_le hi hB) (fun e => by cases e; omega)).trans (hb.block i hi)⟩

theorem cell_keeps {A B : World} {k Bc : Nat} {v : Value} (h : A.cell? ⟨Bc, 0, none⟩ = some v) (hk : Keeps k A B) (hne : Bc ≠ k) : B.cell? ⟨Bc, 0, none⟩ = some v := by
  have hlt : Bc < A.heap.size := by
    obtain ⟨o, ho, _⟩ := cells_of_cell h
    exact (Array.getElem?_eq_some_iff.1 ho).1
  have e := hk.block Bc hlt (fun e => hne (by cases e; rfl))
  unfold World.cell? at h ⊢
  dsimp only at h ⊢
  rw [e]
  exact h
theorem boxed_stays {A B : World} {b : Nat} {t : TypeId} {v : Value} (h : Boxed A b t v) (hk : Below A.heap.size A B) : Boxed B b t v := (hk.block b h.lt).trans h
theorem boxed_keeps {A B : World} {k b : Nat} {t : TypeId} {v : Value} (h : Boxed A b t v) (hk : Keeps k A B) (hne : b ≠ k) : Boxed B b t v := h.kept hk (fun e => hne (by cases e; rfl))
theorem Keeps.low {g : Nat} {w w1 w2 : World} (h : Keeps g w1 w2) (hb : Below w.heap.size w w1) (hg : w.heap.size ≤ g) : Below w.heap.size w w2 := h.on hb hg hb.size
theorem Keeps.start {g : Nat} {w w1 w2 : World} (hb : Below w.heap.size w w1) (hk : Keeps g w1 w2) : Keeps g w w2 := (Keeps.below g hb).trans hk

end Go.Proofs.YtaaabmnaindgaaaGreatDoor

/-
  Rows of structs in general: each element is k cells. Reading, parts of them, appends of one and of a row. No function and no type is named here.
-/
namespace Go.Proofs.YtaaabmnaindgaaaGreatDoor
set_option maxRecDepth 100000
open Go.RowKit

section
variable {α : Type} (cell : α → List Value) (k : Nat)
def cellsOf (l : List α) : List Value := l.flatMap cell
/-- Each element has k cells. -/
def CellsK : Prop := 0 < k ∧ ∀ x, (cell x).length = k
/-- Each of an element's cells is one. -/
def CellsO : Prop := ∀ x, ∀ u ∈ cell x, u.oneCell' = true
/-- The slice v reads as these elements. -/
def RowOf (w : World) (v : Value) (l : List α) : Prop := Rw w k v l.length (cellsOf cell l)
/-- A row of such elements in memory of the call's own; e is their type. -/
def OwnOf (e : TypeId) (w : World) (base : Nat) (v : Value) (l : List α) : Prop := w.ownsRow base e k v l.length (cellsOf cell l)
end

section
variable {α : Type} {cell : α → List Value} {k : Nat}
theorem cellsOf_cons (x : α) (r : List α) : cellsOf cell (x :: r) = cell x ++ cellsOf cell r := rfl
theorem cellsOf_append (a b : List α) : cellsOf cell (a ++ b) = cellsOf cell a ++ cellsOf cell b := by simp [cellsOf]
theorem cellsOf_one (h : CellsO cell) (l : List α) : ∀ u ∈ cellsOf cell l, u.oneCell' = true := by
  intro u hu
  obtain ⟨x, _, hx⟩ := List.mem_flatMap.1 hu
  exact h x u hx
theorem cellsOf_len (h : CellsK cell k) (l : List α) : (cellsOf cell l).length = l.length * k := by
  induction l with
  | nil => simp [cellsOf]
  | cons x r ih => rw [cellsOf_cons, List.length_append, h.2, ih, List.length_cons, Nat.succ_mul, Nat.add_comm]
theorem cellsOf_take (h : CellsK cell k) (l : List α) (n : Nat) : cellsOf cell (l.take n) = (cellsOf cell l).take (n * k) := by
  induction l generalizing n with
  | nil => simp [cellsOf]
  | cons x r ih =>
    cases n with
    | zero => simp [cellsOf]
    | succ n =>
      rw [List.take_succ_cons, cellsOf_cons, cellsOf_cons, ih, show (n + 1) * k = k + n * k by rw [Nat.succ_mul]; omega, List.take_append, h.2, List.take_of_length_le (l := cell x) (by rw [h.2]; omega), Nat.add_sub_cancel_left]
theorem cellsOf_drop (h : CellsK cell k) (l : List α) (n : Nat) : cellsOf cell (l.drop n) = (cellsOf cell l).drop (n * k) := by
  induction l generalizing n with
  | nil => simp [cellsOf]
  | cons x r ih =>
    cases n with
    | zero => simp
    | succ n =>
      rw [List.drop_succ_cons, cellsOf_cons, ih, show (n + 1) * k = k + n * k by rw [Nat.succ_mul]; omega, List.drop_append, h.2, List.drop_of_length_le (l := cell x) (by rw [h.2]; omega), Nat.add_sub_cancel_left, List.nil_append]
theorem cellsOf_at (h : CellsK cell k) {l : List α} {i : Nat} (hi : i < l.length) {j : Nat} {u : Value} (hj : (cell l[i])[j]? = some u) : (cellsOf cell l)[i * k + j]? = some u := by
  have hjk : j < k := by
    obtain ⟨h1, _⟩ := List.getElem?_eq_some_iff.1 hj
    rw [h.2] at h1
    exact h1
  induction l generalizing i with
  | nil => simp at hi
  | cons x r ih =>
    cases i with
    | zero =>
      rw [cellsOf_cons, Nat.zero_mul, Nat.zero_add, List.getElem?_append_left (by rw [h.2]; exact hjk)]
      exact hj
    | succ i =>
      have h1 := ih (i := i) (by simpa using hi) hj
      rw [cellsOf_cons, List.getElem?_append_right (by rw [h.2, Nat.succ_mul]; omega), h.2]
      rw [show (i + 1) * k + j - k = i * k + j by rw [Nat.succ_mul]; omega]
      exact h1

theorem RowOf.below {w w' : World} {v : Value} {l : List α} (h : RowOf cell k w v l) (hb : Below w.heap.size w w') : RowOf cell k w' v l := Rw.below h hb
theorem RowOf.form {w : World} {v : Value} {l : List α} (h : RowOf cell k w v l) : ∃ ao cap, v = .slice ao l.length cap := Rw.form h
theorem RowOf.nil (w : World) : RowOf cell k w (.slice none 0 0) [] := Rw.nil w k
theorem RowOf.len {w : World} {ao : Option Addr} {n cap : Nat} {l : List α} (h : RowOf cell k w (.slice ao n cap) l) : l.length = n := by
  obtain ⟨_, ao', c, he, _, _⟩ := h
  cases he
  rfl
theorem RowOf.of_nil {w : World} {n cap : Nat} {l : List α} (h : RowOf cell k w (.slice none n cap) l) : l = [] := by
  obtain ⟨_, ao, c, he, _, h0 | ⟨b, off, h, _⟩⟩ := h
  · exact List.eq_nil_of_length_eq_zero h0
  · cases he; cases h
theorem RowOf.spot {w : World} {a : Addr} {n cap : Nat} {l : List α} (h : RowOf cell k w (.slice (some a) n cap) l) (h0 : l ≠ []) : ∃ b off, a = ⟨b, off, none⟩ := by
  obtain ⟨_, ao, c, he, _, h1 | ⟨b, off, h, _⟩⟩ := h
  · exact absurd (List.eq_nil_of_length_eq_zero h1) h0
  · cases he; cases h; exact ⟨b, off, rfl⟩
/-- The cells of the i-th element: the j-th one lies at off + i * k + j. -/
theorem RowOf.at (hk : CellsK cell k) {w : World} {ao : Option Addr} {n cap : Nat} {l : List α} (h : RowOf cell k w (.slice ao n cap) l) {i : Nat} (hi : i < l.length) :
    ∃ b off, ao = some ⟨b, off, none⟩ ∧ ∀ j u, (cell l[i])[j]? = some u → w.cell? ⟨b, off + i * k + j, none⟩ = some u := by
  obtain ⟨hl, ao', cap', he, _, hc⟩ := h
  cases he
  rcases hc with h0 | ⟨b, off, rfl, hc⟩
  · omega
  · refine ⟨b, off, rfl, fun j u hj => ?_⟩
    have h1 := cellsOf_at hk hi hj
    obtain ⟨h2, h3⟩ := List.getElem?_eq_some_iff.1 h1
    rw [Nat.add_assoc, hc _ h2, h3]
theorem RowOf.take (hk : CellsK cell k) {w : World} {ao : Option Addr} {n cap : Nat} {l : List α} (h : RowOf cell k w (.slice ao n cap) l) {m : Nat} (hm : m ≤ l.length) : RowOf cell k w (.slice ao m cap) (l.take m) := by
  obtain ⟨hl, ao', c, he, hc, h⟩ := h
  cases he
  have e : (l.take m).length = m := by simp; omega
  refine ⟨cellsOf_len hk _, ao, cap, by rw [e], by omega, ?_⟩
  rcases h with h0 | ⟨b, off, rfl, hcs⟩
  · exact .inl (by omega)
  · refine .inr ⟨b, off, rfl, fun j hj => ?_⟩
    have hj2 := hj
    rw [cellsOf_take hk, List.length_take] at hj2
    rw [hcs j (by omega)]
    simp only [cellsOf_take hk]
    rw [List.getElem_take]
theorem RowOf.drop (hk : CellsK cell k) {w : World} {b off n cap : Nat} {l : List α} (h : RowOf cell k w (.slice (some ⟨b, off, none⟩) n cap) l) {i m cap' : Nat} (hi : i ≤ l.length) (hm : m = l.length - i) (hc' : m ≤ cap') (o : Nat) (ho : o = off + i * k ∨ i = l.length) : RowOf cell k w (.slice (some ⟨b, o, none⟩) m cap') (l.drop i) := by
  obtain ⟨hl, ao', c, he, hc, h⟩ := h
  cases he
  have e : (l.drop i).length = m := by simp; omega
  refine ⟨cellsOf_len hk _, _, cap', by rw [e], by omega, ?_⟩
  by_cases h0 : i = l.length
  · exact .inl (by omega)
  · rcases h with h1 | ⟨b', off', he, hcs⟩
    · exact .inl (by omega)
    · cases he
      obtain rfl := ho.resolve_right h0
      refine .inr ⟨b, _, rfl, fun j hj => ?_⟩
      have hj2 := hj
      rw [cellsOf_drop hk, List.length_drop] at hj2
      rw [Nat.add_assoc, hcs (i * k + j) (by omega)]
      simp only [cellsOf_drop hk]
      rw [List.getElem_drop]
/-- Elements that are laid as they stand. -/
theorem rowOf_lit (hk : CellsK cell k) (w : World) (l : List α) (t : TypeId) : RowOf cell k (w.alloc (.cells (cellsOf cell l).toArray t)) (.slice (some ⟨w.heap.size, 0, none⟩) l.length l.length) l := by
  refine ⟨cellsOf_len hk l, _, _, rfl, Nat.le_refl _, .inr ⟨_, 0, rfl, fun j hj => ?_⟩⟩
  rw [Nat.zero_add, World.cell?_alloc_new]
  simp [List.getElem?_eq_getElem hj]

variable {e : TypeId}
theorem OwnOf.row {w : World} {base : Nat} {v : Value} {l : List α} (h : OwnOf cell k e w base v l) : RowOf cell k w v l := Rw.own h
theorem OwnOf.form {w : World} {base : Nat} {v : Value} {l : List α} (h : OwnOf cell k e w base v l) : ∃ ao cap, v = .slice ao l.length cap := Rw.form h.row
theorem OwnOf.weak {w : World} {b b' : Nat} {v : Value} {l : List α} (h : OwnOf cell k e w b' v l) (hb : b ≤ b') : OwnOf cell k e w b v l := own_weak h hb
theorem OwnOf.stays {w w' : World} {base : Nat} {v : Value} {l : List α} (h : OwnOf cell k e w base v l) (hb : Below w.heap.size w w') : OwnOf cell k e w' base v l := own_stays h hb
theorem OwnOf.nil (w : World) (base : Nat) : OwnOf cell k e w base (.slice none 0 0) [] := World.ownsRow_nil _ _ _ _

/-- An append of one element, which was laid for it. -/
theorem wpList_app_of (hk : CellsK cell k) (h1 : CellsO cell) {w : World} {ops : Array Oper} {rest : List Oper} {o : Oper} {a : Act} {Q : Exit → Act → World → Prop} (hgd : o.guard = none) (s x : Operand) (t : TypeId)
    (ho : o.op = .call { callee := .builtin .append, args := #[s, x], argTypes := #[t, t] }) (i : TypeInfo) (z : Value) (bytes : Nat) (ht : Tryz.prog.underlying t = some (.slice e)) (hi : Tryz.prog.info? e = some i) (hz : i.zero = some z) (hsize : i.size = k) (hby : i.bytes = bytes) (hzs : z.cells.size = k) (hb : bytes ≤ 1000)
    (base : Nat) (v : Value) (T : List α) (hs : a.eval s = v) (hown : OwnOf cell k e w base v T) (y : α) (cs : Array Value) (hcs : cs = (cell y).toArray) (hx : a.eval x = .slice (some ⟨w.heap.size, 0, none⟩) 1 1)
    (hn : T.length < 1000000) (hbase : base ≤ w.heap.size)
    (h : ∀ ao' cap' w', OwnOf cell k e w' base (.slice ao' (T.length + 1) cap') (T ++ [y]) → (∀ w0, Below base w0 w → Below base w0 w') → wpList Tryz.prog ops Q rest (a.put o.dst (.slice ao' (T.length + 1) cap')) w') :
    wpList Tryz.prog ops Q (o :: rest) a (w.alloc (.cells cs e)) := by
  subst hcs
  have hl : RowOf cell k (w.alloc (.cells (cell y).toArray e)) (.slice (some ⟨w.heap.size, 0, none⟩) 1 1) [y] := by
    have hq := rowOf_lit hk w [y] e
    rw [show cellsOf cell [y] = cell y by simp [cellsOf]] at hq
    exact hq
  have hby2 : (T.length + 1) * bytes ≤ 140737488355328 := by
    have : (T.length + 1) * bytes ≤ 1000000 * 1000 := Nat.mul_le_mul hn hb
    omega
  have hown1 : OwnOf cell k e (w.alloc (.cells (cell y).toArray e)) base v T := World.ownsRow.alloc hown _
  refine wpList_append_rw hgd s x t ho base e i z k bytes ht hi hz hsize hby hzs hk.1 v T.length (cellsOf cell T) hs hown1 _ 1 1 (cellsOf cell [y]) hx hl (cellsOf_one h1 [y]) (T.length + 1) rfl (by unfold maxLen; omega) hby2 (by rw [World.size_alloc]; omega) ?_
  intro a3 c3 w3 h2 h3
  refine h a3 c3 w3 ?_ fun w0 hB => (hB.alloc hbase _).grown h3 (by rw [World.size_alloc]; omega) fun j e => (hown1.lt j e).1
  unfold OwnOf
  rw [List.length_append, cellsOf_append]
  exact h2
end

end Go.Proofs.YtaaabmnaindgaaaGreatDoor

/-
  append(nil, make([]E, n)...), cut to nothing: slices.Grow of nil. No function is named here.
-/
namespace Go.Proofs.YtaaabmnaindgaaaGreatDoor
set_option maxRecDepth 100000
open Go.RowKit

theorem zeroCells_len (z : Array Value) (n : Nat) : (Builtin.zeroCells z n).size = n * z.size := by simp [Builtin.zeroCells]
/-- append(nil, make([]E, n)...), cut to nothing. -/
theorem grow_nil (w : World) (t e : TypeId) (i : TypeInfo) (z : Value) (size bytes : Nat) (ht : Tryz.prog.underlying t = some (.slice e)) (hn : Tryz.prog.underlying 3 = some (.int .i64)) (hi : Tryz.prog.info? e = some i) (hz : i.zero = some z) (hsize : i.size = size) (hby : i.bytes = bytes) (hzs : z.cells.size = size) (hsz : 0 < size)
    (n : Nat) (h0 : 0 < n) (hm : n ≤ 1000000) (hb : bytes ≤ 1000) :
    ∃ cap w', (∀ ty, (Builtin.append_ #[t, 3] ty #[.slice none 0 0, .int .i64 (n : Int)]).run Tryz.prog w = .ok (.slice (some ⟨w.heap.size, 0, none⟩) n cap) w') ∧ n ≤ cap ∧ cap ≤ maxLen ∧ w'.ownsRow w.heap.size e size (.slice (some ⟨w.heap.size, 0, none⟩) 0 cap) 0 [] ∧ Below w.heap.size w w' := by
  have hnb : n * bytes ≤ 1000000 * 1000 := Nat.mul_le_mul hm hb
  have hr := fun ty => Lib.run_append_nil_zeros (P := Tryz.prog) w t 3 ty e i z .i64 .i64 ht hn hi hz n h0 (by omega) (by omega) (by rw [hby]; omega)
  have hg := grownCap_ge w n 0 e
  have hl := grownCap_le_maxLen w n 0 e (by unfold maxLen; omega)
  refine ⟨_, _, hr, hg, hl, World.ownsRow_made w.drew _ _ (Nat.le_refl _) hl ?_, below2 (drew_below _) (below_alloc _ _)⟩
  rw [Array.size_append, zeroCells_len, zeroCells_len, hzs, ← Nat.add_mul]
  congr 1
  omega

theorem int_under : Tryz.prog.underlying 3 = some (.int .i64) := by kernel_rfl

end Go.Proofs.YtaaabmnaindgaaaGreatDoor

/-
  Rows in a row, one behind the other. No function is named here.
-/
namespace Go.Proofs.YtaaabmnaindgaaaGreatDoor
set_option maxRecDepth 100000
open Go.RowKit

/-- A row in a row: what it is, how long, its cells. -/
abbrev Rin := Value × Nat × List Value
/-- Rows in a row. -/
def RwsN (w : World) (s : Nat) (v : Value) (R : List Rin) : Prop := Rw w 1 v R.length (R.map (·.1)) ∧ ∀ x ∈ R, Rw w s x.1 x.2.1 x.2.2
def catN (R : List Rin) : Nat := (R.map (·.2.1)).sum
def catC (R : List Rin) : List Value := R.flatMap (·.2.2)
theorem RwsN.below {w w' : World} {s : Nat} {v : Value} {R : List Rin} (h : RwsN w s v R) (hb : Below w.heap.size w w') : RwsN w' s v R := ⟨Rw.below h.1 hb, fun x hx => (h.2 x hx).below hb⟩
theorem RwsN.form {w : World} {s : Nat} {v : Value} {R : List Rin} (h : RwsN w s v R) : ∃ ao cap, v = .slice ao R.length cap := Rw.form h.1
theorem RwsN.at {w : World} {s : Nat} {ao : Option Addr} {n cap : Nat} {R : List Rin} (h : RwsN w s (.slice ao n cap) R) {k : Nat} (hk : k < R.length) : ∃ b off ar cr, ao = some ⟨b, off, none⟩ ∧ w.cell? ⟨b, off + k, none⟩ = some (.slice ar R[k].2.1 cr) ∧ Rw w s (.slice ar R[k].2.1 cr) R[k].2.1 R[k].2.2 := by
  have hx := h.2 _ (List.getElem_mem hk)
  obtain ⟨ar, cr, hv⟩ := hx.form
  obtain ⟨⟨_, ao', cap', he, _, hc⟩, _⟩ := h
  cases he
  rcases hc with h0 | ⟨b, off, rfl, hc⟩
  · omega
  · have := hc k (by simpa using hk)
    rw [List.getElem_map] at this
    exact ⟨b, off, ar, cr, rfl, hv ▸ this, hv ▸ hx⟩
theorem catN_succ {R : List Rin} {k : Nat} (hk : k < R.length) : catN (R.take (k + 1)) = catN (R.take k) + R[k].2.1 := by
  unfold catN
  rw [List.take_succ_eq_append_getElem hk, List.map_append, List.sum_append]
  simp
theorem catC_succ {R : List Rin} {k : Nat} (hk : k < R.length) : catC (R.take (k + 1)) = catC (R.take k) ++ R[k].2.2 := by
  unfold catC
  rw [List.take_succ_eq_append_getElem hk, List.flatMap_append]
  simp
theorem catN_le (R : List Rin) (k : Nat) : catN (R.take k) ≤ catN R := by
  unfold catN
  rw [← List.take_append_drop k R, List.map_append, List.sum_append, List.take_append_drop]
  omega

end Go.Proofs.YtaaabmnaindgaaaGreatDoor

/-
  strings.Builder's WriteString, at a builder of the call's own.
-/
namespace Go.Proofs.YtaaabmnaindgaaaGreatDoor
set_option maxRecDepth 100000
open Go.RowKit

abbrev BT : TypeId := 187
theorem builder_info : ∃ j, Tryz.prog.info? 187 = some j ∧ j.size = 2 := by
  obtain ⟨j, hj, hs⟩ := Option.map_eq_some_iff.1 (show (Tryz.prog.info? 187).map (·.size) = some 2 by kernel_rfl)
  exact ⟨j, hj, hs⟩
theorem builder_lies : liesAt Tryz.prog Tryz.prog.depth 187 (2 / Tryz.prog.cellsOf 187) 0 187 1 = true := by kernel_rfl
theorem byte_info : (Tryz.prog.info? 5).map (fun i => (i.zero, i.size, i.bytes)) = some (some (.int .u8 0), 1, 1) := by kernel_rfl

/-- A builder stays what it is where only blocks above are made. -/
theorem builderAt_below {B b : Nat} {p : Value} {bs : List Value} {w w' : World} (h : Lib.BuilderAt BT 5 B b p bs w) (hb : Below w.heap.size w w') : Lib.BuilderAt BT 5 B b p bs w' := by
  have hlt := h.lt
  obtain ⟨hB, v, hk, ho, hn⟩ := h
  exact ⟨hB, v, (hb.block b hlt).trans hk, own_stays ho hb, hn⟩
theorem isBuilder_below {B b : Nat} {bs : List Value} {w w' : World} (h : Lib.IsBuilder BT 5 B b bs w) (hb : Below w.heap.size w w') : Lib.IsBuilder BT 5 B b bs w' :=
  h.imp (fun h => builderAt_below h hb) (fun h => builderAt_below h hb)
theorem isBuilder_new (w : World) : Lib.IsBuilder BT 5 w.heap.size w.heap.size [] (w.alloc (.cells #[.pointer none, .slice none 0 0] BT)) :=
  .inl ⟨Nat.le_refl _, _, heap_alloc_new w _, World.ownsRow_nil _ _ _ _, by simp [Value.ownBlock]⟩

set_option maxHeartbeats 1000000 in
/-- The check at a builder that was never written: it keeps its own address. -/
theorem bdCheck_new (b : Nat) (w : World) (h0 : w.cell? ⟨b, 0, none⟩ = some (.pointer none)) (hs : w.shape? b = some (BT, 2)) (hf : w.frozen? ⟨b, 0, none⟩ = false) :
    Calls Tryz.prog 144 #[.pointer (some ⟨b, 0, none⟩)] w fun e w' => e = .returned (.tuple #[]) ∧ w' = w.setCell ⟨b, 0, none⟩ (.pointer (some ⟨b, 0, none⟩)) := by
  obtain ⟨j, hj, hjs⟩ := builder_info
  have k1 := Lib.run_to_unsafe (P := Tryz.prog) w (src := 184) (dst := 231) ⟨b, 0, none⟩ Tryz.underlying184 Tryz.underlying231 hj (by rw [hjs]; decide) hs (Nat.zero_lt_succ 1)
  have k2 := Lib.run_from_unsafe (P := Tryz.prog) w (src := 231) (dst := 184) ⟨b, 0, none⟩ Tryz.underlying231 Tryz.underlying184 hj hs builder_lies
  have k3 := run_callFunc_extern (P := Tryz.prog) Tryz.func158 (by kernel_rfl) (by kernel_rfl) (by kernel_rfl) (e := Extern.AbiNoEscape.same) (by kernel_rfl) (args := #[.pointer (some ⟨b, 0, none⟩)]) (w := w)
  go_enter Tryz.func144, Tryz.ntmps144
  go_wp2_with fail
  rw [Lib.run_noEscape]
  simp only [Result.andThen]
  rw [Oper.upon_value]
  go_wp2_with fail
  go_end0
  exact ⟨rfl, rfl⟩

set_option maxHeartbeats 1000000 in
/-- The check at a builder that was written. -/
theorem bdCheck_old (b : Nat) (w : World) (h0 : w.cell? ⟨b, 0, none⟩ = some (.pointer (some ⟨b, 0, none⟩))) :
    Calls Tryz.prog 144 #[.pointer (some ⟨b, 0, none⟩)] w fun e w' => e = .returned (.tuple #[]) ∧ w' = w := by
  obtain ⟨j, hj, _⟩ := builder_info
  have k := Lib.run_neq_ptr_same (P := Tryz.prog) w (tp := 184) ⟨b, 0, none⟩ Tryz.underlying184 hj
  go_enter Tryz.func144, Tryz.ntmps144
  go_wp2_with fail
  go_end0
  exact ⟨rfl, rfl⟩

theorem bdCheck_calls (B b : Nat) (bs : List Value) (w : World) (h : Lib.IsBuilder BT 5 B b bs w) :
    Calls Tryz.prog 144 #[.pointer (some ⟨b, 0, none⟩)] w fun e w' => e = .returned (.tuple #[]) ∧ Lib.BuilderAt BT 5 B b (.pointer (some ⟨b, 0, none⟩)) bs w' ∧ Below B w w' := by
  rcases h with h | h
  · refine (bdCheck_new b w h.cell0 h.shape h.frozen0).mono ?_
    rintro e w' ⟨rfl, rfl⟩
    exact ⟨rfl, h.used _, (Below.refl B w).setCell (p := ⟨b, 0, none⟩) h.1 _⟩
  · refine (bdCheck_old b w h.cell0).mono ?_
    rintro e w' ⟨rfl, rfl⟩
    exact ⟨rfl, h, Below.refl B _⟩

set_option maxHeartbeats 2000000 in
/-- A text is written behind what a builder holds. -/
theorem writeString_calls (B b : Nat) (pre s : List UInt8) (w : World) (h : Lib.IsBuilder BT 5 B b (Lib.byteCells pre) w) (hl : pre.length + s.length ≤ 140737488355328) (hw : B ≤ w.heap.size) :
    Calls Tryz.prog 121 #[.pointer (some ⟨b, 0, none⟩), .string ⟨s.toArray⟩] w fun e w' => e = .returned (.tuple #[.int .i64 s.length, .nilIface]) ∧ Lib.IsBuilder BT 5 B b (Lib.byteCells (pre ++ s)) w' ∧ Below B w w' := by
  obtain ⟨i0, hi, hz0, hz1, hz2⟩ := info_parts byte_info
  go_enter Tryz.func121, Tryz.ntmps121
  go_wp2_with fail
  refine (bdCheck_calls B b _ _ h).mono ?_
  rintro e w1 ⟨rfl, h1, hb1⟩
  have hlt := h1.lt
  obtain ⟨hB, v, hk, ho, hn⟩ := h1
  have c1 : w1.cell? ⟨b, 1, none⟩ = some v := by rw [cell_of_row w1 b 1 _ _ _ hk]; rfl
  have hlen : (Lib.byteCells pre).length = pre.length := Lib.byteCells_length pre
  have hsz : (ByteArray.mk s.toArray).size = s.length := size_mk s
  have HL := Lib.hid (And.intro hlen hsz)
  have hb1z := hb1.size
  go_wp2_with (at_builtin; (refine Lib.wpList_append_own_string _ rfl _ _ 185 9 rfl B 5 i0 Tryz.underlying185 Tryz.underlying9 hi hz0 hz1 hz2 _ _ _ rfl ho ⟨s.toArray⟩ rfl (by rw [HL.out.1, HL.out.2]; unfold maxLen; omega) (by rw [HL.out.1, HL.out.2]; exact hl) (by omega) ?_))
  intro v2 w2 ho2 hg _
  have hk2 : w2.heap[b]? = some (.cells #[.pointer (some ⟨b, 0, none⟩), v] BT (0, 0)) := by
    rw [hg.block b hlt (fun e => hn e.symm)]
    exact hk
  have hf : w2.frozen? ⟨b, 1, none⟩ = false := by simp [World.frozen?, hk2]
  have c2 : w2.cell? ⟨b, 1, none⟩ = some v := by rw [cell_of_row w2 b 1 _ _ _ hk2]; rfl
  obtain ⟨ao, n2, cap, rfl⟩ : ∃ ao n2 cap, v2 = .slice ao n2 cap := by
    rcases ho2.2 with ⟨hv, _⟩ | ⟨g, cap, cur, hv, _⟩
    · exact ⟨_, _, _, hv⟩
    · exact ⟨_, _, _, hv⟩
  go_wp2_with fail
  go_ret2
  refine ⟨rfl, .inr ?_, (hb1.grown hg (by omega) (fun k hk => (ho.lt k hk).1)).setCell (p := ⟨b, 1, none⟩) hB _⟩
  rw [Lib.byteCells_append]
  refine Lib.BuilderAt.put (T := BT) (e := 5) hB hk2 (bs' := Lib.byteCells pre ++ Lib.byteCells s) ?_ (by decide)
  rw [List.length_append, Lib.byteCells_length s, hlen]
  exact ho2

theorem builder_String (B b : Nat) (l : List UInt8) (w : World) (h : Lib.IsBuilder BT 5 B b (Lib.byteCells l) w) (hw : B ≤ w.heap.size) :
    Calls Tryz.prog 122 #[.pointer (some ⟨b, 0, none⟩)] w fun e w' => e = .returned (.string ⟨l.toArray⟩) ∧ Below B w w' := Tryz.Builder_String_any B b l w h hw

end Go.Proofs.YtaaabmnaindgaaaGreatDoor

/-
  A row of ints, from the n-th on.
-/
namespace Go.Proofs.YtaaabmnaindgaaaGreatDoor
set_option maxRecDepth 100000
open Go.RowKit

theorem int_elem : Tryz.prog.elem 49 = 3 := by kernel_rfl
theorem int_slice : Tryz.prog.underlying 49 = some (.slice (Tryz.prog.elem 49)) := by kernel_rfl
theorem int_size (W : World) : (sizeOf 3).run Tryz.prog W = .ok 1 W := by
  have h : (Tryz.prog.info? 3).map (·.size) = some 1 := by kernel_rfl
  cases hq : Tryz.prog.info? 3 with
  | none => simp [hq] at h
  | some i =>
    have hs : i.size = 1 := by simpa [hq] using h
    simp [sizeOf, typeInfo, hq, hs]
theorem Ints.len {w : World} {ao : Option Addr} {n cap : Nat} {l : List Int} (h : Ints w (.slice ao n cap) l) : n = l.length ∧ n ≤ cap := by
  obtain ⟨_, ao', c, he, hc, _⟩ := h
  cases he
  exact ⟨rfl, hc⟩
theorem Ints.first {w : World} {ao : Option Addr} {n cap : Nat} {l : List Int} (h : Ints w (.slice ao n cap) l) (h0 : l ≠ []) : ∃ b off, ao = some ⟨b, off, none⟩ ∧ ∀ j (hj : j < l.length), w.cell? ⟨b, off + j, none⟩ = some (.int .i64 l[j]) := by
  obtain ⟨_, ao', c, he, _, h1 | ⟨b, off, rfl, hc⟩⟩ := h
  · exact absurd (List.eq_nil_of_length_eq_zero h1) h0
  · cases he
    refine ⟨b, off, rfl, fun j hj => ?_⟩
    have := hc j (by simpa using hj)
    simpa using this
/-- A slice from the n-th int on. -/
theorem ints_from {w : World} {b off k cap : Nat} {l : List Int} (h : Ints w (.slice (some ⟨b, off, none⟩) k cap) l) (n m : Nat) (hn : n ≤ k) (hm : n + m = k) :
    ∃ a1 c1, (∀ W, (Instr.slice 49 (.slice (some ⟨b, off, none⟩) k cap) (some (.int .i64 (n : Int))) none none).run Tryz.prog W = .ok (.slice a1 m c1) W) ∧ Ints w (.slice a1 m c1) (l.drop n) := by
  obtain ⟨hk, hc⟩ := h.len
  subst hk
  have hm' : m = l.length - n := by omega
  have hr : ∀ W, (Instr.slice 49 (.slice (some ⟨b, off, none⟩) l.length cap) (some (.int .i64 (n : Int))) none none).run Tryz.prog W = .ok (sliced (some ⟨b, off, none⟩) n l.length cap 1) W := by
    intro W
    rw [run_slice_l W _ _ l.length cap int_slice .i64 n (by omega) (by omega), int_elem, int_size]
    rfl
  unfold sliced at hr
  rw [← hm'] at hr
  refine ⟨_, _, hr, ?_⟩
  have hl : (l.drop n).length = m := by simp; omega
  refine ⟨by simp, _, cap - n, by rw [hl], by rw [hl]; omega, ?_⟩
  rw [hl]
  by_cases h0 : m = 0
  · exact .inl h0
  · have hne : cap ≠ n := by omega
    rw [if_neg hne, Option.map_some, Go.WideShapes.add_plain]
    obtain ⟨b', off', he, hcs⟩ := h.first (by intro e; subst e; simp at hm'; omega)
    cases he
    refine .inr ⟨b, _, rfl, fun j hj => ?_⟩
    have hj2 : j < m := by rw [List.length_map, hl] at hj; exact hj
    have h2 := hcs (n + j) (by omega)
    rw [Nat.mul_one, Nat.add_assoc, h2]
    simp

end Go.Proofs.YtaaabmnaindgaaaGreatDoor
