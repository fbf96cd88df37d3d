/-
  The texts of one folder in one: Ground, Cell, Rw, Ints, NilApp, RowOf, Keeps, RetFn, RowOpen.
-/
import Derived.Test.YtogicnciheedoaaDoorRows
import Derived.WalkKit
import Derived.ProofKit
import Derived.OpenShut
import Derived.ShutString
import Derived.ChangeOld
import Derived.Below
import Derived.SliceStrings
import Derived.Maps.AppendAt
import Derived.Lib.Hide
import Derived.Lib.Strings
import Derived.Laws.IdiomStrings
import Derived.WalkLawsBesides
import Derived.WalkSmall
import Derived.Laws.OwnMore
import Derived.SizedLaws
import Derived.ChangeSlices
import Derived.Deep.RegionLaw
import Derived.OwnWalk
import Derived.RangeFuncBox
import Derived.RangeFuncOwn
import Derived.Lib.SmallJoins
import Derived.Deep.Grids
import Derived.ChangeSame

/-
  What the texts of all stages share: bytes as lists, slices of texts, worlds.
-/
namespace Go.Proofs.YtogicnciheedoaaDoor
set_option maxRecDepth 100000
open Go.ChangeShapes Go.WideShapes Go.ChangeAt Go.RowKit
open Go.ChangeMaps (open_string shut_string)

theorem own_knob : ownKnob Tryd.prog.godebug = none := by kernel_rfl
theorem laid_out : laidOutB Tryd.prog = true := by kernel_rfl
theorem bytes_list (s : ByteArray) : ∃ l : List UInt8, s = ⟨l.toArray⟩ := ⟨s.data.toList, by cases s; simp⟩
/-- A text as a cell. -/
def SV (t : List UInt8) : Value := .string ⟨t.toArray⟩
/-- The slice v reads as these texts. -/
def Strs (w : World) (v : Value) (ls : List (List UInt8)) : Prop :=
  ∃ ao cap, v = .slice ao ls.length cap ∧ (ls = [] ∨ ∃ b off, ao = some ⟨b, off, none⟩ ∧ ∀ i (h : i < ls.length), w.cell? ⟨b, off + i, none⟩ = some (.string ⟨ls[i].toArray⟩))

theorem Strs.below {w w' : World} {v : Value} {ls : List (List UInt8)} (h : Strs w v ls) (hb : Below w.heap.size w w') : Strs w' v ls := by
  obtain ⟨ao, cap, rfl, h | ⟨b, off, rfl, hc⟩⟩ := h
  · exact ⟨ao, cap, rfl, .inl h⟩
  · refine ⟨_, cap, rfl, .inr ⟨b, off, rfl, fun i hi => ?_⟩⟩
    have h1 := hc i hi
    exact (hb.cell (p := ⟨b, off + i, none⟩) (World.block_lt_of_cell? w _ h1)).trans h1
theorem Strs.at {w : World} {ao : Option Addr} {n cap : Nat} {ls : List (List UInt8)} (h : Strs w (.slice ao n cap) ls) {k : Nat} (hk : k < ls.length) : ∃ b off, ao = some ⟨b, off, none⟩ ∧ w.cell? ⟨b, off + k, none⟩ = some (.string ⟨ls[k].toArray⟩) := by
  obtain ⟨ao', cap', he, hc⟩ := h
  cases he
  rcases hc with h0 | ⟨b, off, rfl, hc⟩
  · subst h0; simp at hk
  · exact ⟨b, off, rfl, hc k hk⟩
theorem Strs.form {w : World} {v : Value} {ls : List (List UInt8)} (h : Strs w v ls) : ∃ ao cap, v = .slice ao ls.length cap := by
  obtain ⟨ao, cap, rfl, _⟩ := h
  exact ⟨ao, cap, rfl⟩
theorem below2 {a b c : World} (h1 : Below a.heap.size a b) (h2 : Below b.heap.size b c) : Below a.heap.size a c := h1.trans (h2.mono h1.size)
theorem below_alloc (w : World) (o : Obj) : Below w.heap.size w (w.alloc o) := (Below.refl _ w).alloc (Nat.le_refl _) o
theorem drew_below (w : World) : Below w.heap.size w w.drew := ⟨rfl, rfl, rfl, Nat.le_refl _, fun _ _ => rfl⟩
/-- Texts in a slice, with room. -/
def Txts (w : World) (v : Value) (ls : List (List UInt8)) : Prop :=
  ∃ ao cap, v = .slice ao ls.length cap ∧ ls.length ≤ cap ∧ (ls = [] ∨ ∃ b off, ao = some ⟨b, off, none⟩ ∧ ∀ i (h : i < ls.length), w.cell? ⟨b, off + i, none⟩ = some (SV ls[i]))
theorem Txts.below {w w' : World} {v : Value} {ls : List (List UInt8)} (h : Txts w v ls) (hb : Below w.heap.size w w') : Txts w' v ls := by
  obtain ⟨ao, cap, rfl, hc, h | ⟨b, off, rfl, hcs⟩⟩ := h
  · exact ⟨ao, cap, rfl, hc, .inl h⟩
  · refine ⟨_, cap, rfl, hc, .inr ⟨b, off, rfl, fun i hi => ?_⟩⟩
    have h1 := hcs i hi
    exact (hb.cell (p := ⟨b, off + i, none⟩) (World.block_lt_of_cell? w _ h1)).trans h1
theorem Txts.nil (w : World) : Txts w (.slice none 0 0) [] := ⟨none, 0, rfl, Nat.le_refl _, .inl rfl⟩
theorem Txts.take {w : World} {ao : Option Addr} {n cap : Nat} {ls : List (List UInt8)} (h : Txts w (.slice ao n cap) ls) (k : Nat) (hk : k ≤ ls.length) : Txts w (.slice ao k cap) (ls.take k) := by
  obtain ⟨ao', c, he, hc, h⟩ := h
  cases he
  have hl : (ls.take k).length = k := by simp; omega
  refine ⟨ao, cap, by rw [hl], by omega, ?_⟩
  rcases h with h0 | ⟨b', off', he, hcs⟩
  · subst h0; left; simp
  · exact .inr ⟨b', off', he, fun i hi => by rw [hcs i (by omega)]; simp⟩
theorem Txts.new (w : World) (ls : List (List UInt8)) (t : TypeId) : Txts (w.alloc (.cells (ls.map SV).toArray t)) (.slice (some ⟨w.heap.size, 0, none⟩) ls.length ls.length) ls := by
  refine ⟨_, _, rfl, Nat.le_refl _, .inr ⟨w.heap.size, 0, rfl, fun i hi => ?_⟩⟩
  rw [Nat.zero_add, World.cell?_alloc_new]
  simp [List.getElem?_eq_getElem hi]
theorem Txts.own {w : World} {base : Nat} {v : Value} {ts : List (List UInt8)} (h : w.ownsRow base 9 1 v ts.length (ts.map SV)) : Txts w v ts := by
  rcases h.2 with ⟨rfl, hn⟩ | ⟨g, cap, cur, rfl, _, _, hc, _⟩
  · have : ts = [] := List.eq_nil_of_length_eq_zero hn
    subst this
    exact Txts.nil w
  · refine ⟨_, cap, rfl, hc, .inr ⟨g, 0, rfl, fun i hi => ?_⟩⟩
    have h1 := h.cells (g := g) rfl i (SV ts[i]) (by simp [List.getElem?_eq_getElem hi])
    rw [Go.WideShapes.add_plain] at h1
    exact h1
/-- The slice is not empty: it has an address. -/
theorem Txts.some {w : World} {v : Value} {ls : List (List UInt8)} (h : Txts w v ls) (h0 : ls ≠ []) : ∃ b off cap, v = .slice (some ⟨b, off, none⟩) ls.length cap ∧ ls.length ≤ cap ∧ ∀ i (h : i < ls.length), w.cell? ⟨b, off + i, none⟩ = some (SV ls[i]) := by
  obtain ⟨ao, cap, rfl, hc, h⟩ := h
  obtain ⟨b, off, rfl, hcs⟩ := h.resolve_left h0
  exact ⟨b, off, cap, rfl, hc, hcs⟩

theorem grown_trans {a b c : World} {row : Option Nat} (h : a.grownBy b row) (k : b.grownBy c row) : a.grownBy c row :=
  ⟨k.os.trans h.os, k.tape.trans h.tape, k.output.trans h.output, Nat.le_trans h.size k.size, fun i hi hne => (k.block i (Nat.lt_of_lt_of_le hi h.size) hne).trans (h.block i hi hne)⟩

theorem grown_refl (w : World) (row : Option Nat) : w.grownBy w row := ⟨rfl, rfl, rfl, Nat.le_refl _, fun _ _ _ => rfl⟩

theorem below_grown {w w' : World} (h : Below w.heap.size w w') : w.grownBy w' none := ⟨h.os, h.tape, h.output, h.size, fun k hk _ => h.block k hk⟩

end Go.Proofs.YtogicnciheedoaaDoor

/-
  Blocks of several cells: what is loaded of them; what stays below; the bounds of an int. No function is named here.
-/
namespace Go.Proofs.YtogicnciheedoaaDoor
set_option maxRecDepth 100000
open Go.RowKit

theorem below_alloc2 (w : World) (o1 o2 : Obj) : Below w.heap.size w ((w.alloc o1).alloc o2) := (below_alloc w o1).alloc (by simp) o2
theorem below_alloc3 (w : World) (o1 o2 o3 : Obj) : Below w.heap.size w (((w.alloc o1).alloc o2).alloc o3) := (below_alloc2 w o1 o2).alloc (by simp; omega) o3
/-- One cell that there was reads as it did. -/
theorem look_below {W w1 : World} {b o : Nat} {v : Value} (hb : Below W.heap.size W w1) (h : W.cell? ⟨b, o, none⟩ = some v) : w1.cell? ⟨b, o, none⟩ = some v :=
  (hb.cell (p := ⟨b, o, none⟩) (World.block_lt_of_cell? W _ h)).trans h
theorem own_weak {w : World} {b b' k : Nat} {e : TypeId} {v : Value} {n : Nat} {xs : List Value} (h : w.ownsRow b' e k v n xs) (hb : b ≤ b') : w.ownsRow b e k v n xs := by
  refine ⟨h.1, ?_⟩
  rcases h.2 with hn | ⟨g, cap, cur, rfl, hbg, rest⟩
  · exact .inl hn
  · exact .inr ⟨g, cap, cur, rfl, Nat.le_trans hb hbg, rest⟩
theorem own_stays {w w' : World} {base k : Nat} {e : TypeId} {v : Value} {n : Nat} {xs : List Value} (h : w.ownsRow base e k v n xs) (hb : Below w.heap.size w w') : w'.ownsRow base e k v n xs :=
  h.kept (below_grown hb) (by cases hv : v.ownBlock <;> simp)
/-- A block of a call's own, with these cells. -/
def Cx (w : World) (b : Nat) (t : TypeId) (cs : List Value) : Prop := w.heap[b]? = some (.cells cs.toArray t (0, 0))
theorem Cx.lt {w : World} {b : Nat} {t : TypeId} {cs : List Value} (h : Cx w b t cs) : b < w.heap.size := (Array.getElem?_eq_some_iff.1 h).1
theorem Cx.cell {w : World} {b : Nat} {t : TypeId} {cs : List Value} (h : Cx w b t cs) {j : Nat} {v : Value} (hj : cs[j]? = some v) : w.cell? ⟨b, j, none⟩ = some v := by
  rw [cell_of_row w b j _ _ _ h]
  simpa using hj
theorem Cx.frozen {w : World} {b : Nat} {t : TypeId} {cs : List Value} (h : Cx w b t cs) (j : Nat) : w.frozen? ⟨b, j, none⟩ = false := by
  unfold Cx at h
  simp [World.frozen?, h]
theorem Cx.below {w w' : World} {b : Nat} {t : TypeId} {cs : List Value} (h : Cx w b t cs) (hb : Below w.heap.size w w') : Cx w' b t cs := by
  unfold Cx
  rw [hb.block _ h.lt]
  exact h
theorem Cx.new (w : World) (t : TypeId) (cs : List Value) : Cx (w.alloc (.cells cs.toArray t)) w.heap.size t cs := heap_alloc_new w _
theorem Cx.set {w : World} {b : Nat} {t : TypeId} {cs : List Value} (h : Cx w b t cs) (j : Nat) (v : Value) : Cx (w.setCell ⟨b, j, none⟩ v) b t (cs.set j v) := by
  have h1 := heap_setCell_same w b j _ _ v h
  unfold Cx
  rw [h1]
  simp
theorem Cx.other {w : World} {b b' j : Nat} {t : TypeId} {cs : List Value} (h : Cx w b t cs) (hne : b ≠ b') (v : Value) : Cx (w.setCell ⟨b', j, none⟩ v) b t cs := by
  unfold Cx
  rw [heap_setCell_other _ ⟨b', j, none⟩ b v hne]
  exact h
theorem Cx.three {w : World} {b : Nat} {t : TypeId} {v0 v1 v2 : Value} (h : Cx w b t [v0, v1, v2]) : w.cell? ⟨b, 0, none⟩ = some v0 ∧ w.cell? ⟨b, 1, none⟩ = some v1 ∧ w.cell? ⟨b, 2, none⟩ = some v2 ∧
    w.frozen? ⟨b, 0, none⟩ = false ∧ w.frozen? ⟨b, 1, none⟩ = false ∧ w.frozen? ⟨b, 2, none⟩ = false ∧ b < w.heap.size :=
  ⟨h.cell rfl, h.cell rfl, h.cell rfl, h.frozen _, h.frozen _, h.frozen _, h.lt⟩
end Go.Proofs.YtogicnciheedoaaDoor

/-
  Rows of elements of several cells; appends of whatever row. No function is named here.
-/
namespace Go.Proofs.YtogicnciheedoaaDoor
set_option maxRecDepth 100000
open Go.RowKit

/-- A row of n elements of k cells each reads as these cells. -/
def Rw (w : World) (k : Nat) (v : Value) (n : Nat) (cs : List Value) : Prop :=
  cs.length = n * k ∧ ∃ ao cap, v = .slice ao n cap ∧ n ≤ cap ∧ (n = 0 ∨ ∃ b off, ao = some ⟨b, off, none⟩ ∧ ∀ j (h : j < cs.length), w.cell? ⟨b, off + j, none⟩ = some cs[j])

theorem Rw.below {w w' : World} {k n : Nat} {v : Value} {cs : List Value} (h : Rw w k v n cs) (hb : Below w.heap.size w w') : Rw w' k v n cs := by
  obtain ⟨hl, ao, cap, rfl, hc, h | ⟨b, off, rfl, hcs⟩⟩ := h
  · exact ⟨hl, ao, cap, rfl, hc, .inl h⟩
  · refine ⟨hl, _, cap, rfl, hc, .inr ⟨b, off, rfl, fun j hj => ?_⟩⟩
    have h1 := hcs j hj
    exact (hb.cell (p := ⟨b, off + j, none⟩) (World.block_lt_of_cell? w _ h1)).trans h1
theorem Rw.nil (w : World) (k : Nat) : Rw w k (.slice none 0 0) 0 [] := ⟨by simp, none, 0, rfl, Nat.le_refl _, .inl rfl⟩
theorem Rw.form {w : World} {k n : Nat} {v : Value} {cs : List Value} (h : Rw w k v n cs) : ∃ ao cap, v = .slice ao n cap := by
  obtain ⟨_, ao, cap, rfl, _⟩ := h
  exact ⟨ao, cap, rfl⟩
theorem Rw.own {w : World} {base k n : Nat} {e : TypeId} {v : Value} {cs : List Value} (h : w.ownsRow base e k v n cs) : Rw w k v n cs := by
  rcases h.2 with ⟨rfl, rfl⟩ | ⟨g, cap, cur, rfl, _, _, hc, _⟩
  · exact ⟨h.1, none, 0, rfl, Nat.le_refl _, .inl rfl⟩
  · refine ⟨h.1, _, cap, rfl, hc, .inr ⟨g, 0, rfl, fun j hj => ?_⟩⟩
    have h1 := h.cells (g := g) rfl j cs[j] (by simp [List.getElem?_eq_getElem hj])
    rw [Go.WideShapes.add_plain] at h1
    exact h1
theorem rowN_news {w : World} {k n cap : Nat} {a : Addr} {cs : List Value} (h : Rw w k (.slice (some a) n cap) n cs) : ∀ j u, cs[j]? = some u → w.cell? (a.add j) = some u := by
  intro j u hj
  obtain ⟨hj1, hju⟩ := List.getElem?_eq_some_iff.1 hj
  obtain ⟨hl, ao, c, he, _, h0 | ⟨b, off, rfl, hc⟩⟩ := h
  · subst h0; omega
  · cases he
    rw [Go.WideShapes.add_plain, hc j hj1, hju]
end Go.Proofs.YtogicnciheedoaaDoor

/-
  Rows of ints.
-/
namespace Go.Proofs.YtogicnciheedoaaDoor
set_option maxRecDepth 100000
open Go.RowKit Go.ChangeShapes Go.WideShapes

/-- The slice v reads as these ints. -/
def Ints (w : World) (v : Value) (zs : List Int) : Prop := Rw w 1 v zs.length (zs.map (Value.int .i64))
theorem Ints.below {w w' : World} {v : Value} {zs : List Int} (h : Ints w v zs) (hb : Below w.heap.size w w') : Ints w' v zs := Rw.below h hb
theorem Ints.form {w : World} {v : Value} {zs : List Int} (h : Ints w v zs) : ∃ ao cap, v = .slice ao zs.length cap := Rw.form h
theorem Ints.at {w : World} {ao : Option Addr} {n cap : Nat} {zs : List Int} (h : Ints w (.slice ao n cap) zs) {k : Nat} (hk : k < zs.length) : ∃ b off, ao = some ⟨b, off, none⟩ ∧ w.cell? ⟨b, off + k, none⟩ = some (.int .i64 zs[k]) := by
  obtain ⟨_, ao', cap', he, _, hc⟩ := h
  cases he
  rcases hc with h0 | ⟨b, off, rfl, hc⟩
  · omega
  · refine ⟨b, off, rfl, ?_⟩
    have := hc k (by simpa using hk)
    simpa using this
/-- A row of ints that came in, as it lies in whatever holds it. -/
theorem ints_trod_wf {W : World} {n : Nat} {c : Value} {H : Type} {enc : TypeId × Value → H} {x : DataW H × List MemPlace} (hf : DataW.trod enc Tryd.prog W 0 (fun _ => true) true n 32 [c] = some x) : ∃ zs, Ints W c zs ∧ zs.length ≤ maxLen ∧ ∀ n ∈ zs, (Lit.int .i64 n).wf = true := by
  rcases open_ints Tryd.underlying32 Tryd.underlying3 (by kernel_rfl) hf with ⟨hcs, _⟩ | ⟨a, l, c, zs, hcs, _, hl, hm, hz, _, hcell, hwf⟩
  · simp at hcs
    subst hcs
    exact ⟨[], Rw.nil W 1, by simp, by simp⟩
  · simp at hcs
    subst hcs
    have hz' : zs.length = c := by simpa using hz
    have hll : (zs.take l).length = l := by rw [List.length_take]; omega
    refine ⟨zs.take l, ⟨by simp, some a, c, by rw [hll], by rw [hll]; omega, ?_⟩, by rw [hll]; omega, fun n hn => hwf n (List.mem_of_mem_take hn)⟩
    by_cases h0 : l = 0
    · left; rw [hll]; exact h0
    · right
      obtain ⟨b, off, spot⟩ := a
      have hspot : spot = none := by simpa [Addr.add] using World.cell?_spot (hcell 0 (by omega))
      subst hspot
      refine ⟨b, off, rfl, fun j hj => ?_⟩
      have hj2 : j < l := by rw [List.length_map, hll] at hj; exact hj
      have h1 := hcell j (by omega)
      rw [Go.WideShapes.add_plain] at h1
      rw [h1]
      have h3 : j < zs.length := by omega
      simp [List.getD, List.getElem?_eq_getElem h3]
theorem ints_trod {W : World} {n : Nat} {c : Value} {H : Type} {enc : TypeId × Value → H} {x : DataW H × List MemPlace} (hf : DataW.trod enc Tryd.prog W 0 (fun _ => true) true n 32 [c] = some x) : ∃ zs, Ints W c zs ∧ zs.length ≤ maxLen :=
  let ⟨zs, h1, h2, _⟩ := ints_trod_wf hf
  ⟨zs, h1, h2⟩
end Go.Proofs.YtogicnciheedoaaDoor

/-
  An append to nil of whatever row, as one step of a region that draws.
-/
namespace Go.Proofs.YtogicnciheedoaaDoor
set_option maxRecDepth 100000
open Go.RowKit

/-- An append of nil to a row of the call's own. -/
theorem run_append_noneC {w : World} (base : Nat) (t ty e : TypeId) (i : TypeInfo) (size c : Nat) (ht : Tryd.prog.underlying t = some (.slice e)) (hi : Tryd.prog.info? e = some i)
    (v : Value) (n : Nat) (xs : List Value) (hown : w.ownsRow base e size v n xs) :
    (Builtin.append_ #[t, t] ty #[v, .slice none 0 c]).run Tryd.prog w = .ok v w := by
  rcases hown.2 with ⟨rfl, rfl⟩ | ⟨g, cap, cur, rfl, _, _, hnc, _⟩
  · simp [Builtin.append_, run_underlying ht, sizeOf, typeInfo, hi, Builtin.lenOf, Builtin.firstCells]
  · simp [Builtin.append_, run_underlying ht, sizeOf, typeInfo, hi, Builtin.lenOf, Builtin.firstCells, hnc, storeCells]
/-- An append to a row of the call's own, of whatever row: nil, empty or not. -/
theorem wpList_append_rw {w : World} {ops : Array Oper} {rest : List Oper} {o : Oper} {a : Act} {Q : Exit → Act → World → Prop} (hgd : o.guard = none) (s x : Operand) (t : TypeId)
    (ho : o.op = .call { callee := .builtin .append, args := #[s, x], argTypes := #[t, t] })
    (base : Nat) (e : TypeId) (i : TypeInfo) (z : Value) (size bytes : Nat) (ht : Tryd.prog.underlying t = some (.slice e)) (hi : Tryd.prog.info? e = some i) (hz : i.zero = some z)
    (hsize : i.size = size) (hby : i.bytes = bytes) (hzs : z.cells.size = size) (hsz : 0 < size)
    (v : Value) (n : Nat) (xs : List Value) (hs : a.eval s = v) (hown : w.ownsRow base e size v n xs) (ao : Option Addr) (m c : Nat) (news : List Value) (hx : a.eval x = .slice ao m c) (hR : Rw w size (.slice ao m c) m news) (h1 : ∀ u ∈ news, u.oneCell' = true)
    (k : Nat) (hk : n + m = k) (hm : k ≤ maxLen) (hbytes : k * bytes ≤ 140737488355328) (hbase : base ≤ w.heap.size)
    (h : ∀ ao' cap' w', w'.ownsRow base e size (.slice ao' k cap') k (xs ++ news) → w.grownBy w' v.ownBlock → wpList Tryd.prog ops Q rest (a.put o.dst (.slice ao' k cap')) w') : wpList Tryd.prog ops Q (o :: rest) a w := by
  subst hk
  refine wpList_plain hgd fun K hK => ?_
  cases ao with
  | none =>
    have hm0 : m = 0 := by
      obtain ⟨_, ao, c', he, _, h0 | ⟨b, off, h, _⟩⟩ := hR
      · exact h0
      · cases he; cases h
    subst hm0
    obtain rfl : news = [] := List.eq_nil_of_length_eq_zero (by rw [hR.1]; omega)
    have hrun := run_append_noneC base t o.type e i size c ht hi v n xs hown
    obtain ⟨ao', cap', rfl⟩ := (Rw.own hown).form
    unfold Oper.wp
    simp only [execOp, ho, resolve, invoke, builtin, Sem.run_bind, Sem.run_pure, Result.andThen_ok, List.map_toArray, List.map_cons, List.map_nil, hs, hx, hrun]
    exact hK _ _ (h ao' cap' w (by simpa using hown) (grown_refl _ _))
  | some ad =>
    obtain ⟨v', w', hr, h2, h3, _, _⟩ := run_append_own_at (P := Tryd.prog) w base t o.type e i z size bytes ht hi hz hsize hby hzs hsz v n xs hown ad m c news hR.1 (rowN_news hR) h1 hm hbytes hbase
    obtain ⟨ao', cap', rfl⟩ := (Rw.own h2).form
    unfold Oper.wp
    simp only [execOp, ho, resolve, invoke, builtin, Sem.run_bind, Sem.run_pure, Result.andThen_ok, List.map_toArray, List.map_cons, List.map_nil, hs, hx, hr]
    exact hK _ _ (h ao' cap' w' h2 h3)

end Go.Proofs.YtogicnciheedoaaDoor

/-
  Rows of structs in general: each element is k cells. Reading, parts of them, appends of one and of a row. No function and no type is named here.
-/
namespace Go.Proofs.YtogicnciheedoaaDoor
set_option maxRecDepth 100000
open Go.RowKit

section
variable {α : Type} (cell : α → List Value) (k : Nat)
def cellsOf (l : List α) : List Value := l.flatMap cell
/-- Each element has k cells. -/
def CellsK : Prop := 0 < k ∧ ∀ x, (cell x).length = k
/-- Each of an element's cells is one. -/
def CellsO : Prop := ∀ x, ∀ u ∈ cell x, u.oneCell' = true
/-- The slice v reads as these elements. -/
def RowOf (w : World) (v : Value) (l : List α) : Prop := Rw w k v l.length (cellsOf cell l)
/-- A row of such elements in memory of the call's own; e is their type. -/
def OwnOf (e : TypeId) (w : World) (base : Nat) (v : Value) (l : List α) : Prop := w.ownsRow base e k v l.length (cellsOf cell l)
end

section
variable {α : Type} {cell : α → List Value} {k : Nat}
theorem cellsOf_cons (x : α) (r : List α) : cellsOf cell (x :: r) = cell x ++ cellsOf cell r := rfl
theorem cellsOf_append (a b : List α) : cellsOf cell (a ++ b) = cellsOf cell a ++ cellsOf cell b := by simp [cellsOf]
theorem cellsOf_one (h : CellsO cell) (l : List α) : ∀ u ∈ cellsOf cell l, u.oneCell' = true := by
  intro u hu
  obtain ⟨x, _, hx⟩ := List.mem_flatMap.1 hu
  exact h x u hx
theorem cellsOf_len (h : CellsK cell k) (l : List α) : (cellsOf cell l).length = l.length * k := by
  induction l with
  | nil => simp [cellsOf]
  | cons x r ih => rw [cellsOf_cons, List.length_append, h.2, ih, List.length_cons, Nat.succ_mul, Nat.add_comm]
theorem cellsOf_take (h : CellsK cell k) (l : List α) (n : Nat) : cellsOf cell (l.take n) = (cellsOf cell l).take (n * k) := by
  induction l generalizing n with
  | nil => simp [cellsOf]
  | cons x r ih =>
    cases n with
    | zero => simp [cellsOf]
    | succ n =>
      rw [List.take_succ_cons, cellsOf_cons, cellsOf_cons, ih, show (n + 1) * k = k + n * k by rw [Nat.succ_mul]; omega, List.take_append, h.2, List.take_of_length_le (l := cell x) (by rw [h.2]; omega), Nat.add_sub_cancel_left]
theorem cellsOf_drop (h : CellsK cell k) (l : List α) (n : Nat) : cellsOf cell (l.drop n) = (cellsOf cell l).drop (n * k) := by
  induction l generalizing n with
  | nil => simp [cellsOf]
  | cons x r ih =>
    cases n with
    | zero => simp
    | succ n =>
      rw [List.drop_succ_cons, cellsOf_cons, ih, show (n + 1) * k = k + n * k by rw [Nat.succ_mul]; omega, List.drop_append, h.2, List.drop_of_length_le (l := cell x) (by rw [h.2]; omega), Nat.add_sub_cancel_left, List.nil_append]
theorem cellsOf_at (h : CellsK cell k) {l : List α} {i : Nat} (hi : i < l.length) {j : Nat} {u : Value} (hj : (cell l[i])[j]? = some u) : (cellsOf cell l)[i * k + j]? = some u := by
  have hjk : j < k := by
    obtain ⟨h1, _⟩ := List.getElem?_eq_some_iff.1 hj
    rw [h.2] at h1
    exact h1
  induction l generalizing i with
  | nil => simp at hi
  | cons x r ih =>
    cases i with
    | zero =>
      rw [cellsOf_cons, Nat.zero_mul, Nat.zero_add, List.getElem?_append_left (by rw [h.2]; exact hjk)]
      exact hj
    | succ i =>
      have h1 := ih (i := i) (by simpa using hi) hj
      rw [cellsOf_cons, List.getElem?_append_right (by rw [h.2, Nat.succ_mul]; omega), h.2]
      rw [show (i + 1) * k + j - k = i * k + j by rw [Nat.succ_mul]; omega]
      exact h1

theorem RowOf.below {w w' : World} {v : Value} {l : List α} (h : RowOf cell k w v l) (hb : Below w.heap.size w w') : RowOf cell k w' v l := Rw.below h hb
theorem RowOf.form {w : World} {v : Value} {l : List α} (h : RowOf cell k w v l) : ∃ ao cap, v = .slice ao l.length cap := Rw.form h
theorem RowOf.nil (w : World) : RowOf cell k w (.slice none 0 0) [] := Rw.nil w k
theorem RowOf.len {w : World} {ao : Option Addr} {n cap : Nat} {l : List α} (h : RowOf cell k w (.slice ao n cap) l) : l.length = n := by
  obtain ⟨_, ao', c, he, _, _⟩ := h
  cases he
  rfl
theorem RowOf.of_nil {w : World} {n cap : Nat} {l : List α} (h : RowOf cell k w (.slice none n cap) l) : l = [] := by
  obtain ⟨_, ao, c, he, _, h0 | ⟨b, off, h, _⟩⟩ := h
  · exact List.eq_nil_of_length_eq_zero h0
  · cases he; cases h
theorem RowOf.spot {w : World} {a : Addr} {n cap : Nat} {l : List α} (h : RowOf cell k w (.slice (some a) n cap) l) (h0 : l ≠ []) : ∃ b off, a = ⟨b, off, none⟩ := by
  obtain ⟨_, ao, c, he, _, h1 | ⟨b, off, h, _⟩⟩ := h
  · exact absurd (List.eq_nil_of_length_eq_zero h1) h0
  · cases he; cases h; exact ⟨b, off, rfl⟩
/-- The cells of the i-th element: the j-th one lies at off + i * k + j. -/
theorem RowOf.at (hk : CellsK cell k) {w : World} {ao : Option Addr} {n cap : Nat} {l : List α} (h : RowOf cell k w (.slice ao n cap) l) {i : Nat} (hi : i < l.length) :
    ∃ b off, ao = some ⟨b, off, none⟩ ∧ ∀ j u, (cell l[i])[j]? = some u → w.cell? ⟨b, off + i * k + j, none⟩ = some u := by
  obtain ⟨hl, ao', cap', he, _, hc⟩ := h
  cases he
  rcases hc with h0 | ⟨b, off, rfl, hc⟩
  · omega
  · refine ⟨b, off, rfl, fun j u hj => ?_⟩
    have h1 := cellsOf_at hk hi hj
    obtain ⟨h2, h3⟩ := List.getElem?_eq_some_iff.1 h1
    rw [Nat.add_assoc, hc _ h2, h3]
theorem RowOf.take (hk : CellsK cell k) {w : World} {ao : Option Addr} {n cap : Nat} {l : List α} (h : RowOf cell k w (.slice ao n cap) l) {m : Nat} (hm : m ≤ l.length) : RowOf cell k w (.slice ao m cap) (l.take m) := by
  obtain ⟨hl, ao', c, he, hc, h⟩ := h
  cases he
  have e : (l.take m).length = m := by simp; omega
  refine ⟨cellsOf_len hk _, ao, cap, by rw [e], by omega, ?_⟩
  rcases h with h0 | ⟨b, off, rfl, hcs⟩
  · exact .inl (by omega)
  · refine .inr ⟨b, off, rfl, fun j hj => ?_⟩
    have hj2 := hj
    rw [cellsOf_take hk, List.length_take] at hj2
    rw [hcs j (by omega)]
    simp only [cellsOf_take hk]
    rw [List.getElem_take]
theorem RowOf.drop (hk : CellsK cell k) {w : World} {b off n cap : Nat} {l : List α} (h : RowOf cell k w (.slice (some ⟨b, off, none⟩) n cap) l) {i m cap' : Nat} (hi : i ≤ l.length) (hm : m = l.length - i) (hc' : m ≤ cap') (o : Nat) (ho : o = off + i * k ∨ i = l.length) : RowOf cell k w (.slice (some ⟨b, o, none⟩) m cap') (l.drop i) := by
  obtain ⟨hl, ao', c, he, hc, h⟩ := h
  cases he
  have e : (l.drop i).length = m := by simp; omega
  refine ⟨cellsOf_len hk _, _, cap', by rw [e], by omega, ?_⟩
  by_cases h0 : i = l.length
  · exact .inl (by omega)
  · rcases h with h1 | ⟨b', off', he, hcs⟩
    · exact .inl (by omega)
    · cases he
      obtain rfl := ho.resolve_right h0
      refine .inr ⟨b, _, rfl, fun j hj => ?_⟩
      have hj2 := hj
      rw [cellsOf_drop hk, List.length_drop] at hj2
      rw [Nat.add_assoc, hcs (i * k + j) (by omega)]
      simp only [cellsOf_drop hk]
      rw [List.getElem_drop]
/-- Elements that are laid as they stand. -/
theorem rowOf_lit (hk : CellsK cell k) (w : World) (l : List α) (t : TypeId) : RowOf cell k (w.alloc (.cells (cellsOf cell l).toArray t)) (.slice (some ⟨w.heap.size, 0, none⟩) l.length l.length) l := by
  refine ⟨cellsOf_len hk l, _, _, rfl, Nat.le_refl _, .inr ⟨_, 0, rfl, fun j hj => ?_⟩⟩
  rw [Nat.zero_add, World.cell?_alloc_new]
  simp [List.getElem?_eq_getElem hj]

variable {e : TypeId}
theorem OwnOf.row {w : World} {base : Nat} {v : Value} {l : List α} (h : OwnOf cell k e w base v l) : RowOf cell k w v l := Rw.own h
theorem OwnOf.form {w : World} {base : Nat} {v : Value} {l : List α} (h : OwnOf cell k e w base v l) : ∃ ao cap, v = .slice ao l.length cap := Rw.form h.row
theorem OwnOf.weak {w : World} {b b' : Nat} {v : Value} {l : List α} (h : OwnOf cell k e w b' v l) (hb : b ≤ b') : OwnOf cell k e w b v l := own_weak h hb
theorem OwnOf.stays {w w' : World} {base : Nat} {v : Value} {l : List α} (h : OwnOf cell k e w base v l) (hb : Below w.heap.size w w') : OwnOf cell k e w' base v l := own_stays h hb
theorem OwnOf.nil (w : World) (base : Nat) : OwnOf cell k e w base (.slice none 0 0) [] := World.ownsRow_nil _ _ _ _

/-- An append of a row. -/
theorem wpList_app_rowOf (hk : CellsK cell k) (h1 : CellsO cell) {w : World} {ops : Array Oper} {rest : List Oper} {o : Oper} {a : Act} {Q : Exit → Act → World → Prop} (hgd : o.guard = none) (s x : Operand) (t : TypeId)
    (ho : o.op = .call { callee := .builtin .append, args := #[s, x], argTypes := #[t, t] }) (i : TypeInfo) (z : Value) (bytes : Nat) (ht : Tryd.prog.underlying t = some (.slice e)) (hi : Tryd.prog.info? e = some i) (hz : i.zero = some z) (hsize : i.size = k) (hby : i.bytes = bytes) (hzs : z.cells.size = k) (hb : bytes ≤ 1000)
    (base : Nat) (v : Value) (T : List α) (hs : a.eval s = v) (hown : OwnOf cell k e w base v T)
    (ao : Option Addr) (m c : Nat) (R : List α) (hx : a.eval x = .slice ao m c) (hR : RowOf cell k w (.slice ao m c) R) (U : List α) (hU : T ++ R = U) (q : Nat) (hq : U.length = q) (hq2 : q ≤ 1000000) (w0 : World) (hB : Below base w0 w) (hb0 : base ≤ w0.heap.size)
    (h : ∀ ao' cap' w', OwnOf cell k e w' base (.slice ao' q cap') U → Below base w0 w' → wpList Tryd.prog ops Q rest (a.put o.dst (.slice ao' q cap')) w') : wpList Tryd.prog ops Q (o :: rest) a w := by
  have hm := hR.len
  have hkq : T.length + m = q := by rw [← hq, ← hU, List.length_append, hm]
  have hby2 : q * bytes ≤ 140737488355328 := by
    have : q * bytes ≤ 1000000 * 1000 := Nat.mul_le_mul hq2 hb
    omega
  refine wpList_append_rw hgd s x t ho base e i z k bytes ht hi hz hsize hby hzs hk.1 v T.length (cellsOf cell T) hs hown ao m c (cellsOf cell R) hx (by unfold RowOf at hR; rwa [hm] at hR) (cellsOf_one h1 R) q hkq (by unfold maxLen; omega) hby2 (Nat.le_trans hb0 hB.size) ?_
  intro a3 c3 w3 hown3 hg3
  refine h a3 c3 w3 ?_ (hB.grown hg3 (Nat.le_trans hb0 hB.size) (fun j e => (hown.lt j e).1))
  unfold OwnOf
  rw [hq, ← hU, cellsOf_append]
  exact hown3
/-- An append of one element, which was laid for it. -/
theorem wpList_app_of (hk : CellsK cell k) (h1 : CellsO cell) {w : World} {ops : Array Oper} {rest : List Oper} {o : Oper} {a : Act} {Q : Exit → Act → World → Prop} (hgd : o.guard = none) (s x : Operand) (t : TypeId)
    (ho : o.op = .call { callee := .builtin .append, args := #[s, x], argTypes := #[t, t] }) (i : TypeInfo) (z : Value) (bytes : Nat) (ht : Tryd.prog.underlying t = some (.slice e)) (hi : Tryd.prog.info? e = some i) (hz : i.zero = some z) (hsize : i.size = k) (hby : i.bytes = bytes) (hzs : z.cells.size = k) (hb : bytes ≤ 1000)
    (base : Nat) (v : Value) (T : List α) (hs : a.eval s = v) (hown : OwnOf cell k e w base v T) (y : α) (cs : Array Value) (hcs : cs = (cell y).toArray) (hx : a.eval x = .slice (some ⟨w.heap.size, 0, none⟩) 1 1)
    (hn : T.length < 1000000) (hbase : base ≤ w.heap.size)
    (h : ∀ ao' cap' w', OwnOf cell k e w' base (.slice ao' (T.length + 1) cap') (T ++ [y]) → (∀ w0, Below base w0 w → Below base w0 w') → wpList Tryd.prog ops Q rest (a.put o.dst (.slice ao' (T.length + 1) cap')) w') :
    wpList Tryd.prog ops Q (o :: rest) a (w.alloc (.cells cs e)) := by
  subst hcs
  have hl : RowOf cell k (w.alloc (.cells (cell y).toArray e)) (.slice (some ⟨w.heap.size, 0, none⟩) 1 1) [y] := by
    have hq := rowOf_lit hk w [y] e
    rw [show cellsOf cell [y] = cell y by simp [cellsOf]] at hq
    exact hq
  have hby2 : (T.length + 1) * bytes ≤ 140737488355328 := by
    have : (T.length + 1) * bytes ≤ 1000000 * 1000 := Nat.mul_le_mul hn hb
    omega
  have hown1 : OwnOf cell k e (w.alloc (.cells (cell y).toArray e)) base v T := World.ownsRow.alloc hown _
  refine wpList_append_rw hgd s x t ho base e i z k bytes ht hi hz hsize hby hzs hk.1 v T.length (cellsOf cell T) hs hown1 _ 1 1 (cellsOf cell [y]) hx hl (cellsOf_one h1 [y]) (T.length + 1) rfl (by unfold maxLen; omega) hby2 (by rw [World.size_alloc]; omega) ?_
  intro a3 c3 w3 h2 h3
  refine h a3 c3 w3 ?_ fun w0 hB => (hB.alloc hbase _).grown h3 (by rw [World.size_alloc]; omega) fun j e => (hown1.lt j e).1
  unfold OwnOf
  rw [List.length_append, cellsOf_append]
  exact h2
/-- A slice from the i-th element on. -/
theorem rowOf_from (hk : CellsK cell k) {t : TypeId} (ht : Tryd.prog.underlying t = some (.slice (Tryd.prog.elem t))) (hsz : ∀ W, (sizeOf (Tryd.prog.elem t)).run Tryd.prog W = .ok k W) {w : World} {ao : Option Addr} {n cap : Nat} {l : List α} (h : RowOf cell k w (.slice ao n cap) l) (i m : Nat) (hi : i ≤ n) (hm : i + m = n) :
    ∃ a1 c1, (∀ W, (Instr.slice t (.slice ao n cap) (some (.int .i64 (i : Int))) none none).run Tryd.prog W = .ok (.slice a1 m c1) W) ∧ RowOf cell k w (.slice a1 m c1) (l.drop i) := by
  have hc : n ≤ cap ∧ n = l.length := by
    obtain ⟨_, ao', c, he, hc, _⟩ := h
    cases he
    exact ⟨hc, rfl⟩
  obtain ⟨hc, rfl⟩ := hc
  have hm' : m = l.length - i := by omega
  have hr : ∀ W, (Instr.slice t (.slice ao l.length cap) (some (.int .i64 (i : Int))) none none).run Tryd.prog W = .ok (sliced ao i l.length cap k) W := by
    intro W
    rw [run_slice_l W _ ao l.length cap ht .i64 i (by omega) (by omega), hsz]
    rfl
  unfold sliced at hr
  rw [← hm'] at hr
  refine ⟨_, _, hr, ?_⟩
  cases ao with
  | none =>
    obtain rfl := h.of_nil
    obtain rfl : m = 0 := by simpa using hm'
    have e : (if cap = i then (none : Option Addr) else Option.map (fun a : Addr => a.add (i * k)) none) = none := by split <;> rfl
    rw [e]
    rw [List.drop_nil]
    exact ⟨by simp [cellsOf], none, _, rfl, Nat.zero_le _, .inl rfl⟩
  | some a =>
    by_cases h0 : l = []
    · subst h0
      obtain rfl : m = 0 := by simpa using hm'
      rw [List.drop_nil]
      exact ⟨by simp [cellsOf], _, _, rfl, Nat.zero_le _, .inl rfl⟩
    · obtain ⟨b, off, rfl⟩ := h.spot h0
      by_cases hcn : cap = i
      · rw [if_pos hcn]
        exact h.drop hk hi hm' (cap' := cap - i) (by omega) off (.inr (by omega))
      · rw [if_neg hcn, Option.map_some, Go.WideShapes.add_plain]
        exact h.drop hk hi hm' (cap' := cap - i) (by omega) _ (.inl rfl)
/-- A slice of the first i elements. -/
theorem rowOf_to (hk : CellsK cell k) {t : TypeId} (ht : Tryd.prog.underlying t = some (.slice (Tryd.prog.elem t))) (hsz : ∀ W, (sizeOf (Tryd.prog.elem t)).run Tryd.prog W = .ok k W) {w : World} {ao : Option Addr} {n cap : Nat} {l : List α} (h : RowOf cell k w (.slice ao n cap) l) (i : Nat) (hi : i ≤ n) :
    (∀ W, (Instr.slice t (.slice ao n cap) none (some (.int .i64 (i : Int))) none).run Tryd.prog W = .ok (.slice ao i cap) W) ∧ RowOf cell k w (.slice ao i cap) (l.take i) := by
  have hc : n ≤ cap ∧ n = l.length := by
    obtain ⟨_, ao', c, he, hc, _⟩ := h
    cases he
    exact ⟨hc, rfl⟩
  obtain ⟨hc, rfl⟩ := hc
  refine ⟨fun W => ?_, h.take hk hi⟩
  rw [run_slice_h W _ ao l.length cap ht .i64 i (by omega) (by omega), hsz]
  cases ao <;> simp [sliced, Result.andThen, Addr.add]
/-- The size of a type's cells, as a slice asks for it. -/
theorem size_of {t : TypeId} (h : (Tryd.prog.info? t).map (·.size) = some k) (W : World) : (sizeOf t).run Tryd.prog W = .ok k W := by
  cases hq : Tryd.prog.info? t with
  | none => simp [hq] at h
  | some i =>
    have hs : i.size = k := by simpa [hq] using h
    simp [sizeOf, typeInfo, hq, hs]
end

end Go.Proofs.YtogicnciheedoaaDoor

/-
  What there was stays, but for one block; boxes. No function and no type is named here.
-/
namespace Go.Proofs.YtogicnciheedoaaDoor
set_option maxRecDepth 100000
open Go.RowKit

/-- What there was stays, but for the block g. -/
def Keeps (g : Nat) (w w' : World) : Prop := w.grownBy w' (some g)
theorem Keeps.refl (g : Nat) (w : World) : Keeps g w w := grown_refl w _
theorem Keeps.below (g : Nat) {w w' : World} (h : Below w.heap.size w w') : Keeps g w w' := ⟨h.os, h.tape, h.output, h.size, fun k hk _ => h.block k hk⟩
theorem Keeps.trans {g : Nat} {a b c : World} (h : Keeps g a b) (k : Keeps g b c) : Keeps g a c := grown_trans h k
theorem Keeps.then {g : Nat} {a b c : World} (h : Keeps g a b) (k : Below b.heap.size b c) : Keeps g a c := h.trans (Keeps.below g k)
theorem Keeps.set {g : Nat} {w w' : World} (h : Keeps g w w') (j : Nat) (v : Value) : Keeps g w (w'.setCell ⟨g, j, none⟩ v) := by
  have hb : Below g w' (w'.setCell ⟨g, j, none⟩ v) := (Below.refl g w').setCell (Nat.le_refl _) v
  refine ⟨hb.os.trans h.os, hb.tape.trans h.tape, hb.output.trans h.output, Nat.le_trans h.size hb.size, fun i hi hne => ?_⟩
  rw [heap_setCell_other w' ⟨g, j, none⟩ i v (fun e => hne (by rw [e]))]
  exact h.block i hi hne
theorem Keeps.other {g : Nat} {w w' : World} (h : Keeps g w w') {b : Nat} (hb : w.heap.size ≤ b) (j : Nat) (v : Value) : Keeps g w (w'.setCell ⟨b, j, none⟩ v) := by
  have hb2 : Below b w' (w'.setCell ⟨b, j, none⟩ v) := (Below.refl b w').setCell (Nat.le_refl _) v
  refine ⟨hb2.os.trans h.os, hb2.tape.trans h.tape, hb2.output.trans h.output, Nat.le_trans h.size hb2.size, fun i hi hne => ?_⟩
  rw [heap_setCell_other w' ⟨b, j, none⟩ i v (by show i ≠ b; omega)]
  exact h.block i hi hne
theorem Cx.keeps {w w' : World} {b g : Nat} {t : TypeId} {cs : List Value} (h : Cx w b t cs) (hne : b ≠ g) (hk : Keeps g w w') : Cx w' b t cs := by
  unfold Cx
  rw [hk.block _ h.lt (fun e => hne (by cases e; rfl))]
  exact h
theorem Keeps.on {g B : Nat} {w0 w w' : World} (hk : Keeps g w w') (hb : Below B w0 w) (hg : B ≤ g) (hB : B ≤ w.heap.size) : Below B w0 w' :=
  ⟨hk.os.trans hb.os, hk.tape.trans hb.tape, hk.output.trans hb.output, Nat.le_trans hb.size hk.size, fun i hi => (hk.block i (Nat.lt_of_lt_of_le hi hB) (fun e => by cases e; omega)).trans (hb.block i hi)⟩

theorem boxed_stays {A B : World} {b : Nat} {t : TypeId} {v : Value} (h : Boxed A b t v) (hk : Below A.heap.size A B) : Boxed B b t v := (hk.block b h.lt).trans h
theorem boxed_keeps {A B : World} {k b : Nat} {t : TypeId} {v : Value} (h : Boxed A b t v) (hk : Keeps k A B) (hne : b ≠ k) : Boxed B b t v := h.kept hk (fun e => hne (by cases e; rfl))
end Go.Proofs.YtogicnciheedoaaDoor

/-
  A cell that is no struct, and a slot, as results. No function and no type is named here.
-/
namespace Go.Proofs.YtogicnciheedoaaDoor
set_option maxRecDepth 100000
open Go.RowKit

/-- A cell that is no struct, and a slot, are what comes out of a call. -/
theorem ret_func2 {fn : Func} {p q : Tmp} {t : TypeId} {R : Ending → World → Prop} {a : Act} {w : World} (h : fn.results = #[.cell p t, .tmp q]) (hd : a.defers = []) (g : Nat) (v1 v2 : Value) (hp : a.tmps.getD p undef = .pointer (some ⟨g, 0, none⟩))
    (hq : a.tmps.getD q undef = v2) (hc : w.cell? ⟨g, 0, none⟩ = some v1) (ha : (isAgg t).run Tryd.prog w = .ok false w) (hR : R (.returned (.tuple #[v1, v2])) w) : bodyPost Tryd.prog fn R .ret a w := by
  refine bodyPost_ret (v := .tuple #[v1, v2]) ?_ hd hR
  have hp' : a.tmps[p]?.getD undef = .pointer (some ⟨g, 0, none⟩) := by simpa using hp
  have hq' : a.tmps[q]?.getD undef = v2 := by simpa using hq
  have hl : (loadVar t ⟨g, 0, none⟩).run Tryd.prog w = .ok v1 w := by simp [loadVar, ha, hc]
  simp [results, h, hp', hq', asAddr, hl]

end Go.Proofs.YtogicnciheedoaaDoor

/-
  A row of structs that came in, opened: each element is k cells. No function and no type is named here.
-/
namespace Go.Proofs.YtogicnciheedoaaDoor
set_option maxRecDepth 100000
open Go.RowKit Go.Joins Go.ChangeShapes Go.WideShapes Go.Deep

/-- A row whose elements are told by 'each'. -/
theorem rowOf_trod {α : Type} [Inhabited α] {cell : α → List Value} {k : Nat} (hk0 : 0 < k) (hkl : ∀ x, (cell x).length = k) {t e : TypeId} (ht : Tryd.prog.underlying t = some (.slice e)) (he : Tryd.prog.cellsOf e = k) {W : World} {n : Nat} {v : Value} {H : Type} {enc : TypeId × Value → H} {x : DataW H × List MemPlace}
    (P : α → Prop) (each : ∀ (m : Nat) cs y, DataW.trod enc Tryd.prog W 0 (fun _ => true) true m e cs = some y → cs.length = k → ∃ z : α, cs = cell z ∧ P z)
    (hf : DataW.trod enc Tryd.prog W 0 (fun _ => true) true n t [v] = some x) : ∃ l : List α, RowOf cell k W v l ∧ l.length ≤ maxLen ∧ ∀ z ∈ l, P z := by
  have hk : ∀ l : List α, (cellsOf cell l).length = l.length * k := by
    intro l
    induction l with
    | nil => simp [cellsOf]
    | cons x r ih => rw [cellsOf_cons, List.length_append, hkl, ih, List.length_cons, Nat.succ_mul, Nat.add_comm]
  have hat : ∀ (l : List α) (i j : Nat) (hi : i < l.length) (u : Value), (cell l[i])[j]? = some u → (cellsOf cell l)[i * k + j]? = some u := by
    intro l
    induction l with
    | nil => intro i j hi; simp at hi
    | cons x r ih =>
      intro i j hi u hj
      have hjk : j < k := by
        obtain ⟨h1, _⟩ := List.getElem?_eq_some_iff.1 hj
        rw [hkl] at h1
        exact h1
      cases i with
      | zero =>
        rw [cellsOf_cons, Nat.zero_mul, Nat.zero_add, List.getElem?_append_left (by rw [hkl]; exact hjk)]
        exact hj
      | succ i =>
        have h1 := ih i j (by simpa using hi) u hj
        rw [cellsOf_cons, List.getElem?_append_right (by rw [hkl, Nat.succ_mul]; omega), hkl]
        rw [show (i + 1) * k + j - k = i * k + j by rw [Nat.succ_mul]; omega]
        exact h1
  rcases open_slice ht hf with ⟨hcs, _⟩ | ⟨a, l, c, m, q, D, Pl, hcs, _, hl, hm, hz, _, hcell⟩
  · simp at hcs
    subst hcs
    exact ⟨[], ⟨by simp [cellsOf], none, 0, rfl, Nat.le_refl _, .inl rfl⟩, by simp, fun z hz => by cases hz⟩
  · simp at hcs
    subst hcs
    have hz' : m = c := by simpa using hz
    rw [he] at hcell
    have all : ∀ i, i < m → ∃ y : α, (∀ j, j < k → W.cell? (a.add (i * k + j)) = (cell y)[j]?) ∧ P y := by
      intro i hi
      obtain ⟨cs', h1, h2⟩ := hcell i hi
      obtain ⟨_, hlen, hc⟩ := World.cells?_some h1
      obtain ⟨y, hy, hp⟩ := each _ _ _ h2 (by simpa using hlen)
      refine ⟨y, fun j hj => ?_, hp⟩
      have e0 := hc j (by omega)
      rw [add_add] at e0
      rw [← hy]
      exact e0
    obtain ⟨Y, hY⟩ := choose_lt all
    have hll : ((List.range l).map Y).length = l := by simp
    refine ⟨(List.range l).map Y, ⟨by rw [hk], some a, c, by rw [hll], by rw [hll]; omega, ?_⟩, by rw [hll]; omega, ?_⟩
    · by_cases h0 : l = 0
      · left; rw [hll]; exact h0
      · right
        obtain ⟨b, off, spot⟩ := a
        have hspot : spot = none := by
          have h1 := (hY 0 (by omega)).1 0 hk0
          rw [List.getElem?_eq_getElem (by rw [hkl]; exact hk0)] at h1
          simpa [Addr.add] using World.cell?_spot h1
        subst hspot
        refine ⟨b, off, rfl, fun j hj => ?_⟩
        have hj2 : j < l * k := by rw [hk, hll] at hj; exact hj
        have hq : j / k < l := (Nat.div_lt_iff_lt_mul hk0).2 hj2
        have hr : j % k < k := Nat.mod_lt _ hk0
        have ej : j / k * k + j % k = j := by rw [Nat.mul_comm]; exact Nat.div_add_mod j k
        have y0 := (hY (j / k) (by omega)).1 (j % k) hr
        rw [Go.WideShapes.add_plain, ej] at y0
        have hz0 : (cell (((List.range l).map Y)[j / k]'(by rw [hll]; exact hq)))[j % k]? = some ((cell (Y (j / k)))[j % k]'(by rw [hkl]; exact hr)) := by
          rw [List.getElem_map, List.getElem_range, List.getElem?_eq_getElem]
        have h2 := hat ((List.range l).map Y) (j / k) (j % k) (by rw [hll]; exact hq) _ hz0
        rw [ej, List.getElem?_eq_getElem hj] at h2
        rw [y0, List.getElem?_eq_getElem (by rw [hkl]; exact hr)]
        exact h2.symm
    · intro z hz
      obtain ⟨r, hr, rfl⟩ := List.mem_map.1 hz
      exact (hY r (by have := List.mem_range.1 hr; omega)).2
/-- A row that is an argument. -/
theorem rowOf_open {α : Type} [Inhabited α] {cell : α → List Value} {k : Nat} (hk0 : 0 < k) (hkl : ∀ x, (cell x).length = k) {t e : TypeId} (ht : Tryd.prog.underlying t = some (.slice e)) (he : Tryd.prog.cellsOf e = k) {W : World} {base : Nat} {v : Value} {H : Type} {enc : TypeId × Value → H} {d : DataW H} {p : List MemPlace}
    (P : α → Prop) (each : ∀ (m : Nat) cs y, DataW.trod enc Tryd.prog W 0 (fun _ => true) true m e cs = some y → cs.length = k → ∃ z : α, cs = cell z ∧ P z)
    (hv : Value.okWide Tryd.prog W .any base t v) (h : DataW.Trod enc Tryd.prog W 0 (fun _ => true) true t v d p) : ∃ l : List α, RowOf cell k W v l ∧ l.length ≤ maxLen ∧ ∀ z ∈ l, P z := by
  obtain ⟨a0, len0, cap0, rfl⟩ := okWide_slice ht hv
  obtain ⟨fuel, hf⟩ := h
  exact rowOf_trod hk0 hkl ht he P each (by simpa [Value.cells] using hf)

end Go.Proofs.YtogicnciheedoaaDoor
