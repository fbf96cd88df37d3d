/-
  The texts of one folder in one: TwRets, TwCopied, Ints, TwSpec, TwHear, TwAsk, TwNewest, TwGet, TwDeeds, TwBehind, TwStop.
-/
import Derived.Test.YtdbidfbjfongbaaDoorPks04
import Derived.Deep.RegionLaw
import Derived.Laws.OwnMore
import Derived.SizedLaws
import Derived.ChangeSlices
import Derived.Test.YtdbidfbjfongbaaDoorPks03
import Derived.Test.YtdbidfbjfongbaaDoorPks01
import Derived.RegionTactic
import Derived.BigRegion
import Derived.Deep.DeepCutAuto
import Derived.Deep.QuietTactic
import Derived.BigQuiet

/-
  twin: structs of three cells, rows of two of them, as results and as what is loaded.
-/
namespace Go.Proofs.YtdbidfbjfongbaaDoor
open Go.RowKit

/-- As many cells as a value has, read as one. -/
theorem load_many {ty : TypeId} {w : World} {g o : Nat} {cs : List Value} (ha : (isAgg ty).run Tryd.prog w = .ok true w) (hi : (Tryd.prog.info? ty).map (·.size) = some cs.length)
    (hc : ∀ j u, cs[j]? = some u → w.cell? ⟨g, o + j, none⟩ = some u) : (loadVar ty ⟨g, o, none⟩).run Tryd.prog w = .ok (.agg cs.toArray) w := by
  cases hq : Tryd.prog.info? ty with
  | none => simp [hq] at hi
  | some i =>
    have hs : i.size = cs.length := by simpa [hq] using hi
    have hl : (loadCells ⟨g, o, none⟩ cs.length).run Tryd.prog w = .ok cs.toArray w := run_loadCells_list (P := Tryd.prog) (w := w) (a := ⟨g, o, none⟩) (cs := cs) (fun j u hu => by
      rw [Go.WideShapes.add_plain]
      exact hc j u hu)
    simp [loadVar, ha, sizeOf, typeInfo, hq, hs, hl]

theorem said_agg (w : World) : (isAgg 89).run Tryd.prog w = .ok true w := by simp [isAgg, run_underlying Tryd.underlying89]
theorem said_size : (Tryd.prog.info? 89).map (·.size) = some 3 := by kernel_rfl
theorem both_agg (w : World) : (isAgg 107).run Tryd.prog w = .ok true w := by simp [isAgg, run_underlying Tryd.underlying107]
theorem both_size : (Tryd.prog.info? 107).map (·.size) = some 6 := by kernel_rfl

/-- A block of a call's own, with these cells. -/
def Cx (w : World) (b : Nat) (t : TypeId) (cs : List Value) : Prop := w.heap[b]? = some (.cells cs.toArray t (0, 0))
theorem Cx.lt {w : World} {b : Nat} {t : TypeId} {cs : List Value} (h : Cx w b t cs) : b < w.heap.size := (Array.getElem?_eq_some_iff.1 h).1
theorem Cx.cell {w : World} {b : Nat} {t : TypeId} {cs : List Value} (h : Cx w b t cs) {j : Nat} {v : Value} (hj : cs[j]? = some v) : w.cell? ⟨b, j, none⟩ = some v := by
  rw [cell_of_row w b j _ _ _ h]
  simpa using hj
theorem Cx.frozen {w : World} {b : Nat} {t : TypeId} {cs : List Value} (h : Cx w b t cs) (j : Nat) : w.frozen? ⟨b, j, none⟩ = false := by
  unfold Cx at h
  simp [World.frozen?, h]
theorem Cx.below {w w' : World} {b : Nat} {t : TypeId} {cs : List Value} (h : Cx w b t cs) (hb : Below w.heap.size w w') : Cx w' b t cs := by
  unfold Cx
  rw [hb.block _ h.lt]
  exact h
theorem Cx.new (w : World) (t : TypeId) (cs : List Value) : Cx (w.alloc (.cells cs.toArray t)) w.heap.size t cs := heap_alloc_new w _
theorem Cx.set {w : World} {b : Nat} {t : TypeId} {cs : List Value} (h : Cx w b t cs) (j : Nat) (v : Value) : Cx (w.setCell ⟨b, j, none⟩ v) b t (cs.set j v) := by
  have h1 := heap_setCell_same w b j _ _ v h
  unfold Cx
  rw [h1]
  simp
theorem Cx.other {w : World} {b b' j : Nat} {t : TypeId} {cs : List Value} (h : Cx w b t cs) (hne : b ≠ b') (v : Value) : Cx (w.setCell ⟨b', j, none⟩ v) b t cs := by
  unfold Cx
  rw [heap_setCell_other _ ⟨b', j, none⟩ b v hne]
  exact h
theorem Cx.three {w : World} {b : Nat} {t : TypeId} {v0 v1 v2 : Value} (h : Cx w b t [v0, v1, v2]) : w.cell? ⟨b, 0, none⟩ = some v0 ∧ w.cell? ⟨b, 1, none⟩ = some v1 ∧ w.cell? ⟨b, 2, none⟩ = some v2 ∧
    w.frozen? ⟨b, 0, none⟩ = false ∧ w.frozen? ⟨b, 1, none⟩ = false ∧ w.frozen? ⟨b, 2, none⟩ = false ∧ b < w.heap.size :=
  ⟨h.cell rfl, h.cell rfl, h.cell rfl, h.frozen _, h.frozen _, h.frozen _, h.lt⟩
theorem Cx.six {w : World} {b : Nat} {t : TypeId} {v0 v1 v2 v3 v4 v5 : Value} (h : Cx w b t [v0, v1, v2, v3, v4, v5]) : (w.cell? ⟨b, 0, none⟩ = some v0 ∧ w.cell? ⟨b, 1, none⟩ = some v1 ∧ w.cell? ⟨b, 2, none⟩ = some v2 ∧
    w.cell? ⟨b, 3, none⟩ = some v3 ∧ w.cell? ⟨b, 4, none⟩ = some v4 ∧ w.cell? ⟨b, 5, none⟩ = some v5) ∧ (w.frozen? ⟨b, 0, none⟩ = false ∧ w.frozen? ⟨b, 1, none⟩ = false ∧ w.frozen? ⟨b, 2, none⟩ = false ∧
    w.frozen? ⟨b, 3, none⟩ = false ∧ w.frozen? ⟨b, 4, none⟩ = false ∧ w.frozen? ⟨b, 5, none⟩ = false) ∧ b < w.heap.size :=
  ⟨⟨h.cell rfl, h.cell rfl, h.cell rfl, h.cell rfl, h.cell rfl, h.cell rfl⟩, ⟨h.frozen _, h.frozen _, h.frozen _, h.frozen _, h.frozen _, h.frozen _⟩, h.lt⟩

/-- Cells of a box of one's own, which reads as these. -/
theorem cells_box {w : World} {g : Nat} {t : TypeId} {cs : List Value} (h : w.heap[g]? = some (.cells cs.toArray t (0, 0))) : ∀ j u, cs[j]? = some u → w.cell? ⟨g, 0 + j, none⟩ = some u := by
  intro j u hu
  rw [Nat.zero_add, cell_of_row w g j _ _ _ h]
  simpa using hu

/-- A struct of three is what comes out of a call. -/
theorem ret_said {fn : Func} {p : Tmp} {R : Ending → World → Prop} {a : Act} {w : World} (h : fn.results = #[.cell p 89]) (hd : a.defers = []) (g : Nat) (t : TypeId) (v0 v1 v2 : Value)
    (hp : a.tmps.getD p undef = .pointer (some ⟨g, 0, none⟩)) (hc : w.heap[g]? = some (.cells #[v0, v1, v2] t (0, 0))) (hR : R (.returned (.agg #[v0, v1, v2])) w) : bodyPost Tryd.prog fn R .ret a w := by
  refine bodyPost_ret (v := .agg #[v0, v1, v2]) ?_ hd hR
  have hp' : a.tmps[p]?.getD undef = .pointer (some ⟨g, 0, none⟩) := by simpa using hp
  have hl := load_many (cs := [v0, v1, v2]) (said_agg w) said_size (cells_box (cs := [v0, v1, v2]) hc)
  simp [results, h, hp', asAddr, hl]
theorem ret_said3 {fn : Func} {p q r : Tmp} {R : Ending → World → Prop} {a : Act} {w : World} (h : fn.results = #[.cell p 89, .tmp q, .tmp r]) (hd : a.defers = []) (g : Nat) (t : TypeId) (v0 v1 v2 x y : Value)
    (hp : a.tmps.getD p undef = .pointer (some ⟨g, 0, none⟩)) (hq : a.tmps.getD q undef = x) (hr : a.tmps.getD r undef = y) (hc : w.heap[g]? = some (.cells #[v0, v1, v2] t (0, 0))) (hR : R (.returned (.tuple #[.agg #[v0, v1, v2], x, y])) w) : bodyPost Tryd.prog fn R .ret a w := by
  refine bodyPost_ret (v := .tuple #[.agg #[v0, v1, v2], x, y]) ?_ hd hR
  have hp' : a.tmps[p]?.getD undef = .pointer (some ⟨g, 0, none⟩) := by simpa using hp
  have hq' : a.tmps[q]?.getD undef = x := by simpa using hq
  have hr' : a.tmps[r]?.getD undef = y := by simpa using hr
  have hl := load_many (cs := [v0, v1, v2]) (said_agg w) said_size (cells_box (cs := [v0, v1, v2]) hc)
  simp [results, h, hp', hq', hr', asAddr, hl]
theorem ret_both2 {fn : Func} {p q : Tmp} {R : Ending → World → Prop} {a : Act} {w : World} (h : fn.results = #[.cell p 107, .tmp q]) (hd : a.defers = []) (g : Nat) (t : TypeId) (v0 v1 v2 v3 v4 v5 x : Value)
    (hp : a.tmps.getD p undef = .pointer (some ⟨g, 0, none⟩)) (hq : a.tmps.getD q undef = x) (hc : w.heap[g]? = some (.cells #[v0, v1, v2, v3, v4, v5] t (0, 0))) (hR : R (.returned (.tuple #[.agg #[v0, v1, v2, v3, v4, v5], x])) w) : bodyPost Tryd.prog fn R .ret a w := by
  refine bodyPost_ret (v := .tuple #[.agg #[v0, v1, v2, v3, v4, v5], x]) ?_ hd hR
  have hp' : a.tmps[p]?.getD undef = .pointer (some ⟨g, 0, none⟩) := by simpa using hp
  have hq' : a.tmps[q]?.getD undef = x := by simpa using hq
  have hl := load_many (cs := [v0, v1, v2, v3, v4, v5]) (both_agg w) both_size (cells_box (cs := [v0, v1, v2, v3, v4, v5]) hc)
  simp [results, h, hp', hq', asAddr, hl]
/-- A disk, a bool and an error's number are what comes out of a call. -/
theorem ret_disk3 {fn : Func} {p q r : Tmp} {R : Ending → World → Prop} {a : Act} {w : World} (h : fn.results = #[.cell p 25, .tmp q, .tmp r]) (hd : a.defers = []) (g : Nat) (v0 v1 x y : Value) (hp : a.tmps.getD p undef = .pointer (some ⟨g, 0, none⟩))
    (hq : a.tmps.getD q undef = x) (hr : a.tmps.getD r undef = y) (c0 : w.cell? ⟨g, 0, none⟩ = some v0) (c1 : w.cell? ⟨g, 1, none⟩ = some v1) (hR : R (.returned (.tuple #[.agg #[v0, v1], x, y])) w) : bodyPost Tryd.prog fn R .ret a w := by
  refine bodyPost_ret (v := .tuple #[.agg #[v0, v1], x, y]) ?_ hd hR
  have hp' : a.tmps[p]?.getD undef = .pointer (some ⟨g, 0, none⟩) := by simpa using hp
  have hq' : a.tmps[q]?.getD undef = x := by simpa using hq
  have hr' : a.tmps[r]?.getD undef = y := by simpa using hr
  simp [results, h, hp', hq', hr', asAddr, load_disk w g v0 v1 c0 c1]

end Go.Proofs.YtdbidfbjfongbaaDoor

/-
  twin: copied (a disk in memory of its own, by two appends to nil in a region that draws its order).
-/
namespace Go.Proofs.YtdbidfbjfongbaaDoor
open Go.RowKit

theorem rowN_news {w : World} {k n cap : Nat} {a : Addr} {cs : List Value} (h : Rw w k (.slice (some a) n cap) n cs) : ∀ j u, cs[j]? = some u → w.cell? (a.add j) = some u := by
  intro j u hj
  obtain ⟨hj1, hju⟩ := List.getElem?_eq_some_iff.1 hj
  obtain ⟨hl, ao, c, he, _, h0 | ⟨b, off, rfl, hc⟩⟩ := h
  · subst h0; omega
  · cases he
    rw [Go.WideShapes.add_plain, hc j hj1, hju]
/-- An append of a nil slice to nil. -/
theorem run_append_nils (w : World) (t ty e : TypeId) (i : TypeInfo) (ht : Tryd.prog.underlying t = some (.slice e)) (hi : Tryd.prog.info? e = some i) (c : Nat) :
    (Builtin.append_ #[t, t] ty #[.slice none 0 0, .slice none 0 c]).run Tryd.prog w = .ok (.slice none 0 0) w := by
  simp [Builtin.append_, run_underlying ht, sizeOf, typeInfo, hi, Builtin.lenOf, Builtin.firstCells]

/-- An append to nil, as one step of a region that draws: of whatever row. -/
theorem step_append_nil {w : World} {ops : Array Oper} {o : Oper} {a : Act} {K : Act → World → Prop} {Q : Exit → Act → World → Prop} {E : Prop} (hgd : o.guard = none) (s x : Operand) (t : TypeId)
    (ho : o.op = .call { callee := .builtin .append, args := #[s, x], argTypes := #[t, t] })
    (base : Nat) (e : TypeId) (i : TypeInfo) (z : Value) (size bytes : Nat) (ht : Tryd.prog.underlying t = some (.slice e)) (hi : Tryd.prog.info? e = some i) (hz : i.zero = some z)
    (hsize : i.size = size) (hby : i.bytes = bytes) (hzs : z.cells.size = size) (hsz : 0 < size)
    (hs : a.eval s = .slice none 0 0) (ao : Option Addr) (m c : Nat) (news : List Value) (hx : a.eval x = .slice ao m c) (hR : Rw w size (.slice ao m c) m news) (h1 : ∀ u ∈ news, u.oneCell' = true)
    (hm : m ≤ 1000) (hbytes : bytes ≤ 1000) (hbase : base ≤ w.heap.size)
    (h : ∀ ao' cap' w', w'.ownsRow base e size (.slice ao' m cap') m news → Below w.heap.size w w' → K (a.put o.dst (.slice ao' m cap')) w') :
    if Region.wanted o (yielded ops a.tmps) = true then Oper.wp Tryd.prog o a w K Q else E := by
  have hw : Region.wanted o (yielded ops a.tmps) = true := by simp [Region.wanted, hgd]
  rw [if_pos hw]
  cases ao with
  | none =>
    have hm0 : m = 0 := by
      obtain ⟨_, ao, c', he, _, h0 | ⟨b, off, h, _⟩⟩ := hR
      · exact h0
      · cases he; cases h
    subst hm0
    obtain rfl : news = [] := List.eq_nil_of_length_eq_zero (by rw [hR.1]; omega)
    have hrun := run_append_nils w t o.type e i ht hi c
    unfold Oper.wp
    simp [execOp, ho, resolve, invoke, builtin, hs, hx, hrun, Result.andThen]
    exact h none 0 w (World.ownsRow_nil _ _ _ _) (Below.refl _ _)
  | some ad =>
    have hb : (0 + m) * bytes ≤ 140737488355328 := by
      have : m * bytes ≤ 1000 * 1000 := Nat.mul_le_mul hm hbytes
      rw [Nat.zero_add]
      omega
    obtain ⟨v', w', hr, h2, h3, _, _⟩ := run_append_own_at (P := Tryd.prog) w base t o.type e i z size bytes ht hi hz hsize hby hzs hsz (.slice none 0 0) 0 [] (World.ownsRow_nil _ _ _ _) ad m c news hR.1 (rowN_news hR) h1 (by unfold maxLen; omega) hb hbase
    rw [Nat.zero_add, List.nil_append] at h2
    obtain ⟨ao', cap', rfl⟩ := (Rw.own h2).form
    unfold Oper.wp
    simp only [execOp, ho, resolve, invoke, builtin, Sem.run_bind, Sem.run_pure, Result.andThen_ok, List.map_toArray, List.map_cons, List.map_nil, hs, hx, hr]
    exact h ao' cap' w' h2 ⟨h3.os, h3.tape, h3.output, h3.size, fun k hk => h3.block k hk (by simp [Value.ownBlock])⟩

set_option maxRecDepth 100000 in
set_option maxHeartbeats 4000000 in
theorem tcopied_calls (vb vw : Value) (bs : List (List UInt8)) (ws : List Wr) (w : World) (hb : Txts w vb bs) (hw : Wrs w vw ws) (hbl : bs.length ≤ 1000) (hwl : ws.length ≤ 1000) :
    Calls Tryd.prog 72 #[.agg #[vb, vw]] w fun e w' => ∃ vb' vw', e = .returned (.agg #[vb', vw']) ∧ OwnD w' w.heap.size vb' bs vw' ws ∧ Below w.heap.size w w' := by
  obtain ⟨i9, hi9, ht0, ht1, ht2⟩ := info_parts info9
  obtain ⟨i0, hi, hz0, hz1, hz2⟩ := info_parts infoW
  obtain ⟨ab, cb, rfl⟩ := hb.strs.form
  obtain ⟨aw, cw, rfl⟩ := hw.form
  obtain ⟨hx0, hr0, hB0⟩ := entry2 w (.slice ab bs.length cb) (.slice aw ws.length cw)
  have HX := Lib.hid (fun (W : World) (hB : Below w.heap.size w W) => (And.intro (Rw.txts (hb.below hB)) (hw.below hB)))
  clear hb hw
  go_enter Tryd.func72, Tryd.ntmps72
  go_wp2_with fail
  obtain ⟨p0, p1, pf0, pf1, pl⟩ := hx0.cells
  go_region_law (first
    | (refine step_append_nil rfl (.const (.slice none 0 0)) (.tmp 4) 22 rfl (w.heap.size + 2) 9 i9 (.string ⟨#[]⟩) 1 16 Tryd.underlying22 hi9 ht0 ht1 ht2 rfl (by decide) rfl ab bs.length cb (bs.map SV) (by simp [Act.eval]) (HX.out _ (below2 hB0 (drew_below _))).1 (texts_one bs) hbl (by omega) (by simp) ?_; intro a1 c1 w1 ho1 hB1; have hBB1 := below3 hB0 (drew_below _) hB1; have hx1 := (hx0.below (drew_below _)).below hB1; have hr1 := (hr0.below (drew_below _)).below hB1; obtain ⟨p10, p11, pf10, pf11, pl1⟩ := hx1.cells; have hzw : w.heap.size + 2 ≤ w1.heap.size := (by have := hB1.size; simp at this; omega))
    | (refine step_append_nil rfl (.const (.slice none 0 0)) (.tmp 7) 23 rfl (w.heap.size + 2) 66 i0 (.agg #[.int .i64 0, .string ⟨#[]⟩]) 2 24 Tryd.underlying23 hi hz0 hz1 hz2 rfl (by decide) rfl aw ws.length cw (wcells ws) (by simp [Act.eval]) (HX.out _ hBB1).2 (wcells_one ws) hwl (by omega) hzw ?_; intro a2 c2 w2 ho2 hB2; have hBB2 := below2 hBB1 hB2; have hx2 := hx1.below hB2; have hr2 := hr1.below hB2; have hoo := own_stays ho1 hB2; obtain ⟨q20, q21, qf20, qf21, ql2⟩ := hr2.cells))
  all_goals
    go_wp2_with fail
    obtain ⟨r1, r2⟩ := ret_own (w := w) (x := .slice a1 bs.length c1) (y := .slice a2 ws.length c2) (show OwnD w2 (w.heap.size + 2) (.slice a1 bs.length c1) bs (.slice a2 ws.length c2) ws from ⟨hoo, ho2⟩) (Nat.le_refl _) hBB2
    have hr3 := bx_set hr2 (.slice a1 bs.length c1) (.slice a2 ws.length c2)
    refine ret_disk (p := 2) (by kernel_rfl) rfl (w.heap.size + 1) _ _ rfl hr3.cells.1 hr3.cells.2.1 ?_
    exact ⟨_, _, rfl, r1, r2⟩

end Go.Proofs.YtdbidfbjfongbaaDoor

/-
  Rows of ints; an append to nil in a plain region.
-/
namespace Go.Proofs.YtdbidfbjfongbaaDoor
open Go.RowKit Go.Joins Go.ChangeShapes Go.WideShapes Go.Deep

/-- The slice v reads as these ints. -/
def Ints (w : World) (v : Value) (zs : List Int) : Prop := Rw w 1 v zs.length (zs.map (Value.int .i64))
theorem Ints.below {w w' : World} {v : Value} {zs : List Int} (h : Ints w v zs) (hb : Below w.heap.size w w') : Ints w' v zs := Rw.below h hb
theorem Ints.form {w : World} {v : Value} {zs : List Int} (h : Ints w v zs) : ∃ ao cap, v = .slice ao zs.length cap := Rw.form h
theorem Ints.at {w : World} {ao : Option Addr} {n cap : Nat} {zs : List Int} (h : Ints w (.slice ao n cap) zs) {k : Nat} (hk : k < zs.length) : ∃ b off, ao = some ⟨b, off, none⟩ ∧ w.cell? ⟨b, off + k, none⟩ = some (.int .i64 zs[k]) := by
  obtain ⟨_, ao', cap', he, _, hc⟩ := h
  cases he
  rcases hc with h0 | ⟨b, off, rfl, hc⟩
  · omega
  · refine ⟨b, off, rfl, ?_⟩
    have := hc k (by simpa using hk)
    simpa using this
/-- An append to nil, of whatever row. -/
theorem wpList_append_nil {w : World} {ops : Array Oper} {rest : List Oper} {o : Oper} {a : Act} {Q : Exit → Act → World → Prop} (hgd : o.guard = none) (s x : Operand) (t : TypeId)
    (ho : o.op = .call { callee := .builtin .append, args := #[s, x], argTypes := #[t, t] })
    (base : Nat) (e : TypeId) (i : TypeInfo) (z : Value) (size bytes : Nat) (ht : Tryd.prog.underlying t = some (.slice e)) (hi : Tryd.prog.info? e = some i) (hz : i.zero = some z)
    (hsize : i.size = size) (hby : i.bytes = bytes) (hzs : z.cells.size = size) (hsz : 0 < size)
    (hs : a.eval s = .slice none 0 0) (ao : Option Addr) (m c : Nat) (news : List Value) (hx : a.eval x = .slice ao m c) (hR : Rw w size (.slice ao m c) m news) (h1 : ∀ u ∈ news, u.oneCell' = true)
    (hm : m ≤ maxLen) (hbytes : m * bytes ≤ 140737488355328) (hbase : base ≤ w.heap.size)
    (h : ∀ ao' cap' w', w'.ownsRow base e size (.slice ao' m cap') m news → Below w.heap.size w w' → wpList Tryd.prog ops Q rest (a.put o.dst (.slice ao' m cap')) w') : wpList Tryd.prog ops Q (o :: rest) a w := by
  refine wpList_plain hgd fun K hK => ?_
  cases ao with
  | none =>
    have hm0 : m = 0 := by
      obtain ⟨_, ao, c', he, _, h0 | ⟨b, off, h, _⟩⟩ := hR
      · exact h0
      · cases he; cases h
    subst hm0
    obtain rfl : news = [] := List.eq_nil_of_length_eq_zero (by rw [hR.1]; omega)
    have hrun := run_append_nils w t o.type e i ht hi c
    unfold Oper.wp
    simp [execOp, ho, resolve, invoke, builtin, hs, hx, hrun, Result.andThen]
    exact hK _ _ (h none 0 w (World.ownsRow_nil _ _ _ _) (Below.refl _ _))
  | some ad =>
    obtain ⟨v', w', hr, h2, h3, _, _⟩ := run_append_own_at (P := Tryd.prog) w base t o.type e i z size bytes ht hi hz hsize hby hzs hsz (.slice none 0 0) 0 [] (World.ownsRow_nil _ _ _ _) ad m c news hR.1 (rowN_news hR) h1 (by rw [Nat.zero_add]; exact hm) (by rw [Nat.zero_add]; exact hbytes) hbase
    rw [Nat.zero_add, List.nil_append] at h2
    obtain ⟨ao', cap', rfl⟩ := (Rw.own h2).form
    unfold Oper.wp
    simp only [execOp, ho, resolve, invoke, builtin, Sem.run_bind, Sem.run_pure, Result.andThen_ok, List.map_toArray, List.map_cons, List.map_nil, hs, hx, hr]
    exact hK _ _ (h ao' cap' w' h2 ⟨h3.os, h3.tape, h3.output, h3.size, fun k hk => h3.block k hk (by simp [Value.ownBlock])⟩)

set_option maxRecDepth 100000 in
/-- A row of ints that came in. -/
theorem ints_open {W : World} {base : Nat} {v : Value} {H : Type} {enc : TypeId × Value → H} {d : DataW H} {p : List MemPlace} (hv : Value.okWide Tryd.prog W .any base 33 v)
    (h : DataW.Trod enc Tryd.prog W 0 (fun _ => true) true 33 v d p) : ∃ zs, Ints W v zs ∧ zs.length ≤ maxLen := by
  obtain ⟨a0, len, cap, rfl⟩ := okWide_slice Tryd.underlying33 hv
  obtain ⟨fuel, hf⟩ := h
  rcases open_ints Tryd.underlying33 Tryd.underlying3 (by kernel_rfl) hf with ⟨hcs, _⟩ | ⟨a, l, c, zs, hcs, _, hl, hm, hz, _, hcell, _⟩
  · simp [Value.cells] at hcs
    obtain ⟨rfl, rfl, rfl⟩ := hcs
    exact ⟨[], Rw.nil W 1, by simp⟩
  · simp [Value.cells] at hcs
    obtain ⟨rfl, rfl, rfl⟩ := hcs
    have hz' : zs.length = cap := by simpa using hz
    have hll : (zs.take len).length = len := by rw [List.length_take]; omega
    refine ⟨zs.take len, ⟨by simp, some a, cap, by rw [hll], by rw [hll]; omega, ?_⟩, by rw [hll]; omega⟩
    by_cases h0 : len = 0
    · left; rw [hll]; exact h0
    · right
      obtain ⟨b, off, spot⟩ := a
      have hspot : spot = none := by simpa [Addr.add] using World.cell?_spot (hcell 0 (by omega))
      subst hspot
      refine ⟨b, off, rfl, fun j hj => ?_⟩
      have hj2 : j < len := by rw [List.length_map, hll] at hj; exact hj
      have h1 := hcell j (by omega)
      rw [Go.WideShapes.add_plain] at h1
      rw [h1]
      have h3 : j < zs.length := by omega
      simp [List.getD, List.getElem?_eq_getElem h3]

end Go.Proofs.YtdbidfbjfongbaaDoor

/-
  twin in plain words: what a block says, the newest copy, what a Stop makes; what follows of them.
-/
namespace Go.Proofs.YtdbidfbjfongbaaDoor
open Go.RowKit

/-- A block's copy: its number and its text. -/
def hearL (s : List UInt8) : Option (Nat × List UInt8) :=
  match getF s with
  | some (t, r) => if r = [] then getN t else none
  | none => none
/-- A copy of a number and a text. -/
def copyB (n : Nat) (s : List UInt8) : List UInt8 := frameB (numB n ++ s)
def numO : Option (Nat × List UInt8) → Nat
  | some x => x.1
  | none => 0
def txtO : Option (Nat × List UInt8) → List UInt8
  | some x => x.2
  | none => []
/-- Is the first one the newest? -/
def pickB : Option (Nat × List UInt8) → Option (Nat × List UInt8) → Bool
  | some x, some y => decide (y.1 < x.1)
  | some _, none => true
  | none, _ => false
def clashB : Option (Nat × List UInt8) → Option (Nat × List UInt8) → Bool
  | some x, some y => x.1 == y.1
  | _, _ => false
/-- What a block of a disk says: a copy, or none. -/
def sayH (bs : List (List UInt8)) (ws : List Wr) (i : Int) : Option (Nat × List UInt8) := hearL (saysL bs ws i)
def newestE (bs : List (List UInt8)) (ws : List Wr) (i : Int) : Int :=
  if readE bs ws i = 0 then (if readE bs ws (i + 1) = 0 then (if clashB (sayH bs ws i) (sayH bs ws (i + 1)) = true then 50 else 0) else readE bs ws (i + 1)) else readE bs ws i
def newestC (bs : List (List UInt8)) (ws : List Wr) (i : Int) : Option (Nat × List UInt8) :=
  if newestE bs ws i = 0 then (if pickB (sayH bs ws i) (sayH bs ws (i + 1)) = true then sayH bs ws i else sayH bs ws (i + 1)) else none
def newestTo (bs : List (List UInt8)) (ws : List Wr) (i : Int) : Int :=
  if newestE bs ws i = 0 then (if pickB (sayH bs ws i) (sayH bs ws (i + 1)) = true then i + 1 else i) else 0
/-- The copy that is put. -/
def nextB (bs : List (List UInt8)) (ws : List Wr) (i : Int) (s : List UInt8) : List UInt8 := copyB (numO (newestC bs ws i) + 1) s
def nextW (bs : List (List UInt8)) (ws : List Wr) (i : Int) (s : List UInt8) : Wr := (newestTo bs ws i, nextB bs ws i s)
def stopE (bs : List (List UInt8)) (ws : List Wr) (i : Int) (s : List UInt8) : Int :=
  if newestE bs ws i = 0 then (if s.length ≤ 200 ∧ numO (newestC bs ws i) < 1000000000 then writeE bs ws (newestTo bs ws i) (nextB bs ws i s) else 2) else newestE bs ws i
def stopBs (bs : List (List UInt8)) (ws : List Wr) (i : Int) (s : List UInt8) (k : Int) : List (List UInt8) :=
  if stopE bs ws i s = 0 then (if k = 0 ∨ k = 1 then bs else layL bs (ws ++ [nextW bs ws i s])) else []
def stopWs (bs : List (List UInt8)) (ws : List Wr) (i : Int) (s : List UInt8) (k : Int) : List Wr :=
  if stopE bs ws i s = 0 then (if k = 0 then ws else if k = 1 then ws ++ [nextW bs ws i s] else []) else []
def stopD (bs : List (List UInt8)) (ws : List Wr) (i : Int) (s : List UInt8) (k : Int) : Bool := decide (stopE bs ws i s = 0) && !(decide (k = 0) || decide (k = 1))

theorem copy_len (n : Nat) (s : List UInt8) (hs : s.length ≤ 200) : (copyB n s).length ≤ 256 := by
  have h1 := wid_le n
  have h2 := wid_le (numB n ++ s).length
  rw [copyB, frameB_length, List.length_append, numB_length]
  rw [List.length_append, numB_length] at h2
  omega
theorem hear_copy (n : Nat) (s : List UInt8) (hn : n ≤ 4294967295) (hs : s.length ≤ 200) : hearL (copyB n s) = some (n, s) := by
  have h1 := wid_le n
  have hl : (numB n ++ s).length ≤ 4000 := by rw [List.length_append, numB_length]; omega
  have e : getF (copyB n s) = some (numB n ++ s, []) := by
    have := laid_getF (numB n ++ s) hl []
    rwa [List.append_nil] at this
  simp only [hearL, e, if_true]
  exact laid_getN n hn s
theorem hear_nil : hearL [] = none := by
  have : getF [] = none := getF_short (by simp)
  simp [hearL, this]
theorem hear_num {s : List UInt8} {x : Nat × List UInt8} (h : hearL s = some x) : x.1 ≤ 4294967295 := by
  unfold hearL at h
  split at h
  · split at h
    · obtain ⟨n, r⟩ := x
      exact (getN_bounds h).1
    · cases h
  · cases h
theorem numO_le {s : List UInt8} : numO (hearL s) ≤ 4294967295 := by
  cases h : hearL s with
  | none => simp [numO]
  | some x => exact hear_num h

theorem readE_cases (bs : List (List UInt8)) (ws : List Wr) (i : Int) : readE bs ws i = 0 ∨ readE bs ws i = 1 ∨ readE bs ws i = 40 := by
  unfold readE; repeat' split
  all_goals omega
theorem read_ok {bs : List (List UInt8)} {ws : List Wr} {i : Int} : readE bs ws i = 0 ↔ (rightB bs ws = true ∧ hasB bs.length i = true) := by
  unfold readE
  constructor
  · intro h
    split at h
    · split at h
      · exact ⟨by assumption, by assumption⟩
      · omega
    · omega
  · rintro ⟨h1, h2⟩
    simp [h1, h2]
theorem hasB_iff {n : Nat} {i : Int} : hasB n i = true ↔ 0 ≤ i ∧ i < n := by simp [hasB]
theorem newest_ok {bs : List (List UInt8)} {ws : List Wr} {i : Int} : newestE bs ws i = 0 ↔ (rightB bs ws = true ∧ 0 ≤ i ∧ i + 1 < bs.length ∧ clashB (sayH bs ws i) (sayH bs ws (i + 1)) = false) := by
  unfold newestE
  constructor
  · intro h
    split at h
    · rename_i h1
      split at h
      · rename_i h2
        split at h
        · omega
        · rename_i h3
          have a := read_ok.1 h1
          have b := read_ok.1 h2
          have c := hasB_iff.1 a.2
          have d := hasB_iff.1 b.2
          exact ⟨a.1, by omega, by omega, by simpa using h3⟩
      · omega
    · omega
  · rintro ⟨h1, h2, h3, h4⟩
    rw [if_pos (read_ok.2 ⟨h1, hasB_iff.2 (by omega)⟩), if_pos (read_ok.2 ⟨h1, hasB_iff.2 (by omega)⟩), h4]
    simp
/-- The newest copy's number is as great as each one's, and the other block's is less. -/
theorem pick_facts (a b : Option (Nat × List UInt8)) (h : clashB a b = false) : (pickB a b = true → (∀ y, b = some y → y.1 < numO a)) ∧ (pickB a b = false → (∀ x, a = some x → x.1 < numO b)) := by
  cases a with
  | none => simp [pickB]
  | some x =>
    cases b with
    | none => simp [pickB]
    | some y =>
      simp only [pickB, clashB, beq_eq_false_iff_ne] at h ⊢
      refine ⟨fun h1 z hz => ?_, fun h1 z hz => ?_⟩
      · cases hz; simpa [numO] using h1
      · cases hz
        simp at h1
        simp only [numO]
        omega
theorem clash_new {a : Option (Nat × List UInt8)} {n : Nat} {s : List UInt8} (h : ∀ x, a = some x → x.1 < n) : clashB a (some (n, s)) = false ∧ pickB a (some (n, s)) = false ∧ clashB (some (n, s)) a = false ∧ pickB (some (n, s)) a = true := by
  cases a with
  | none => simp [clashB, pickB]
  | some x =>
    have := h x rfl
    simp only [clashB, pickB, beq_eq_false_iff_ne, decide_eq_false_iff_not, decide_eq_true_eq]
    omega

theorem stop_ok {bs : List (List UInt8)} {ws : List Wr} {i : Int} {s : List UInt8} (h : stopE bs ws i s = 0) : newestE bs ws i = 0 ∧ s.length ≤ 200 ∧ numO (newestC bs ws i) < 1000000000 ∧ writeE bs ws (newestTo bs ws i) (nextB bs ws i s) = 0 := by
  unfold stopE at h
  split at h
  · split at h
    · exact ⟨by assumption, (by assumption : _ ∧ _).1, (by assumption : _ ∧ _).2, h⟩
    · omega
  · omega
theorem stop_zero {bs : List (List UInt8)} {ws : List Wr} {i : Int} {s : List UInt8} (h1 : newestE bs ws i = 0) (h2 : s.length ≤ 200) (h3 : numO (newestC bs ws i) < 1000000000) (h4 : ws.length < 100) : stopE bs ws i s = 0 := by
  unfold stopE
  rw [if_pos h1, if_pos ⟨h2, h3⟩]
  obtain ⟨a, b, c, _⟩ := newest_ok.1 h1
  have ht : hasB bs.length (newestTo bs ws i) = true := by
    unfold newestTo
    rw [if_pos h1]
    split
    · exact hasB_iff.2 (by omega)
    · exact hasB_iff.2 (by omega)
  have hl : (nextB bs ws i s).length ≤ 256 := copy_len _ _ h2
  simp [writeE, a, ht, hl, h4]
theorem newest_le (bs : List (List UInt8)) (ws : List Wr) (i : Int) : numO (newestC bs ws i) ≤ 4294967295 := by
  unfold newestC
  split
  · split <;> exact numO_le
  · simp [numO]
theorem newestTo_has {bs : List (List UInt8)} {ws : List Wr} {i : Int} (h1 : newestE bs ws i = 0) : newestTo bs ws i = i ∨ newestTo bs ws i = i + 1 := by
  unfold newestTo
  rw [if_pos h1]
  split
  · exact .inr rfl
  · exact .inl rfl
theorem newest_short {bs : List (List UInt8)} {ws : List Wr} {i : Int} (h : newestE bs ws i ≠ 0) : newestC bs ws i = none ∧ newestTo bs ws i = 0 := by simp [newestC, newestTo, h]

/-- What there is behind the copy was laid, whether it waits or not. -/
theorem newest_of {bs cs : List (List UInt8)} {ws vs : List Wr} {i : Int} {s : List UInt8} (h : stopE bs ws i s = 0) (hr : rightB cs vs = true) (hl : cs.length = bs.length) (hs : ∀ j, hasB bs.length j = true → saysL cs vs j = saysL bs (ws ++ [nextW bs ws i s]) j) :
    newestE cs vs i = 0 ∧ newestC cs vs i = some (numO (newestC bs ws i) + 1, s) := by
  obtain ⟨h1, h2, h3, h4⟩ := stop_ok h
  obtain ⟨a1, a2, a3, a4⟩ := newest_ok.1 h1
  have hw := (write_ok h4).2.1
  have hN := newest_le bs ws i
  have g1 : saysL cs vs i = saysL bs (ws ++ [nextW bs ws i s]) i := hs i (hasB_iff.2 (by omega))
  have g2 : saysL cs vs (i + 1) = saysL bs (ws ++ [nextW bs ws i s]) (i + 1) := hs (i + 1) (hasB_iff.2 (by omega))
  have hcp : hearL (nextB bs ws i s) = some (numO (newestC bs ws i) + 1, s) := hear_copy _ _ (by omega) h2
  obtain ⟨p1, p2⟩ := pick_facts _ _ a4
  cases hp : pickB (sayH bs ws i) (sayH bs ws (i + 1)) with
  | true =>
    have ht : newestTo bs ws i = i + 1 := by simp [newestTo, h1, hp]
    have hC : newestC bs ws i = sayH bs ws i := by simp [newestC, h1, hp]
    rw [says_cons_miss bs ws (nextW bs ws i s) i (by show newestTo bs ws i ≠ i; omega) hw (hasB_iff.2 (by omega))] at g1
    rw [says_cons_hit bs ws (nextW bs ws i s) (i + 1) ht (hasB_iff.2 (by omega))] at g2
    have k1 : sayH cs vs i = newestC bs ws i := by rw [hC, sayH, g1, sayH]
    have k2 : sayH cs vs (i + 1) = some (numO (newestC bs ws i) + 1, s) := by rw [sayH, g2]; exact hcp
    have hlt : ∀ x, newestC bs ws i = some x → x.1 < numO (newestC bs ws i) + 1 := by
      intro x hx
      rw [hx, numO]
      omega
    obtain ⟨q1, q2, _, _⟩ := clash_new (n := numO (newestC bs ws i) + 1) (s := s) hlt
    have e : newestE cs vs i = 0 := newest_ok.2 ⟨hr, a2, by omega, by rw [k1, k2]; exact q1⟩
    refine ⟨e, ?_⟩
    simp only [newestC] at k1 k2 q2 ⊢
    rw [if_pos e, k1, k2, q2]
    simp
  | false =>
    have ht : newestTo bs ws i = i := by simp [newestTo, h1, hp]
    have hC : newestC bs ws i = sayH bs ws (i + 1) := by simp [newestC, h1, hp]
    rw [says_cons_hit bs ws (nextW bs ws i s) i ht (hasB_iff.2 (by omega))] at g1
    rw [says_cons_miss bs ws (nextW bs ws i s) (i + 1) (by show newestTo bs ws i ≠ i + 1; omega) hw (hasB_iff.2 (by omega))] at g2
    have k2 : sayH cs vs (i + 1) = newestC bs ws i := by rw [hC, sayH, g2, sayH]
    have k1 : sayH cs vs i = some (numO (newestC bs ws i) + 1, s) := by rw [sayH, g1]; exact hcp
    have hlt : ∀ x, newestC bs ws i = some x → x.1 < numO (newestC bs ws i) + 1 := by
      intro x hx
      rw [hx, numO]
      omega
    obtain ⟨_, _, q1, q2⟩ := clash_new (n := numO (newestC bs ws i) + 1) (s := s) hlt
    have e : newestE cs vs i = 0 := newest_ok.2 ⟨hr, a2, by omega, by rw [k1, k2]; exact q1⟩
    refine ⟨e, ?_⟩
    simp only [newestC] at k1 k2 q2 ⊢
    rw [if_pos e, k1, k2, q2]
    simp

theorem says_laid (bs : List (List UInt8)) (xs : List Wr) (j : Int) : saysL (layL bs xs) [] j = saysL bs xs j := rfl
theorem stop_right {bs : List (List UInt8)} {ws : List Wr} {i : Int} {s : List UInt8} (h : stopE bs ws i s = 0) (k : Int) : rightB (stopBs bs ws i s k) (stopWs bs ws i s k) = true ∧ (stopBs bs ws i s k).length = bs.length := by
  obtain ⟨h1, h2, h3, h4⟩ := stop_ok h
  have a := (newest_ok.1 h1).1
  have b := right_more h4
  unfold stopBs stopWs
  rw [if_pos h, if_pos h]
  by_cases k0 : k = 0
  · simp [k0, a]
  · by_cases k1 : k = 1
    · simp [k1]; exact b
    · rw [if_neg (by omega), if_neg k0, if_neg k1]
      exact ⟨right_lay (ws := ws ++ [nextW bs ws i s]) b (fun x hx => hx), layL_len _ _⟩
/-- Behind a Stop each other block says what it said. -/
theorem stop_says {bs : List (List UInt8)} {ws : List Wr} {i : Int} {s : List UInt8} (h : stopE bs ws i s = 0) (k : Int) (j : Int) (hj : hasB bs.length j = true) (hne : j ≠ newestTo bs ws i) : saysL (stopBs bs ws i s k) (stopWs bs ws i s k) j = saysL bs ws j := by
  obtain ⟨h1, h2, h3, h4⟩ := stop_ok h
  have hw := (write_ok h4).2.1
  have hm : saysL bs (ws ++ [nextW bs ws i s]) j = saysL bs ws j := says_cons_miss bs ws (nextW bs ws i s) j (fun e => hne e.symm) hw hj
  unfold stopBs stopWs
  rw [if_pos h, if_pos h]
  by_cases k0 : k = 0
  · simp [k0]
  · by_cases k1 : k = 1
    · simp [k1]; exact hm
    · rw [if_neg (by omega), if_neg k0, if_neg k1, says_laid]
      exact hm
/-- Behind both deeds the text is got. -/
theorem put_get {bs : List (List UInt8)} {ws : List Wr} {i : Int} {s : List UInt8} (h : stopE bs ws i s = 0) (k : Int) (k0 : k ≠ 0) :
    newestE (stopBs bs ws i s k) (stopWs bs ws i s k) i = 0 ∧ newestC (stopBs bs ws i s k) (stopWs bs ws i s k) i = some (numO (newestC bs ws i) + 1, s) := by
  obtain ⟨r, l⟩ := stop_right h k
  refine newest_of h r l (fun j hj => ?_)
  unfold stopBs stopWs
  rw [if_pos h, if_pos h]
  by_cases k1 : k = 1
  · simp [k1]
  · rw [if_neg (by omega), if_neg k0, if_neg k1]
    rfl
/-- Behind a Stop and a crash: the text, or what was there. -/
theorem crash_get {bs : List (List UInt8)} {i : Int} {s : List UInt8} (h : stopE bs [] i s = 0) (k : Int) (ks : List Bool) :
    let cs := crashBs (stopBs bs [] i s k) (stopWs bs [] i s k) ks
    newestE cs [] i = 0 ∧ rightB cs [] = true ∧ cs.length = bs.length ∧ (newestC cs [] i = some (numO (newestC bs [] i) + 1, s) ∨ (stopD bs [] i s k = false ∧ newestC cs [] i = newestC bs [] i)) := by
  obtain ⟨r, l⟩ := stop_right h k
  obtain ⟨h1, h2, h3, h4⟩ := stop_ok h
  intro cs
  have hcs : cs = layL (stopBs bs [] i s k) (keptL (stopWs bs [] i s k) ks) := by simp only [cs, crashBs, r, if_true]
  by_cases k0 : k = 0
  · have e1 : stopBs bs [] i s k = bs := by simp [stopBs, h, k0]
    have e2 : stopWs bs [] i s k = [] := by simp [stopWs, h, k0]
    have e3 : cs = bs := by rw [hcs, e1, e2, keptL_none]; rfl
    rw [e3]
    exact ⟨h1, (newest_ok.1 h1).1, rfl, .inr ⟨by simp [stopD, k0], rfl⟩⟩
  · by_cases k1 : k = 1
    · have e1 : stopBs bs [] i s k = bs := by simp [stopBs, h, k1]
      have e2 : stopWs bs [] i s k = [nextW bs [] i s] := by simp [stopWs, h, k1]
      have e4 : stopD bs [] i s k = false := by simp [stopD, k1]
      rw [e1, e2] at hcs
      have hr0 : rightB bs ([] ++ [nextW bs [] i s]) = true := right_more h4
      have hone : keptL [nextW bs [] i s] ks = [] ∨ keptL [nextW bs [] i s] ks = [nextW bs [] i s] := by
        cases ks with
        | nil => exact .inl rfl
        | cons b r => cases b <;> simp [keptL]
      rcases hone with e5 | e5
      · have e3 : cs = bs := by rw [hcs, e5]; rfl
        rw [e3]
        exact ⟨h1, (newest_ok.1 h1).1, rfl, .inr ⟨e4, rfl⟩⟩
      · rw [e5] at hcs
        have hr : rightB cs [] = true := by rw [hcs]; exact right_lay hr0 (fun x hx => hx)
        have hl : cs.length = bs.length := by rw [hcs]; exact layL_len _ _
        obtain ⟨q1, q2⟩ := newest_of h hr hl (fun j hj => by rw [hcs]; rfl)
        exact ⟨q1, hr, hl, .inl q2⟩
    · have e2 : stopWs bs [] i s k = [] := by simp [stopWs, h, k0, k1]
      have e3 : cs = stopBs bs [] i s k := by rw [hcs, e2, keptL_none]; rfl
      obtain ⟨q1, q2⟩ := put_get h k k0
      rw [e2] at q1 q2 r
      rw [e3]
      exact ⟨q1, r, l, .inl q2⟩

end Go.Proofs.YtdbidfbjfongbaaDoor

/-
  twin: hear (what a block says) and frame (a copy).
-/
namespace Go.Proofs.YtdbidfbjfongbaaDoor
open Go.RowKit
attribute [local go_sem] app_mk

/-- What a block says, as the program's struct. -/
def saidCs : Option (Nat × List UInt8) → List Value
  | some x => [.bool true, .int .i64 (x.1 : Nat), .string ⟨x.2.toArray⟩]
  | none => [.bool false, .int .i64 0, .string ⟨#[]⟩]
def isO (o : Option (Nat × List UInt8)) : Bool := o.isSome
theorem saidCs_eq (o : Option (Nat × List UInt8)) : saidCs o = [.bool (isO o), .int .i64 ((numO o : Nat) : Int), .string ⟨(txtO o).toArray⟩] := by
  cases o <;> rfl

set_option maxRecDepth 100000 in
set_option maxHeartbeats 2000000 in
theorem hear_calls (s : List UInt8) (hm : s.length ≤ 4611686018427387904) (w : World) (hT : TabOk w) :
    Calls Tryd.prog 74 #[.string ⟨s.toArray⟩] w fun e w' => e = .returned (.agg (saidCs (hearL s)).toArray) ∧ Below w.heap.size w w' := by
  have hx0 := Cx.new w 89 [.bool false, .int .i64 0, .string ⟨#[]⟩]
  have hB0 := below_alloc w (.cells #[.bool false, .int .i64 0, .string ⟨#[]⟩] 89)
  have hT1 := hT.below hB0
  cases hg : getF s with
  | none =>
    have E := Lib.hid (show hearL s = none by simp [hearL, hg])
    have G := Lib.hid hg
    clear hg
    go_enter Tryd.func74, Tryd.ntmps74
    go_wp2_with fail
    refine (get_none s hm G.out _ hT1).mono ?_
    rintro e w1 ⟨rfl, hB1⟩
    have hx1 := hx0.below hB1
    obtain ⟨c0, c1, c2, f0, f1, f2, hlt⟩ := hx1.three
    go_wp2_with fail
    have hx2 := ((hx1.set 0 (.bool false)).set 1 (.int .i64 0)).set 2 (.string ⟨#[]⟩)
    refine ret_said (p := 2) (by kernel_rfl) rfl w.heap.size 89 (.bool false) (.int .i64 0) (.string ⟨#[]⟩) rfl hx2 ?_
    exact ⟨by rw [E.out]; rfl, (((below2 hB0 hB1).setCell (by simp) _).setCell (by simp) _).setCell (by simp) _⟩
  | some x =>
    obtain ⟨t, r⟩ := x
    have hb := getF_bounds hg
    have G := Lib.hid hg
    by_cases hr : r = []
    · subst hr
      cases hn : getN t with
      | none =>
        have E := Lib.hid (show hearL s = none by simp [hearL, hg, hn])
        have N := Lib.hid hn
        clear hg hn
        go_enter Tryd.func74, Tryd.ntmps74
        go_wp2_with fail
        refine (get_some s hm G.out _ hT1).mono ?_
        rintro e w1 ⟨rfl, hB1⟩
        go_wp2_with fail
        refine (GetNumber_none t (by omega) N.out _).mono ?_
        rintro e w2 ⟨rfl, hB2⟩
        have hx1 := (hx0.below hB1).below hB2
        obtain ⟨c0, c1, c2, f0, f1, f2, hlt⟩ := hx1.three
        go_wp2_with fail
        have hx2 := ((hx1.set 0 (.bool false)).set 1 (.int .i64 0)).set 2 (.string ⟨#[]⟩)
        refine ret_said (p := 2) (by kernel_rfl) rfl w.heap.size 89 (.bool false) (.int .i64 0) (.string ⟨#[]⟩) rfl hx2 ?_
        exact ⟨by rw [E.out]; rfl, (((below3 hB0 hB1 hB2).setCell (by simp) _).setCell (by simp) _).setCell (by simp) _⟩
      | some y =>
        obtain ⟨n, q⟩ := y
        have E := Lib.hid (show hearL s = some (n, q) by simp [hearL, hg, hn])
        have N := Lib.hid hn
        clear hg hn
        go_enter Tryd.func74, Tryd.ntmps74
        go_wp2_with fail
        refine (get_some s hm G.out _ hT1).mono ?_
        rintro e w1 ⟨rfl, hB1⟩
        go_wp2_with fail
        refine (GetNumber_some t (by omega) N.out _).mono ?_
        rintro e w2 ⟨rfl, hB2⟩
        have hx1 := (hx0.below hB1).below hB2
        obtain ⟨c0, c1, c2, f0, f1, f2, hlt⟩ := hx1.three
        go_wp2_with fail
        have hx2 := ((hx1.set 0 (.bool true)).set 1 (.int .i64 (n : Int))).set 2 (.string ⟨q.toArray⟩)
        refine ret_said (p := 2) (by kernel_rfl) rfl w.heap.size 89 (.bool true) (.int .i64 (n : Int)) (.string ⟨q.toArray⟩) rfl hx2 ?_
        exact ⟨by rw [E.out]; rfl, (((below3 hB0 hB1 hB2).setCell (by simp) _).setCell (by simp) _).setCell (by simp) _⟩
    · have hrb : (r == []) = false := by simp [hr]
      have E := Lib.hid (show hearL s = none by simp [hearL, hg, hr])
      clear hg hr
      go_enter Tryd.func74, Tryd.ntmps74
      go_wp2_with fail
      refine (get_some s hm G.out _ hT1).mono ?_
      rintro e w1 ⟨rfl, hB1⟩
      have hx1 := hx0.below hB1
      obtain ⟨c0, c1, c2, f0, f1, f2, hlt⟩ := hx1.three
      go_wp2_with fail
      have hx2 := ((hx1.set 0 (.bool false)).set 1 (.int .i64 0)).set 2 (.string ⟨#[]⟩)
      refine ret_said (p := 2) (by kernel_rfl) rfl w.heap.size 89 (.bool false) (.int .i64 0) (.string ⟨#[]⟩) rfl hx2 ?_
      exact ⟨by rw [E.out]; rfl, (((below2 hB0 hB1).setCell (by simp) _).setCell (by simp) _).setCell (by simp) _⟩

/-- A copy of a number and a text. -/
theorem frame_calls (n : Nat) (hn : n ≤ 4294967295) (s : List UInt8) (hs : s.length ≤ 200) (w : World) (hT : TabOk w) :
    Calls Tryd.prog 57 #[.int .i64 n, .string ⟨s.toArray⟩] w fun e w' => e = .returned (.string ⟨(copyB n s).toArray⟩) ∧ Below w.heap.size w w' := by
  have h1 := wid_le n
  have h2 := numB_length n
  have hl : (numB n ++ s).length ≤ 4000 := by rw [List.length_append]; omega
  go_enter Tryd.func57, Tryd.ntmps57
  go_wp2_with fail
  refine (number_ok n hn _).mono ?_
  rintro e w1 ⟨rfl, hB1⟩
  go_wp2_with fail
  refine (put_ok (numB n ++ s) hl _ (hT.below hB1)).mono ?_
  rintro e w2 ⟨rfl, hB2⟩
  go_wp2_with fail
  go_ret
  exact ⟨rfl, below2 hB1 hB2⟩

end Go.Proofs.YtdbidfbjfongbaaDoor

/-
  twin: ask (what both blocks say).
-/
namespace Go.Proofs.YtdbidfbjfongbaaDoor
open Go.RowKit

def askE (bs : List (List UInt8)) (ws : List Wr) (i : Int) : Int := if readE bs ws i = 0 then readE bs ws (i + 1) else readE bs ws i
/-- What was heard when k blocks were asked. -/
def askCs (a b : Option (Nat × List UInt8)) (k : Nat) : List Value := saidCs (if 0 < k then a else none) ++ saidCs (if 1 < k then b else none)
theorem askCs_form (a b : Option (Nat × List UInt8)) (k : Nat) : ∃ (v0 : Bool) (v1 : Int) (v2 : List UInt8) (v3 : Bool) (v4 : Int) (v5 : List UInt8), askCs a b k = [.bool v0, .int .i64 v1, .string ⟨v2.toArray⟩, .bool v3, .int .i64 v4, .string ⟨v5.toArray⟩] := by
  unfold askCs
  rw [saidCs_eq, saidCs_eq]
  exact ⟨_, _, _, _, _, _, rfl⟩
theorem says_small {bs : List (List UInt8)} {ws : List Wr} {i : Int} : (readT bs ws i).length ≤ 256 ∧ (readE bs ws i = 0 → readT bs ws i = saysL bs ws i) := by
  unfold readT
  by_cases h : readE bs ws i = 0
  · rw [if_pos h]
    refine ⟨?_, fun _ => rfl⟩
    obtain ⟨hr, hh⟩ := read_ok.1 h
    have hb := (right_lay hr (fun x hx => hx))
    obtain ⟨_, _, _, h4, _⟩ := right_parts hb
    unfold saysL
    by_cases hi : i.toNat < (layL bs ws).length
    · have := h4 _ (List.getElem_mem hi)
      simpa [List.getD, List.getElem?_eq_getElem hi] using this
    · simp [List.getD, List.getElem?_eq_none (by omega : (layL bs ws).length ≤ i.toNat)]
  · rw [if_neg h]
    exact ⟨by simp, fun h' => absurd h' h⟩

abbrev zero6 : List Value := [.bool false, .int .i64 0, .string ⟨#[]⟩, .bool false, .int .i64 0, .string ⟨#[]⟩]

set_option maxRecDepth 100000 in
set_option maxHeartbeats 4000000 in
theorem ask_calls (vb vw : Value) (bs : List (List UInt8)) (ws : List Wr) (i : Int) (hi : -9223372036854775808 ≤ i ∧ i ≤ 9223372036854775807) (w : World) (hb : Txts w vb bs) (hw : Wrs w vw ws) (hT : TabOk w) :
    Calls Tryd.prog 61 #[.agg #[vb, vw], .int .i64 i] w fun e w' => e = .returned (.tuple #[.agg (askCs (sayH bs ws i) (sayH bs ws (i + 1)) (if askE bs ws i = 0 then 2 else 0)).toArray, .int .i64 (askE bs ws i)]) ∧ Below w.heap.size w w' := by
  obtain ⟨ab, cb, rfl⟩ := hb.strs.form
  obtain ⟨aw, cw, rfl⟩ := hw.form
  obtain ⟨R0, hR0⟩ : ∃ R, R = (askCs (sayH bs ws i) (sayH bs ws (i + 1)) (if askE bs ws i = 0 then 2 else 0)).toArray := ⟨_, rfl⟩
  obtain ⟨E0, hE0⟩ : ∃ E, E = askE bs ws i := ⟨_, rfl⟩
  rw [← hR0, ← hE0]
  have HR := Lib.hid hR0
  have HE := Lib.hid hE0
  clear hR0 hE0
  go_enter Tryd.func61, Tryd.ntmps61
  go_wp2_with fail
  have hB0 := below_alloc3 w (.cells #[.slice ab bs.length cb, .slice aw ws.length cw] 25) (.cells zero6.toArray 107) (.cells zero6.toArray 107)
  go_loopw [10] (fun u wr => ∃ k : Nat, k ≤ 2 ∧ u = .int .i64 k ∧ Below w.heap.size w wr ∧ Bx wr w.heap.size (.slice ab bs.length cb) (.slice aw ws.length cw) ∧ Cx wr (w.heap.size + 1) 107 zero6
      ∧ Cx wr (w.heap.size + 2) 107 (askCs (sayH bs ws i) (sayH bs ws (i + 1)) k) ∧ (0 < k → readE bs ws i = 0) ∧ (1 < k → readE bs ws (i + 1) = 0)) (fun u _ => 2 - (intOf u).toNat)
  case atStart =>
    refine ⟨0, by omega, rfl, hB0, ?_, ?_, ?_, fun h => absurd h (by omega), fun h => absurd h (by omega)⟩
    · exact (Bx.new w _ _).below (below_alloc2 _ _ _)
    · have h := Cx.new (w.alloc (.cells #[.slice ab bs.length cb, .slice aw ws.length cw] 25)) 107 zero6
      rw [World.size_alloc] at h
      exact h.below (below_alloc _ _)
    · have h := Cx.new ((w.alloc (.cells #[.slice ab bs.length cb, .slice aw ws.length cw] 25)).alloc (.cells zero6.toArray 107)) 107 zero6
      rw [World.size_alloc, World.size_alloc] at h
      exact h
  case round =>
    obtain ⟨k, hk, rfl, hBw, hx, hr, hc, h0, h1⟩ := hrel
    obtain ⟨x0, x1, xf0, xf1, xl⟩ := hx.cells
    rcases (by omega : k = 0 ∨ k = 1 ∨ k = 2) with rfl | rfl | rfl
    · clear h0 h1
      have S1 := Lib.hid (says_small (bs := bs) (ws := ws) (i := i))
      obtain ⟨c, hcE⟩ : ∃ c, c = readE bs ws i := ⟨_, rfl⟩
      obtain ⟨t, htE⟩ : ∃ t, t = readT bs ws i := ⟨_, rfl⟩
      rw [← htE] at S1
      have hl := S1.out.1
      by_cases hz : c = 0
      · have hS := Lib.hid ((S1.out.2 (hcE ▸ hz)).symm)
        have hcb : (c != 0) = false := by simp [hz]
        have HC := Lib.hid (And.intro hcE hz)
        have HT := Lib.hid htE
        clear hcE hz htE S1
        go_wp2_with fail
        refine (read_calls _ _ bs ws i _ (hb.below hBw) (hw.below hBw)).mono ?_
        rintro e w1 ⟨he, hB1⟩
        rw [← HC.out.1, ← HT.out] at he
        subst he
        have hBw1 := below2 hBw hB1
        go_wp2_with fail
        refine (hear_calls t (by omega) _ (hT.below hBw1)).mono ?_
        rintro e w2 ⟨rfl, hB2⟩
        rw [saidCs_eq]
        have hx2 := (hx.below hB1).below hB2
        have hr2 := (hr.below hB1).below hB2
        have hc2 := (hc.below hB1).below hB2
        have hBw2 := below2 hBw1 hB2
        rw [show askCs (sayH bs ws i) (sayH bs ws (i + 1)) 0 = zero6 from rfl] at hc2
        obtain ⟨⟨c0, c1, c2, c3, c4, c5⟩, ⟨f0, f1, f2, f3, f4, f5⟩, hlt⟩ := hc2.six
        go_wp2_with fail
        have hn := ((hc2.set 0 (.bool (isO (hearL t)))).set 1 (.int .i64 ((numO (hearL t) : Nat) : Int))).set 2 (.string ⟨(txtO (hearL t)).toArray⟩)
        refine ⟨⟨1, by omega, rfl, ((hBw2.setCell (by simp; omega) _).setCell (by simp; omega) _).setCell (by simp; omega) _, ?_, ?_, ?_, ?_, ?_⟩, by simp [intOf]⟩
        · unfold Bx at hx2 ⊢
          rw [heap_setCell_other _ _ _ _ (by simp; omega), heap_setCell_other _ _ _ _ (by simp; omega), heap_setCell_other _ _ _ _ (by simp; omega)]
          exact hx2
        · exact ((hr2.other (by omega) _).other (by omega) _).other (by omega) _
        · rw [show askCs (sayH bs ws i) (sayH bs ws (i + 1)) 1 = [.bool (isO (hearL t)), .int .i64 ((numO (hearL t) : Nat) : Int), .string ⟨(txtO (hearL t)).toArray⟩, .bool false, .int .i64 0, .string ⟨#[]⟩] by unfold askCs; rw [if_pos (by omega), if_neg (by omega), show sayH bs ws i = hearL t by rw [sayH, hS.out], saidCs_eq]; rfl]
          exact hn
        · exact fun _ => by rw [← HC.out.1]; exact HC.out.2
        · exact fun h => absurd h (by omega)
      · have hcb : (c != 0) = true := by simpa using hz
        have E := Lib.hid (show askE bs ws i = c by rw [askE, if_neg (hcE ▸ hz), hcE])
        have HC := Lib.hid (And.intro hcE hz)
        have HT := Lib.hid htE
        clear hcE hz htE S1
        go_wp2_with fail
        refine (read_calls _ _ bs ws i _ (hb.below hBw) (hw.below hBw)).mono ?_
        rintro e w1 ⟨he, hB1⟩
        rw [← HC.out.1, ← HT.out] at he
        subst he
        have hBw1 := below2 hBw hB1
        have hr1 := hr.below hB1
        obtain ⟨⟨c0, c1, c2, c3, c4, c5⟩, ⟨f0, f1, f2, f3, f4, f5⟩, hlt⟩ := hr1.six
        go_wp2_with fail
        have hn := (((((hr1.set 0 (.bool false)).set 1 (.int .i64 0)).set 2 (.string ⟨#[]⟩)).set 3 (.bool false)).set 4 (.int .i64 0)).set 5 (.string ⟨#[]⟩)
        refine ret_both2 (p := 4) (q := 5) (by kernel_rfl) rfl (w.heap.size + 1) 107 _ _ _ _ _ _ (.int .i64 c) rfl rfl hn ?_
        exact ⟨by rw [HR.out, HE.out, E.out, if_neg HC.out.2]; rfl, (((((hBw1.setCell (by simp) _).setCell (by simp) _).setCell (by simp) _).setCell (by simp) _).setCell (by simp) _).setCell (by simp) _⟩
    · have z0 := h0 (by omega)
      obtain ⟨hib0, hib1⟩ : 0 ≤ i ∧ i < 200 := by
        have a := read_ok.1 z0
        have b := hasB_iff.1 a.2
        have d := right_parts a.1
        omega
      have Z0 := Lib.hid z0
      clear h0 h1 z0
      have S1 := Lib.hid (says_small (bs := bs) (ws := ws) (i := (i + 1)))
      obtain ⟨c, hcE⟩ : ∃ c, c = readE bs ws (i + 1) := ⟨_, rfl⟩
      obtain ⟨t, htE⟩ : ∃ t, t = readT bs ws (i + 1) := ⟨_, rfl⟩
      rw [← htE] at S1
      have hl := S1.out.1
      by_cases hz : c = 0
      · have hS := Lib.hid ((S1.out.2 (hcE ▸ hz)).symm)
        have hcb : (c != 0) = false := by simp [hz]
        have HC := Lib.hid (And.intro hcE hz)
        have HT := Lib.hid htE
        clear hcE hz htE S1
        go_wp2_with fail
        refine (read_calls _ _ bs ws (i + 1) _ (hb.below hBw) (hw.below hBw)).mono ?_
        rintro e w1 ⟨he, hB1⟩
        rw [← HC.out.1, ← HT.out] at he
        subst he
        have hBw1 := below2 hBw hB1
        go_wp2_with fail
        refine (hear_calls t (by omega) _ (hT.below hBw1)).mono ?_
        rintro e w2 ⟨rfl, hB2⟩
        rw [saidCs_eq]
        have hx2 := (hx.below hB1).below hB2
        have hr2 := (hr.below hB1).below hB2
        have hc2 := (hc.below hB1).below hB2
        have hBw2 := below2 hBw1 hB2
        rw [show askCs (sayH bs ws i) (sayH bs ws (i + 1)) 1 = [.bool (isO (sayH bs ws i)), .int .i64 ((numO (sayH bs ws i) : Nat) : Int), .string ⟨(txtO (sayH bs ws i)).toArray⟩, .bool false, .int .i64 0, .string ⟨#[]⟩] by unfold askCs; rw [if_pos (by omega), if_neg (by omega), saidCs_eq]; rfl] at hc2
        obtain ⟨⟨c0, c1, c2, c3, c4, c5⟩, ⟨f0, f1, f2, f3, f4, f5⟩, hlt⟩ := hc2.six
        go_wp2_with fail
        have hn := ((hc2.set 3 (.bool (isO (hearL t)))).set 4 (.int .i64 ((numO (hearL t) : Nat) : Int))).set 5 (.string ⟨(txtO (hearL t)).toArray⟩)
        refine ⟨⟨2, by omega, rfl, ((hBw2.setCell (by simp; omega) _).setCell (by simp; omega) _).setCell (by simp; omega) _, ?_, ?_, ?_, ?_, ?_⟩, by simp [intOf]⟩
        · unfold Bx at hx2 ⊢
          rw [heap_setCell_other _ _ _ _ (by simp; omega), heap_setCell_other _ _ _ _ (by simp; omega), heap_setCell_other _ _ _ _ (by simp; omega)]
          exact hx2
        · exact ((hr2.other (by omega) _).other (by omega) _).other (by omega) _
        · rw [show askCs (sayH bs ws i) (sayH bs ws (i + 1)) 2 = [.bool (isO (sayH bs ws i)), .int .i64 ((numO (sayH bs ws i) : Nat) : Int), .string ⟨(txtO (sayH bs ws i)).toArray⟩, .bool (isO (hearL t)), .int .i64 ((numO (hearL t) : Nat) : Int), .string ⟨(txtO (hearL t)).toArray⟩] by unfold askCs; rw [if_pos (by omega), if_pos (by omega), show sayH bs ws (i + 1) = hearL t by rw [sayH, hS.out], saidCs_eq, saidCs_eq]; rfl]
          exact hn
        · exact fun _ => Z0.out
        · exact fun _ => by rw [← HC.out.1]; exact HC.out.2
      · have hcb : (c != 0) = true := by simpa using hz
        have E := Lib.hid (show askE bs ws i = c by rw [askE, if_pos Z0.out, hcE])
        have HC := Lib.hid (And.intro hcE hz)
        have HT := Lib.hid htE
        clear hcE hz htE S1
        go_wp2_with fail
        refine (read_calls _ _ bs ws (i + 1) _ (hb.below hBw) (hw.below hBw)).mono ?_
        rintro e w1 ⟨he, hB1⟩
        rw [← HC.out.1, ← HT.out] at he
        subst he
        have hBw1 := below2 hBw hB1
        have hr1 := hr.below hB1
        obtain ⟨⟨c0, c1, c2, c3, c4, c5⟩, ⟨f0, f1, f2, f3, f4, f5⟩, hlt⟩ := hr1.six
        go_wp2_with fail
        have hn := (((((hr1.set 0 (.bool false)).set 1 (.int .i64 0)).set 2 (.string ⟨#[]⟩)).set 3 (.bool false)).set 4 (.int .i64 0)).set 5 (.string ⟨#[]⟩)
        refine ret_both2 (p := 4) (q := 5) (by kernel_rfl) rfl (w.heap.size + 1) 107 _ _ _ _ _ _ (.int .i64 c) rfl rfl hn ?_
        exact ⟨by rw [HR.out, HE.out, E.out, if_neg HC.out.2]; rfl, (((((hBw1.setCell (by simp) _).setCell (by simp) _).setCell (by simp) _).setCell (by simp) _).setCell (by simp) _).setCell (by simp) _⟩
    · have E := Lib.hid (show askE bs ws i = 0 by rw [askE, if_pos (h0 (by omega)), h1 (by omega)])
      clear h0 h1
      obtain ⟨v0, v1, v2, v3, v4, v5, hv⟩ := askCs_form (sayH bs ws i) (sayH bs ws (i + 1)) 2
      rw [hv] at hc
      have HV := Lib.hid hv
      clear hv
      obtain ⟨⟨c0, c1, c2, c3, c4, c5⟩, ⟨f0, f1, f2, f3, f4, f5⟩, hlt⟩ := hc.six
      obtain ⟨⟨d0, d1, d2, d3, d4, d5⟩, ⟨g0, g1, g2, g3, g4, g5⟩, hlt1⟩ := hr.six
      go_wp2_with fail
      have hn := (((((hr.set 0 (.bool v0)).set 1 (.int .i64 v1)).set 2 (.string ⟨v2.toArray⟩)).set 3 (.bool v3)).set 4 (.int .i64 v4)).set 5 (.string ⟨v5.toArray⟩)
      refine ret_both2 (p := 4) (q := 5) (by kernel_rfl) rfl (w.heap.size + 1) 107 _ _ _ _ _ _ (.int .i64 0) rfl rfl hn ?_
      exact ⟨by rw [HR.out, HE.out, E.out, if_pos rfl, HV.out], (((((hBw.setCell (by simp) _).setCell (by simp) _).setCell (by simp) _).setCell (by simp) _).setCell (by simp) _).setCell (by simp) _⟩

end Go.Proofs.YtdbidfbjfongbaaDoor

/-
  twin: newest (a twin's newest copy, and where it is not).
-/
namespace Go.Proofs.YtdbidfbjfongbaaDoor
open Go.RowKit

theorem askE_newest (bs : List (List UInt8)) (ws : List Wr) (i : Int) : newestE bs ws i = if askE bs ws i = 0 then (if clashB (sayH bs ws i) (sayH bs ws (i + 1)) = true then 50 else 0) else askE bs ws i := by
  unfold newestE askE
  by_cases h : readE bs ws i = 0
  · simp only [if_pos h]
  · simp only [if_neg h]

/-- The program's own way to pick one. -/
def pickC (a b : Option (Nat × List UInt8)) : Option (Nat × List UInt8) := if pickB a b = true then a else b

theorem heap3 (w : World) (o : Obj) (t u : TypeId) (c d : List Value) : Cx ((((w.alloc o).alloc (.cells c.toArray t)).alloc (.cells d.toArray u)).drew) (w.heap.size + 1) t c ∧ Cx ((((w.alloc o).alloc (.cells c.toArray t)).alloc (.cells d.toArray u)).drew) (w.heap.size + 1 + 1) u d ∧
    Below w.heap.size w ((((w.alloc o).alloc (.cells c.toArray t)).alloc (.cells d.toArray u)).drew) := by
  have h1 := Cx.new (w.alloc o) t c
  have h2 := Cx.new ((w.alloc o).alloc (.cells c.toArray t)) u d
  rw [World.size_alloc] at h1
  rw [World.size_alloc, World.size_alloc] at h2
  exact ⟨(h1.below (below_alloc _ _)).below (drew_below _), h2.below (drew_below _), below2 (below_alloc3 _ _ _ _) (drew_below _)⟩

set_option maxRecDepth 100000 in
set_option maxHeartbeats 4000000 in
theorem newest_calls (vb vw : Value) (bs : List (List UInt8)) (ws : List Wr) (i : Int) (hi : -9223372036854775808 ≤ i ∧ i ≤ 9223372036854775807) (w : World) (hb : Txts w vb bs) (hw : Wrs w vw ws) (hT : TabOk w) :
    Calls Tryd.prog 48 #[.agg #[vb, vw], .int .i64 i] w fun e w' => e = .returned (.tuple #[.agg (saidCs (newestC bs ws i)).toArray, .int .i64 (newestTo bs ws i), .int .i64 (newestE bs ws i)]) ∧ Below w.heap.size w w' := by
  obtain ⟨ab, cb, rfl⟩ := hb.strs.form
  obtain ⟨aw, cw, rfl⟩ := hw.form
  obtain ⟨C, hC⟩ : ∃ C, C = (saidCs (newestC bs ws i)).toArray := ⟨_, rfl⟩
  obtain ⟨T, hTo⟩ : ∃ T, T = newestTo bs ws i := ⟨_, rfl⟩
  obtain ⟨E, hE⟩ : ∃ E, E = newestE bs ws i := ⟨_, rfl⟩
  rw [← hC, ← hTo, ← hE]
  have HC := Lib.hid hC
  have HTo := Lib.hid hTo
  have HE := Lib.hid hE
  clear hC hTo hE
  have hB0 := below_alloc2 w (.cells #[.slice ab bs.length cb, .slice aw ws.length cw] 25) (.cells #[.bool false, .int .i64 0, .string ⟨#[]⟩] 89)
  have A0 := ask_calls _ _ bs ws i hi _ (hb.below hB0) (hw.below hB0) (hT.below hB0)
  have hr0 := Cx.new (w.alloc (.cells #[.slice ab bs.length cb, .slice aw ws.length cw] 25)) 89 [.bool false, .int .i64 0, .string ⟨#[]⟩]
  rw [World.size_alloc] at hr0
  by_cases hz : askE bs ws i = 0
  · rw [hz, if_pos rfl] at A0
    obtain ⟨hib0, hib1⟩ : 0 ≤ i ∧ i < 200 := by
      have z0 : readE bs ws i = 0 := by
        unfold askE at hz
        by_cases h : readE bs ws i = 0
        · exact h
        · rw [if_neg h] at hz; exact absurd hz h
      have a := read_ok.1 z0
      have b := hasB_iff.1 a.2
      have d := right_parts a.1
      omega
    have HN := Lib.hid (askE_newest bs ws i)
    rw [hz, if_pos rfl] at HN
    have HNC := Lib.hid (show newestE bs ws i = 0 → newestC bs ws i = pickC (sayH bs ws i) (sayH bs ws (i + 1)) ∧ newestTo bs ws i = if pickB (sayH bs ws i) (sayH bs ws (i + 1)) = true then i + 1 else i from fun h => by simp [newestC, newestTo, pickC, h])
    clear hz
    generalize sayH bs ws i = a at A0 HN HNC
    generalize sayH bs ws (i + 1) = b at A0 HN HNC
    rw [show askCs a b 2 = [.bool (isO a), .int .i64 ((numO a : Nat) : Int), .string ⟨(txtO a).toArray⟩, .bool (isO b), .int .i64 ((numO b : Nat) : Int), .string ⟨(txtO b).toArray⟩] by unfold askCs; rw [if_pos (by omega), if_pos (by omega), saidCs_eq, saidCs_eq]; rfl] at A0
    have K := Lib.hid A0
    clear A0
    obtain ⟨ia, hia⟩ : ∃ x, x = isO a := ⟨_, rfl⟩
    obtain ⟨ib, hib⟩ : ∃ x, x = isO b := ⟨_, rfl⟩
    obtain ⟨na, hna⟩ : ∃ x, x = numO a := ⟨_, rfl⟩
    obtain ⟨nb, hnb⟩ : ∃ x, x = numO b := ⟨_, rfl⟩
    obtain ⟨ta, hta⟩ : ∃ x, x = txtO a := ⟨_, rfl⟩
    obtain ⟨tb, htb⟩ : ∃ x, x = txtO b := ⟨_, rfl⟩
    rw [← hia, ← hib, ← hna, ← hnb, ← hta, ← htb] at K
    have L := Lib.hid (And.intro hia (And.intro hib (And.intro hna (And.intro hnb (And.intro hta htb)))))
    clear hia hib hna hnb hta htb
    go_enter Tryd.func48, Tryd.ntmps48
    go_wp2_with fail
    refine K.out.mono ?_
    rintro e w1 ⟨rfl, hB1⟩
    have hr1 := hr0.below hB1
    have hBB1 := below2 hB0 hB1
    go_upto_region 4 with (fail)
    go_cut [9, 10] (fun t u wr => ∃ p q, t = .pointer (some ⟨p, 0, none⟩) ∧ u = .pointer (some ⟨q, 0, none⟩) ∧ Cx wr p 89 [.bool ia, .int .i64 (na : Int), .string ⟨ta.toArray⟩]
        ∧ Cx wr q 89 [.bool ib, .int .i64 (nb : Int), .string ⟨tb.toArray⟩] ∧ Below w1.heap.size w1 wr)
    case first =>
      go_region
      all_goals
        go_wp2_with fail
        go_meet
        case rel =>
          obtain ⟨q1, q2, q3⟩ := heap3 w1 (.cells #[.bool ia, .int .i64 (na : Int), .string ⟨ta.toArray⟩, .bool ib, .int .i64 (nb : Int), .string ⟨tb.toArray⟩] 107) 89 89 _ _
          exact ⟨_, _, rfl, rfl, by first | exact q1 | exact q2, by first | exact q1 | exact q2, q3⟩
    case rest =>
      obtain ⟨p, q, rfl, rfl, hp, hq, hB2⟩ := hcut
      have hr2 := hr1.below hB2
      have hBB2 := below2 hBB1 hB2
      obtain ⟨c0, c1, c2, f0, f1, f2, hlt⟩ := hr2.three
      obtain ⟨p0, p1, p2, _, _, _, hlp⟩ := hp.three
      obtain ⟨q0, q1, q2, _, _, _, hlq⟩ := hq.three
      clear hp hq
      have SB := Lib.hid (show saidCs b = [.bool ib, .int .i64 (nb : Int), .string ⟨tb.toArray⟩] by rw [saidCs_eq, L.out.2.1, L.out.2.2.2.1, L.out.2.2.2.2.2])
      have SA := Lib.hid (show saidCs a = [.bool ia, .int .i64 (na : Int), .string ⟨ta.toArray⟩] by rw [saidCs_eq, L.out.1, L.out.2.2.1, L.out.2.2.2.2.1])
      rcases a with _ | x
      · obtain rfl : ia = false := L.out.1
        have F1 := Lib.hid (show newestE bs ws i = 0 by rw [HN.out]; simp [clashB])
        have F2 := Lib.hid (HNC.out F1.out)
        go_wp2_with fail
        have hr3 := ((hr2.set 0 (.bool ib)).set 1 (.int .i64 (nb : Int))).set 2 (.string ⟨tb.toArray⟩)
        refine ret_said3 (p := 4) (q := 5) (r := 6) (by kernel_rfl) rfl (w.heap.size + 1) 89 _ _ _ (.int .i64 i) (.int .i64 0) rfl rfl rfl hr3 ?_
        exact ⟨by rw [HC.out, HTo.out, HE.out, F1.out, F2.out.1, F2.out.2, show pickC none b = b from rfl, SB.out, show pickB none b = false from rfl, if_neg Bool.false_ne_true], ((hBB2.setCell (by simp) _).setCell (by simp) _).setCell (by simp) _⟩
      · obtain rfl : ia = true := L.out.1
        rcases b with _ | y
        · obtain rfl : ib = false := L.out.2.1
          have F1 := Lib.hid (show newestE bs ws i = 0 by rw [HN.out]; simp [clashB])
          have F2 := Lib.hid (HNC.out F1.out)
          go_wp2_with fail
          have hr3 := ((hr2.set 0 (.bool true)).set 1 (.int .i64 (na : Int))).set 2 (.string ⟨ta.toArray⟩)
          refine ret_said3 (p := 4) (q := 5) (r := 6) (by kernel_rfl) rfl (w.heap.size + 1) 89 _ _ _ (.int .i64 (i + 1)) (.int .i64 0) rfl rfl rfl hr3 ?_
          exact ⟨by rw [HC.out, HTo.out, HE.out, F1.out, F2.out.1, F2.out.2, show pickC (some x) none = some x from rfl, SA.out, show pickB (some x) none = true from rfl, if_pos rfl], ((hBB2.setCell (by simp) _).setCell (by simp) _).setCell (by simp) _⟩
        · obtain rfl : ib = true := L.out.2.1
          obtain rfl : na = x.1 := L.out.2.2.1
          obtain rfl : nb = y.1 := L.out.2.2.2.1
          by_cases he : x.1 = y.1
          · have F1 := Lib.hid (show newestE bs ws i = 50 by rw [HN.out]; simp [clashB, he])
            have F2 := Lib.hid (newest_short (bs := bs) (ws := ws) (i := i) (by rw [F1.out]; omega))
            have heb : (((x.1 : Nat) : Int) == ((y.1 : Nat) : Int)) = true := by simp [he]
            clear he
            go_wp2_with fail
            have hr3 := ((hr2.set 0 (.bool false)).set 1 (.int .i64 0)).set 2 (.string ⟨#[]⟩)
            refine ret_said3 (p := 4) (q := 5) (r := 6) (by kernel_rfl) rfl (w.heap.size + 1) 89 _ _ _ (.int .i64 0) (.int .i64 50) rfl rfl rfl hr3 ?_
            exact ⟨by rw [HC.out, HTo.out, HE.out, F1.out, F2.out.1, F2.out.2]; rfl, ((hBB2.setCell (by simp) _).setCell (by simp) _).setCell (by simp) _⟩
          · have F1 := Lib.hid (show newestE bs ws i = 0 by rw [HN.out]; simp [clashB, he])
            have F2 := Lib.hid (HNC.out F1.out)
            have heb : (((x.1 : Nat) : Int) == ((y.1 : Nat) : Int)) = false := by rw [beq_eq_false_iff_ne]; omega
            by_cases hlt2 : y.1 < x.1
            · have hgb : decide (y.1 < x.1) = true := by simpa using hlt2
              have PB := Lib.hid (show pickB (some x) (some y) = true by simp [pickB, hlt2])
              clear he hlt2
              go_wp2_with fail
              have hr3 := ((hr2.set 0 (.bool true)).set 1 (.int .i64 (x.1 : Int))).set 2 (.string ⟨ta.toArray⟩)
              refine ret_said3 (p := 4) (q := 5) (r := 6) (by kernel_rfl) rfl (w.heap.size + 1) 89 _ _ _ (.int .i64 (i + 1)) (.int .i64 0) rfl rfl rfl hr3 ?_
              exact ⟨by rw [HC.out, HTo.out, HE.out, F1.out, F2.out.1, F2.out.2, pickC, PB.out, if_pos rfl, if_pos rfl, SA.out], ((hBB2.setCell (by simp) _).setCell (by simp) _).setCell (by simp) _⟩
            · have hgb : decide (y.1 < x.1) = false := by simp; omega
              have PB := Lib.hid (show pickB (some x) (some y) = false by simp [pickB, hlt2])
              clear he hlt2
              go_wp2_with fail
              have hr3 := ((hr2.set 0 (.bool true)).set 1 (.int .i64 (y.1 : Int))).set 2 (.string ⟨tb.toArray⟩)
              refine ret_said3 (p := 4) (q := 5) (r := 6) (by kernel_rfl) rfl (w.heap.size + 1) 89 _ _ _ (.int .i64 i) (.int .i64 0) rfl rfl rfl hr3 ?_
              exact ⟨by rw [HC.out, HTo.out, HE.out, F1.out, F2.out.1, F2.out.2, pickC, PB.out, if_neg Bool.false_ne_true, if_neg Bool.false_ne_true, SB.out], ((hBB2.setCell (by simp) _).setCell (by simp) _).setCell (by simp) _⟩
  · have F1 := Lib.hid (show newestE bs ws i = askE bs ws i by rw [askE_newest, if_neg hz])
    have F2 := Lib.hid (newest_short (bs := bs) (ws := ws) (i := i) (by rw [F1.out]; exact hz))
    rw [if_neg hz, show askCs (sayH bs ws i) (sayH bs ws (i + 1)) 0 = zero6 from rfl] at A0
    obtain ⟨c, hc⟩ : ∃ c, c = askE bs ws i := ⟨_, rfl⟩
    rw [← hc] at A0 F1 hz
    have hcb : (c != 0) = true := by simpa using hz
    have K := Lib.hid A0
    clear A0 hc hz
    go_enter Tryd.func48, Tryd.ntmps48
    go_wp2_with fail
    refine K.out.mono ?_
    rintro e w1 ⟨rfl, hB1⟩
    have hr1 := hr0.below hB1
    have hBB1 := below2 hB0 hB1
    obtain ⟨c0, c1, c2, f0, f1, f2, hlt⟩ := hr1.three
    go_wp2_with fail
    have hr3 := Cx.below (((hr1.set 0 (.bool false)).set 1 (.int .i64 0)).set 2 (.string ⟨#[]⟩)) (below_alloc _ (.cells zero6.toArray 107))
    refine ret_said3 (p := 4) (q := 5) (r := 6) (by kernel_rfl) rfl (w.heap.size + 1) 89 _ _ _ (.int .i64 0) (.int .i64 c) rfl rfl rfl hr3 ?_
    exact ⟨by rw [HC.out, HTo.out, HE.out, F1.out, F2.out.1, F2.out.2]; rfl, below2 (((hBB1.setCell (by simp) _).setCell (by simp) _).setCell (by simp) _) (below_alloc _ _)⟩

end Go.Proofs.YtdbidfbjfongbaaDoor

/-
  twin: Get.
-/
namespace Go.Proofs.YtdbidfbjfongbaaDoor
open Go.RowKit

set_option maxRecDepth 100000 in
set_option maxHeartbeats 2000000 in
theorem tget_calls (vb vw : Value) (bs : List (List UInt8)) (ws : List Wr) (i : Int) (hi : -9223372036854775808 ≤ i ∧ i ≤ 9223372036854775807) (w : World) (hb : Txts w vb bs) (hw : Wrs w vw ws) (hT : TabOk w) :
    Calls Tryd.prog 31 #[.agg #[vb, vw], .int .i64 i] w fun e w' => e = .returned (.tuple #[.string ⟨(txtO (newestC bs ws i)).toArray⟩, .int .i64 ((numO (newestC bs ws i) : Nat) : Int), .int .i64 (newestE bs ws i)]) ∧ Below w.heap.size w w' := by
  obtain ⟨ab, cb, rfl⟩ := hb.strs.form
  obtain ⟨aw, cw, rfl⟩ := hw.form
  have hB0 := below_alloc w (.cells #[.slice ab bs.length cb, .slice aw ws.length cw] 25)
  have A0 := newest_calls _ _ bs ws i hi _ (hb.below hB0) (hw.below hB0) (hT.below hB0)
  rw [saidCs_eq] at A0
  generalize isO (newestC bs ws i) = o at A0
  generalize numO (newestC bs ws i) = n at A0 ⊢
  generalize txtO (newestC bs ws i) = t at A0 ⊢
  generalize newestTo bs ws i = x at A0
  generalize newestE bs ws i = y at A0 ⊢
  have K := Lib.hid A0
  clear A0
  go_enter Tryd.func31, Tryd.ntmps31
  go_wp2_with fail
  refine K.out.mono ?_
  rintro e w1 ⟨rfl, hB1⟩
  go_wp2_with fail
  go_quiet (fail)
  go_wp2_with fail
  go_ret3
  exact ⟨rfl, below3 hB0 hB1 (below2 (below_alloc _ _) (drewn_below _ _))⟩

end Go.Proofs.YtdbidfbjfongbaaDoor

/-
  twin: deedsOf (the row of a Stop's deeds) and both deeds.
-/
namespace Go.Proofs.YtdbidfbjfongbaaDoor
open Go.RowKit

/-- A deed: Write of s to the block i (Bt, Bs: where the closure's variables stand). -/
abbrev deedW (Bt Bs : Nat) : Value := .func (.func 70) #[] #[.pointer (some ⟨Bt, 0, none⟩), .pointer (some ⟨Bs, 0, none⟩)]
/-- A deed: Sync. -/
abbrev deedS : Value := .func (.func 71) #[] #[]

set_option maxRecDepth 100000 in
set_option maxHeartbeats 2000000 in
theorem deedsOf_calls (i : Int) (s : List UInt8) (w : World) :
    Calls Tryd.prog 56 #[.int .i64 i, .string ⟨s.toArray⟩] w fun e w' => ∃ g Bt Bs, e = .returned (.slice (some ⟨g, 0, none⟩) 2 2) ∧ Cx w' g 123 [deedW Bt Bs, deedS] ∧ Cx w' Bt 3 [.int .i64 i] ∧ Cx w' Bs 9 [.string ⟨s.toArray⟩] ∧ Below w.heap.size w w' := by
  go_enter Tryd.func56, Tryd.ntmps56
  go_wp2_with fail
  go_ret
  have h1 := Cx.new w 3 [.int .i64 i]
  have h2 := Cx.new (w.alloc (.cells #[.int .i64 i] 3)) 9 [.string ⟨s.toArray⟩]
  have h3 := Cx.new ((w.alloc (.cells #[.int .i64 i] 3)).alloc (.cells #[.string ⟨s.toArray⟩] 9)) 123 [deedW w.heap.size (w.heap.size + 1), deedS]
  rw [World.size_alloc] at h2
  rw [World.size_alloc, World.size_alloc] at h3
  exact ⟨_, _, _, rfl, h3, h1.below (below_alloc2 _ _ _), h2.below (below_alloc _ _), below_alloc3 _ _ _ _⟩

set_option maxRecDepth 100000 in
set_option maxHeartbeats 2000000 in
theorem deedW_calls (Bt Bs : Nat) (vb vw : Value) (bs : List (List UInt8)) (ws : List Wr) (i : Int) (s : List UInt8) (w : World) (hb : Txts w vb bs) (hw : Wrs w vw ws) (ht : Cx w Bt 3 [.int .i64 i]) (hs : Cx w Bs 9 [.string ⟨s.toArray⟩]) :
    Calls Tryd.prog 70 #[.agg #[vb, vw], .pointer (some ⟨Bt, 0, none⟩), .pointer (some ⟨Bs, 0, none⟩)] w fun e w' => ∃ vb' vw', e = .returned (.tuple #[.agg #[vb', vw'], .int .i64 (writeE bs ws i s)]) ∧ OwnD w' w.heap.size vb' (writeBs bs ws i s) vw' (writeWs bs ws i s) ∧ Below w.heap.size w w' := by
  obtain ⟨ab, cb, rfl⟩ := hb.strs.form
  obtain ⟨aw, cw, rfl⟩ := hw.form
  obtain ⟨hx0, hr0, hB0⟩ := entry2 w (.slice ab bs.length cb) (.slice aw ws.length cw)
  have K := Lib.hid (write_calls _ _ bs ws i s _ (hb.below hB0) (hw.below hB0))
  have t0 := (ht.below hB0).cell (j := 0) rfl
  have s0 := (hs.below hB0).cell (j := 0) rfl
  clear hb hw
  generalize writeE bs ws i s = E at K ⊢
  generalize writeBs bs ws i s = B at K ⊢
  generalize writeWs bs ws i s = V at K ⊢
  go_enter Tryd.func70, Tryd.ntmps70
  go_wp2_with fail
  refine K.out.mono ?_
  rintro e w1 ⟨vb1, vw1, rfl, ho1, hB1⟩
  have hr1 := hr0.below hB1
  obtain ⟨q0, q1, q2, q3, q4⟩ := hr1.cells
  obtain ⟨ab1, nb1, cb1, aw1, nw1, cw1, rfl, rfl, hnb1, hnw1⟩ := ho1.forms
  clear hnb1 hnw1
  have HO := Lib.hid ho1
  clear ho1
  go_wp2_with fail
  obtain ⟨r1, r2⟩ := ret_own (w := w) (x := .slice ab1 nb1 cb1) (y := .slice aw1 nw1 cw1) HO.out (by simp) (below2 hB0 hB1)
  have hr3 := bx_set hr1 (.slice ab1 nb1 cb1) (.slice aw1 nw1 cw1)
  refine ret_disk2 (p := 4) (q := 5) (by kernel_rfl) rfl (w.heap.size + 1) _ _ (.int .i64 E) rfl rfl hr3.cells.1 hr3.cells.2.1 ?_
  exact ⟨_, _, rfl, r1, r2⟩

set_option maxRecDepth 100000 in
set_option maxHeartbeats 2000000 in
theorem deedS_calls (vb vw : Value) (bs : List (List UInt8)) (ws : List Wr) (w : World) (hb : Txts w vb bs) (hw : Wrs w vw ws) :
    Calls Tryd.prog 71 #[.agg #[vb, vw]] w fun e w' => ∃ vb' vw', e = .returned (.tuple #[.agg #[vb', vw'], .int .i64 (syncE bs ws)]) ∧ OwnD w' w.heap.size vb' (syncBs bs ws) vw' [] ∧ Below w.heap.size w w' := by
  obtain ⟨ab, cb, rfl⟩ := hb.strs.form
  obtain ⟨aw, cw, rfl⟩ := hw.form
  obtain ⟨hx0, hr0, hB0⟩ := entry2 w (.slice ab bs.length cb) (.slice aw ws.length cw)
  have K := Lib.hid (sync_calls _ _ bs ws _ (hb.below hB0) (hw.below hB0))
  clear hb hw
  generalize syncE bs ws = E at K ⊢
  generalize syncBs bs ws = B at K ⊢
  go_enter Tryd.func71, Tryd.ntmps71
  go_wp2_with fail
  refine K.out.mono ?_
  rintro e w1 ⟨vb1, vw1, rfl, ho1, hB1⟩
  have hr1 := hr0.below hB1
  obtain ⟨q0, q1, q2, q3, q4⟩ := hr1.cells
  obtain ⟨ab1, nb1, cb1, aw1, nw1, cw1, rfl, rfl, hnb1, hnw1⟩ := ho1.forms
  clear hnb1 hnw1
  have HO := Lib.hid ho1
  clear ho1
  go_wp2_with fail
  obtain ⟨r1, r2⟩ := ret_own (w := w) (x := .slice ab1 nb1 cb1) (y := .slice aw1 nw1 cw1) HO.out (by simp) (below2 hB0 hB1)
  have hr3 := bx_set hr1 (.slice ab1 nb1 cb1) (.slice aw1 nw1 cw1)
  refine ret_disk2 (p := 2) (q := 3) (by kernel_rfl) rfl (w.heap.size + 1) _ _ (.int .i64 E) rfl rfl hr3.cells.1 hr3.cells.2.1 ?_
  exact ⟨_, _, rfl, r1, r2⟩

end Go.Proofs.YtdbidfbjfongbaaDoor

/-
  twin: behind (the disk behind so many deeds of the row).
-/
namespace Go.Proofs.YtdbidfbjfongbaaDoor
open Go.RowKit

/-- A disk's blocks behind k deeds. -/
def stB (bs : List (List UInt8)) (ws : List Wr) (x : Wr) : Nat → List (List UInt8)
  | 0 => bs
  | 1 => bs
  | _ => layL bs (ws ++ [x])
/-- What waits behind k deeds. -/
def stW (ws : List Wr) (x : Wr) : Nat → List Wr
  | 0 => ws
  | 1 => ws ++ [x]
  | _ => []
/-- A disk of the call's own stays as it is where another box is written. -/
theorem own_sets2 {w : World} {base B : Nat} {vb vw p q : Value} {bs : List (List UInt8)} {ws : List Wr} (h : OwnD w base vb bs vw ws) (hx : Bx w B p q) (v x : Value) : OwnD ((w.setCell ⟨B, 0, none⟩ v).setCell ⟨B, 1, none⟩ x) base vb bs vw ws := by
  have k1 : OwnD (w.setCell ⟨B, 0, none⟩ v) base vb bs vw ws := ⟨ownsRow_setCell_other h.1 (by simpa using hx.not_row h.1 (by decide)) _, ownsRow_setCell_other h.2 (by simpa using hx.not_row h.2 (by decide)) _⟩
  have hx1 : Bx (w.setCell ⟨B, 0, none⟩ v) B v q := by
    unfold Bx at hx ⊢
    exact heap_setCell_same w B 0 _ _ v hx
  exact ⟨ownsRow_setCell_other k1.1 (by simpa using hx1.not_row k1.1 (by decide)) _, ownsRow_setCell_other k1.2 (by simpa using hx1.not_row k1.2 (by decide)) _⟩
theorem write_right {bs : List (List UInt8)} {ws : List Wr} {i : Int} {s : List UInt8} (h : writeE bs ws i s = 0) : writeBs bs ws i s = bs ∧ writeWs bs ws i s = ws ++ [(i, s)] ∧ syncE bs (ws ++ [(i, s)]) = 0 ∧ syncBs bs (ws ++ [(i, s)]) = layL bs (ws ++ [(i, s)]) := by
  have hr := right_more h
  simp [writeBs, writeWs, h, syncE, syncBs, hr]
theorem write_none {bs : List (List UInt8)} {ws : List Wr} {i : Int} {s : List UInt8} (h : ¬ writeE bs ws i s = 0) : writeBs bs ws i s = [] ∧ writeWs bs ws i s = [] := by simp [writeBs, writeWs, h]

set_option maxRecDepth 100000 in
set_option maxHeartbeats 4000000 in
theorem behind0_calls (vb vw : Value) (bs : List (List UInt8)) (ws : List Wr) (i : Int) (s : List UInt8) (g Bt Bs : Nat) (w : World) (hb : Txts w vb bs) (hw : Wrs w vw ws) (hg : Cx w g 123 [deedW Bt Bs, deedS]) (ht : Cx w Bt 3 [.int .i64 i]) (hs : Cx w Bs 9 [.string ⟨s.toArray⟩]) (hr : rightB bs ws = true) :
    Calls Tryd.prog 58 #[.agg #[vb, vw], .slice (some ⟨g, 0, none⟩) 2 2, .int .i64 0] w fun e w' => ∃ vb' vw', e = .returned (.tuple #[.agg #[vb', vw'], .int .i64 (writeE bs ws i s)]) ∧ OwnD w' w.heap.size vb' (if writeE bs ws i s = 0 then stB bs ws (i, s) 0 else []) vw' (if writeE bs ws i s = 0 then stW ws (i, s) 0 else []) ∧ Below w.heap.size w w' := by
  obtain ⟨ab, cb, rfl⟩ := hb.strs.form
  obtain ⟨aw, cw, rfl⟩ := hw.form
  obtain ⟨hl1, hl2, hl3, _⟩ := right_parts hr
  obtain ⟨hx0, hr0, hB0⟩ := entry2 w (.slice ab bs.length cb) (.slice aw ws.length cw)
  have KC := Lib.hid (tcopied_calls _ _ bs ws _ (hb.below hB0) (hw.below hB0) (by omega) (by omega))
  have HIN := Lib.hid (And.intro hb hw)
  obtain ⟨E, hE⟩ : ∃ E, E = writeE bs ws i s := ⟨_, rfl⟩
  obtain ⟨FB, hFB⟩ : ∃ F, F = (if writeE bs ws i s = 0 then stB bs ws (i, s) 0 else []) := ⟨_, rfl⟩
  obtain ⟨FW, hFW⟩ : ∃ F, F = (if writeE bs ws i s = 0 then stW ws (i, s) 0 else []) := ⟨_, rfl⟩
  rw [← hFB, ← hFW, ← hE]
  rw [← hE] at hFB hFW
  have HE := Lib.hid hE
  have HF := Lib.hid (And.intro hFB hFW)
  clear hb hw hr hl1 hl2 hl3 hE hFB hFW
  go_enter Tryd.func58, Tryd.ntmps58
  go_wp2_with fail
  refine KC.out.mono ?_
  rintro e w1 ⟨vb1, vw1, rfl, ho1, hB1⟩
  have hBB1 := below2 hB0 hB1
  have hd1 := (hx0.below hB1).below (below_alloc w1 (.cells #[vb1, vw1] 25))
  have hr1 := (hr0.below hB1).below (below_alloc w1 (.cells #[vb1, vw1] 25))
  have hf1 := Bx.new w1 vb1 vw1
  have ho1' := OwnD.below ho1 (below_alloc w1 (.cells #[vb1, vw1] 25))
  rw [World.size_alloc, World.size_alloc] at ho1'
  have hBf := hB1.size
  simp only [World.size_alloc] at hBf
  have hBB2 := below2 hBB1 (below_alloc w1 (.cells #[vb1, vw1] 25))
  obtain ⟨ab1, nb1, cb1, aw1, nw1, cw1, rfl, rfl, hnb1, hnw1⟩ := ho1.forms
  clear hnb1 hnw1
  generalize hBfe : w1.heap.size = Bf at hf1 hBf
  have HBf := Lib.hid hBfe
  clear hBfe
  go_wp2_with fail
  rw [HBf.out]
  go_loopw [17] (fun u wr => ∃ k : Nat, k ≤ 2 ∧ u = .int .i64 k ∧ Below w.heap.size w wr ∧ Bx wr (w.heap.size + 1) (.slice none 0 0) (.slice none 0 0)
      ∧ (∃ a1 n1 c1 a2 n2 c2, Bx wr w.heap.size (.slice a1 n1 c1) (.slice a2 n2 c2) ∧ Txts wr (.slice a1 n1 c1) (stB bs ws (i, s) k) ∧ Wrs wr (.slice a2 n2 c2) (stW ws (i, s) k))
      ∧ (∃ a1 n1 c1 a2 n2 c2, Bx wr Bf (.slice a1 n1 c1) (.slice a2 n2 c2) ∧ OwnD wr (w.heap.size + 2) (.slice a1 n1 c1) (stB bs ws (i, s) (min k 0)) (.slice a2 n2 c2) (stW ws (i, s) (min k 0)))
      ∧ (0 < k → E = 0)) (fun u _ => 2 - (intOf u).toNat)
  case atStart =>
    refine ⟨0, by omega, rfl, hBB2, hr1, ⟨_, _, _, _, _, _, hd1, HIN.out.1.below hBB2, HIN.out.2.below hBB2⟩, ⟨_, _, _, _, _, _, hf1, ?_⟩, fun h => absurd h (by omega)⟩
    exact ho1'
  case round =>
    obtain ⟨k, hk, rfl, hBw, hrr, ⟨a1, n1, c1, a2, n2, c2, hd, hdt, hdw⟩, ⟨a3, n3, c3, a4, n4, c4, hf, hfo⟩, h0⟩ := hrel
    have hgw := hg.below hBw
    have htw := ht.below hBw
    have hsw := hs.below hBw
    have g0 := hgw.cell (j := 0) rfl
    have g1 := hgw.cell (j := 1) rfl
    have gl := hgw.lt
    obtain ⟨d0, d1, df0, df1, dl⟩ := hd.cells
    obtain ⟨f0, f1, ff0, ff1, fl⟩ := hf.cells
    obtain ⟨r0, r1, rf0, rf1, rl⟩ := hrr.cells
    rcases (by omega : k = 0 ∨ k = 1 ∨ k = 2) with rfl | rfl | rfl
    · clear g1
      have K := Lib.hid (deedW_calls Bt Bs _ _ bs ws i s _ hdt hdw htw hsw)
      clear hdt hdw h0
      by_cases hz : E = 0
      · have hcb : (E != 0) = false := by simp [hz]
        have Q := Lib.hid (And.intro hz (write_right (bs := bs) (ws := ws) (i := i) (s := s) (HE.out ▸ hz)))
        clear hz
        go_wp2_with fail
        refine K.out.mono ?_
        rintro e w2 ⟨vb2, vw2, he, ho2, hB2⟩
        rw [← HE.out] at he
        subst he
        rw [Q.out.2.1, Q.out.2.2.1] at ho2
        have hd2 := hd.below hB2
        have hf2 := hf.below hB2
        have hr2 := hrr.below hB2
        have hfo2 := OwnD.below hfo hB2
        have hBw2 := below2 hBw hB2
        obtain ⟨e0, e1, ef0, ef1, el⟩ := hd2.cells
        obtain ⟨y0, y1, yf0, yf1, yl⟩ := hf2.cells
        obtain ⟨ab2, nb2, cb2, aw2, nw2, cw2, rfl, rfl, hnb2, hnw2⟩ := ho2.forms
        clear hnb2 hnw2
        have HO := Lib.hid ho2
        clear ho2 K d0 d1 df0 df1 f0 f1 ff0 ff1
        go_wp2_with fail
        have hsz : w.heap.size + 2 ≤ wr.heap.size := by omega
        have q1 := own_sets2 (show OwnD w2 (w.heap.size + 2) _ _ _ _ from ⟨own_weak HO.out.1 hsz, own_weak HO.out.2 hsz⟩) hd2 (.slice ab2 nb2 cb2) (.slice aw2 nw2 cw2)
        have q2 := bx_set hd2 (.slice ab2 nb2 cb2) (.slice aw2 nw2 cw2)
        have q3 := bx_other hf2 (B' := w.heap.size) (by omega) (.slice ab2 nb2 cb2) (.slice aw2 nw2 cw2)
        have q4 := bx_other hr2 (B' := w.heap.size) (by omega) (.slice ab2 nb2 cb2) (.slice aw2 nw2 cw2)
        have q5 := (hBw2.setCell (p := ⟨w.heap.size, 0, none⟩) (by simp) (.slice ab2 nb2 cb2)).setCell (p := ⟨w.heap.size, 1, none⟩) (by simp) (.slice aw2 nw2 cw2)
        have q6 := own_sets2 hfo2 hd2 (.slice ab2 nb2 cb2) (.slice aw2 nw2 cw2)
        have qB := fun W => below_alloc W (.cells #[.slice ab2 nb2 cb2, .slice aw2 nw2 cw2] 25)
        exact ⟨⟨1, by omega, rfl, below2 q5 (qB _), q4.below (qB _), ⟨_, _, _, _, _, _, q2.below (qB _), (OwnD.below q1 (qB _)).texts, (OwnD.below q1 (qB _)).wrs⟩, ⟨_, _, _, _, _, _, q3.below (qB _), OwnD.below q6 (qB _)⟩, fun _ => Q.out.1⟩, by simp [intOf]⟩
      · have hcb : (E != 0) = true := by simpa using hz
        have Q := Lib.hid (And.intro hz (write_none (bs := bs) (ws := ws) (i := i) (s := s) (HE.out ▸ hz)))
        clear hz
        go_wp2_with fail
        refine K.out.mono ?_
        rintro e w2 ⟨vb2, vw2, he, ho2, hB2⟩
        rw [← HE.out] at he
        subst he
        have hr2 := hrr.below hB2
        have hBw2 := below2 hBw hB2
        obtain ⟨y0, y1, yf0, yf1, yl⟩ := hr2.cells
        obtain ⟨ab2, nb2, cb2, aw2, nw2, cw2, rfl, rfl, hnb2, hnw2⟩ := ho2.forms
        clear hnb2 hnw2 ho2 K d0 d1 df0 df1 f0 f1 ff0 ff1 r0 r1 rf0 rf1
        go_wp2_with fail
        obtain ⟨s1, s2⟩ := ret_own (w := w) (x := .slice none 0 0) (y := .slice none 0 0) (nil_own w2 (w.heap.size + 2)) (Nat.le_refl _) hBw2
        have qB := below_alloc ((w2.setCell ⟨w.heap.size + 1, 0, none⟩ (.slice none 0 0)).setCell ⟨w.heap.size + 1, 1, none⟩ (.slice none 0 0)) (.cells #[.slice ab2 nb2 cb2, .slice aw2 nw2 cw2] 25)
        have hr3 := (bx_set hr2 (.slice none 0 0) (.slice none 0 0)).below qB
        refine ret_disk2 (p := 6) (q := 7) (by kernel_rfl) rfl (w.heap.size + 1) _ _ (.int .i64 E) rfl rfl hr3.cells.1 hr3.cells.2.1 ?_
        exact ⟨_, _, rfl, by rw [HF.out.1, HF.out.2, if_neg Q.out.1, if_neg Q.out.1]; exact OwnD.below s1 qB, below2 s2 qB⟩
    · clear g0
      have hz : E = 0 := h0 (by omega)
      have Q := Lib.hid (And.intro hz (write_right (bs := bs) (ws := ws) (i := i) (s := s) (HE.out ▸ hz)))
      have K := Lib.hid (deedS_calls _ _ bs (ws ++ [(i, s)]) _ hdt hdw)
      clear hdt hdw h0 hz
      · go_wp2_with fail
        refine K.out.mono ?_
        rintro e w2 ⟨vb2, vw2, he, ho2, hB2⟩
        rw [Q.out.2.2.2.1] at he
        subst he
        rw [Q.out.2.2.2.2] at ho2
        have hd2 := hd.below hB2
        have hf2 := hf.below hB2
        have hr2 := hrr.below hB2
        have hfo2 := OwnD.below hfo hB2
        have hBw2 := below2 hBw hB2
        obtain ⟨e0, e1, ef0, ef1, el⟩ := hd2.cells
        obtain ⟨y0, y1, yf0, yf1, yl⟩ := hf2.cells
        obtain ⟨ab2, nb2, cb2, aw2, nw2, cw2, rfl, rfl, hnb2, hnw2⟩ := ho2.forms
        clear hnb2 hnw2
        have HO := Lib.hid ho2
        clear ho2 K d0 d1 df0 df1 f0 f1 ff0 ff1
        go_wp2_with fail
        have hsz : w.heap.size + 2 ≤ wr.heap.size := by omega
        have q1 := own_sets2 (show OwnD w2 (w.heap.size + 2) _ _ _ _ from ⟨own_weak HO.out.1 hsz, own_weak HO.out.2 hsz⟩) hd2 (.slice ab2 nb2 cb2) (.slice aw2 nw2 cw2)
        have q2 := bx_set hd2 (.slice ab2 nb2 cb2) (.slice aw2 nw2 cw2)
        have q3 := bx_other hf2 (B' := w.heap.size) (by omega) (.slice ab2 nb2 cb2) (.slice aw2 nw2 cw2)
        have q4 := bx_other hr2 (B' := w.heap.size) (by omega) (.slice ab2 nb2 cb2) (.slice aw2 nw2 cw2)
        have q5 := (hBw2.setCell (p := ⟨w.heap.size, 0, none⟩) (by simp) (.slice ab2 nb2 cb2)).setCell (p := ⟨w.heap.size, 1, none⟩) (by simp) (.slice aw2 nw2 cw2)
        have q6 := own_sets2 hfo2 hd2 (.slice ab2 nb2 cb2) (.slice aw2 nw2 cw2)
        have qB := fun W => below_alloc W (.cells #[.slice ab2 nb2 cb2, .slice aw2 nw2 cw2] 25)
        exact ⟨⟨2, by omega, rfl, below2 q5 (qB _), q4.below (qB _), ⟨_, _, _, _, _, _, q2.below (qB _), (OwnD.below q1 (qB _)).texts, (OwnD.below q1 (qB _)).wrs⟩, ⟨_, _, _, _, _, _, q3.below (qB _), OwnD.below q6 (qB _)⟩, fun _ => Q.out.1⟩, by simp [intOf]⟩
    · have Q := Lib.hid (h0 (by omega))
      clear h0 hdt hdw g0 g1 d0 d1 df0 df1
      go_wp2_with fail
      obtain ⟨s1, s2⟩ := ret_own (w := w) (x := .slice a3 n3 c3) (y := .slice a4 n4 c4) hfo (Nat.le_refl _) hBw
      have hr3 := bx_set hrr (.slice a3 n3 c3) (.slice a4 n4 c4)
      refine ret_disk2 (p := 6) (q := 7) (by kernel_rfl) rfl (w.heap.size + 1) _ _ (.int .i64 0) rfl rfl hr3.cells.1 hr3.cells.2.1 ?_
      exact ⟨_, _, by rw [Q.out], by rw [HF.out.1, HF.out.2, if_pos Q.out, if_pos Q.out]; exact s1, s2⟩

set_option maxRecDepth 100000 in
set_option maxHeartbeats 4000000 in
theorem behind1_calls (vb vw : Value) (bs : List (List UInt8)) (ws : List Wr) (i : Int) (s : List UInt8) (g Bt Bs : Nat) (w : World) (hb : Txts w vb bs) (hw : Wrs w vw ws) (hg : Cx w g 123 [deedW Bt Bs, deedS]) (ht : Cx w Bt 3 [.int .i64 i]) (hs : Cx w Bs 9 [.string ⟨s.toArray⟩]) (hr : rightB bs ws = true) :
    Calls Tryd.prog 58 #[.agg #[vb, vw], .slice (some ⟨g, 0, none⟩) 2 2, .int .i64 1] w fun e w' => ∃ vb' vw', e = .returned (.tuple #[.agg #[vb', vw'], .int .i64 (writeE bs ws i s)]) ∧ OwnD w' w.heap.size vb' (if writeE bs ws i s = 0 then stB bs ws (i, s) 1 else []) vw' (if writeE bs ws i s = 0 then stW ws (i, s) 1 else []) ∧ Below w.heap.size w w' := by
  obtain ⟨ab, cb, rfl⟩ := hb.strs.form
  obtain ⟨aw, cw, rfl⟩ := hw.form
  obtain ⟨hl1, hl2, hl3, _⟩ := right_parts hr
  obtain ⟨hx0, hr0, hB0⟩ := entry2 w (.slice ab bs.length cb) (.slice aw ws.length cw)
  have KC := Lib.hid (tcopied_calls _ _ bs ws _ (hb.below hB0) (hw.below hB0) (by omega) (by omega))
  have HIN := Lib.hid (And.intro hb hw)
  obtain ⟨E, hE⟩ : ∃ E, E = writeE bs ws i s := ⟨_, rfl⟩
  obtain ⟨FB, hFB⟩ : ∃ F, F = (if writeE bs ws i s = 0 then stB bs ws (i, s) 1 else []) := ⟨_, rfl⟩
  obtain ⟨FW, hFW⟩ : ∃ F, F = (if writeE bs ws i s = 0 then stW ws (i, s) 1 else []) := ⟨_, rfl⟩
  rw [← hFB, ← hFW, ← hE]
  rw [← hE] at hFB hFW
  have HE := Lib.hid hE
  have HF := Lib.hid (And.intro hFB hFW)
  clear hb hw hr hl1 hl2 hl3 hE hFB hFW
  go_enter Tryd.func58, Tryd.ntmps58
  go_wp2_with fail
  refine KC.out.mono ?_
  rintro e w1 ⟨vb1, vw1, rfl, ho1, hB1⟩
  have hBB1 := below2 hB0 hB1
  have hd1 := (hx0.below hB1).below (below_alloc w1 (.cells #[vb1, vw1] 25))
  have hr1 := (hr0.below hB1).below (below_alloc w1 (.cells #[vb1, vw1] 25))
  have hf1 := Bx.new w1 vb1 vw1
  have ho1' := OwnD.below ho1 (below_alloc w1 (.cells #[vb1, vw1] 25))
  rw [World.size_alloc, World.size_alloc] at ho1'
  have hBf := hB1.size
  simp only [World.size_alloc] at hBf
  have hBB2 := below2 hBB1 (below_alloc w1 (.cells #[vb1, vw1] 25))
  obtain ⟨ab1, nb1, cb1, aw1, nw1, cw1, rfl, rfl, hnb1, hnw1⟩ := ho1.forms
  clear hnb1 hnw1
  generalize hBfe : w1.heap.size = Bf at hf1 hBf
  have HBf := Lib.hid hBfe
  clear hBfe
  go_wp2_with fail
  rw [HBf.out]
  go_loopw [17] (fun u wr => ∃ k : Nat, k ≤ 2 ∧ u = .int .i64 k ∧ Below w.heap.size w wr ∧ Bx wr (w.heap.size + 1) (.slice none 0 0) (.slice none 0 0)
      ∧ (∃ a1 n1 c1 a2 n2 c2, Bx wr w.heap.size (.slice a1 n1 c1) (.slice a2 n2 c2) ∧ Txts wr (.slice a1 n1 c1) (stB bs ws (i, s) k) ∧ Wrs wr (.slice a2 n2 c2) (stW ws (i, s) k))
      ∧ (∃ a1 n1 c1 a2 n2 c2, Bx wr Bf (.slice a1 n1 c1) (.slice a2 n2 c2) ∧ OwnD wr (w.heap.size + 2) (.slice a1 n1 c1) (stB bs ws (i, s) (min k 1)) (.slice a2 n2 c2) (stW ws (i, s) (min k 1)))
      ∧ (0 < k → E = 0)) (fun u _ => 2 - (intOf u).toNat)
  case atStart =>
    refine ⟨0, by omega, rfl, hBB2, hr1, ⟨_, _, _, _, _, _, hd1, HIN.out.1.below hBB2, HIN.out.2.below hBB2⟩, ⟨_, _, _, _, _, _, hf1, ?_⟩, fun h => absurd h (by omega)⟩
    exact ho1'
  case round =>
    obtain ⟨k, hk, rfl, hBw, hrr, ⟨a1, n1, c1, a2, n2, c2, hd, hdt, hdw⟩, ⟨a3, n3, c3, a4, n4, c4, hf, hfo⟩, h0⟩ := hrel
    have hgw := hg.below hBw
    have htw := ht.below hBw
    have hsw := hs.below hBw
    have g0 := hgw.cell (j := 0) rfl
    have g1 := hgw.cell (j := 1) rfl
    have gl := hgw.lt
    obtain ⟨d0, d1, df0, df1, dl⟩ := hd.cells
    obtain ⟨f0, f1, ff0, ff1, fl⟩ := hf.cells
    obtain ⟨r0, r1, rf0, rf1, rl⟩ := hrr.cells
    rcases (by omega : k = 0 ∨ k = 1 ∨ k = 2) with rfl | rfl | rfl
    · clear g1
      have K := Lib.hid (deedW_calls Bt Bs _ _ bs ws i s _ hdt hdw htw hsw)
      clear hdt hdw h0
      by_cases hz : E = 0
      · have hcb : (E != 0) = false := by simp [hz]
        have Q := Lib.hid (And.intro hz (write_right (bs := bs) (ws := ws) (i := i) (s := s) (HE.out ▸ hz)))
        clear hz
        go_wp2_with fail
        refine K.out.mono ?_
        rintro e w2 ⟨vb2, vw2, he, ho2, hB2⟩
        rw [← HE.out] at he
        subst he
        rw [Q.out.2.1, Q.out.2.2.1] at ho2
        have hd2 := hd.below hB2
        have hf2 := hf.below hB2
        have hr2 := hrr.below hB2
        have hfo2 := OwnD.below hfo hB2
        have hBw2 := below2 hBw hB2
        obtain ⟨e0, e1, ef0, ef1, el⟩ := hd2.cells
        obtain ⟨y0, y1, yf0, yf1, yl⟩ := hf2.cells
        obtain ⟨ab2, nb2, cb2, aw2, nw2, cw2, rfl, rfl, hnb2, hnw2⟩ := ho2.forms
        clear hnb2 hnw2
        have HO := Lib.hid ho2
        clear ho2 K d0 d1 df0 df1 f0 f1 ff0 ff1
        go_wp2_with fail
        have hsz : w.heap.size + 2 ≤ wr.heap.size := by omega
        have q1 := own_sets2 (own_sets2 (show OwnD w2 (w.heap.size + 2) _ _ _ _ from ⟨own_weak HO.out.1 hsz, own_weak HO.out.2 hsz⟩) hf2 (.slice ab2 nb2 cb2) (.slice aw2 nw2 cw2)) (bx_other hd2 (B' := Bf) (by omega) (.slice ab2 nb2 cb2) (.slice aw2 nw2 cw2)) (.slice ab2 nb2 cb2) (.slice aw2 nw2 cw2)
        have q2 := bx_set (bx_other hd2 (B' := Bf) (by omega) (.slice ab2 nb2 cb2) (.slice aw2 nw2 cw2)) (.slice ab2 nb2 cb2) (.slice aw2 nw2 cw2)
        have q3 := bx_other (bx_set hf2 (.slice ab2 nb2 cb2) (.slice aw2 nw2 cw2)) (B' := w.heap.size) (by omega) (.slice ab2 nb2 cb2) (.slice aw2 nw2 cw2)
        have q4 := bx_other (bx_other hr2 (B' := Bf) (by omega) (.slice ab2 nb2 cb2) (.slice aw2 nw2 cw2)) (B' := w.heap.size) (by omega) (.slice ab2 nb2 cb2) (.slice aw2 nw2 cw2)
        have q5 := (((hBw2.setCell (p := ⟨Bf, 0, none⟩) (by simp; omega) (.slice ab2 nb2 cb2)).setCell (p := ⟨Bf, 1, none⟩) (by simp; omega) (.slice aw2 nw2 cw2)).setCell (p := ⟨w.heap.size, 0, none⟩) (by simp) (.slice ab2 nb2 cb2)).setCell (p := ⟨w.heap.size, 1, none⟩) (by simp) (.slice aw2 nw2 cw2)
        have q6 := q1
        have qB := fun W => below_alloc W (.cells #[.slice ab2 nb2 cb2, .slice aw2 nw2 cw2] 25)
        exact ⟨⟨1, by omega, rfl, below2 q5 (qB _), q4.below (qB _), ⟨_, _, _, _, _, _, q2.below (qB _), (OwnD.below q1 (qB _)).texts, (OwnD.below q1 (qB _)).wrs⟩, ⟨_, _, _, _, _, _, q3.below (qB _), OwnD.below q6 (qB _)⟩, fun _ => Q.out.1⟩, by simp [intOf]⟩
      · have hcb : (E != 0) = true := by simpa using hz
        have Q := Lib.hid (And.intro hz (write_none (bs := bs) (ws := ws) (i := i) (s := s) (HE.out ▸ hz)))
        clear hz
        go_wp2_with fail
        refine K.out.mono ?_
        rintro e w2 ⟨vb2, vw2, he, ho2, hB2⟩
        rw [← HE.out] at he
        subst he
        have hr2 := hrr.below hB2
        have hBw2 := below2 hBw hB2
        obtain ⟨y0, y1, yf0, yf1, yl⟩ := hr2.cells
        obtain ⟨ab2, nb2, cb2, aw2, nw2, cw2, rfl, rfl, hnb2, hnw2⟩ := ho2.forms
        clear hnb2 hnw2 ho2 K d0 d1 df0 df1 f0 f1 ff0 ff1 r0 r1 rf0 rf1
        go_wp2_with fail
        obtain ⟨s1, s2⟩ := ret_own (w := w) (x := .slice none 0 0) (y := .slice none 0 0) (nil_own w2 (w.heap.size + 2)) (Nat.le_refl _) hBw2
        have qB := below_alloc ((w2.setCell ⟨w.heap.size + 1, 0, none⟩ (.slice none 0 0)).setCell ⟨w.heap.size + 1, 1, none⟩ (.slice none 0 0)) (.cells #[.slice ab2 nb2 cb2, .slice aw2 nw2 cw2] 25)
        have hr3 := (bx_set hr2 (.slice none 0 0) (.slice none 0 0)).below qB
        refine ret_disk2 (p := 6) (q := 7) (by kernel_rfl) rfl (w.heap.size + 1) _ _ (.int .i64 E) rfl rfl hr3.cells.1 hr3.cells.2.1 ?_
        exact ⟨_, _, rfl, by rw [HF.out.1, HF.out.2, if_neg Q.out.1, if_neg Q.out.1]; exact OwnD.below s1 qB, below2 s2 qB⟩
    · clear g0
      have hz : E = 0 := h0 (by omega)
      have Q := Lib.hid (And.intro hz (write_right (bs := bs) (ws := ws) (i := i) (s := s) (HE.out ▸ hz)))
      have K := Lib.hid (deedS_calls _ _ bs (ws ++ [(i, s)]) _ hdt hdw)
      clear hdt hdw h0 hz
      · go_wp2_with fail
        refine K.out.mono ?_
        rintro e w2 ⟨vb2, vw2, he, ho2, hB2⟩
        rw [Q.out.2.2.2.1] at he
        subst he
        rw [Q.out.2.2.2.2] at ho2
        have hd2 := hd.below hB2
        have hf2 := hf.below hB2
        have hr2 := hrr.below hB2
        have hfo2 := OwnD.below hfo hB2
        have hBw2 := below2 hBw hB2
        obtain ⟨e0, e1, ef0, ef1, el⟩ := hd2.cells
        obtain ⟨y0, y1, yf0, yf1, yl⟩ := hf2.cells
        obtain ⟨ab2, nb2, cb2, aw2, nw2, cw2, rfl, rfl, hnb2, hnw2⟩ := ho2.forms
        clear hnb2 hnw2
        have HO := Lib.hid ho2
        clear ho2 K d0 d1 df0 df1 f0 f1 ff0 ff1
        go_wp2_with fail
        have hsz : w.heap.size + 2 ≤ wr.heap.size := by omega
        have q1 := own_sets2 (show OwnD w2 (w.heap.size + 2) _ _ _ _ from ⟨own_weak HO.out.1 hsz, own_weak HO.out.2 hsz⟩) hd2 (.slice ab2 nb2 cb2) (.slice aw2 nw2 cw2)
        have q2 := bx_set hd2 (.slice ab2 nb2 cb2) (.slice aw2 nw2 cw2)
        have q3 := bx_other hf2 (B' := w.heap.size) (by omega) (.slice ab2 nb2 cb2) (.slice aw2 nw2 cw2)
        have q4 := bx_other hr2 (B' := w.heap.size) (by omega) (.slice ab2 nb2 cb2) (.slice aw2 nw2 cw2)
        have q5 := (hBw2.setCell (p := ⟨w.heap.size, 0, none⟩) (by simp) (.slice ab2 nb2 cb2)).setCell (p := ⟨w.heap.size, 1, none⟩) (by simp) (.slice aw2 nw2 cw2)
        have q6 := own_sets2 hfo2 hd2 (.slice ab2 nb2 cb2) (.slice aw2 nw2 cw2)
        have qB := fun W => below_alloc W (.cells #[.slice ab2 nb2 cb2, .slice aw2 nw2 cw2] 25)
        exact ⟨⟨2, by omega, rfl, below2 q5 (qB _), q4.below (qB _), ⟨_, _, _, _, _, _, q2.below (qB _), (OwnD.below q1 (qB _)).texts, (OwnD.below q1 (qB _)).wrs⟩, ⟨_, _, _, _, _, _, q3.below (qB _), OwnD.below q6 (qB _)⟩, fun _ => Q.out.1⟩, by simp [intOf]⟩
    · have Q := Lib.hid (h0 (by omega))
      clear h0 hdt hdw g0 g1 d0 d1 df0 df1
      go_wp2_with fail
      obtain ⟨s1, s2⟩ := ret_own (w := w) (x := .slice a3 n3 c3) (y := .slice a4 n4 c4) hfo (Nat.le_refl _) hBw
      have hr3 := bx_set hrr (.slice a3 n3 c3) (.slice a4 n4 c4)
      refine ret_disk2 (p := 6) (q := 7) (by kernel_rfl) rfl (w.heap.size + 1) _ _ (.int .i64 0) rfl rfl hr3.cells.1 hr3.cells.2.1 ?_
      exact ⟨_, _, by rw [Q.out], by rw [HF.out.1, HF.out.2, if_pos Q.out, if_pos Q.out]; exact s1, s2⟩

set_option maxRecDepth 100000 in
set_option maxHeartbeats 4000000 in
theorem behind2_calls (vb vw : Value) (bs : List (List UInt8)) (ws : List Wr) (i : Int) (s : List UInt8) (g Bt Bs : Nat) (w : World) (hb : Txts w vb bs) (hw : Wrs w vw ws) (hg : Cx w g 123 [deedW Bt Bs, deedS]) (ht : Cx w Bt 3 [.int .i64 i]) (hs : Cx w Bs 9 [.string ⟨s.toArray⟩]) (hr : rightB bs ws = true) :
    Calls Tryd.prog 58 #[.agg #[vb, vw], .slice (some ⟨g, 0, none⟩) 2 2, .int .i64 2] w fun e w' => ∃ vb' vw', e = .returned (.tuple #[.agg #[vb', vw'], .int .i64 (writeE bs ws i s)]) ∧ OwnD w' w.heap.size vb' (if writeE bs ws i s = 0 then stB bs ws (i, s) 2 else []) vw' (if writeE bs ws i s = 0 then stW ws (i, s) 2 else []) ∧ Below w.heap.size w w' := by
  obtain ⟨ab, cb, rfl⟩ := hb.strs.form
  obtain ⟨aw, cw, rfl⟩ := hw.form
  obtain ⟨hl1, hl2, hl3, _⟩ := right_parts hr
  obtain ⟨hx0, hr0, hB0⟩ := entry2 w (.slice ab bs.length cb) (.slice aw ws.length cw)
  have KC := Lib.hid (tcopied_calls _ _ bs ws _ (hb.below hB0) (hw.below hB0) (by omega) (by omega))
  have HIN := Lib.hid (And.intro hb hw)
  obtain ⟨E, hE⟩ : ∃ E, E = writeE bs ws i s := ⟨_, rfl⟩
  obtain ⟨FB, hFB⟩ : ∃ F, F = (if writeE bs ws i s = 0 then stB bs ws (i, s) 2 else []) := ⟨_, rfl⟩
  obtain ⟨FW, hFW⟩ : ∃ F, F = (if writeE bs ws i s = 0 then stW ws (i, s) 2 else []) := ⟨_, rfl⟩
  rw [← hFB, ← hFW, ← hE]
  rw [← hE] at hFB hFW
  have HE := Lib.hid hE
  have HF := Lib.hid (And.intro hFB hFW)
  clear hb hw hr hl1 hl2 hl3 hE hFB hFW
  go_enter Tryd.func58, Tryd.ntmps58
  go_wp2_with fail
  refine KC.out.mono ?_
  rintro e w1 ⟨vb1, vw1, rfl, ho1, hB1⟩
  have hBB1 := below2 hB0 hB1
  have hd1 := (hx0.below hB1).below (below_alloc w1 (.cells #[vb1, vw1] 25))
  have hr1 := (hr0.below hB1).below (below_alloc w1 (.cells #[vb1, vw1] 25))
  have hf1 := Bx.new w1 vb1 vw1
  have ho1' := OwnD.below ho1 (below_alloc w1 (.cells #[vb1, vw1] 25))
  rw [World.size_alloc, World.size_alloc] at ho1'
  have hBf := hB1.size
  simp only [World.size_alloc] at hBf
  have hBB2 := below2 hBB1 (below_alloc w1 (.cells #[vb1, vw1] 25))
  obtain ⟨ab1, nb1, cb1, aw1, nw1, cw1, rfl, rfl, hnb1, hnw1⟩ := ho1.forms
  clear hnb1 hnw1
  generalize hBfe : w1.heap.size = Bf at hf1 hBf
  have HBf := Lib.hid hBfe
  clear hBfe
  go_wp2_with fail
  rw [HBf.out]
  go_loopw [17] (fun u wr => ∃ k : Nat, k ≤ 2 ∧ u = .int .i64 k ∧ Below w.heap.size w wr ∧ Bx wr (w.heap.size + 1) (.slice none 0 0) (.slice none 0 0)
      ∧ (∃ a1 n1 c1 a2 n2 c2, Bx wr w.heap.size (.slice a1 n1 c1) (.slice a2 n2 c2) ∧ Txts wr (.slice a1 n1 c1) (stB bs ws (i, s) k) ∧ Wrs wr (.slice a2 n2 c2) (stW ws (i, s) k))
      ∧ (∃ a1 n1 c1 a2 n2 c2, Bx wr Bf (.slice a1 n1 c1) (.slice a2 n2 c2) ∧ OwnD wr (w.heap.size + 2) (.slice a1 n1 c1) (stB bs ws (i, s) (min k 2)) (.slice a2 n2 c2) (stW ws (i, s) (min k 2)))
      ∧ (0 < k → E = 0)) (fun u _ => 2 - (intOf u).toNat)
  case atStart =>
    refine ⟨0, by omega, rfl, hBB2, hr1, ⟨_, _, _, _, _, _, hd1, HIN.out.1.below hBB2, HIN.out.2.below hBB2⟩, ⟨_, _, _, _, _, _, hf1, ?_⟩, fun h => absurd h (by omega)⟩
    exact ho1'
  case round =>
    obtain ⟨k, hk, rfl, hBw, hrr, ⟨a1, n1, c1, a2, n2, c2, hd, hdt, hdw⟩, ⟨a3, n3, c3, a4, n4, c4, hf, hfo⟩, h0⟩ := hrel
    have hgw := hg.below hBw
    have htw := ht.below hBw
    have hsw := hs.below hBw
    have g0 := hgw.cell (j := 0) rfl
    have g1 := hgw.cell (j := 1) rfl
    have gl := hgw.lt
    obtain ⟨d0, d1, df0, df1, dl⟩ := hd.cells
    obtain ⟨f0, f1, ff0, ff1, fl⟩ := hf.cells
    obtain ⟨r0, r1, rf0, rf1, rl⟩ := hrr.cells
    rcases (by omega : k = 0 ∨ k = 1 ∨ k = 2) with rfl | rfl | rfl
    · clear g1
      have K := Lib.hid (deedW_calls Bt Bs _ _ bs ws i s _ hdt hdw htw hsw)
      clear hdt hdw h0
      by_cases hz : E = 0
      · have hcb : (E != 0) = false := by simp [hz]
        have Q := Lib.hid (And.intro hz (write_right (bs := bs) (ws := ws) (i := i) (s := s) (HE.out ▸ hz)))
        clear hz
        go_wp2_with fail
        refine K.out.mono ?_
        rintro e w2 ⟨vb2, vw2, he, ho2, hB2⟩
        rw [← HE.out] at he
        subst he
        rw [Q.out.2.1, Q.out.2.2.1] at ho2
        have hd2 := hd.below hB2
        have hf2 := hf.below hB2
        have hr2 := hrr.below hB2
        have hfo2 := OwnD.below hfo hB2
        have hBw2 := below2 hBw hB2
        obtain ⟨e0, e1, ef0, ef1, el⟩ := hd2.cells
        obtain ⟨y0, y1, yf0, yf1, yl⟩ := hf2.cells
        obtain ⟨ab2, nb2, cb2, aw2, nw2, cw2, rfl, rfl, hnb2, hnw2⟩ := ho2.forms
        clear hnb2 hnw2
        have HO := Lib.hid ho2
        clear ho2 K d0 d1 df0 df1 f0 f1 ff0 ff1
        go_wp2_with fail
        have hsz : w.heap.size + 2 ≤ wr.heap.size := by omega
        have q1 := own_sets2 (own_sets2 (show OwnD w2 (w.heap.size + 2) _ _ _ _ from ⟨own_weak HO.out.1 hsz, own_weak HO.out.2 hsz⟩) hf2 (.slice ab2 nb2 cb2) (.slice aw2 nw2 cw2)) (bx_other hd2 (B' := Bf) (by omega) (.slice ab2 nb2 cb2) (.slice aw2 nw2 cw2)) (.slice ab2 nb2 cb2) (.slice aw2 nw2 cw2)
        have q2 := bx_set (bx_other hd2 (B' := Bf) (by omega) (.slice ab2 nb2 cb2) (.slice aw2 nw2 cw2)) (.slice ab2 nb2 cb2) (.slice aw2 nw2 cw2)
        have q3 := bx_other (bx_set hf2 (.slice ab2 nb2 cb2) (.slice aw2 nw2 cw2)) (B' := w.heap.size) (by omega) (.slice ab2 nb2 cb2) (.slice aw2 nw2 cw2)
        have q4 := bx_other (bx_other hr2 (B' := Bf) (by omega) (.slice ab2 nb2 cb2) (.slice aw2 nw2 cw2)) (B' := w.heap.size) (by omega) (.slice ab2 nb2 cb2) (.slice aw2 nw2 cw2)
        have q5 := (((hBw2.setCell (p := ⟨Bf, 0, none⟩) (by simp; omega) (.slice ab2 nb2 cb2)).setCell (p := ⟨Bf, 1, none⟩) (by simp; omega) (.slice aw2 nw2 cw2)).setCell (p := ⟨w.heap.size, 0, none⟩) (by simp) (.slice ab2 nb2 cb2)).setCell (p := ⟨w.heap.size, 1, none⟩) (by simp) (.slice aw2 nw2 cw2)
        have q6 := q1
        have qB := fun W => below_alloc W (.cells #[.slice ab2 nb2 cb2, .slice aw2 nw2 cw2] 25)
        exact ⟨⟨1, by omega, rfl, below2 q5 (qB _), q4.below (qB _), ⟨_, _, _, _, _, _, q2.below (qB _), (OwnD.below q1 (qB _)).texts, (OwnD.below q1 (qB _)).wrs⟩, ⟨_, _, _, _, _, _, q3.below (qB _), OwnD.below q6 (qB _)⟩, fun _ => Q.out.1⟩, by simp [intOf]⟩
      · have hcb : (E != 0) = true := by simpa using hz
        have Q := Lib.hid (And.intro hz (write_none (bs := bs) (ws := ws) (i := i) (s := s) (HE.out ▸ hz)))
        clear hz
        go_wp2_with fail
        refine K.out.mono ?_
        rintro e w2 ⟨vb2, vw2, he, ho2, hB2⟩
        rw [← HE.out] at he
        subst he
        have hr2 := hrr.below hB2
        have hBw2 := below2 hBw hB2
        obtain ⟨y0, y1, yf0, yf1, yl⟩ := hr2.cells
        obtain ⟨ab2, nb2, cb2, aw2, nw2, cw2, rfl, rfl, hnb2, hnw2⟩ := ho2.forms
        clear hnb2 hnw2 ho2 K d0 d1 df0 df1 f0 f1 ff0 ff1 r0 r1 rf0 rf1
        go_wp2_with fail
        obtain ⟨s1, s2⟩ := ret_own (w := w) (x := .slice none 0 0) (y := .slice none 0 0) (nil_own w2 (w.heap.size + 2)) (Nat.le_refl _) hBw2
        have qB := below_alloc ((w2.setCell ⟨w.heap.size + 1, 0, none⟩ (.slice none 0 0)).setCell ⟨w.heap.size + 1, 1, none⟩ (.slice none 0 0)) (.cells #[.slice ab2 nb2 cb2, .slice aw2 nw2 cw2] 25)
        have hr3 := (bx_set hr2 (.slice none 0 0) (.slice none 0 0)).below qB
        refine ret_disk2 (p := 6) (q := 7) (by kernel_rfl) rfl (w.heap.size + 1) _ _ (.int .i64 E) rfl rfl hr3.cells.1 hr3.cells.2.1 ?_
        exact ⟨_, _, rfl, by rw [HF.out.1, HF.out.2, if_neg Q.out.1, if_neg Q.out.1]; exact OwnD.below s1 qB, below2 s2 qB⟩
    · clear g0
      have hz : E = 0 := h0 (by omega)
      have Q := Lib.hid (And.intro hz (write_right (bs := bs) (ws := ws) (i := i) (s := s) (HE.out ▸ hz)))
      have K := Lib.hid (deedS_calls _ _ bs (ws ++ [(i, s)]) _ hdt hdw)
      clear hdt hdw h0 hz
      · go_wp2_with fail
        refine K.out.mono ?_
        rintro e w2 ⟨vb2, vw2, he, ho2, hB2⟩
        rw [Q.out.2.2.2.1] at he
        subst he
        rw [Q.out.2.2.2.2] at ho2
        have hd2 := hd.below hB2
        have hf2 := hf.below hB2
        have hr2 := hrr.below hB2
        have hfo2 := OwnD.below hfo hB2
        have hBw2 := below2 hBw hB2
        obtain ⟨e0, e1, ef0, ef1, el⟩ := hd2.cells
        obtain ⟨y0, y1, yf0, yf1, yl⟩ := hf2.cells
        obtain ⟨ab2, nb2, cb2, aw2, nw2, cw2, rfl, rfl, hnb2, hnw2⟩ := ho2.forms
        clear hnb2 hnw2
        have HO := Lib.hid ho2
        clear ho2 K d0 d1 df0 df1 f0 f1 ff0 ff1
        go_wp2_with fail
        have hsz : w.heap.size + 2 ≤ wr.heap.size := by omega
        have q1 := own_sets2 (own_sets2 (show OwnD w2 (w.heap.size + 2) _ _ _ _ from ⟨own_weak HO.out.1 hsz, own_weak HO.out.2 hsz⟩) hf2 (.slice ab2 nb2 cb2) (.slice aw2 nw2 cw2)) (bx_other hd2 (B' := Bf) (by omega) (.slice ab2 nb2 cb2) (.slice aw2 nw2 cw2)) (.slice ab2 nb2 cb2) (.slice aw2 nw2 cw2)
        have q2 := bx_set (bx_other hd2 (B' := Bf) (by omega) (.slice ab2 nb2 cb2) (.slice aw2 nw2 cw2)) (.slice ab2 nb2 cb2) (.slice aw2 nw2 cw2)
        have q3 := bx_other (bx_set hf2 (.slice ab2 nb2 cb2) (.slice aw2 nw2 cw2)) (B' := w.heap.size) (by omega) (.slice ab2 nb2 cb2) (.slice aw2 nw2 cw2)
        have q4 := bx_other (bx_other hr2 (B' := Bf) (by omega) (.slice ab2 nb2 cb2) (.slice aw2 nw2 cw2)) (B' := w.heap.size) (by omega) (.slice ab2 nb2 cb2) (.slice aw2 nw2 cw2)
        have q5 := (((hBw2.setCell (p := ⟨Bf, 0, none⟩) (by simp; omega) (.slice ab2 nb2 cb2)).setCell (p := ⟨Bf, 1, none⟩) (by simp; omega) (.slice aw2 nw2 cw2)).setCell (p := ⟨w.heap.size, 0, none⟩) (by simp) (.slice ab2 nb2 cb2)).setCell (p := ⟨w.heap.size, 1, none⟩) (by simp) (.slice aw2 nw2 cw2)
        have q6 := q1
        have qB := fun W => below_alloc W (.cells #[.slice ab2 nb2 cb2, .slice aw2 nw2 cw2] 25)
        exact ⟨⟨2, by omega, rfl, below2 q5 (qB _), q4.below (qB _), ⟨_, _, _, _, _, _, q2.below (qB _), (OwnD.below q1 (qB _)).texts, (OwnD.below q1 (qB _)).wrs⟩, ⟨_, _, _, _, _, _, q3.below (qB _), OwnD.below q6 (qB _)⟩, fun _ => Q.out.1⟩, by simp [intOf]⟩
    · have Q := Lib.hid (h0 (by omega))
      clear h0 hdt hdw g0 g1 d0 d1 df0 df1
      go_wp2_with fail
      obtain ⟨s1, s2⟩ := ret_own (w := w) (x := .slice a3 n3 c3) (y := .slice a4 n4 c4) hfo (Nat.le_refl _) hBw
      have hr3 := bx_set hrr (.slice a3 n3 c3) (.slice a4 n4 c4)
      refine ret_disk2 (p := 6) (q := 7) (by kernel_rfl) rfl (w.heap.size + 1) _ _ (.int .i64 0) rfl rfl hr3.cells.1 hr3.cells.2.1 ?_
      exact ⟨_, _, by rw [Q.out], by rw [HF.out.1, HF.out.2, if_pos Q.out, if_pos Q.out]; exact s1, s2⟩

end Go.Proofs.YtdbidfbjfongbaaDoor

/-
  twin: Stop and Put.
-/
namespace Go.Proofs.YtdbidfbjfongbaaDoor
open Go.RowKit

/-- As many deeds as are done. -/
def effN (k : Int) : Nat := if k = 0 then 0 else if k = 1 then 1 else 2
theorem stop_st (bs : List (List UInt8)) (ws : List Wr) (i : Int) (s : List UInt8) (k : Int) : stopBs bs ws i s k = (if stopE bs ws i s = 0 then stB bs ws (nextW bs ws i s) (effN k) else []) ∧ stopWs bs ws i s k = (if stopE bs ws i s = 0 then stW ws (nextW bs ws i s) (effN k) else []) ∧
    stopD bs ws i s k = (decide (stopE bs ws i s = 0) && decide (effN k = 2)) := by
  unfold stopBs stopWs stopD effN
  by_cases h0 : k = 0
  · simp [h0, stB, stW]
  · by_cases h1 : k = 1
    · simp [h1, stB, stW]
    · simp [h0, h1, stB, stW]
theorem stop_main {bs : List (List UInt8)} {ws : List Wr} {i : Int} {s : List UInt8} (h1 : newestE bs ws i = 0) (h2 : s.length ≤ 200) (h3 : numO (newestC bs ws i) < 1000000000) : stopE bs ws i s = writeE bs ws (newestTo bs ws i) (copyB (numO (newestC bs ws i) + 1) s) := by
  rw [stopE, if_pos h1, if_pos ⟨h2, h3⟩]
  rfl
theorem stop_limit {bs : List (List UInt8)} {ws : List Wr} {i : Int} {s : List UInt8} (h1 : newestE bs ws i = 0) (h2 : ¬ (s.length ≤ 200 ∧ numO (newestC bs ws i) < 1000000000)) : stopE bs ws i s = 2 := by
  rw [stopE, if_pos h1, if_neg h2]
theorem stop_none {bs : List (List UInt8)} {ws : List Wr} {i : Int} {s : List UInt8} (k : Int) (h : ¬ stopE bs ws i s = 0) : stopBs bs ws i s k = [] ∧ stopWs bs ws i s k = [] ∧ stopD bs ws i s k = false := by
  simp [stopBs, stopWs, stopD, h]
theorem behind_calls (n : Nat) (hn : n ≤ 2) (vb vw : Value) (bs : List (List UInt8)) (ws : List Wr) (i : Int) (s : List UInt8) (g Bt Bs : Nat) (w : World) (hb : Txts w vb bs) (hw : Wrs w vw ws) (hg : Cx w g 123 [deedW Bt Bs, deedS]) (ht : Cx w Bt 3 [.int .i64 i]) (hs : Cx w Bs 9 [.string ⟨s.toArray⟩]) (hr : rightB bs ws = true) :
    Calls Tryd.prog 58 #[.agg #[vb, vw], .slice (some ⟨g, 0, none⟩) 2 2, .int .i64 n] w fun e w' => ∃ vb' vw', e = .returned (.tuple #[.agg #[vb', vw'], .int .i64 (writeE bs ws i s)]) ∧ OwnD w' w.heap.size vb' (if writeE bs ws i s = 0 then stB bs ws (i, s) n else []) vw' (if writeE bs ws i s = 0 then stW ws (i, s) n else []) ∧ Below w.heap.size w w' := by
  rcases (by omega : n = 0 ∨ n = 1 ∨ n = 2) with rfl | rfl | rfl
  · exact behind0_calls vb vw bs ws i s g Bt Bs w hb hw hg ht hs hr
  · exact behind1_calls vb vw bs ws i s g Bt Bs w hb hw hg ht hs hr
  · exact behind2_calls vb vw bs ws i s g Bt Bs w hb hw hg ht hs hr

set_option maxRecDepth 100000 in
set_option maxHeartbeats 4000000 in
theorem stop_calls (vb vw : Value) (bs : List (List UInt8)) (ws : List Wr) (i : Int) (hi : -9223372036854775808 ≤ i ∧ i ≤ 9223372036854775807) (s : List UInt8) (k : Int) (w : World) (hb : Txts w vb bs) (hw : Wrs w vw ws) (hT : TabOk w) :
    Calls Tryd.prog 40 #[.agg #[vb, vw], .int .i64 i, .string ⟨s.toArray⟩, .int .i64 k] w fun e w' => ∃ vb' vw', e = .returned (.tuple #[.agg #[vb', vw'], .bool (stopD bs ws i s k), .int .i64 (stopE bs ws i s)]) ∧ OwnD w' w.heap.size vb' (stopBs bs ws i s k) vw' (stopWs bs ws i s k) ∧ Below w.heap.size w w' := by
  obtain ⟨ab, cb, rfl⟩ := hb.strs.form
  obtain ⟨aw, cw, rfl⟩ := hw.form
  obtain ⟨hx0, hr0, hB0⟩ := entry2 w (.slice ab bs.length cb) (.slice aw ws.length cw)
  have A0 := newest_calls _ _ bs ws i hi _ (hb.below hB0) (hw.below hB0) (hT.below hB0)
  rw [saidCs_eq] at A0
  have HIN := Lib.hid (And.intro hb (And.intro hw hT))
  have HN := Lib.hid (stop_none (bs := bs) (ws := ws) (i := i) (s := s) k)
  by_cases hz : newestE bs ws i = 0
  · have hr := (newest_ok.1 hz).1
    rw [hz] at A0
    by_cases h2 : s.length ≤ 200
    · have d2 : decide ((200 : Int) < s.length) = false := by simp; omega
      by_cases h3 : numO (newestC bs ws i) < 1000000000
      · have M := Lib.hid (stop_main hz h2 h3)
        have ST := Lib.hid (stop_st bs ws i s k)
        have NW := Lib.hid (show nextW bs ws i s = (newestTo bs ws i, copyB (numO (newestC bs ws i) + 1) s) from rfl)
        obtain ⟨FB, hFB⟩ : ∃ F, F = stopBs bs ws i s k := ⟨_, rfl⟩
        obtain ⟨FW, hFW⟩ : ∃ F, F = stopWs bs ws i s k := ⟨_, rfl⟩
        obtain ⟨FD, hFD⟩ : ∃ F, F = stopD bs ws i s k := ⟨_, rfl⟩
        obtain ⟨E, hE⟩ : ∃ F, F = stopE bs ws i s := ⟨_, rfl⟩
        rw [← hFB, ← hFW, ← hFD, ← hE]
        have HF := Lib.hid (And.intro hFB (And.intro hFW (And.intro hFD hE)))
        have HR := Lib.hid hr
        clear hb hw hT hr hz hFB hFW hFD hE HN
        generalize isO (newestC bs ws i) = ob at A0
        generalize txtO (newestC bs ws i) = tb at A0
        generalize numO (newestC bs ws i) = n at A0 h3 M ST NW
        generalize newestTo bs ws i = x at A0 M ST NW
        have d3 : decide ((1000000000 : Int) ≤ (n : Int)) = false := by simp; omega
        have d3' : decide (1000000000 ≤ n) = false := by simp; omega
        have KA := Lib.hid A0
        have KF := Lib.hid (fun (W : World) (hW : TabOk W) => (show Calls Tryd.prog 57 #[.int .i64 ((n : Int) + 1), .string ⟨s.toArray⟩] W (fun e w' => e = .returned (.string ⟨(copyB (n + 1) s).toArray⟩) ∧ Below W.heap.size W w') by
          rw [show ((n : Int) + 1) = ((n + 1 : Nat) : Int) by omega]; exact frame_calls (n + 1) (by omega) s h2 W hW))
        generalize copyB (n + 1) s = blk at M NW KF
        clear A0
        have main : E = writeE bs ws x blk := by rw [HF.out.2.2.2, M.out]
        have HM := Lib.hid main
        clear main
        have cases5 : k < 0 ∨ k = 0 ∨ k = 1 ∨ k = 2 ∨ 2 < k := by omega
        by_cases hE0 : E = 0
        · have hEb : (E == 0) = true := by simp [hE0]
          have HE0 := Lib.hid hE0
          clear hE0
          rcases cases5 with hk | hk | hk | hk | hk
          · have EF := Lib.hid (show effN k = 2 by unfold effN; rw [if_neg (by omega), if_neg (by omega)])
            have dk : decide (k < 0) = true := by simp; exact hk
            have HK := Lib.hid hk
            clear hk
            go_enter Tryd.func40, Tryd.ntmps40
            go_wp2_with fail
            refine KA.out.mono ?_
            rintro e w1 ⟨rfl, hB1⟩
            have hx1 := hx0.below hB1
            have hr1 := hr0.below hB1
            have hBB1 := below2 hB0 hB1
            go_wp2_with fail
            refine (KF.out _ (HIN.out.2.2.below (below2 hBB1 (below_alloc _ _)))).mono ?_
            rintro e w2 ⟨rfl, hB2⟩
            have hx2 := (hx1.below (below_alloc _ _)).below hB2
            have hr2 := (hr1.below (below_alloc _ _)).below hB2
            have hBB2 := below3 hBB1 (below_alloc _ _) hB2
            clear KA KF
            go_wp2_with fail
            refine (deedsOf_calls x blk _).mono ?_
            rintro e w3 ⟨g, Bt, Bs, rfl, hg, ht, hs, hB3⟩
            have hx3 := hx2.below hB3
            have hr3 := hr2.below hB3
            have hBB3 := below2 hBB2 hB3
            have KB := Lib.hid (behind_calls 2 (by omega) _ _ bs ws x blk g Bt Bs _ (HIN.out.1.below hBB3) (HIN.out.2.1.below hBB3) hg ht hs HR.out)
            clear hg ht hs
            obtain ⟨p0, p1, _, _, pl⟩ := hx3.cells
            go_wp2_with fail
            refine KB.out.mono ?_
            rintro e w4 ⟨vb4, vw4, he, ho4, hB4⟩
            rw [← HM.out] at he ho4
            subst he
            have hr4 := hr3.below hB4
            have hBB4 := below2 hBB3 hB4
            obtain ⟨q0, q1, q2, q3, q4⟩ := hr4.cells
            obtain ⟨ab4, nb4, cb4, aw4, nw4, cw4, rfl, rfl, hnb4, hnw4⟩ := ho4.forms
            have HO := Lib.hid ho4
            clear hnb4 hnw4 ho4 KB p0 p1
            go_wp2_with fail
            have hsz : w.heap.size + 2 ≤ w3.heap.size := by
              have h1 := hB1.size
              have h2 := hB2.size
              have h3 := hB3.size
              simp at h1 h2 h3
              omega
            have hod : OwnD w4 (w.heap.size + 2) _ _ _ _ := ⟨own_weak HO.out.1 hsz, own_weak HO.out.2 hsz⟩
            obtain ⟨s1, s2⟩ := ret_own (w := w) (x := .slice ab4 nb4 cb4) (y := .slice aw4 nw4 cw4) hod (Nat.le_refl _) hBB4
            have hr5 := bx_set hr4 (.slice ab4 nb4 cb4) (.slice aw4 nw4 cw4)
            have qB := fun W => below_alloc W (.cells #[.slice ab4 nb4 cb4, .slice aw4 nw4 cw4] 25)
            have hr6 := hr5.below (qB _)
            refine ret_disk3 (p := 8) (q := 9) (r := 10) (by kernel_rfl) rfl (w.heap.size + 1) _ _ (.bool true) (.int .i64 E) rfl rfl rfl hr6.cells.1 hr6.cells.2.1 ?_
            refine ⟨.slice ab4 nb4 cb4, .slice aw4 nw4 cw4, ?_, ?_, below2 s2 (qB _)⟩
            · have hD : FD = true := by rw [HF.out.2.2.1, ST.out.2.2, ← HF.out.2.2.2, EF.out]; simp [HE0.out]
              rw [hD]
            · have hb' : FB = (if E = 0 then stB bs ws (x, blk) 2 else []) := by rw [HF.out.1, ST.out.1, ← HF.out.2.2.2, EF.out, NW.out]
              have hw' : FW = (if E = 0 then stW ws (x, blk) 2 else []) := by rw [HF.out.2.1, ST.out.2.1, ← HF.out.2.2.2, EF.out, NW.out]
              rw [hb', hw']
              exact OwnD.below s1 (qB _)
          · have EF := Lib.hid (show effN 0 = 0 from rfl)
            subst hk
            go_enter Tryd.func40, Tryd.ntmps40
            go_wp2_with fail
            refine KA.out.mono ?_
            rintro e w1 ⟨rfl, hB1⟩
            have hx1 := hx0.below hB1
            have hr1 := hr0.below hB1
            have hBB1 := below2 hB0 hB1
            go_wp2_with fail
            refine (KF.out _ (HIN.out.2.2.below (below2 hBB1 (below_alloc _ _)))).mono ?_
            rintro e w2 ⟨rfl, hB2⟩
            have hx2 := (hx1.below (below_alloc _ _)).below hB2
            have hr2 := (hr1.below (below_alloc _ _)).below hB2
            have hBB2 := below3 hBB1 (below_alloc _ _) hB2
            clear KA KF
            go_wp2_with fail
            refine (deedsOf_calls x blk _).mono ?_
            rintro e w3 ⟨g, Bt, Bs, rfl, hg, ht, hs, hB3⟩
            have hx3 := hx2.below hB3
            have hr3 := hr2.below hB3
            have hBB3 := below2 hBB2 hB3
            have KB := Lib.hid (behind_calls 0 (by omega) _ _ bs ws x blk g Bt Bs _ (HIN.out.1.below hBB3) (HIN.out.2.1.below hBB3) hg ht hs HR.out)
            clear hg ht hs
            obtain ⟨p0, p1, _, _, pl⟩ := hx3.cells
            go_wp2_with fail
            refine KB.out.mono ?_
            rintro e w4 ⟨vb4, vw4, he, ho4, hB4⟩
            rw [← HM.out] at he ho4
            subst he
            have hr4 := hr3.below hB4
            have hBB4 := below2 hBB3 hB4
            obtain ⟨q0, q1, q2, q3, q4⟩ := hr4.cells
            obtain ⟨ab4, nb4, cb4, aw4, nw4, cw4, rfl, rfl, hnb4, hnw4⟩ := ho4.forms
            have HO := Lib.hid ho4
            clear hnb4 hnw4 ho4 KB p0 p1
            go_wp2_with fail
            have hsz : w.heap.size + 2 ≤ w3.heap.size := by
              have h1 := hB1.size
              have h2 := hB2.size
              have h3 := hB3.size
              simp at h1 h2 h3
              omega
            have hod : OwnD w4 (w.heap.size + 2) _ _ _ _ := ⟨own_weak HO.out.1 hsz, own_weak HO.out.2 hsz⟩
            obtain ⟨s1, s2⟩ := ret_own (w := w) (x := .slice ab4 nb4 cb4) (y := .slice aw4 nw4 cw4) hod (Nat.le_refl _) hBB4
            have hr5 := bx_set hr4 (.slice ab4 nb4 cb4) (.slice aw4 nw4 cw4)
            have qB := fun W => below_alloc W (.cells #[.slice ab4 nb4 cb4, .slice aw4 nw4 cw4] 25)
            have hr6 := hr5.below (qB _)
            refine ret_disk3 (p := 8) (q := 9) (r := 10) (by kernel_rfl) rfl (w.heap.size + 1) _ _ (.bool false) (.int .i64 E) rfl rfl rfl hr6.cells.1 hr6.cells.2.1 ?_
            refine ⟨.slice ab4 nb4 cb4, .slice aw4 nw4 cw4, ?_, ?_, below2 s2 (qB _)⟩
            · have hD : FD = false := by rw [HF.out.2.2.1, ST.out.2.2, ← HF.out.2.2.2, EF.out]; simp [HE0.out]
              rw [hD]
            · have hb' : FB = (if E = 0 then stB bs ws (x, blk) 0 else []) := by rw [HF.out.1, ST.out.1, ← HF.out.2.2.2, EF.out, NW.out]
              have hw' : FW = (if E = 0 then stW ws (x, blk) 0 else []) := by rw [HF.out.2.1, ST.out.2.1, ← HF.out.2.2.2, EF.out, NW.out]
              rw [hb', hw']
              exact OwnD.below s1 (qB _)
          · have EF := Lib.hid (show effN 1 = 1 from rfl)
            subst hk
            go_enter Tryd.func40, Tryd.ntmps40
            go_wp2_with fail
            refine KA.out.mono ?_
            rintro e w1 ⟨rfl, hB1⟩
            have hx1 := hx0.below hB1
            have hr1 := hr0.below hB1
            have hBB1 := below2 hB0 hB1
            go_wp2_with fail
            refine (KF.out _ (HIN.out.2.2.below (below2 hBB1 (below_alloc _ _)))).mono ?_
            rintro e w2 ⟨rfl, hB2⟩
            have hx2 := (hx1.below (below_alloc _ _)).below hB2
            have hr2 := (hr1.below (below_alloc _ _)).below hB2
            have hBB2 := below3 hBB1 (below_alloc _ _) hB2
            clear KA KF
            go_wp2_with fail
            refine (deedsOf_calls x blk _).mono ?_
            rintro e w3 ⟨g, Bt, Bs, rfl, hg, ht, hs, hB3⟩
            have hx3 := hx2.below hB3
            have hr3 := hr2.below hB3
            have hBB3 := below2 hBB2 hB3
            have KB := Lib.hid (behind_calls 1 (by omega) _ _ bs ws x blk g Bt Bs _ (HIN.out.1.below hBB3) (HIN.out.2.1.below hBB3) hg ht hs HR.out)
            clear hg ht hs
            obtain ⟨p0, p1, _, _, pl⟩ := hx3.cells
            go_wp2_with fail
            refine KB.out.mono ?_
            rintro e w4 ⟨vb4, vw4, he, ho4, hB4⟩
            rw [← HM.out] at he ho4
            subst he
            have hr4 := hr3.below hB4
            have hBB4 := below2 hBB3 hB4
            obtain ⟨q0, q1, q2, q3, q4⟩ := hr4.cells
            obtain ⟨ab4, nb4, cb4, aw4, nw4, cw4, rfl, rfl, hnb4, hnw4⟩ := ho4.forms
            have HO := Lib.hid ho4
            clear hnb4 hnw4 ho4 KB p0 p1
            go_wp2_with fail
            have hsz : w.heap.size + 2 ≤ w3.heap.size := by
              have h1 := hB1.size
              have h2 := hB2.size
              have h3 := hB3.size
              simp at h1 h2 h3
              omega
            have hod : OwnD w4 (w.heap.size + 2) _ _ _ _ := ⟨own_weak HO.out.1 hsz, own_weak HO.out.2 hsz⟩
            obtain ⟨s1, s2⟩ := ret_own (w := w) (x := .slice ab4 nb4 cb4) (y := .slice aw4 nw4 cw4) hod (Nat.le_refl _) hBB4
            have hr5 := bx_set hr4 (.slice ab4 nb4 cb4) (.slice aw4 nw4 cw4)
            have qB := fun W => below_alloc W (.cells #[.slice ab4 nb4 cb4, .slice aw4 nw4 cw4] 25)
            have hr6 := hr5.below (qB _)
            refine ret_disk3 (p := 8) (q := 9) (r := 10) (by kernel_rfl) rfl (w.heap.size + 1) _ _ (.bool false) (.int .i64 E) rfl rfl rfl hr6.cells.1 hr6.cells.2.1 ?_
            refine ⟨.slice ab4 nb4 cb4, .slice aw4 nw4 cw4, ?_, ?_, below2 s2 (qB _)⟩
            · have hD : FD = false := by rw [HF.out.2.2.1, ST.out.2.2, ← HF.out.2.2.2, EF.out]; simp [HE0.out]
              rw [hD]
            · have hb' : FB = (if E = 0 then stB bs ws (x, blk) 1 else []) := by rw [HF.out.1, ST.out.1, ← HF.out.2.2.2, EF.out, NW.out]
              have hw' : FW = (if E = 0 then stW ws (x, blk) 1 else []) := by rw [HF.out.2.1, ST.out.2.1, ← HF.out.2.2.2, EF.out, NW.out]
              rw [hb', hw']
              exact OwnD.below s1 (qB _)
          · have EF := Lib.hid (show effN 2 = 2 from rfl)
            subst hk
            go_enter Tryd.func40, Tryd.ntmps40
            go_wp2_with fail
            refine KA.out.mono ?_
            rintro e w1 ⟨rfl, hB1⟩
            have hx1 := hx0.below hB1
            have hr1 := hr0.below hB1
            have hBB1 := below2 hB0 hB1
            go_wp2_with fail
            refine (KF.out _ (HIN.out.2.2.below (below2 hBB1 (below_alloc _ _)))).mono ?_
            rintro e w2 ⟨rfl, hB2⟩
            have hx2 := (hx1.below (below_alloc _ _)).below hB2
            have hr2 := (hr1.below (below_alloc _ _)).below hB2
            have hBB2 := below3 hBB1 (below_alloc _ _) hB2
            clear KA KF
            go_wp2_with fail
            refine (deedsOf_calls x blk _).mono ?_
            rintro e w3 ⟨g, Bt, Bs, rfl, hg, ht, hs, hB3⟩
            have hx3 := hx2.below hB3
            have hr3 := hr2.below hB3
            have hBB3 := below2 hBB2 hB3
            have KB := Lib.hid (behind_calls 2 (by omega) _ _ bs ws x blk g Bt Bs _ (HIN.out.1.below hBB3) (HIN.out.2.1.below hBB3) hg ht hs HR.out)
            clear hg ht hs
            obtain ⟨p0, p1, _, _, pl⟩ := hx3.cells
            go_wp2_with fail
            refine KB.out.mono ?_
            rintro e w4 ⟨vb4, vw4, he, ho4, hB4⟩
            rw [← HM.out] at he ho4
            subst he
            have hr4 := hr3.below hB4
            have hBB4 := below2 hBB3 hB4
            obtain ⟨q0, q1, q2, q3, q4⟩ := hr4.cells
            obtain ⟨ab4, nb4, cb4, aw4, nw4, cw4, rfl, rfl, hnb4, hnw4⟩ := ho4.forms
            have HO := Lib.hid ho4
            clear hnb4 hnw4 ho4 KB p0 p1
            go_wp2_with fail
            have hsz : w.heap.size + 2 ≤ w3.heap.size := by
              have h1 := hB1.size
              have h2 := hB2.size
              have h3 := hB3.size
              simp at h1 h2 h3
              omega
            have hod : OwnD w4 (w.heap.size + 2) _ _ _ _ := ⟨own_weak HO.out.1 hsz, own_weak HO.out.2 hsz⟩
            obtain ⟨s1, s2⟩ := ret_own (w := w) (x := .slice ab4 nb4 cb4) (y := .slice aw4 nw4 cw4) hod (Nat.le_refl _) hBB4
            have hr5 := bx_set hr4 (.slice ab4 nb4 cb4) (.slice aw4 nw4 cw4)
            have qB := fun W => below_alloc W (.cells #[.slice ab4 nb4 cb4, .slice aw4 nw4 cw4] 25)
            have hr6 := hr5.below (qB _)
            refine ret_disk3 (p := 8) (q := 9) (r := 10) (by kernel_rfl) rfl (w.heap.size + 1) _ _ (.bool true) (.int .i64 E) rfl rfl rfl hr6.cells.1 hr6.cells.2.1 ?_
            refine ⟨.slice ab4 nb4 cb4, .slice aw4 nw4 cw4, ?_, ?_, below2 s2 (qB _)⟩
            · have hD : FD = true := by rw [HF.out.2.2.1, ST.out.2.2, ← HF.out.2.2.2, EF.out]; simp [HE0.out]
              rw [hD]
            · have hb' : FB = (if E = 0 then stB bs ws (x, blk) 2 else []) := by rw [HF.out.1, ST.out.1, ← HF.out.2.2.2, EF.out, NW.out]
              have hw' : FW = (if E = 0 then stW ws (x, blk) 2 else []) := by rw [HF.out.2.1, ST.out.2.1, ← HF.out.2.2.2, EF.out, NW.out]
              rw [hb', hw']
              exact OwnD.below s1 (qB _)
          · have EF := Lib.hid (show effN k = 2 by unfold effN; rw [if_neg (by omega), if_neg (by omega)])
            have dk : decide (k < 0) = false := by simp; omega
            have dk2 : decide (2 < k) = true := by simp; exact hk
            have HK := Lib.hid hk
            clear hk
            go_enter Tryd.func40, Tryd.ntmps40
            go_wp2_with fail
            refine KA.out.mono ?_
            rintro e w1 ⟨rfl, hB1⟩
            have hx1 := hx0.below hB1
            have hr1 := hr0.below hB1
            have hBB1 := below2 hB0 hB1
            go_wp2_with fail
            refine (KF.out _ (HIN.out.2.2.below (below2 hBB1 (below_alloc _ _)))).mono ?_
            rintro e w2 ⟨rfl, hB2⟩
            have hx2 := (hx1.below (below_alloc _ _)).below hB2
            have hr2 := (hr1.below (below_alloc _ _)).below hB2
            have hBB2 := below3 hBB1 (below_alloc _ _) hB2
            clear KA KF
            go_wp2_with fail
            refine (deedsOf_calls x blk _).mono ?_
            rintro e w3 ⟨g, Bt, Bs, rfl, hg, ht, hs, hB3⟩
            have hx3 := hx2.below hB3
            have hr3 := hr2.below hB3
            have hBB3 := below2 hBB2 hB3
            have KB := Lib.hid (behind_calls 2 (by omega) _ _ bs ws x blk g Bt Bs _ (HIN.out.1.below hBB3) (HIN.out.2.1.below hBB3) hg ht hs HR.out)
            clear hg ht hs
            obtain ⟨p0, p1, _, _, pl⟩ := hx3.cells
            go_wp2_with fail
            refine KB.out.mono ?_
            rintro e w4 ⟨vb4, vw4, he, ho4, hB4⟩
            rw [← HM.out] at he ho4
            subst he
            have hr4 := hr3.below hB4
            have hBB4 := below2 hBB3 hB4
            obtain ⟨q0, q1, q2, q3, q4⟩ := hr4.cells
            obtain ⟨ab4, nb4, cb4, aw4, nw4, cw4, rfl, rfl, hnb4, hnw4⟩ := ho4.forms
            have HO := Lib.hid ho4
            clear hnb4 hnw4 ho4 KB p0 p1
            go_wp2_with fail
            have hsz : w.heap.size + 2 ≤ w3.heap.size := by
              have h1 := hB1.size
              have h2 := hB2.size
              have h3 := hB3.size
              simp at h1 h2 h3
              omega
            have hod : OwnD w4 (w.heap.size + 2) _ _ _ _ := ⟨own_weak HO.out.1 hsz, own_weak HO.out.2 hsz⟩
            obtain ⟨s1, s2⟩ := ret_own (w := w) (x := .slice ab4 nb4 cb4) (y := .slice aw4 nw4 cw4) hod (Nat.le_refl _) hBB4
            have hr5 := bx_set hr4 (.slice ab4 nb4 cb4) (.slice aw4 nw4 cw4)
            have qB := fun W => below_alloc W (.cells #[.slice ab4 nb4 cb4, .slice aw4 nw4 cw4] 25)
            have hr6 := hr5.below (qB _)
            refine ret_disk3 (p := 8) (q := 9) (r := 10) (by kernel_rfl) rfl (w.heap.size + 1) _ _ (.bool true) (.int .i64 E) rfl rfl rfl hr6.cells.1 hr6.cells.2.1 ?_
            refine ⟨.slice ab4 nb4 cb4, .slice aw4 nw4 cw4, ?_, ?_, below2 s2 (qB _)⟩
            · have hD : FD = true := by rw [HF.out.2.2.1, ST.out.2.2, ← HF.out.2.2.2, EF.out]; simp [HE0.out]
              rw [hD]
            · have hb' : FB = (if E = 0 then stB bs ws (x, blk) 2 else []) := by rw [HF.out.1, ST.out.1, ← HF.out.2.2.2, EF.out, NW.out]
              have hw' : FW = (if E = 0 then stW ws (x, blk) 2 else []) := by rw [HF.out.2.1, ST.out.2.1, ← HF.out.2.2.2, EF.out, NW.out]
              rw [hb', hw']
              exact OwnD.below s1 (qB _)
        · have hEb : (E == 0) = false := by simp [hE0]
          have HE0 := Lib.hid hE0
          clear hE0
          rcases cases5 with hk | hk | hk | hk | hk
          · have EF := Lib.hid (show effN k = 2 by unfold effN; rw [if_neg (by omega), if_neg (by omega)])
            have dk : decide (k < 0) = true := by simp; exact hk
            have HK := Lib.hid hk
            clear hk
            go_enter Tryd.func40, Tryd.ntmps40
            go_wp2_with fail
            refine KA.out.mono ?_
            rintro e w1 ⟨rfl, hB1⟩
            have hx1 := hx0.below hB1
            have hr1 := hr0.below hB1
            have hBB1 := below2 hB0 hB1
            go_wp2_with fail
            refine (KF.out _ (HIN.out.2.2.below (below2 hBB1 (below_alloc _ _)))).mono ?_
            rintro e w2 ⟨rfl, hB2⟩
            have hx2 := (hx1.below (below_alloc _ _)).below hB2
            have hr2 := (hr1.below (below_alloc _ _)).below hB2
            have hBB2 := below3 hBB1 (below_alloc _ _) hB2
            clear KA KF
            go_wp2_with fail
            refine (deedsOf_calls x blk _).mono ?_
            rintro e w3 ⟨g, Bt, Bs, rfl, hg, ht, hs, hB3⟩
            have hx3 := hx2.below hB3
            have hr3 := hr2.below hB3
            have hBB3 := below2 hBB2 hB3
            have KB := Lib.hid (behind_calls 2 (by omega) _ _ bs ws x blk g Bt Bs _ (HIN.out.1.below hBB3) (HIN.out.2.1.below hBB3) hg ht hs HR.out)
            clear hg ht hs
            obtain ⟨p0, p1, _, _, pl⟩ := hx3.cells
            go_wp2_with fail
            refine KB.out.mono ?_
            rintro e w4 ⟨vb4, vw4, he, ho4, hB4⟩
            rw [← HM.out] at he ho4
            subst he
            have hr4 := hr3.below hB4
            have hBB4 := below2 hBB3 hB4
            obtain ⟨q0, q1, q2, q3, q4⟩ := hr4.cells
            obtain ⟨ab4, nb4, cb4, aw4, nw4, cw4, rfl, rfl, hnb4, hnw4⟩ := ho4.forms
            have HO := Lib.hid ho4
            clear hnb4 hnw4 ho4 KB p0 p1
            go_wp2_with fail
            have hsz : w.heap.size + 2 ≤ w3.heap.size := by
              have h1 := hB1.size
              have h2 := hB2.size
              have h3 := hB3.size
              simp at h1 h2 h3
              omega
            have hod : OwnD w4 (w.heap.size + 2) _ _ _ _ := ⟨own_weak HO.out.1 hsz, own_weak HO.out.2 hsz⟩
            obtain ⟨s1, s2⟩ := ret_own (w := w) (x := .slice ab4 nb4 cb4) (y := .slice aw4 nw4 cw4) hod (Nat.le_refl _) hBB4
            have hr5 := bx_set hr4 (.slice ab4 nb4 cb4) (.slice aw4 nw4 cw4)
            have qB := fun W => below_alloc W (.cells #[.slice ab4 nb4 cb4, .slice aw4 nw4 cw4] 25)
            have hr6 := hr5.below (qB _)
            refine ret_disk3 (p := 8) (q := 9) (r := 10) (by kernel_rfl) rfl (w.heap.size + 1) _ _ (.bool false) (.int .i64 E) rfl rfl rfl hr6.cells.1 hr6.cells.2.1 ?_
            refine ⟨.slice ab4 nb4 cb4, .slice aw4 nw4 cw4, ?_, ?_, below2 s2 (qB _)⟩
            · have hD : FD = false := by rw [HF.out.2.2.1, ST.out.2.2, ← HF.out.2.2.2, EF.out]; simp [HE0.out]
              rw [hD]
            · have hb' : FB = (if E = 0 then stB bs ws (x, blk) 2 else []) := by rw [HF.out.1, ST.out.1, ← HF.out.2.2.2, EF.out, NW.out]
              have hw' : FW = (if E = 0 then stW ws (x, blk) 2 else []) := by rw [HF.out.2.1, ST.out.2.1, ← HF.out.2.2.2, EF.out, NW.out]
              rw [hb', hw']
              exact OwnD.below s1 (qB _)
          · have EF := Lib.hid (show effN 0 = 0 from rfl)
            subst hk
            go_enter Tryd.func40, Tryd.ntmps40
            go_wp2_with fail
            refine KA.out.mono ?_
            rintro e w1 ⟨rfl, hB1⟩
            have hx1 := hx0.below hB1
            have hr1 := hr0.below hB1
            have hBB1 := below2 hB0 hB1
            go_wp2_with fail
            refine (KF.out _ (HIN.out.2.2.below (below2 hBB1 (below_alloc _ _)))).mono ?_
            rintro e w2 ⟨rfl, hB2⟩
            have hx2 := (hx1.below (below_alloc _ _)).below hB2
            have hr2 := (hr1.below (below_alloc _ _)).below hB2
            have hBB2 := below3 hBB1 (below_alloc _ _) hB2
            clear KA KF
            go_wp2_with fail
            refine (deedsOf_calls x blk _).mono ?_
            rintro e w3 ⟨g, Bt, Bs, rfl, hg, ht, hs, hB3⟩
            have hx3 := hx2.below hB3
            have hr3 := hr2.below hB3
            have hBB3 := below2 hBB2 hB3
            have KB := Lib.hid (behind_calls 0 (by omega) _ _ bs ws x blk g Bt Bs _ (HIN.out.1.below hBB3) (HIN.out.2.1.below hBB3) hg ht hs HR.out)
            clear hg ht hs
            obtain ⟨p0, p1, _, _, pl⟩ := hx3.cells
            go_wp2_with fail
            refine KB.out.mono ?_
            rintro e w4 ⟨vb4, vw4, he, ho4, hB4⟩
            rw [← HM.out] at he ho4
            subst he
            have hr4 := hr3.below hB4
            have hBB4 := below2 hBB3 hB4
            obtain ⟨q0, q1, q2, q3, q4⟩ := hr4.cells
            obtain ⟨ab4, nb4, cb4, aw4, nw4, cw4, rfl, rfl, hnb4, hnw4⟩ := ho4.forms
            have HO := Lib.hid ho4
            clear hnb4 hnw4 ho4 KB p0 p1
            go_wp2_with fail
            have hsz : w.heap.size + 2 ≤ w3.heap.size := by
              have h1 := hB1.size
              have h2 := hB2.size
              have h3 := hB3.size
              simp at h1 h2 h3
              omega
            have hod : OwnD w4 (w.heap.size + 2) _ _ _ _ := ⟨own_weak HO.out.1 hsz, own_weak HO.out.2 hsz⟩
            obtain ⟨s1, s2⟩ := ret_own (w := w) (x := .slice ab4 nb4 cb4) (y := .slice aw4 nw4 cw4) hod (Nat.le_refl _) hBB4
            have hr5 := bx_set hr4 (.slice ab4 nb4 cb4) (.slice aw4 nw4 cw4)
            have qB := fun W => below_alloc W (.cells #[.slice ab4 nb4 cb4, .slice aw4 nw4 cw4] 25)
            have hr6 := hr5.below (qB _)
            refine ret_disk3 (p := 8) (q := 9) (r := 10) (by kernel_rfl) rfl (w.heap.size + 1) _ _ (.bool false) (.int .i64 E) rfl rfl rfl hr6.cells.1 hr6.cells.2.1 ?_
            refine ⟨.slice ab4 nb4 cb4, .slice aw4 nw4 cw4, ?_, ?_, below2 s2 (qB _)⟩
            · have hD : FD = false := by rw [HF.out.2.2.1, ST.out.2.2, ← HF.out.2.2.2, EF.out]; simp [HE0.out]
              rw [hD]
            · have hb' : FB = (if E = 0 then stB bs ws (x, blk) 0 else []) := by rw [HF.out.1, ST.out.1, ← HF.out.2.2.2, EF.out, NW.out]
              have hw' : FW = (if E = 0 then stW ws (x, blk) 0 else []) := by rw [HF.out.2.1, ST.out.2.1, ← HF.out.2.2.2, EF.out, NW.out]
              rw [hb', hw']
              exact OwnD.below s1 (qB _)
          · have EF := Lib.hid (show effN 1 = 1 from rfl)
            subst hk
            go_enter Tryd.func40, Tryd.ntmps40
            go_wp2_with fail
            refine KA.out.mono ?_
            rintro e w1 ⟨rfl, hB1⟩
            have hx1 := hx0.below hB1
            have hr1 := hr0.below hB1
            have hBB1 := below2 hB0 hB1
            go_wp2_with fail
            refine (KF.out _ (HIN.out.2.2.below (below2 hBB1 (below_alloc _ _)))).mono ?_
            rintro e w2 ⟨rfl, hB2⟩
            have hx2 := (hx1.below (below_alloc _ _)).below hB2
            have hr2 := (hr1.below (below_alloc _ _)).below hB2
            have hBB2 := below3 hBB1 (below_alloc _ _) hB2
            clear KA KF
            go_wp2_with fail
            refine (deedsOf_calls x blk _).mono ?_
            rintro e w3 ⟨g, Bt, Bs, rfl, hg, ht, hs, hB3⟩
            have hx3 := hx2.below hB3
            have hr3 := hr2.below hB3
            have hBB3 := below2 hBB2 hB3
            have KB := Lib.hid (behind_calls 1 (by omega) _ _ bs ws x blk g Bt Bs _ (HIN.out.1.below hBB3) (HIN.out.2.1.below hBB3) hg ht hs HR.out)
            clear hg ht hs
            obtain ⟨p0, p1, _, _, pl⟩ := hx3.cells
            go_wp2_with fail
            refine KB.out.mono ?_
            rintro e w4 ⟨vb4, vw4, he, ho4, hB4⟩
            rw [← HM.out] at he ho4
            subst he
            have hr4 := hr3.below hB4
            have hBB4 := below2 hBB3 hB4
            obtain ⟨q0, q1, q2, q3, q4⟩ := hr4.cells
            obtain ⟨ab4, nb4, cb4, aw4, nw4, cw4, rfl, rfl, hnb4, hnw4⟩ := ho4.forms
            have HO := Lib.hid ho4
            clear hnb4 hnw4 ho4 KB p0 p1
            go_wp2_with fail
            have hsz : w.heap.size + 2 ≤ w3.heap.size := by
              have h1 := hB1.size
              have h2 := hB2.size
              have h3 := hB3.size
              simp at h1 h2 h3
              omega
            have hod : OwnD w4 (w.heap.size + 2) _ _ _ _ := ⟨own_weak HO.out.1 hsz, own_weak HO.out.2 hsz⟩
            obtain ⟨s1, s2⟩ := ret_own (w := w) (x := .slice ab4 nb4 cb4) (y := .slice aw4 nw4 cw4) hod (Nat.le_refl _) hBB4
            have hr5 := bx_set hr4 (.slice ab4 nb4 cb4) (.slice aw4 nw4 cw4)
            have qB := fun W => below_alloc W (.cells #[.slice ab4 nb4 cb4, .slice aw4 nw4 cw4] 25)
            have hr6 := hr5.below (qB _)
            refine ret_disk3 (p := 8) (q := 9) (r := 10) (by kernel_rfl) rfl (w.heap.size + 1) _ _ (.bool false) (.int .i64 E) rfl rfl rfl hr6.cells.1 hr6.cells.2.1 ?_
            refine ⟨.slice ab4 nb4 cb4, .slice aw4 nw4 cw4, ?_, ?_, below2 s2 (qB _)⟩
            · have hD : FD = false := by rw [HF.out.2.2.1, ST.out.2.2, ← HF.out.2.2.2, EF.out]; simp [HE0.out]
              rw [hD]
            · have hb' : FB = (if E = 0 then stB bs ws (x, blk) 1 else []) := by rw [HF.out.1, ST.out.1, ← HF.out.2.2.2, EF.out, NW.out]
              have hw' : FW = (if E = 0 then stW ws (x, blk) 1 else []) := by rw [HF.out.2.1, ST.out.2.1, ← HF.out.2.2.2, EF.out, NW.out]
              rw [hb', hw']
              exact OwnD.below s1 (qB _)
          · have EF := Lib.hid (show effN 2 = 2 from rfl)
            subst hk
            go_enter Tryd.func40, Tryd.ntmps40
            go_wp2_with fail
            refine KA.out.mono ?_
            rintro e w1 ⟨rfl, hB1⟩
            have hx1 := hx0.below hB1
            have hr1 := hr0.below hB1
            have hBB1 := below2 hB0 hB1
            go_wp2_with fail
            refine (KF.out _ (HIN.out.2.2.below (below2 hBB1 (below_alloc _ _)))).mono ?_
            rintro e w2 ⟨rfl, hB2⟩
            have hx2 := (hx1.below (below_alloc _ _)).below hB2
            have hr2 := (hr1.below (below_alloc _ _)).below hB2
            have hBB2 := below3 hBB1 (below_alloc _ _) hB2
            clear KA KF
            go_wp2_with fail
            refine (deedsOf_calls x blk _).mono ?_
            rintro e w3 ⟨g, Bt, Bs, rfl, hg, ht, hs, hB3⟩
            have hx3 := hx2.below hB3
            have hr3 := hr2.below hB3
            have hBB3 := below2 hBB2 hB3
            have KB := Lib.hid (behind_calls 2 (by omega) _ _ bs ws x blk g Bt Bs _ (HIN.out.1.below hBB3) (HIN.out.2.1.below hBB3) hg ht hs HR.out)
            clear hg ht hs
            obtain ⟨p0, p1, _, _, pl⟩ := hx3.cells
            go_wp2_with fail
            refine KB.out.mono ?_
            rintro e w4 ⟨vb4, vw4, he, ho4, hB4⟩
            rw [← HM.out] at he ho4
            subst he
            have hr4 := hr3.below hB4
            have hBB4 := below2 hBB3 hB4
            obtain ⟨q0, q1, q2, q3, q4⟩ := hr4.cells
            obtain ⟨ab4, nb4, cb4, aw4, nw4, cw4, rfl, rfl, hnb4, hnw4⟩ := ho4.forms
            have HO := Lib.hid ho4
            clear hnb4 hnw4 ho4 KB p0 p1
            go_wp2_with fail
            have hsz : w.heap.size + 2 ≤ w3.heap.size := by
              have h1 := hB1.size
              have h2 := hB2.size
              have h3 := hB3.size
              simp at h1 h2 h3
              omega
            have hod : OwnD w4 (w.heap.size + 2) _ _ _ _ := ⟨own_weak HO.out.1 hsz, own_weak HO.out.2 hsz⟩
            obtain ⟨s1, s2⟩ := ret_own (w := w) (x := .slice ab4 nb4 cb4) (y := .slice aw4 nw4 cw4) hod (Nat.le_refl _) hBB4
            have hr5 := bx_set hr4 (.slice ab4 nb4 cb4) (.slice aw4 nw4 cw4)
            have qB := fun W => below_alloc W (.cells #[.slice ab4 nb4 cb4, .slice aw4 nw4 cw4] 25)
            have hr6 := hr5.below (qB _)
            refine ret_disk3 (p := 8) (q := 9) (r := 10) (by kernel_rfl) rfl (w.heap.size + 1) _ _ (.bool false) (.int .i64 E) rfl rfl rfl hr6.cells.1 hr6.cells.2.1 ?_
            refine ⟨.slice ab4 nb4 cb4, .slice aw4 nw4 cw4, ?_, ?_, below2 s2 (qB _)⟩
            · have hD : FD = false := by rw [HF.out.2.2.1, ST.out.2.2, ← HF.out.2.2.2, EF.out]; simp [HE0.out]
              rw [hD]
            · have hb' : FB = (if E = 0 then stB bs ws (x, blk) 2 else []) := by rw [HF.out.1, ST.out.1, ← HF.out.2.2.2, EF.out, NW.out]
              have hw' : FW = (if E = 0 then stW ws (x, blk) 2 else []) := by rw [HF.out.2.1, ST.out.2.1, ← HF.out.2.2.2, EF.out, NW.out]
              rw [hb', hw']
              exact OwnD.below s1 (qB _)
          · have EF := Lib.hid (show effN k = 2 by unfold effN; rw [if_neg (by omega), if_neg (by omega)])
            have dk : decide (k < 0) = false := by simp; omega
            have dk2 : decide (2 < k) = true := by simp; exact hk
            have HK := Lib.hid hk
            clear hk
            go_enter Tryd.func40, Tryd.ntmps40
            go_wp2_with fail
            refine KA.out.mono ?_
            rintro e w1 ⟨rfl, hB1⟩
            have hx1 := hx0.below hB1
            have hr1 := hr0.below hB1
            have hBB1 := below2 hB0 hB1
            go_wp2_with fail
            refine (KF.out _ (HIN.out.2.2.below (below2 hBB1 (below_alloc _ _)))).mono ?_
            rintro e w2 ⟨rfl, hB2⟩
            have hx2 := (hx1.below (below_alloc _ _)).below hB2
            have hr2 := (hr1.below (below_alloc _ _)).below hB2
            have hBB2 := below3 hBB1 (below_alloc _ _) hB2
            clear KA KF
            go_wp2_with fail
            refine (deedsOf_calls x blk _).mono ?_
            rintro e w3 ⟨g, Bt, Bs, rfl, hg, ht, hs, hB3⟩
            have hx3 := hx2.below hB3
            have hr3 := hr2.below hB3
            have hBB3 := below2 hBB2 hB3
            have KB := Lib.hid (behind_calls 2 (by omega) _ _ bs ws x blk g Bt Bs _ (HIN.out.1.below hBB3) (HIN.out.2.1.below hBB3) hg ht hs HR.out)
            clear hg ht hs
            obtain ⟨p0, p1, _, _, pl⟩ := hx3.cells
            go_wp2_with fail
            refine KB.out.mono ?_
            rintro e w4 ⟨vb4, vw4, he, ho4, hB4⟩
            rw [← HM.out] at he ho4
            subst he
            have hr4 := hr3.below hB4
            have hBB4 := below2 hBB3 hB4
            obtain ⟨q0, q1, q2, q3, q4⟩ := hr4.cells
            obtain ⟨ab4, nb4, cb4, aw4, nw4, cw4, rfl, rfl, hnb4, hnw4⟩ := ho4.forms
            have HO := Lib.hid ho4
            clear hnb4 hnw4 ho4 KB p0 p1
            go_wp2_with fail
            have hsz : w.heap.size + 2 ≤ w3.heap.size := by
              have h1 := hB1.size
              have h2 := hB2.size
              have h3 := hB3.size
              simp at h1 h2 h3
              omega
            have hod : OwnD w4 (w.heap.size + 2) _ _ _ _ := ⟨own_weak HO.out.1 hsz, own_weak HO.out.2 hsz⟩
            obtain ⟨s1, s2⟩ := ret_own (w := w) (x := .slice ab4 nb4 cb4) (y := .slice aw4 nw4 cw4) hod (Nat.le_refl _) hBB4
            have hr5 := bx_set hr4 (.slice ab4 nb4 cb4) (.slice aw4 nw4 cw4)
            have qB := fun W => below_alloc W (.cells #[.slice ab4 nb4 cb4, .slice aw4 nw4 cw4] 25)
            have hr6 := hr5.below (qB _)
            refine ret_disk3 (p := 8) (q := 9) (r := 10) (by kernel_rfl) rfl (w.heap.size + 1) _ _ (.bool false) (.int .i64 E) rfl rfl rfl hr6.cells.1 hr6.cells.2.1 ?_
            refine ⟨.slice ab4 nb4 cb4, .slice aw4 nw4 cw4, ?_, ?_, below2 s2 (qB _)⟩
            · have hD : FD = false := by rw [HF.out.2.2.1, ST.out.2.2, ← HF.out.2.2.2, EF.out]; simp [HE0.out]
              rw [hD]
            · have hb' : FB = (if E = 0 then stB bs ws (x, blk) 2 else []) := by rw [HF.out.1, ST.out.1, ← HF.out.2.2.2, EF.out, NW.out]
              have hw' : FW = (if E = 0 then stW ws (x, blk) 2 else []) := by rw [HF.out.2.1, ST.out.2.1, ← HF.out.2.2.2, EF.out, NW.out]
              rw [hb', hw']
              exact OwnD.below s1 (qB _)
      · have HW := Lib.hid (stop_limit (s := s) hz (fun h => h3 h.2))
        have HS := Lib.hid (HW.out)
        have HQ := Lib.hid (HN.out (by rw [HS.out]; omega))
        generalize isO (newestC bs ws i) = ob at A0
        generalize txtO (newestC bs ws i) = tb at A0
        generalize numO (newestC bs ws i) = n at A0 h3
        generalize newestTo bs ws i = x at A0
        have d3 : decide ((1000000000 : Int) ≤ (n : Int)) = true := by simp; omega
        have d3' : decide (1000000000 ≤ n) = true := by simp; omega
        have KA := Lib.hid A0
        clear hb hw hT hz A0
        rw [HQ.out.1, HQ.out.2.1, HQ.out.2.2, HS.out]
        go_enter Tryd.func40, Tryd.ntmps40
        go_wp2_with fail
        refine KA.out.mono ?_
        rintro e w1 ⟨rfl, hB1⟩
        have hr1 := hr0.below hB1
        have hBB1 := below2 hB0 hB1
        obtain ⟨q0, q1, q2, q3, q4⟩ := hr1.cells
        go_wp2_with fail
        obtain ⟨s1, s2⟩ := ret_own (w := w) (x := .slice none 0 0) (y := .slice none 0 0) (nil_own w1 (w.heap.size + 2)) (Nat.le_refl _) hBB1
        have hr2 := bx_set hr1 (.slice none 0 0) (.slice none 0 0)
        have qB := fun W (V : List Value) => below_alloc W (.cells V.toArray 89)
        have hr3 := fun V => hr2.below (qB _ V)
        refine ret_disk3 (p := 8) (q := 9) (r := 10) (by kernel_rfl) rfl (w.heap.size + 1) (.slice none 0 0) (.slice none 0 0) (.bool false) (.int .i64 2) rfl rfl rfl (hr3 [_, _, _]).cells.1 (hr3 [_, _, _]).cells.2.1 ?_
        exact ⟨_, _, rfl, OwnD.below s1 (qB _ [_, _, _]), below2 s2 (qB _ [_, _, _])⟩
    · have HW := Lib.hid (stop_limit (s := s) hz (fun h => h2 h.1))
      have d2 : decide ((200 : Int) < s.length) = true := by simp; omega
      have HS := Lib.hid (HW.out)
      have HQ := Lib.hid (HN.out (by rw [HS.out]; omega))
      generalize isO (newestC bs ws i) = ob at A0
      generalize txtO (newestC bs ws i) = tb at A0
      generalize numO (newestC bs ws i) = n at A0
      generalize newestTo bs ws i = x at A0
      have KA := Lib.hid A0
      clear hb hw hT hz A0
      rw [HQ.out.1, HQ.out.2.1, HQ.out.2.2, HS.out]
      go_enter Tryd.func40, Tryd.ntmps40
      go_wp2_with fail
      refine KA.out.mono ?_
      rintro e w1 ⟨rfl, hB1⟩
      have hr1 := hr0.below hB1
      have hBB1 := below2 hB0 hB1
      obtain ⟨q0, q1, q2, q3, q4⟩ := hr1.cells
      go_wp2_with fail
      obtain ⟨s1, s2⟩ := ret_own (w := w) (x := .slice none 0 0) (y := .slice none 0 0) (nil_own w1 (w.heap.size + 2)) (Nat.le_refl _) hBB1
      have hr2 := bx_set hr1 (.slice none 0 0) (.slice none 0 0)
      have qB := fun W (V : List Value) => below_alloc W (.cells V.toArray 89)
      have hr3 := fun V => hr2.below (qB _ V)
      refine ret_disk3 (p := 8) (q := 9) (r := 10) (by kernel_rfl) rfl (w.heap.size + 1) (.slice none 0 0) (.slice none 0 0) (.bool false) (.int .i64 2) rfl rfl rfl (hr3 [_, _, _]).cells.1 (hr3 [_, _, _]).cells.2.1 ?_
      exact ⟨_, _, rfl, OwnD.below s1 (qB _ [_, _, _]), below2 s2 (qB _ [_, _, _])⟩
  · have HW := Lib.hid (show stopE bs ws i s = newestE bs ws i by rw [stopE, if_neg hz])
    have HSC := Lib.hid (newest_short hz)
    obtain ⟨c, hc⟩ : ∃ c, c = newestE bs ws i := ⟨_, rfl⟩
    rw [← hc] at A0 HW
    have HC := Lib.hid (And.intro hc (show ¬ c = 0 from hc ▸ hz))
    have hcb : (c != 0) = true := by simpa using HC.out.2
    clear hc
    have HS := Lib.hid (HW.out)
    have HQ := Lib.hid (HN.out (by rw [HS.out]; exact HC.out.2))
    generalize isO (newestC bs ws i) = ob at A0
    generalize txtO (newestC bs ws i) = tb at A0
    generalize numO (newestC bs ws i) = n at A0
    generalize newestTo bs ws i = x at A0
    have KA := Lib.hid A0
    clear hb hw hT hz A0
    rw [HQ.out.1, HQ.out.2.1, HQ.out.2.2, HS.out]
    go_enter Tryd.func40, Tryd.ntmps40
    go_wp2_with fail
    refine KA.out.mono ?_
    rintro e w1 ⟨rfl, hB1⟩
    have hr1 := hr0.below hB1
    have hBB1 := below2 hB0 hB1
    obtain ⟨q0, q1, q2, q3, q4⟩ := hr1.cells
    go_wp2_with fail
    obtain ⟨s1, s2⟩ := ret_own (w := w) (x := .slice none 0 0) (y := .slice none 0 0) (nil_own w1 (w.heap.size + 2)) (Nat.le_refl _) hBB1
    have hr2 := bx_set hr1 (.slice none 0 0) (.slice none 0 0)
    have qB := fun W (V : List Value) => below_alloc W (.cells V.toArray 89)
    have hr3 := fun V => hr2.below (qB _ V)
    refine ret_disk3 (p := 8) (q := 9) (r := 10) (by kernel_rfl) rfl (w.heap.size + 1) (.slice none 0 0) (.slice none 0 0) (.bool false) (.int .i64 c) rfl rfl rfl (hr3 [_, _, _]).cells.1 (hr3 [_, _, _]).cells.2.1 ?_
    exact ⟨_, _, rfl, OwnD.below s1 (qB _ [_, _, _]), below2 s2 (qB _ [_, _, _])⟩

end Go.Proofs.YtdbidfbjfongbaaDoor
