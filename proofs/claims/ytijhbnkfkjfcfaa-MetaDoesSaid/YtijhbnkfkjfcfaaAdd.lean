/-
  codec.addNumber: the number's bytes are appended to a row of the call's own.
-/
import Derived.Test.YtijhbnkfkjfcfaaIter
import Derived.Maps.AppendAt
import Derived.Deep.AppendLies
import Derived.Deep.RegionLaw
import Derived.Deep.DeepCutAuto
namespace Go.Proofs.Ytijhbnkfkjfcfaa
open Go.RowKit Go.Shelf
attribute [local go_sem] Oper.semAt_some

/-- A byte as a cell. -/
def B8 (b : UInt8) : Value := .int .u8 (b.toNat : Int)
/-- The slice v owns just these bytes, in blocks from base on. -/
def Owns (w : World) (base : Nat) (v : Value) (bs : List UInt8) : Prop := w.ownsRow base 5 1 v bs.length (bs.map B8)

theorem info8 : (Try.prog.info? 5).map (fun i => (i.zero, i.size, i.bytes)) = some (some (.int .u8 0), 1, 1) := by kernel_rfl

theorem news_at (w : World) (o : Obj) (y : Value) (t : TypeId) : ∀ j u, [y][j]? = some u → ((w.alloc o).alloc (.cells #[y] t)).drew.cell? ((⟨w.heap.size + 1, 0, none⟩ : Addr).add j) = some u := by
  intro j u hu
  have h := cell_one_new (w.alloc o) y t j u hu
  rw [World.size_alloc] at h
  exact h

theorem wp_noPanic {P : Program} {c : Code} {K : Act → World → Prop} {Q : Exit → Act → World → Prop} {a : Act} {w : World} (h : c.wp P (Exit.then K (fun _ _ _ => False)) a w) : c.wp P (Exit.then K Q) a w :=
  wp_mono h (by intro e a w; cases e <;> simp [Exit.then])

theorem box_kept {w : World} {base : Nat} {v : Value} {bs : List UInt8} (hown : Owns w base v bs) (t : TypeId) (ht : t ≠ 5) {o1 : Obj} {w1 : World} (hg : ((w.alloc (.cells #[v] t)).alloc o1).drew.grownBy w1 v.ownBlock) : Boxed w1 w.heap.size t v := by
  have hb : Boxed ((w.alloc (.cells #[v] t)).alloc o1).drew w.heap.size t v := (Boxed.new w t v).alloc o1
  exact hb.kept hg ((Boxed.new w t v).not_row ht (World.ownsRow.alloc hown _))

theorem Owns.shape {w : World} {base : Nat} {v : Value} {bs : List UInt8} (h : Owns w base v bs) : ∃ va vl vc, v = .slice va vl vc := by
  rcases h.2 with ⟨rfl, _⟩ | ⟨g, cap, cur, rfl, _⟩
  · exact ⟨_, _, _, rfl⟩
  · exact ⟨_, _, _, rfl⟩

theorem wrap8_byte (k : Nat) (h : k < 256) : Value.int .u8 (IntKind.u8.wrap (k : Int)) = B8 (UInt8.ofNat k) := by
  have e : IntKind.u8.wrap (k : Int) = (k : Int) := by simp [IntKind.wrap, IntKind.bits, IntKind.signed]; omega
  rw [e, B8]
  congr 1
  simp
  omega

theorem add_first {w : World} {base : Nat} {v : Value} {bs : List UInt8} (hown : Owns w base v bs) (hbase : base ≤ w.heap.size) (k : Nat) (hk : k < 256) {v' : Value} {w1 : World} {o1 : Obj}
    (hown' : w1.ownsRow base 5 1 v' (bs.length + 1) (bs.map B8 ++ [Value.int .u8 (IntKind.u8.wrap (k : Int))]))
    (hg : ((w.alloc (.cells #[v] 55)).alloc o1).drew.grownBy w1 v.ownBlock) (hb : Boxed w1 w.heap.size 55 v) :
    ∃ v1, Boxed (w1.setCell ⟨w.heap.size, 0, none⟩ v') w.heap.size 55 v1 ∧ Owns (w1.setCell ⟨w.heap.size, 0, none⟩ v') base v1 (bs ++ [UInt8.ofNat k]) ∧ Below base w (w1.setCell ⟨w.heap.size, 0, none⟩ v') := by
  refine ⟨v', hb.set v', ?_, ?_⟩
  · have h := hown'.kept (grownBy_setCell' w1 w.heap.size v') (.inr (hb.not_row (by decide) hown').symm)
    rw [wrap8_byte k hk] at h
    simpa [Owns] using h
  · have h0 : Below base w ((w.alloc (.cells #[v] 55)).alloc o1).drew := (((Below.refl base w).alloc hbase _).alloc (by simp; omega) _).drew
    exact (h0.grown hg (by simp; omega) (fun j e => (hown.lt j e).1)).setCell (p := ⟨w.heap.size, 0, none⟩) hbase _

set_option maxRecDepth 100000 in
set_option maxHeartbeats 2000000 in
theorem addNumber_calls (base : Nat) (v : Value) (bs : List UInt8) (x : Nat) (hx : x ≤ 4294967295) (w : World) (hown : Owns w base v bs) (hbase : base ≤ w.heap.size) (hlen : bs.length ≤ 1099511627776) :
    Calls Try.prog 37 #[v, .int .i64 x] w fun e w' => ∃ v', e = .returned v' ∧ Owns w' base v' (bs ++ numB x) ∧ Below base w w' := by
  obtain ⟨i0, hi, hz0, hz1, hz2⟩ := info_parts info8
  obtain ⟨va, vl, vc, rfl⟩ := hown.shape
  have hwl := wid_le x
  refine (callsIn_wide (n := 6)).1 ?_
  refine callsIn_of_wp_marks Try.func37 rfl trivial ?_ rfl
  simp only [Try.ntmps37, List.size_toArray, List.length_cons, List.length_nil, Nat.reduceAdd, Nat.reduceSub, Array.replicate_succ, Array.replicate_zero, List.push_toArray, List.append_toArray, List.nil_append, List.cons_append]
  refine wpIn_wide.2 ?_
  go_upto_region 1 with fail
  go_cut [11] from 6 to 11 (fun _ wx => ∃ v1, Boxed wx w.heap.size 55 v1 ∧ Owns wx base v1 (bs ++ [UInt8.ofNat (wid x)]) ∧ Below base w wx)
  case first =>
    refine wp_noPanic ?_
    have hbxW := Lib.hid (fun o1 w1 => box_kept (w := w) hown 55 (by decide) (o1 := o1) (w1 := w1))
    have hownW := Lib.hid (fun o1 => World.ownsRow.drew ((World.ownsRow.alloc hown (Obj.cells #[.slice va vl vc] 55)).alloc o1))
    have hnewsW := Lib.hid (news_at w (Obj.cells #[.slice va vl vc] 55) (.int .u8 (IntKind.u8.wrap (wid x : Int))) 5)
    go_region_law (first | (refine step_append_lies _ rfl (.tmp 6) (.tmp 10) 55 rfl base 5 i0 (.int .u8 0) 1 1 Try.underlying55 hi hz0 hz1 hz2 rfl (by decide) (.slice va vl vc) bs.length (bs.map B8) (by simp [Act.eval]) (hownW.out _) ⟨w.heap.size + 1, 0, none⟩ 1 1 [.int .u8 (IntKind.u8.wrap (wid x : Int))] (by simp [Act.eval]) rfl hnewsW.out (by simp [Value.oneCell']) (by omega) (by unfold maxLen; omega) (by omega) (by simp; omega) (w.heap.size + 2) (by simp) ?_; intro g cap w1 hown' hgrow hg hlt; have hbx := hbxW.out _ _ hgrow; have hcx := hbx.cell; have hfx := hbx.frozen) | (go_simp; go_at_call 42; refine (width_calls _ _ (by omega) (by omega)).mono ?_; rintro e w' ⟨rfl, rfl⟩))
    all_goals (go_wp2_with fail; go_meet; exact add_first hown hbase (wid x) (by omega) hown' hgrow hbx)
  case rest =>
    obtain ⟨v1, hv1, hown1, hB1⟩ := hcut
    go_wp2_with (go_at_call 43; refine (callsIn_wide.1 (fromHighest_in 5 _ _)).mono ?_; rintro e w' ⟨rfl, rfl⟩)
    have bN := Boxed.new wc 3 (.int .i64 (x : Int))
    have bO := hv1.alloc (.cells #[.int .i64 (x : Int)] 3)
    have hB2 : Below base w (wc.alloc (.cells #[.int .i64 (x : Int)] 3)) := hB1.alloc (Nat.le_trans hbase hB1.size) _
    have hsz : w.heap.size < wc.heap.size := hv1.lt
    refine (wpIn_wide (n := 6)).1 ?_
    refine wpIn_rangeFunc_ownG rfl (by omega) (gf := 47) (lb := #[.pointer (some ⟨wc.heap.size, 0, none⟩)]) rfl trivial (enters_of Try.func47 (by kernel_rfl) rfl)
      (highest_stops 5 (by omega) wc.heap.size x hx _ bN) (fun h k => keepsBox_t h k) (keepsBox_b (by simp)) (Below.refl _ _) (fun _ => rfl)
      (fun pre W => ((∃ v, Boxed W w.heap.size 55 v ∧ W.ownsRow base 5 1 v (bs.length + 1 + pre.length) ((bs ++ [UInt8.ofNat (wid x)] ++ pre).map B8) ∧ True) ∧ Boxed W wc.heap.size 3 (.int .i64 (x : Int))) ∧ Below base w W)
      (fun _ _ _ => False)
      (OwnFrom.and (OwnFrom.and (Own.from (holdsRow_own base w.heap.size 55 5 1 (fun pre : List UInt8 => bs.length + 1 + pre.length) (fun pre => (bs ++ [UInt8.ofNat (wid x)] ++ pre).map B8) (fun _ _ => True)) _) (Own.from (boxed_own _ _ _) _)) (ownFrom_below hbase (by simp; omega)))
      (fun _ _ _ _ _ hs _ _ => hs)
      ⟨⟨⟨v1, bO, by simpa [Owns] using World.ownsRow.alloc hown1 _, trivial⟩, bN⟩, hB2⟩
      (fun b => { tmps := #[.slice va vl vc, .int .i64 x, .pointer (some ⟨w.heap.size, 0, none⟩), undef, .slice none 0 0, .int .u8 (b.toNat : Int), u6, u7, u8, u9, u10, u11, .int .i64 x, .func (.func 47) #[] #[.pointer (some ⟨wc.heap.size, 0, none⟩)], .int .u8 (b.toNat : Int), undef, undef, undef, undef, undef], defers := [] }) ?assign ?body ?done ?stop
    case assign =>
      intro l b W K hK
      gi_wp2
      exact hK
    case body =>
      rintro l pre b W ⟨⟨⟨v, hv, hrow, _⟩, hbn⟩, hB⟩ hlt
      have hc := hv.cell
      have hfw : ∀ f, Fence.wide.fn f := fun _ => trivial
      gi_wp2_with (gi_at_builtin; refine wpListIn_append_own _ rfl _ _ 55 rfl base 5 i0 (.int .u8 0) 1 1 Try.underlying55 hi hz0 hz1 hz2 rfl (by decide) _ _ _ rfl (hrow.alloc _) ⟨W.heap.size, 0, none⟩ 1 1 [.int .u8 (b.toNat : Int)] rfl rfl (cell_one_new _ _ _) (by simp [Value.oneCell']) (by unfold maxLen; omega) (by omega) (by have := hB.size; simp; omega) ?_; intro v' w1 hown' hgrow _; obtain ⟨g', cap', rfl⟩ := ownsRow_succ hown'; obtain ⟨hv1', hv2, hr2, hk2, hb2⟩ := hv.appended (by decide) hrow (Nat.le_trans hbase hB.size) hbase hown' hgrow; have hc1 := hv1'.cell; have hf1 := hv1'.frozen)
      have hbn1 : Boxed w1 wc.heap.size 3 (.int .i64 (x : Int)) := (hbn.alloc _).kept hgrow (hbn.not_row (by decide) hrow)
      have hbn2 := hbn1.kept (grownBy_setCell' w1 w.heap.size (.slice (some ⟨g', 0, none⟩) (bs.length + 1 + pre.length + 1) cap')) (by simp; omega)
      exact ⟨hk2.from _, Eq.trans hbn2 hbn.symm, ⟨⟨⟨_, hv2, by simpa [B8, ← Nat.add_assoc] using hr2, trivial⟩, hbn2⟩, hB.trans hb2⟩⟩
    case done =>
      rintro D ys W hD rfl ⟨⟨⟨v, hv, hrow, _⟩, hbn⟩, hB⟩ hK
      have hc := hv.cell
      go_wp2
      refine ⟨by simp, .inl ⟨_, _, rfl, run_takeDeferred hK, ?_⟩⟩
      exact ⟨_, results_tmp rfl _ _ _, v, rfl, by simpa [Owns, numB, digs_length, Nat.add_assoc, Nat.add_comm] using ownsRow_putObj hrow _ hK rfl, hB.trans (belowK_b (w := w) hbase W D _ _ (by simp at hD; omega) hK rfl rfl)⟩
    case stop =>
      rintro D c pre W _ _ h _
      exact h.elim

end Go.Proofs.Ytijhbnkfkjfcfaa
