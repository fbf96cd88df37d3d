/-
  disk: Read.
-/
import Derived.Test.YtcikgmgkaenpmaaDSpec
import Derived.Test.YtcikgmgkaenpmaaBackw
namespace Go.Proofs.Ytcikgmgkaenpmaa
open Go.RowKit Go.Shelf
attribute [local go_sem] Oper.semAt_some

/-- What was laid last at a block. -/
theorem says_cons_hit (bs : List (List UInt8)) (ws : List Wr) (x : Wr) (i : Int) (h : x.1 = i) (h0 : hasB bs.length i = true) : saysL bs (ws ++ [x]) i = x.2 := by
  have hi : 0 ≤ i ∧ i < bs.length := by simpa [hasB] using h0
  unfold saysL
  rw [layL_snoc, h]
  have hl := layL_len bs ws
  have h2 : i.toNat < bs.length := by omega
  simp [List.getD, hl, h2]
theorem says_cons_miss (bs : List (List UInt8)) (ws : List Wr) (x : Wr) (i : Int) (h : x.1 ≠ i) (hx : hasB bs.length x.1 = true) (h0 : hasB bs.length i = true) : saysL bs (ws ++ [x]) i = saysL bs ws i := by
  have hi : 0 ≤ i ∧ i < bs.length := by simpa [hasB] using h0
  have hj : 0 ≤ x.1 ∧ x.1 < bs.length := by simpa [hasB] using hx
  unfold saysL
  rw [layL_snoc]
  simp [List.getD, List.getElem?_set]
  have : ¬ x.1.toNat = i.toNat := by omega
  simp [this]
/-- The first one that is met from behind. -/
def metB (bs : List (List UInt8)) (l : List (Int × Wr)) (i : Int) : List UInt8 := match l.find? (fun y => y.2.1 == i) with
  | some y => y.2.2
  | none => bs.getD i.toNat []
theorem met_back (bs : List (List UInt8)) (ws : List Wr) (i : Int) (h0 : hasB bs.length i = true) (hok : ∀ y ∈ ws, hasB bs.length y.1 = true) (k : Nat) (hk : k ≤ ws.length) : metB bs (backTo ws k) i = saysL bs (ws.take k) i := by
  induction k with
  | zero => rfl
  | succ k ih =>
    have hlt : k < ws.length := by omega
    have hx := hok _ (List.getElem_mem hlt)
    have ih := ih (by omega)
    rw [List.take_succ_eq_append_getElem hlt]
    have e : ws.getD k (0, []) = ws[k] := by simp [List.getD, List.getElem?_eq_getElem hlt]
    generalize ws[k] = x at hx e
    unfold metB at ih ⊢
    rw [backTo, e, List.find?_cons]
    by_cases h : x.1 = i
    · simp only [h, beq_self_eq_true]
      rw [says_cons_hit bs _ x i h h0]
    · have hb : (x.1 == i) = false := by simpa using h
      simp only [hb]
      rw [says_cons_miss bs _ x i h hx h0]
      exact ih
theorem met_all (bs : List (List UInt8)) (ws : List Wr) (i : Int) (h0 : hasB bs.length i = true) (hok : ∀ y ∈ ws, hasB bs.length y.1 = true) : metB bs (backL ws) i = saysL bs ws i := by
  have h := met_back bs ws i h0 hok ws.length (Nat.le_refl _)
  rw [List.take_length] at h
  exact h
theorem met_none {bs : List (List UInt8)} {l : List (Int × Wr)} {i : Int} (h : ∀ y ∈ l, y.2.1 ≠ i) : metB bs l i = bs.getD i.toNat [] := by
  have : l.find? (fun y => y.2.1 == i) = none := List.find?_eq_none.2 (fun y hy => by simpa using h y hy)
  unfold metB
  rw [this]
theorem met_some {bs : List (List UInt8)} {l pre : List (Int × Wr)} {x : Int × Wr} {i : Int} (hp : pre ++ [x] <+: l) (h : ∀ y ∈ pre, y.2.1 ≠ i) (hx : x.2.1 = i) : metB bs l i = x.2.2 := by
  obtain ⟨q, rfl⟩ := hp
  have h1 : pre.find? (fun y => y.2.1 == i) = none := List.find?_eq_none.2 (fun y hy => by simpa using h y hy)
  unfold metB
  rw [List.append_assoc, List.find?_append, h1]
  simp [hx]

theorem load_text (w : World) (g : Nat) (v : Value) (c : w.cell? ⟨g, 0, none⟩ = some v) : (loadVar 9 ⟨g, 0, none⟩).run Try.prog w = .ok v w := by
  have hagg : (isAgg 9).run Try.prog w = .ok false w := by simp [isAgg, run_underlying Try.underlying9]
  simp only [loadVar, Sem.run_bind, hagg, Result.andThen_ok]
  simp [c]
theorem load_errno (w : World) (g : Nat) (v : Value) (c : w.cell? ⟨g, 0, none⟩ = some v) : (loadVar 29 ⟨g, 0, none⟩).run Try.prog w = .ok v w := by
  have hagg : (isAgg 29).run Try.prog w = .ok false w := by simp [isAgg, run_underlying Try.underlying29]
  simp only [loadVar, Sem.run_bind, hagg, Result.andThen_ok]
  simp [c]
theorem res_cells {fn : Func} {p q : Tmp} (h : fn.results = #[.cell p 9, .cell q 29]) (tmps : Array Value) (w : World) (g1 g2 : Nat) (v1 v2 : Value) (hp : tmps.getD p undef = .pointer (some ⟨g1, 0, none⟩)) (hq : tmps.getD q undef = .pointer (some ⟨g2, 0, none⟩))
    (c1 : w.cell? ⟨g1, 0, none⟩ = some v1) (c2 : w.cell? ⟨g2, 0, none⟩ = some v2) : (results fn tmps).run Try.prog w = .ok (.tuple #[v1, v2]) w := by
  have hp' : tmps[p]?.getD undef = .pointer (some ⟨g1, 0, none⟩) := by simpa using hp
  have hq' : tmps[q]?.getD undef = .pointer (some ⟨g2, 0, none⟩) := by simpa using hq
  simp [results, h, hp', hq', asAddr, load_text w g1 v1 c1, load_errno w g2 v2 c2]

theorem entryR (w : World) (vb vw : Value) (i : Int) : ∃ W, W = (((w.alloc (.cells #[vb, vw] 25)).alloc (.cells #[.int .i64 i] 3)).alloc (.cells #[.string ⟨#[]⟩] 9)).alloc (.cells #[.int .i64 0] 29) ∧
    Bx W w.heap.size vb vw ∧ Boxed W (w.heap.size + 1) 3 (.int .i64 i) ∧ Boxed W (w.heap.size + 1 + 1) 9 (.string ⟨#[]⟩) ∧ Boxed W (w.heap.size + 1 + 1 + 1) 29 (.int .i64 0) ∧ Below w.heap.size w W := by
  obtain ⟨q0, q1, q2, q3, _, qb⟩ := heap5 w (.cells #[vb, vw] 25) (.cells #[.int .i64 i] 3) (.cells #[.string ⟨#[]⟩] 9) (.cells #[.int .i64 0] 29) (.cells #[] 0)
  refine ⟨_, rfl, ?_, ?_, ?_, ?_, ?_⟩
  · exact (heap_alloc_old _ (.cells #[] 0) (by simp <;> omega)).symm.trans q0
  · exact (heap_alloc_old _ (.cells #[] 0) (by simp <;> omega)).symm.trans q1
  · exact (heap_alloc_old _ (.cells #[] 0) (by simp <;> omega)).symm.trans q2
  · exact (heap_alloc_old _ (.cells #[] 0) (by simp <;> omega)).symm.trans q3
  · exact (((below_alloc2 w _ _).alloc (by simp; omega) _).alloc (by simp; omega) _)

theorem two_set {W : World} {b1 b2 : Nat} {t1 t2 : TypeId} {x y : Value} (h1 : Boxed W b1 t1 x) (h2 : Boxed W b2 t2 y) (hne : b1 ≠ b2) (v1 v2 : Value) :
    Boxed ((W.setCell ⟨b1, 0, none⟩ v1).setCell ⟨b2, 0, none⟩ v2) b1 t1 v1 ∧ Boxed ((W.setCell ⟨b1, 0, none⟩ v1).setCell ⟨b2, 0, none⟩ v2) b2 t2 v2 :=
  ⟨(h1.set v1).kept (grownBy_setCell' _ b2 v2) (by simpa using hne), Boxed.set v2 (h2.kept (grownBy_setCell' _ b1 v1) (by simpa using hne.symm))⟩

/-- One write that is met has the place, none ahead of it. -/
def FoundAt (w : World) (i : Int) (pre : List (Int × Wr)) (W : World) : Prop :=
  ∃ pre' x, pre = pre' ++ [x] ∧ (∀ y ∈ pre', y.2.1 ≠ i) ∧ x.2.1 = i ∧ Boxed W (w.heap.size + 1 + 1) 9 (.string ⟨x.2.2.toArray⟩) ∧ Boxed W (w.heap.size + 1 + 1 + 1) 29 (.int .i64 0) ∧ Below w.heap.size w W
theorem found_own (w : World) (i : Int) (B : Nat) (hB : w.heap.size ≤ B) : OwnFrom B (FoundAt w i) := by
  rintro pre W W' row ⟨pre', x, e, h1, h2, h3, h4, h5⟩ hg hr
  exact ⟨pre', x, e, h1, h2, (boxed_own _ _ (fun _ : Unit => _)) () W W' row h3 hg (fun r e => (hr r e).2), (boxed_own _ _ (fun _ : Unit => _)) () W W' row h4 hg (fun r e => (hr r e).2),
    h5.grown hg h5.size (fun k e => Nat.le_trans hB (hr k e).1)⟩

set_option maxRecDepth 100000 in
set_option maxHeartbeats 4000000 in
theorem read_calls (vb vw : Value) (bs : List (List UInt8)) (ws : List Wr) (i : Int) (w : World) (hb : Txts w vb bs) (hw : Wrs w vw ws) :
    Calls Try.prog 12 #[.agg #[vb, vw], .int .i64 i] w fun e w' => e = .returned (.tuple #[.string ⟨(readT bs ws i).toArray⟩, .int .i64 (readE bs ws i)]) ∧ Below w.heap.size w w' := by
  obtain ⟨ab, cb, rfl⟩ := hb.strs.form
  obtain ⟨aw, cw, rfl⟩ := hw.form
  obtain ⟨W0, hW0, hx0, hi0, hs0, he0, hB0⟩ := entryR w (.slice ab bs.length cb) (.slice aw ws.length cw) i
  have C1 := check_calls _ _ bs ws _ (hb.below hB0) (hw.below hB0)
  cases hR : rightB bs ws with
  | false =>
    have E1 := Lib.hid (show readE bs ws i = 1 by simp [readE, hR])
    have E2 := Lib.hid (show readT bs ws i = [] by simp [readT, E1.out])
    rw [hR, hW0] at C1
    have K1 := Lib.hid C1
    have HW0 := Lib.hid hW0
    clear C1 hR hW0
    go_enter Try.func12, Try.ntmps12
    go_wp2_with fail
    refine K1.out.mono ?_
    rw [← HW0.out]
    rintro e w1 ⟨rfl, hB1⟩
    have hs1 := hs0.kept (below_grown hB1) (by simp)
    have he1 := he0.kept (below_grown hB1) (by simp)
    have hs1c := hs1.cell
    have hs1f := hs1.frozen
    have he1c := he1.cell
    have he1f := he1.frozen
    go_wp2_with fail
    obtain ⟨z1, z2⟩ := two_set hs1 he1 (by omega) (.string ⟨#[]⟩) (.int .i64 1)
    refine bodyPost_ret (res_cells (p := 4) (q := 5) (by kernel_rfl) _ _ (w.heap.size + 1 + 1) (w.heap.size + 1 + 1 + 1) _ _ rfl rfl z1.cell z2.cell) rfl ?_
    exact ⟨by rw [E1.out, E2.out], ((below2 hB0 hB1).setCell (by simp; omega) _).setCell (by simp; omega) _⟩
  | true =>
    cases hH : hasB bs.length i with
    | false =>
      have E1 := Lib.hid (show readE bs ws i = 40 by simp [readE, hR, hH])
      have E2 := Lib.hid (show readT bs ws i = [] by simp [readT, E1.out])
      rw [hR, hW0] at C1
      have K1 := Lib.hid C1
      have HW0 := Lib.hid hW0
      have HH := Lib.hid hH
      clear C1 hR hW0 hH
      go_enter Try.func12, Try.ntmps12
      go_wp2_with fail
      refine K1.out.mono ?_
      rw [← HW0.out]
      rintro e w1 ⟨rfl, hB1⟩
      have hx1 := hx0.below hB1
      have hi1 := hi0.kept (below_grown hB1) (by simp)
      have hs1 := hs0.kept (below_grown hB1) (by simp)
      have he1 := he0.kept (below_grown hB1) (by simp)
      obtain ⟨p10, p11, _⟩ := hx1.cells
      have hi1c := hi1.cell
      go_wp2_with fail
      refine (has_calls _ _ _ _ _ _).mono ?_
      rintro e w2 ⟨rfl, hB2⟩
      rw [HH.out]
      have hs2 := hs1.kept (below_grown hB2) (by simp)
      have he2 := he1.kept (below_grown hB2) (by simp)
      have hs2c := hs2.cell
      have hs2f := hs2.frozen
      have he2c := he2.cell
      have he2f := he2.frozen
      go_wp2_with fail
      obtain ⟨z1, z2⟩ := two_set hs2 he2 (by omega) (.string ⟨#[]⟩) (.int .i64 40)
      refine bodyPost_ret (res_cells (p := 4) (q := 5) (by kernel_rfl) _ _ (w.heap.size + 1 + 1) (w.heap.size + 1 + 1 + 1) _ _ rfl rfl z1.cell z2.cell) rfl ?_
      exact ⟨by rw [E1.out, E2.out], ((below3 hB0 hB1 hB2).setCell (by simp; omega) _).setCell (by simp; omega) _⟩
    | true =>
      have E1 := Lib.hid (show readE bs ws i = 0 by simp [readE, hR, hH])
      have E2 := Lib.hid (show readT bs ws i = saysL bs ws i by simp [readT, E1.out])
      obtain ⟨hl1, hl2, hl3, hl4, hl5⟩ := right_parts hR
      have HM := Lib.hid (met_all bs ws i hH (fun y hy => (hl5 y hy).1))
      have hij : 0 ≤ i ∧ i < bs.length := by simpa [hasB] using hH
      rw [hR, hW0] at C1
      have K1 := Lib.hid C1
      have HW0 := Lib.hid hW0
      have HH := Lib.hid hH
      clear C1 hR hW0 hH hl4 hl5
      refine (callsIn_wide (n := 6)).1 ?_
      refine callsIn_of_wp_marks Try.func12 rfl trivial ?_ rfl
      simp only [Try.ntmps12, List.size_toArray, List.length_cons, List.length_nil, Nat.reduceAdd, Nat.reduceSub, Array.replicate_succ, Array.replicate_zero, List.push_toArray, List.append_toArray, List.nil_append, List.cons_append]
      refine wpIn_wide.2 ?_
      go_wp2_with fail
      refine K1.out.mono ?_
      rw [← HW0.out]
      rintro e w1 ⟨rfl, hB1⟩
      have hx1 := hx0.below hB1
      have hi1 := hi0.kept (below_grown hB1) (by simp)
      have hs1 := hs0.kept (below_grown hB1) (by simp)
      have he1 := he0.kept (below_grown hB1) (by simp)
      obtain ⟨p10, p11, _⟩ := hx1.cells
      have hi1c := hi1.cell
      go_wp2_with fail
      refine (has_calls _ _ _ _ _ _).mono ?_
      rintro e w2 ⟨rfl, hB2⟩
      rw [HH.out]
      have hx2 := hx1.below hB2
      have hi2 := hi1.kept (below_grown hB2) (by simp)
      have hs2 := hs1.kept (below_grown hB2) (by simp)
      have he2 := he1.kept (below_grown hB2) (by simp)
      have hBB2 := below3 hB0 hB1 hB2
      obtain ⟨p20, p21, _⟩ := hx2.cells
      have hw2 := Lib.hid (hw.below hBB2)
      clear p10 p11 hi1c hx1 hi1 hs1 he1 hx0 hi0 hs0 he0
      go_wp2_with (go_at_call 30; refine (callsIn_wide.1 (backward_calls 5 _ _ _ _)).mono ?_; rintro e w' ⟨rfl, rfl⟩)
      have hBl := below_alloc w2 (.cells #[.slice aw ws.length cw] 23)
      have hxl := hx2.below hBl
      have hil := hi2.alloc (.cells #[.slice aw ws.length cw] 23)
      have hsl := hs2.alloc (.cells #[.slice aw ws.length cw] 23)
      have hel := he2.alloc (.cells #[.slice aw ws.length cw] 23)
      have hbl := Boxed.new w2 23 (.slice aw ws.length cw)
      have hwl := hw2.out.below hBl
      have hBBl := below2 hBB2 hBl
      generalize hWl : w2.alloc (.cells #[.slice aw ws.length cw] 23) = Wl at hBl hxl hil hsl hel hbl hwl hBBl ⊢
      clear hWl hBl hw2 p20 p21
      refine (wpIn_wide (n := 6)).1 ?_
      refine wpIn_rangeFunc_ownH rfl (by omega) (gf := 37) (lb := #[.pointer (some ⟨w2.heap.size, 0, none⟩)]) rfl trivial (enters_of Try.func37 (by kernel_rfl) rfl)
        (backward_stops 5 (by omega) w2.heap.size _ ws Wl hbl hwl (by omega)) belowK_t (belowK_b (Nat.le_refl _)) (Below.refl _ _) (fun _ => rfl)
        (fun pre W => Below Wl.heap.size Wl W ∧ ∀ y ∈ pre, y.2.1 ≠ i)
        (fun c pre W => c = .ret ∧ FoundAt w i pre W)
        (OwnFrom.and (ownFrom_below (Nat.le_refl _) (Nat.le_refl _)) (ownFrom_pure _ (fun pre : List (Int × Wr) => ∀ y ∈ pre, y.2.1 ≠ i)))
        (fun c => OwnFrom.and (ownFrom_pure _ (fun _ : List (Int × Wr) => c = .ret)) (found_own w i _ hBBl.size))
        ⟨Below.refl _ _, by simp⟩
        (fun x a' W => ∃ Bw, Wl.heap.size ≤ Bw ∧ W.heap[Bw]? = some (.cells #[.int .i64 x.2.1, .string ⟨x.2.2.toArray⟩] 40 (0, 0)) ∧ a' = { tmps := #[.agg #[.slice ab bs.length cb, .slice aw ws.length cw], .int .i64 i, .pointer (some ⟨w.heap.size, 0, none⟩), .pointer (some ⟨w.heap.size + 1, 0, none⟩), .pointer (some ⟨w.heap.size + 1 + 1, 0, none⟩), .pointer (some ⟨w.heap.size + 1 + 1 + 1, 0, none⟩), undef, .pointer (some ⟨Bw, 0, none⟩),
          .agg #[.slice ab bs.length cb, .slice aw ws.length cw], .bool true, .bool false, .agg #[.slice ab bs.length cb, .slice aw ws.length cw], .int .i64 i, .bool true, .bool false, .pointer (some ⟨w.heap.size, 1, none⟩), .slice aw ws.length cw, .func (.func 37) #[] #[.pointer (some ⟨w2.heap.size, 0, none⟩)],
          .int .i64 x.1, .agg #[.int .i64 x.2.1, .string ⟨x.2.2.toArray⟩], undef, undef, undef, undef, undef, undef, undef, undef, undef, undef, undef], defers := [] })
        ?hAx ?assign ?body ?done ?stop
      case hAx =>
        rintro x a' u W W' row ⟨Bw, h1, h2, h3⟩ hg hr
        refine ⟨Bw, h1, ?_, h3⟩
        rw [hg.block Bw (Array.getElem?_eq_some_iff.1 h2).1 (fun e => by obtain ⟨_, o, ho, hc⟩ := hr Bw e.symm; rw [h2] at ho; cases ho; cases hc)]
        exact h2
      case assign =>
        rintro l pre ⟨j, a, s⟩ W K ⟨hBe, hno⟩ hK
        dsimp only [encB]
        gi_wp2
        exact hK _ _ ((KeepsOthers.alloc _ _).from _) ((Below.refl _ W).alloc hBe.size _) ⟨hBe.alloc hBe.size _, hno⟩ ⟨W.heap.size, hBe.size, heap_alloc_new W _, rfl⟩
      case body =>
        rintro l pre ⟨j, a, s⟩ a' W hl ⟨r, hr⟩ ⟨hBe, hno⟩ ⟨Bw, hBw, bW, rfl⟩ hlt
        have hnoH := Lib.hid hno
        have hiW := (hil.kept (below_grown hBe) (by simp)).cell
        have hsW := hsl.kept (below_grown hBe) (by simp)
        have heW := hel.kept (below_grown hBe) (by simp)
        have hsc := hsW.cell
        have hsf := hsW.frozen
        have hec := heW.cell
        have hef := heW.frozen
        have w0 : W.cell? ⟨Bw, 0, none⟩ = some (.int .i64 a) := cell_of_row W Bw 0 _ _ _ bW
        have w1c : W.cell? ⟨Bw, 1, none⟩ = some (.string ⟨s.toArray⟩) := cell_of_row W Bw 1 _ _ _ bW
        clear bW hno
        by_cases hai : a = i
        · have hab : (a == i) = true := by simp [hai]
          have HAI := Lib.hid hai
          clear hai
          gi_wp2
          obtain ⟨z1, z2⟩ := two_set hsW heW (by omega) (.string ⟨s.toArray⟩) (.int .i64 0)
          exact ⟨((KeepsOthers.setCell _ _ _).trans (KeepsOthers.setCell _ _ _)).from _, rfl, pre, (j, a, s), rfl, hnoH.out, HAI.out, z1, z2, ((hBBl.trans (hBe.mono hBBl.size)).setCell (by simp; omega) _).setCell (by simp; omega) _⟩
        · have hab : (a == i) = false := by simp [hai]
          have HAI := Lib.hid hai
          clear hai
          gi_wp2
          refine ⟨KeepsFrom.refl _ _, Below.refl _ _, hBe, fun y hy => ?_⟩
          rcases List.mem_append.1 hy with h | h
          · exact hnoH.out y h
          · obtain rfl := List.mem_singleton.1 h
            exact HAI.out
      case done =>
        rintro D ys W hD rfl ⟨hBe, hno⟩ hK
        have HN := Lib.hid (met_none (bs := bs) hno)
        have hxW := hxl.kept (below_grown hBe) (by simp)
        have hiW := (hil.kept (below_grown hBe) (by simp)).cell
        have hsW := hsl.kept (below_grown hBe) (by simp)
        have heW := hel.kept (below_grown hBe) (by simp)
        have hsc := hsW.cell
        have hsf := hsW.frozen
        have hec := heW.cell
        have hef := heW.frozen
        obtain ⟨p0, p1, _⟩ := hxW.cells
        obtain ⟨k, rfl⟩ : ∃ k : Nat, i = (k : Int) := ⟨i.toNat, by omega⟩
        have hk : k < bs.length := by omega
        have hBBW := hBBl.trans (hBe.mono hBBl.size)
        obtain ⟨b, off, rfl, hcell⟩ := (hb.below hBBW).strs.at hk
        have HS := Lib.hid (show saysL bs ws (k : Int) = bs[k] by rw [← HM.out, HN.out]; simp [List.getD, List.getElem?_eq_getElem hk])
        generalize bs[k] = s at hcell HS
        clear hno
        go_wp2_with fail
        obtain ⟨z1, z2⟩ := two_set hsW heW (by omega) (.string ⟨s.toArray⟩) (.int .i64 0)
        have hK2 := ((KeepsOthers.setCell W ⟨w.heap.size + 1 + 1, 0, none⟩ (.string ⟨s.toArray⟩)).trans (KeepsOthers.setCell _ ⟨w.heap.size + 1 + 1 + 1, 0, none⟩ (.int .i64 0))).same D _ hK rfl
        have hne1 : w.heap.size + 1 + 1 ≠ D := by have := hsl.lt; omega
        have hne2 : w.heap.size + 1 + 1 + 1 ≠ D := by have := hel.lt; omega
        have y1 := z1.kept (grownBy_putObj' _ D (.deferred none)) (by simpa using hne1)
        have y2 := z2.kept (grownBy_putObj' _ D (.deferred none)) (by simpa using hne2)
        refine ⟨by simp, .inl ⟨_, _, rfl, run_takeDeferred hK2, ?_⟩⟩
        refine ⟨_, res_cells (p := 4) (q := 5) (by kernel_rfl) _ _ (w.heap.size + 1 + 1) (w.heap.size + 1 + 1 + 1) _ _ rfl rfl y1.cell y2.cell, ?_, ?_⟩
        · rw [E1.out, E2.out, HS.out]
        · have h := hBBl.size
          exact ((hBBW.setCell (by simp; omega) _).setCell (by simp; omega) _).trans (belowK_b (w := Wl) (n₀ := w.heap.size) h _ D _ _ hD hK2 rfl rfl)
      case stop =>
        rintro D c pre W hD hpre ⟨rfl, pre', x, rfl, h1, h2, h3, h4, h5⟩ hK
        have HS := Lib.hid (show saysL bs ws i = x.2.2 by rw [← HM.out]; exact met_some hpre h1 h2)
        gi_wp2
        have hne1 : w.heap.size + 1 + 1 ≠ D := by have := hsl.lt; omega
        have hne2 : w.heap.size + 1 + 1 + 1 ≠ D := by have := hel.lt; omega
        have y1 := h3.kept (grownBy_putObj' _ D (.deferred none)) (by simpa using hne1)
        have y2 := h4.kept (grownBy_putObj' _ D (.deferred none)) (by simpa using hne2)
        refine ⟨by simp, .inl ⟨_, _, rfl, run_takeDeferred hK, ?_⟩⟩
        refine ⟨_, res_cells (p := 4) (q := 5) (by kernel_rfl) _ _ (w.heap.size + 1 + 1) (w.heap.size + 1 + 1 + 1) _ _ rfl rfl y1.cell y2.cell, ?_, ?_⟩
        · rw [E1.out, E2.out, HS.out]
        · exact h5.trans (belowK_b (w := Wl) (n₀ := w.heap.size) hBBl.size _ D _ _ hD hK rfl rfl)

end Go.Proofs.Ytcikgmgkaenpmaa
