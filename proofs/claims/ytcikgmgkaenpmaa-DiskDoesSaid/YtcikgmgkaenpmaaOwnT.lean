/-
  The document's own Own: texts, and a disk, in memory of their own.
-/
import Derived.Test.YtcikgmgkaenpmaaDSpec
import Derived.Laws.AppendOwnNone
namespace Go.Proofs.Ytcikgmgkaenpmaa
open Go.RowKit

theorem rw_news {w : World} {k n cap : Nat} {a : Addr} {cs : List Value} (h : Rw w k (.slice (some a) n cap) n cs) : ∀ j u, cs[j]? = some u → w.cell? (a.add j) = some u := by
  intro j u hj
  obtain ⟨hj1, hju⟩ := List.getElem?_eq_some_iff.1 hj
  obtain ⟨hl, ao, c, he, _, h0 | ⟨b, off, rfl, hc⟩⟩ := h
  · subst h0; omega
  · cases he
    rw [Go.WideShapes.add_plain, hc j hj1, hju]

theorem own_form {w : World} {base k n : Nat} {e : TypeId} {v : Value} {xs : List Value} (h : w.ownsRow base e k v n xs) : ∃ ao n cap, v = .slice ao n cap := by
  obtain ⟨ao, cap, rfl⟩ := (Rw.own h).form
  exact ⟨ao, _, cap, rfl⟩
theorem below_of_grown {w w' : World} (h : w.grownBy w' none) : Below w.heap.size w w' := ⟨h.os, h.tape, h.output, h.size, fun k hk => h.block k hk (by simp)⟩

set_option maxHeartbeats 1000000 in
theorem ownT_calls (v : Value) (ls : List (List UInt8)) (w : World) (hs : Strs w v ls) (hl : ls.length ≤ 1100) :
    Calls Try.prog 25 #[v] w fun e w' => ∃ v', e = .returned v' ∧ w'.ownsRow w.heap.size 9 1 v' ls.length (ls.map SV) ∧ Below w.heap.size w w' := by
  obtain ⟨i0, hi, hz0, hz1, hz2⟩ := info_parts info9
  obtain ⟨ao, cap, rfl⟩ := hs.form
  cases ao with
  | none =>
    obtain rfl : ls = [] := by
      obtain ⟨ao, c, he, hc⟩ := hs
      cases he
      rcases hc with h0 | ⟨b, off, he, _⟩
      · exact h0
      · cases he
    clear hs
    go_enter Try.func25, Try.ntmps25
    go_wp2
    go_ret
    exact ⟨_, rfl, World.ownsRow_nil _ _ _ _, Below.refl _ _⟩
  | some a =>
    have hc := Lib.hid (strs_cells hs)
    clear hs
    go_enter Try.func25, Try.ntmps25
    go_wp2_with (at_builtin; refine wpList_append_own _ rfl _ _ 22 rfl w.heap.size 9 i0 (.string ⟨#[]⟩) 1 16 Try.underlying22 hi hz0 hz1 hz2 rfl (by decide) _ _ _ rfl (World.ownsRow_nil _ _ _ _) a ls.length cap (ls.map SV) rfl (by simp) hc.out (texts_one ls) (by unfold maxLen; omega) (by omega) (Nat.le_refl _) ?_; intro v3 w3 hown3 hg3 _)
    go_ret
    exact ⟨v3, rfl, by simpa using hown3, (Below.refl _ w).grown hg3 (Nat.le_refl _) (fun j e => by cases e)⟩

set_option maxRecDepth 100000 in
set_option maxHeartbeats 4000000 in
theorem refOwn_calls (vb vw : Value) (bs : List (List UInt8)) (ws : List Wr) (w : World) (hb : Txts w vb bs) (hw : Wrs w vw ws) (hbl : bs.length ≤ 1000) (hwl : ws.length ≤ 1000) :
    Calls Try.prog 9 #[.agg #[vb, vw]] w fun e w' => ∃ vb' vw', e = .returned (.agg #[vb', vw']) ∧ OwnD w' w.heap.size vb' bs vw' ws ∧ Below w.heap.size w w' := by
  obtain ⟨i0, hi, hz0, hz1, hz2⟩ := info_parts infoW
  obtain ⟨ab, cb, rfl⟩ := hb.strs.form
  obtain ⟨aw, cw, rfl⟩ := hw.form
  obtain ⟨hx0, hr0, hB0⟩ := entry2 w (.slice ab bs.length cb) (.slice aw ws.length cw)
  have C1 := ownT_calls _ bs _ (hb.below hB0).strs (by omega)
  have HBL := Lib.hid (And.intro hb hB0)
  cases aw with
  | none =>
    obtain rfl : ws = [] := List.eq_nil_of_length_eq_zero (by
      obtain ⟨_, ao, c, he, _, h0 | ⟨b, off, h, _⟩⟩ := hw
      · exact h0
      · cases he; cases h)
    clear hb
    go_enter Try.func9, Try.ntmps9
    go_wp2_with fail
    refine C1.mono ?_
    rintro e w1 ⟨vb1, rfl, ho1, hB1⟩
    obtain ⟨a1, n1, c1, rfl⟩ := txts_form' (Txts.own ho1)
    have hx1 := hx0.below hB1
    have hr1 := hr0.below hB1
    have hBB1 := below2 hB0 hB1
    obtain ⟨p10, p11, _, _, l1⟩ := hx1.cells
    obtain ⟨q10, q11, q12, q13, m1⟩ := hr1.cells
    go_wp2_with fail
    have hB2 := below_alloc ((w1.setCell ⟨w.heap.size + 1, 0, none⟩ (.slice a1 n1 c1)).setCell ⟨w.heap.size + 1, 1, none⟩ (.slice none 0 0)) (.cells #[.slice a1 n1 c1, .slice none 0 0] 25)
    have hod : OwnD w1 (w.heap.size + 2) (.slice a1 n1 c1) bs (.slice none 0 0) [] := ⟨by simpa using ho1, World.ownsRow_nil _ _ _ _⟩
    obtain ⟨r1, r2⟩ := ret_own (x := .slice a1 n1 c1) (y := .slice none 0 0) hod (Nat.le_refl _) hBB1
    have hr3 := (bx_set hr1 (.slice a1 n1 c1) (.slice none 0 0)).below hB2
    refine ret_disk (p := 2) (by kernel_rfl) rfl (w.heap.size + 1) _ _ rfl hr3.cells.1 hr3.cells.2.1 ?_
    exact ⟨_, _, rfl, OwnD.below r1 hB2, below2 r2 hB2⟩
  | some a =>
    clear hb
    go_enter Try.func9, Try.ntmps9
    go_wp2_with fail
    refine C1.mono ?_
    rintro e w1 ⟨vb1, rfl, ho1, hB1⟩
    obtain ⟨a1, n1, c1, rfl⟩ := txts_form' (Txts.own ho1)
    have hx1 := hx0.below hB1
    have hr1 := hr0.below hB1
    have hBB1 := below2 hB0 hB1
    have hnw := Lib.hid (rw_news (hw.below (below2 hBB1 (below_alloc w1 (.cells #[.slice a1 n1 c1, .slice none 0 0] 25)))))
    obtain ⟨p10, p11, _, _, l1⟩ := hx1.cells
    obtain ⟨q10, q11, q12, q13, m1⟩ := hr1.cells
    clear hw
    go_wp2_with (at_builtin; refine wpList_append_own _ rfl (.tmp 9) (.tmp 11) 23 rfl (w.heap.size + 2) 40 i0 (.agg #[.int .i64 0, .string ⟨#[]⟩]) 2 24 Try.underlying23 hi hz0 hz1 hz2 rfl (by decide) _ _ _ rfl (World.ownsRow_nil _ _ _ _) a ws.length cw (wcells ws) rfl (wcells_len ws) hnw.out (wcells_one ws) (by unfold maxLen; omega) (by omega) (by have := hB1.size; simp at this; simp; omega) ?_; intro v3 w3 hown3 hg3 _; obtain ⟨a3, n3, c3, rfl⟩ := own_form hown3; have hB3 := below_of_grown hg3; have hx3 := (hx1.below (below_alloc _ _)).below hB3; have hr3 := (hr1.below (below_alloc _ _)).below hB3; have hz3 := (Bx.new w1 _ _).below hB3; obtain ⟨p30, p31, _, _, l3⟩ := hx3.cells; obtain ⟨q30, q31, q32, q33, m3⟩ := hr3.cells; obtain ⟨z30, z31, z32, z33, z34⟩ := hz3.cells; have HO3 := Lib.hid hown3; clear hown3 hg3 p10 p11 q10 q11 q12 q13)
    have hod : OwnD w3 (w.heap.size + 2) (.slice a1 n1 c1) bs (.slice a3 n3 c3) ws := ⟨own_stays (own_stays (by simpa using ho1) (below_alloc _ _)) hB3, by simpa using HO3.out⟩
    have hod2 : OwnD (w3.setCell ⟨w1.heap.size, 1, none⟩ (.slice a3 n3 c3)) (w.heap.size + 2) (.slice a1 n1 c1) bs (.slice a3 n3 c3) ws :=
      ⟨ownsRow_setCell_other hod.1 (by simpa using hz3.not_row hod.1 (by decide)) _, ownsRow_setCell_other hod.2 (by simpa using hz3.not_row hod.2 (by decide)) _⟩
    have hr4 : Bx (w3.setCell ⟨w1.heap.size, 1, none⟩ (.slice a3 n3 c3)) (w.heap.size + 1) (.slice none 0 0) (.slice none 0 0) := by
      have h := hr3
      unfold Bx at h ⊢
      rw [heap_setCell_other _ _ _ _ (by simp; omega)]
      exact h
    have hBB3 := below3 hBB1 (below_alloc w1 (.cells #[.slice a1 n1 c1, .slice none 0 0] 25)) hB3
    obtain ⟨r1, r2⟩ := ret_own (w := w) (x := .slice a1 n1 c1) (y := .slice a3 n3 c3) hod2 (Nat.le_refl _) (hBB3.setCell (by simp; omega) _)
    have hr5 := bx_set hr4 (.slice a1 n1 c1) (.slice a3 n3 c3)
    refine ret_disk (p := 2) (by kernel_rfl) rfl (w.heap.size + 1) _ _ rfl hr5.cells.1 hr5.cells.2.1 ?_
    exact ⟨_, _, rfl, r1, r2⟩

/-- Behind an append to the writes of a disk of the call's own (W: the world ahead of it, two blocks on): the boxes and the texts are as they were. -/
theorem append_kept {w2 W w3 : World} {base Br Bz : Nat} {vb vw vr xr v1 x1 : Value} {bs : List (List UInt8)} {ws : List Wr} {o : Obj} (ho : OwnD w2 base vb bs vw ws) (hr : Bx w2 Br vr xr) (hz : Bx W Bz v1 x1) (hW : Below w2.heap.size w2 W)
    (hg : (W.alloc o).grownBy w3 vw.ownBlock) (hb : base ≤ w2.heap.size) : Bx w3 Br vr xr ∧ Bx w3 Bz v1 x1 ∧ w3.ownsRow base 9 1 vb bs.length (bs.map SV) ∧ Below base w2 w3 := by
  have hBa := below2 hW (below_alloc W o)
  have o1 := own_stays ho.1 hBa
  have o2 := own_stays ho.2 hBa
  have h1 := hr.below hBa
  have h2 := hz.below (below_alloc W o)
  exact ⟨h1.kept hg (h1.not_row o2 (by decide)), h2.kept hg (h2.not_row o2 (by decide)), o1.kept hg (rows_apart o1 o2 (by decide)), (hBa.mono hb).grown hg (Nat.le_trans hb hBa.size) (fun k e => (o2.lt k e).1)⟩

/-- A disk that was made in a box of its own is handed on. -/
theorem ret_made {w w3 : World} {Bz base : Nat} {v1 x1 p q vb vw : Value} {bs : List (List UInt8)} {ws : List Wr} (hr : Bx w3 (w.heap.size + 1) p q) (hz : Bx w3 Bz v1 x1) (hBz : w.heap.size + 2 ≤ Bz) (ho : OwnD w3 base vb bs vw ws) (hbase : w.heap.size + 2 ≤ base) (hB : Below w.heap.size w w3) (c : Nat) (u x y : Value) :
    OwnD (((w3.setCell ⟨Bz, c, none⟩ u).setCell ⟨w.heap.size + 1, 0, none⟩ x).setCell ⟨w.heap.size + 1, 1, none⟩ y) w.heap.size vb bs vw ws ∧ Below w.heap.size w (((w3.setCell ⟨Bz, c, none⟩ u).setCell ⟨w.heap.size + 1, 0, none⟩ x).setCell ⟨w.heap.size + 1, 1, none⟩ y) ∧
    Bx (((w3.setCell ⟨Bz, c, none⟩ u).setCell ⟨w.heap.size + 1, 0, none⟩ x).setCell ⟨w.heap.size + 1, 1, none⟩ y) (w.heap.size + 1) x y := by
  have hod2 : OwnD (w3.setCell ⟨Bz, c, none⟩ u) base vb bs vw ws := ⟨ownsRow_setCell_other ho.1 (by simpa using hz.not_row ho.1 (by decide)) _, ownsRow_setCell_other ho.2 (by simpa using hz.not_row ho.2 (by decide)) _⟩
  have hr4 : Bx (w3.setCell ⟨Bz, c, none⟩ u) (w.heap.size + 1) p q := by
    have h := hr
    unfold Bx at h ⊢
    rw [heap_setCell_other _ _ _ _ (by simp; omega)]
    exact h
  obtain ⟨r1, r2⟩ := ret_own (w := w) (x := x) (y := y) hod2 hbase (hB.setCell (by simp; omega) _)
  exact ⟨r1, r2, bx_set hr4 x y⟩

end Go.Proofs.Ytcikgmgkaenpmaa
