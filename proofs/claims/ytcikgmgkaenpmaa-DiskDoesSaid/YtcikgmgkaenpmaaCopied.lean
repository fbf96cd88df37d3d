/-
  disk: copied.
-/
import Derived.Test.YtcikgmgkaenpmaaCopy
import Derived.RegionTactic
import Derived.BigRegion
import Derived.Deep.DeepCutAuto
namespace Go.Proofs.Ytcikgmgkaenpmaa
open Go.RowKit

theorem infoW : (Try.prog.info? 40).map (fun i => (i.zero, i.size, i.bytes)) = some (some (.agg #[.int .i64 0, .string ⟨#[]⟩]), 2, 24) := by kernel_rfl
theorem make_texts (n : Nat) (h : n ≤ 1000000) (w : World) : (Instr.makeSlice 22 (.int .i64 (n : Int)) (.int .i64 (n : Int))).run Try.prog w = .ok (.slice (some ⟨w.heap.size, 0, none⟩) n n) (w.alloc (.cells (madeCells #[.string ⟨#[]⟩] n) 9)) := by
  obtain ⟨i0, hi, hz0, hz1, hz2⟩ := info_parts info9
  have hr := run_make (P := Try.prog) w 22 9 i0 _ Try.underlying22 hi hz0 .i64 .i64 n n (by omega) (Int.le_refl _) (by rw [hz2]; omega) (by omega)
  simpa [hz1, Value.cells] using hr
theorem make_writes (n : Nat) (h : n ≤ 1000000) (w : World) : (Instr.makeSlice 23 (.int .i64 (n : Int)) (.int .i64 (n : Int))).run Try.prog w = .ok (.slice (some ⟨w.heap.size, 0, none⟩) n n) (w.alloc (.cells (madeCells #[.int .i64 0, .string ⟨#[]⟩] (n * 2)) 40)) := by
  obtain ⟨i0, hi, hz0, hz1, hz2⟩ := info_parts infoW
  have hr := run_make (P := Try.prog) w 23 40 i0 _ Try.underlying23 hi hz0 .i64 .i64 n n (by omega) (Int.le_refl _) (by rw [hz2]; omega) (by omega)
  simpa [hz1, Value.cells] using hr

theorem size9 : (Try.prog.info? 9).map (·.size) = some 1 := by kernel_rfl
theorem sizeW : (Try.prog.info? 40).map (·.size) = some 2 := by kernel_rfl
/-- The world where a copy is made. -/
def CpAt (w wr : World) (vb vw : Value) (n1 n2 : Nat) (A1 A2 : Array Value) (g1 g2 g3 : Nat) : Prop :=
  wr.heap[w.heap.size]? = some (.cells #[vb, vw] 25 (0, 0)) ∧ wr.heap[w.heap.size + 1]? = some (.cells #[.slice none 0 0, .slice none 0 0] 25 (0, 0)) ∧
  wr.heap[g3]? = some (.cells #[.slice (some ⟨g1, 0, none⟩) n1 n1, .slice (some ⟨g2, 0, none⟩) n2 n2] 25 (0, 0)) ∧
  wr.heap[g1]? = some (.cells A1 9 (0, 0)) ∧ wr.heap[g2]? = some (.cells A2 40 (0, 0)) ∧
  w.heap.size + 2 ≤ g1 ∧ w.heap.size + 2 ≤ g2 ∧ w.heap.size + 2 ≤ g3 ∧ Below w.heap.size w wr

theorem heap5 (w : World) (a b c d e : Obj) : (((((w.alloc a).alloc b).alloc c).alloc d).alloc e).drew.heap[w.heap.size]? = some a ∧ (((((w.alloc a).alloc b).alloc c).alloc d).alloc e).drew.heap[w.heap.size + 1]? = some b ∧
    (((((w.alloc a).alloc b).alloc c).alloc d).alloc e).drew.heap[w.heap.size + 1 + 1]? = some c ∧ (((((w.alloc a).alloc b).alloc c).alloc d).alloc e).drew.heap[w.heap.size + 1 + 1 + 1]? = some d ∧
    (((((w.alloc a).alloc b).alloc c).alloc d).alloc e).drew.heap[w.heap.size + 1 + 1 + 1 + 1]? = some e ∧ Below w.heap.size w (((((w.alloc a).alloc b).alloc c).alloc d).alloc e).drew := by
  refine ⟨?_, ?_, ?_, ?_, ?_, below2 ((((below_alloc2 w a b).alloc (by simp; omega) c).alloc (by simp; omega) d).alloc (by simp; omega) e) (drew_below _)⟩
  · exact (heap_alloc_old _ e (by simp <;> omega)).trans ((heap_alloc_old _ d (by simp <;> omega)).trans ((heap_alloc_old _ c (by simp <;> omega)).trans ((heap_alloc_old _ b (by simp)).trans (heap_alloc_new w a))))
  · exact (heap_alloc_old _ e (by simp <;> omega)).trans ((heap_alloc_old _ d (by simp <;> omega)).trans ((heap_alloc_old _ c (by simp)).trans (by simpa using heap_alloc_new (w.alloc a) b)))
  · exact (heap_alloc_old _ e (by simp <;> omega)).trans ((heap_alloc_old _ d (by simp)).trans (by simpa using heap_alloc_new ((w.alloc a).alloc b) c))
  · exact (heap_alloc_old _ e (by simp)).trans (by simpa using heap_alloc_new (((w.alloc a).alloc b).alloc c) d)
  · show ((((((w.alloc a).alloc b).alloc c).alloc d).alloc e)).heap[w.heap.size + 1 + 1 + 1 + 1]? = some e
    simpa using heap_alloc_new ((((w.alloc a).alloc b).alloc c).alloc d) e

theorem CpAt.one {w wc w1 : World} {vb vw : Value} {n1 n2 : Nat} {A1 A2 A : Array Value} {g1 g2 g3 : Nat} (h : CpAt w wc vb vw n1 n2 A1 A2 g1 g2 g3)
    (hg : w1.heap[g1]? = some (.cells A 9 (0, 0))) (hgr : wc.grownBy w1 (some g1)) : CpAt w w1 vb vw n1 n2 A A2 g1 g2 g3 := by
  obtain ⟨q0, q1, q2, q3, q4, l1, l2, l3, hB⟩ := h
  have lt : ∀ {k : Nat} {o : Obj}, wc.heap[k]? = some o → k < wc.heap.size := fun h => (Array.getElem?_eq_some_iff.1 h).1
  have h21 : g2 ≠ g1 := fun e => by rw [e, q3] at q4; cases q4
  have h31 : g3 ≠ g1 := fun e => by rw [e, q3] at q2; cases q2
  refine ⟨?_, ?_, ?_, hg, ?_, l1, l2, l3, hB.grown hgr (by have := lt q0; omega) (fun k e => by cases e; omega)⟩
  · rw [hgr.block _ (lt q0) (by simp; omega)]; exact q0
  · rw [hgr.block _ (lt q1) (by simp; omega)]; exact q1
  · rw [hgr.block _ (lt q2) (by simpa using h31)]; exact q2
  · rw [hgr.block _ (lt q4) (by simpa using h21)]; exact q4
theorem CpAt.two {w wc w1 : World} {vb vw : Value} {n1 n2 : Nat} {A1 A2 A : Array Value} {g1 g2 g3 : Nat} (h : CpAt w wc vb vw n1 n2 A1 A2 g1 g2 g3)
    (hg : w1.heap[g2]? = some (.cells A 40 (0, 0))) (hgr : wc.grownBy w1 (some g2)) : CpAt w w1 vb vw n1 n2 A1 A g1 g2 g3 := by
  obtain ⟨q0, q1, q2, q3, q4, l1, l2, l3, hB⟩ := h
  have lt : ∀ {k : Nat} {o : Obj}, wc.heap[k]? = some o → k < wc.heap.size := fun h => (Array.getElem?_eq_some_iff.1 h).1
  have h12 : g1 ≠ g2 := fun e => by rw [e, q4] at q3; cases q3
  have h32 : g3 ≠ g2 := fun e => by rw [e, q4] at q2; cases q2
  refine ⟨?_, ?_, ?_, ?_, hg, l1, l2, l3, hB.grown hgr (by have := lt q0; omega) (fun k e => by cases e; omega)⟩
  · rw [hgr.block _ (lt q0) (by simp; omega)]; exact q0
  · rw [hgr.block _ (lt q1) (by simp; omega)]; exact q1
  · rw [hgr.block _ (lt q2) (by simpa using h32)]; exact q2
  · rw [hgr.block _ (lt q3) (by simpa using h12)]; exact q3
theorem CpAt.cells {w wc : World} {vb vw : Value} {n1 n2 : Nat} {A1 A2 : Array Value} {g1 g2 g3 : Nat} (h : CpAt w wc vb vw n1 n2 A1 A2 g1 g2 g3) :
    wc.cell? ⟨w.heap.size, 0, none⟩ = some vb ∧ wc.cell? ⟨w.heap.size, 1, none⟩ = some vw ∧ wc.cell? ⟨g3, 0, none⟩ = some (.slice (some ⟨g1, 0, none⟩) n1 n1) ∧ wc.cell? ⟨g3, 1, none⟩ = some (.slice (some ⟨g2, 0, none⟩) n2 n2) ∧
    wc.cell? ⟨w.heap.size + 1, 0, none⟩ = some (.slice none 0 0) ∧ wc.cell? ⟨w.heap.size + 1, 1, none⟩ = some (.slice none 0 0) ∧ wc.frozen? ⟨w.heap.size + 1, 0, none⟩ = false ∧ wc.frozen? ⟨w.heap.size + 1, 1, none⟩ = false := by
  obtain ⟨q0, q1, q2, q3, q4, l1, l2, l3, hB⟩ := h
  exact ⟨cell_of_row wc _ 0 _ _ _ q0, cell_of_row wc _ 1 _ _ _ q0, cell_of_row wc _ 0 _ _ _ q2, cell_of_row wc _ 1 _ _ _ q2, cell_of_row wc _ 0 _ _ _ q1, cell_of_row wc _ 1 _ _ _ q1, by simp [World.frozen?, q1], by simp [World.frozen?, q1]⟩

set_option maxHeartbeats 4000000 in
theorem copied_calls (vb vw : Value) (bs : List (List UInt8)) (ws : List Wr) (w : World) (hb : Txts w vb bs) (hw : Wrs w vw ws) (hbl : bs.length ≤ 1000000) (hwl : ws.length ≤ 1000000) :
    Calls Try.prog 36 #[.agg #[vb, vw]] w fun e w' => ∃ vb' vw', e = .returned (.agg #[vb', vw']) ∧ OwnD w' w.heap.size vb' bs vw' ws ∧ Below w.heap.size w w' := by
  obtain ⟨ab, cb, rfl⟩ := hb.strs.form
  obtain ⟨aw, cw, rfl⟩ := hw.form
  have HB := Lib.hid hb
  have HW := Lib.hid hw
  clear hb hw
  have hm1 := make_texts bs.length hbl
  have hm2 := make_writes ws.length hwl
  generalize hn1 : bs.length = n1 at hm1
  generalize hn2 : ws.length = n2 at hm2
  have hs1 := size_madeCells #[.string ⟨#[]⟩] n1
  have hs2 := size_madeCells #[.int .i64 0, .string ⟨#[]⟩] (n2 * 2)
  generalize madeCells #[.string ⟨#[]⟩] n1 = A1 at hm1 hs1
  generalize madeCells #[.int .i64 0, .string ⟨#[]⟩] (n2 * 2) = A2 at hm2 hs2
  have HS1 := Lib.hid hs1
  have HS2 := Lib.hid hs2
  have HN1 := Lib.hid hn1
  have HN2 := Lib.hid hn2
  clear hs1 hs2 hn1 hn2
  go_enter Try.func36, Try.ntmps36
  go_upto_region 1 with (fail)
  go_cut [3] (fun t wr => ∃ g1 g2 g3, t = .pointer (some ⟨g3, 0, none⟩) ∧ CpAt w wr (.slice ab n1 cb) (.slice aw n2 cw) n1 n2 A1 A2 g1 g2 g3)
  case first =>
    go_region
    all_goals
      go_wp2_with fail
      go_meet
      case rel =>
        obtain ⟨q0, q1, q2, q3, q4, qb⟩ := heap5 w _ _ _ _ _
        exact ⟨_, _, _, rfl, q0, q1, by first | exact q2 | exact q3 | exact q4, by first | exact q2 | exact q3 | exact q4, by first | exact q2 | exact q3 | exact q4, by omega, by omega, by omega, qb⟩
  case rest =>
    obtain ⟨g1, g2, g3, rfl, hcp⟩ := hcut
    obtain ⟨x0, x1, x2, x3, _⟩ := hcp.cells
    have hB := hcp.2.2.2.2.2.2.2.2
    have HT : Hid (Rw wc 1 (.slice ab n1 cb) n1 (bs.map SV)) := Lib.hid (HN1.out ▸ (Rw.txts HB.out).below hB)
    have HV : Hid (Rw wc 2 (.slice aw n2 cw) n2 (wcells ws)) := Lib.hid (HN2.out ▸ HW.out.below hB)
    have HC := Lib.hid hcp
    clear hcp hB
    go_wp2_with (first
      | ((with_reducible show wpList _ _ _ _ _ _); refine wpList_copy_all rfl (.tmp 14) (.tmp 16) 22 22 rfl 9 Try.underlying22 1 size9 n1 g1 n1 (.slice ab n1 cb) rfl rfl _ HT.out (texts_one bs) A1 _ HC.out.2.2.2.1 (by rw [HS1.out]; omega) ?_; intro w1 hg1 hgr; have hcp := HC.out.one hg1 hgr; obtain ⟨y0, y1, y2, y3, _⟩ := hcp.cells; have HV1 : Hid (Rw w1 2 (.slice aw n2 cw) n2 (wcells ws)) := Lib.hid (HN2.out ▸ HW.out.below hcp.2.2.2.2.2.2.2.2); have HC1 := Lib.hid hcp; clear hcp hg1 hgr HT HC x0 x1 x2 x3)
      | ((with_reducible show wpList _ _ _ _ _ _); refine wpList_copy_all rfl (.tmp 19) (.tmp 21) 23 23 rfl 40 Try.underlying23 2 sizeW n2 g2 n2 (.slice aw n2 cw) rfl rfl _ HV1.out (wcells_one ws) A2 _ HC1.out.2.2.2.2.1 (by rw [HS2.out]) ?_; intro w2 hg2 hgr2; have hcp2 := HC1.out.two hg2 hgr2; obtain ⟨z0, z1, z2, z3, z4, z5, z6, z7⟩ := hcp2.cells; have HC2 := Lib.hid hcp2; clear hcp2 hg2 hgr2 HV1 HC1 y0 y1 y2 y3))
    refine ret_disk (p := 2) (by kernel_rfl) rfl (w.heap.size + 1) (.slice (some ⟨g1, 0, none⟩) n1 n1) (.slice (some ⟨g2, 0, none⟩) n2 n2) rfl (by go_simp) (by go_simp) ?_
    obtain ⟨q0, q1, q2, q3, q4, l1, l2, l3, hB⟩ := HC2.out
    have e1 := HN1.out
    have e2 := HN2.out
    have o1 : w2.ownsRow (w.heap.size + 2) 9 1 (.slice (some ⟨g1, 0, none⟩) n1 n1) n1 (bs.map SV) := own_whole q3 l1 (by simp [e1]) (by omega)
    have o2 : w2.ownsRow (w.heap.size + 2) 40 2 (.slice (some ⟨g2, 0, none⟩) n2 n2) n2 (wcells ws) := own_whole q4 l2 (by rw [wcells_len, e2]) (by omega)
    refine ⟨_, _, rfl, ⟨?_, ?_⟩, (hB.setCell (by simp) _).setCell (by simp) _⟩
    · rw [e1]
      exact own_weak (ownsRow_setCell_below (ownsRow_setCell_below o1 (by simp) _) (by simp) _) (by omega)
    · rw [e2]
      exact own_weak (ownsRow_setCell_below (ownsRow_setCell_below o2 (by simp) _) (by simp) _) (by omega)

end Go.Proofs.Ytcikgmgkaenpmaa
