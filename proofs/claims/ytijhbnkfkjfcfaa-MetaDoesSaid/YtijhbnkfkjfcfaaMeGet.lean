/-
  meta.Get: a panic of its reader is recovered.
-/
import Derived.Test.YtijhbnkfkjfcfaaMeRead
import Derived.Tactics
import Derived.Tactics2
import Derived.Defers
import Derived.Recover
import Derived.Laws.Pointers
namespace Go.Proofs.Ytijhbnkfkjfcfaa
set_option maxRecDepth 100000
open Go.RowKit

abbrev zM : Value := .agg #[.int .i64 0, .int .i64 0, .slice none 0 0]
theorem catchM_panicking (g q : Nat) (z d : Value) (v : Value) (y : Int) (u : TypeId) (pv : Value) (older : List PanicEntry) (w : World) (hc : Cx w g 24 [z, d, v]) (hq : Cx w q 27 [.int .i64 y]) (hne : g ≠ q) :
    CallsD Try.prog 23 #[.pointer (some ⟨g, 0, none⟩), .pointer (some ⟨q, 0, none⟩)] (.panicking ({ v := .iface u pv, recovered := false } :: older)) w fun e u' w' =>
      e = .returned (.tuple #[]) ∧ u' = .panicking ({ v := .iface u pv, recovered := true } :: older) ∧ w' = (((w.setCell ⟨g, 0, none⟩ (.int .i64 0)).setCell ⟨g, 1, none⟩ (.int .i64 0)).setCell ⟨g, 2, none⟩ (.slice none 0 0)).setCell ⟨q, 0, none⟩ (.int .i64 30) := by
  obtain ⟨c0, c1, c2, f0, f1, f2, hlt⟩ := hc.three
  have hd := hq.cell (j := 0) rfl
  have hy := hq.frozen 0
  refine callsD_of_wpS Try.func23 rfl fun c₀ cs hu => ?_
  apply wpS_seq
  apply wpS_region
  simp [wpOpsS, go_sem, recoverD, hu, Try.ntmps23, Exit.thenS]
  refine wpS_cond (t := true) (by simp [Act.eval, Array.replicate]) ?_
  simp only [if_true]
  have hx := (((hq.other hne.symm (j := 0) (.int .i64 0)).other hne.symm (j := 1) (.int .i64 0)).other hne.symm (j := 2) (.slice none 0 0))
  have d2 := hx.cell (j := 0) rfl
  have y2 := hx.frozen 0
  refine wpS_of_wp ?_
  go_wp2_with fail
  simp [bodyPostS, results, Try.results23]

theorem catchM_idle (g q : Addr) (w : World) :
    CallsD Try.prog 23 #[.pointer (some g), .pointer (some q)] .returning w fun e u' w' => e = .returned (.tuple #[]) ∧ u' = .returning ∧ w' = w := by
  refine callsD_of_wpS Try.func23 rfl fun c₀ cs hu => ?_
  apply wpS_seq
  apply wpS_region
  simp [wpOpsS, go_sem, recoverD, hu, Try.ntmps23, Exit.thenS]
  refine wpS_cond (t := false) (by simp [Act.eval, Array.replicate]) ?_
  simp only [Bool.false_eq_true, if_false]
  refine wpS_of_wp (wp_skip ?_)
  cases c₀
  simp_all [bodyPostS, results, Try.results23]

/-- What Get leaves: its world's boxes. -/
theorem get_boxes (w : World) (s : List UInt8) : ∃ W0, W0 = ((w.alloc (.cells #[.int .i64 0, .int .i64 0, .slice none 0 0] 24)).alloc (.cells #[.int .i64 0] 27)).alloc (.cells #[.string ⟨s.toArray⟩] 45) ∧
    Cx W0 w.heap.size 24 [.int .i64 0, .int .i64 0, .slice none 0 0] ∧ Cx W0 (w.heap.size + 1) 27 [.int .i64 0] ∧ RdBox W0 (w.heap.size + 1 + 1) s ∧ Below w.heap.size w W0 := by
  refine ⟨_, rfl, ?_, ?_, ?_, below_alloc3 _ _ _ _⟩
  · exact ((Cx.new w 24 [.int .i64 0, .int .i64 0, .slice none 0 0]).below (below_alloc _ _)).below (below_alloc _ _)
  · have := (Cx.new (w.alloc (.cells #[.int .i64 0, .int .i64 0, .slice none 0 0] 24)) 27 [.int .i64 0]).below (below_alloc _ (.cells #[.string ⟨s.toArray⟩] 45))
    rw [World.size_alloc] at this
    exact this
  · have := Boxed.new ((w.alloc (.cells #[.int .i64 0, .int .i64 0, .slice none 0 0] 24)).alloc (.cells #[.int .i64 0] 27)) 45 (.string ⟨s.toArray⟩)
    rw [World.size_alloc, World.size_alloc] at this
    exact this

/-- A meta that is caught: the result's boxes behind. -/
theorem caught {w W : World} {z d v : Value} {y : Value} (hB : Below w.heap.size w W) (hg : Cx W w.heap.size 24 [z, d, v]) (hq : Cx W (w.heap.size + 1) 27 [y]) (a b c e : Value) :
    Cx ((((W.setCell ⟨w.heap.size, 0, none⟩ a).setCell ⟨w.heap.size, 1, none⟩ b).setCell ⟨w.heap.size, 2, none⟩ c).setCell ⟨w.heap.size + 1, 0, none⟩ e) w.heap.size 24 [a, b, c] ∧
    Cx ((((W.setCell ⟨w.heap.size, 0, none⟩ a).setCell ⟨w.heap.size, 1, none⟩ b).setCell ⟨w.heap.size, 2, none⟩ c).setCell ⟨w.heap.size + 1, 0, none⟩ e) (w.heap.size + 1) 27 [e] ∧
    Below w.heap.size w ((((W.setCell ⟨w.heap.size, 0, none⟩ a).setCell ⟨w.heap.size, 1, none⟩ b).setCell ⟨w.heap.size, 2, none⟩ c).setCell ⟨w.heap.size + 1, 0, none⟩ e) := by
  have hne : w.heap.size + 1 ≠ w.heap.size := Nat.ne_of_gt (Nat.lt_succ_self _)
  refine ⟨(hg.sets3 a b c).other hne.symm _, ?_, ((((hB.setCell (p := ⟨w.heap.size, 0, none⟩) (Nat.le_refl _) _).setCell (p := ⟨w.heap.size, 1, none⟩) (Nat.le_refl _) _).setCell (p := ⟨w.heap.size, 2, none⟩) (Nat.le_refl _) _).setCell (p := ⟨w.heap.size + 1, 0, none⟩) (Nat.le_succ _) _)⟩
  exact (((hq.other hne (j := 0) a).other hne (j := 1) b).other hne (j := 2) c).set 0 e

set_option maxHeartbeats 4000000 in
theorem mGet_no (s : List UInt8) (hs : s.length ≤ 4611686018427387904) (h : getM s = none) (w : World) :
    Calls Try.prog 11 #[.string ⟨s.toArray⟩] w fun e w' => e = .returned (.tuple #[zM, .int .i64 30]) ∧ Below w.heap.size w w' := by
  have hmf : ∀ (fn : Fn) (first cap : Array Value) (w : World), (Instr.makeFunc fn first cap).run Try.prog w = .ok (.func fn first cap) w := fun _ _ _ _ => rfl
  obtain ⟨W0, hW, hg, hq, hr, hB⟩ := get_boxes w s
  have HW := Lib.hid hW
  have hne2 : w.heap.size ≠ w.heap.size + 1 + 1 := by omega
  have hne3 : w.heap.size + 1 ≠ w.heap.size + 1 + 1 := by omega
  have hne1 : w.heap.size ≠ w.heap.size + 1 := by omega
  have hle2 : w.heap.size ≤ w.heap.size + 1 + 1 := by omega
  clear hW
  go_enter_defers Try.func11, Try.ntmps11
  go_wp2_with fail
  rw [← HW.out]
  refine (readMeta_calls (w.heap.size + 1 + 1) s hs W0 hr).mono ?_
  rintro e W1 ⟨hg1, hp⟩
  have hgA := hg.stays hg1 hne2
  have hqA := hq.stays hg1 hne3
  have hBA := hB.grown hg1 hB.size (fun k e => by cases e; exact hle2)
  cases hr : readM s with
  | none =>
    rw [hr] at hp
    subst hp
    have HB := Lib.hid hBA
    have HG := Lib.hid hgA
    have HQ := Lib.hid hqA
    clear hg hq hr hB hg1 hgA hqA hBA
    refine leaves_cons (f := 23) (args := #[.pointer (some ⟨w.heap.size, 0, none⟩), .pointer (some ⟨w.heap.size + 1, 0, none⟩)]) (by simp) (by simp [go_sem]) ?_
    refine (catchM_panicking _ _ _ _ _ 0 27 _ [] _ HG.out HQ.out hne1).mono ?_
    rintro e u' w2 ⟨rfl, rfl, hw2⟩
    obtain ⟨x, y, hb⟩ := caught HB.out HG.out HQ.out (.int .i64 0) (.int .i64 0) (.slice none 0 0) (.int .i64 30)
    rw [← hw2] at x y hb
    clear hw2
    obtain ⟨x0, x1, x2, _⟩ := x.three
    have y0 := y.cell (j := 0) rfl
    simp [Leaves, settle, results, Try.results11, go_sem, x0, x1, x2, y0]
    exact hb
  | some x =>
    obtain ⟨⟨z, d, cs⟩, r⟩ := x
    have hr0 : r ≠ [] := by
      intro e
      rw [getM, hr, Option.bind_some, if_pos e] at h
      cases h
    rw [hr] at hp
    dsimp only at hp
    obtain ⟨v, rfl, hI, hb⟩ := hp
    obtain ⟨ao, cap, rfl⟩ := (ints_own hI).form
    obtain ⟨c0, c1, c2, f0, f1, f2, hlt⟩ := hgA.three
    have HB := Lib.hid hBA
    have HG := Lib.hid hgA
    have HQ := Lib.hid hqA
    have HR := Lib.hid hb
    clear hg hq hr hB hg1 hgA hqA hBA hb hI
    go_wp2_with fail
    refine (rEnd_no (w.heap.size + 1 + 1) r hr0 _ (box_far (box_far (box_far HR.out hne2.symm 0 _) hne2.symm 1 _) hne2.symm 2 _)).mono ?_
    rintro e w2 ⟨rfl, hw2⟩
    have HB2 := Lib.hid (((HB.out.setCell (p := ⟨w.heap.size, 0, none⟩) (Nat.le_refl _) (.int .i64 z)).setCell (p := ⟨w.heap.size, 1, none⟩) (Nat.le_refl _) (.int .i64 d)).setCell (p := ⟨w.heap.size, 2, none⟩) (Nat.le_refl _) (.slice ao cs.length cap))
    have HG2 := Lib.hid (HG.out.sets3 (.int .i64 z) (.int .i64 d) (.slice ao cs.length cap))
    have HQ2 := Lib.hid (((HQ.out.other hne1.symm (j := 0) (.int .i64 z)).other hne1.symm (j := 1) (.int .i64 d)).other hne1.symm (j := 2) (.slice ao cs.length cap))
    rw [← hw2] at HB2 HG2 HQ2
    clear hw2
    refine leaves_cons (f := 23) (args := #[.pointer (some ⟨w.heap.size, 0, none⟩), .pointer (some ⟨w.heap.size + 1, 0, none⟩)]) (by simp) (by simp [go_sem]) ?_
    refine (catchM_panicking _ _ _ _ _ 0 27 _ [] _ HG2.out HQ2.out hne1).mono ?_
    rintro e u' w3 ⟨rfl, rfl, hw3⟩
    obtain ⟨x, y, hb⟩ := caught HB2.out HG2.out HQ2.out (.int .i64 0) (.int .i64 0) (.slice none 0 0) (.int .i64 30)
    rw [← hw3] at x y hb
    clear hw3
    obtain ⟨x0, x1, x2, _⟩ := x.three
    have y0 := y.cell (j := 0) rfl
    simp [Leaves, settle, results, Try.results11, go_sem, x0, x1, x2, y0]
    exact hb

set_option maxHeartbeats 4000000 in
theorem mGet_ok (s : List UInt8) (hs : s.length ≤ 4611686018427387904) {z d : Int} {cs : List Int} (h : readM s = some ((z, d, cs), [])) (w : World) :
    Calls Try.prog 11 #[.string ⟨s.toArray⟩] w fun e w' => ∃ v, e = .returned (.tuple #[MV z d v, .int .i64 0]) ∧ OwnI w' w.heap.size v cs ∧ Below w.heap.size w w' := by
  have hmf : ∀ (fn : Fn) (first cap : Array Value) (w : World), (Instr.makeFunc fn first cap).run Try.prog w = .ok (.func fn first cap) w := fun _ _ _ _ => rfl
  obtain ⟨W0, hW, hg, hq, hr, hB⟩ := get_boxes w s
  have HW := Lib.hid hW
  have hne2 : w.heap.size ≠ w.heap.size + 1 + 1 := by omega
  have hne3 : w.heap.size + 1 ≠ w.heap.size + 1 + 1 := by omega
  have hne1 : w.heap.size ≠ w.heap.size + 1 := by omega
  have hle2 : w.heap.size ≤ w.heap.size + 1 + 1 := by omega
  clear hW
  go_enter_defers Try.func11, Try.ntmps11
  go_wp2_with fail
  rw [← HW.out]
  refine (readMeta_calls (w.heap.size + 1 + 1) s hs W0 hr).mono ?_
  rintro e W1 ⟨hg1, hp⟩
  have hz : w.heap.size < W0.heap.size ∧ w.heap.size + 1 < W0.heap.size := ⟨hg.lt, hq.lt⟩
  have hgA := hg.stays hg1 hne2
  have hqA := hq.stays hg1 hne3
  have hBA := hB.grown hg1 hB.size (fun k e => by cases e; exact hle2)
  rw [h] at hp
  dsimp only at hp
  obtain ⟨v, rfl, hI, hb⟩ := hp
  obtain ⟨ao, cap, rfl⟩ := (ints_own hI).form
  obtain ⟨c0, c1, c2, f0, f1, f2, hlt⟩ := hgA.three
  have HB := Lib.hid hBA
  have HG := Lib.hid hgA
  have HQ := Lib.hid hqA
  have HR := Lib.hid hb
  have HI := Lib.hid hI
  have HZ := Lib.hid hz
  clear hg hq hr hB hg1 hgA hqA hBA hb hI hz
  go_wp2_with fail
  refine (rEnd_ok (w.heap.size + 1 + 1) _ (box_far (box_far (box_far HR.out hne2.symm 0 _) hne2.symm 1 _) hne2.symm 2 _)).mono ?_
  rintro e w2 ⟨rfl, hw2⟩
  have HB2 := Lib.hid (((HB.out.setCell (p := ⟨w.heap.size, 0, none⟩) (Nat.le_refl _) (.int .i64 z)).setCell (p := ⟨w.heap.size, 1, none⟩) (Nat.le_refl _) (.int .i64 d)).setCell (p := ⟨w.heap.size, 2, none⟩) (Nat.le_refl _) (.slice ao cs.length cap))
  have HG2 := Lib.hid (HG.out.sets3 (.int .i64 z) (.int .i64 d) (.slice ao cs.length cap))
  have HQ2 := Lib.hid (((HQ.out.other hne1.symm (j := 0) (.int .i64 z)).other hne1.symm (j := 1) (.int .i64 d)).other hne1.symm (j := 2) (.slice ao cs.length cap))
  have HI2 := Lib.hid (own_above (own_above (own_above HI.out HZ.out.1 0 (.int .i64 z)) HZ.out.1 1 (.int .i64 d)) HZ.out.1 2 (.slice ao cs.length cap))
  rw [← hw2] at HB2 HG2 HQ2 HI2
  clear c0 c1 c2 f0 f1 f2 hlt hw2
  obtain ⟨c0, c1, c2, f0, f1, f2, hlt⟩ := HG2.out.three
  have HQ3 := Lib.hid (((HQ2.out.other hne1.symm (j := 0) (.int .i64 z)).other hne1.symm (j := 1) (.int .i64 d)).other hne1.symm (j := 2) (.slice ao cs.length cap))
  have e0 := HQ3.out.cell (j := 0) rfl
  have g0 := HQ3.out.frozen 0
  go_wp2_with fail
  refine leaves_cons (f := 23) (args := #[.pointer (some ⟨w.heap.size, 0, none⟩), .pointer (some ⟨w.heap.size + 1, 0, none⟩)]) (by simp) (by simp [go_sem]) ?_
  refine (catchM_idle _ _ _).mono ?_
  rintro e u' w3 ⟨rfl, rfl, hw3⟩
  obtain ⟨x, y, hb⟩ := caught HB2.out HG2.out HQ2.out (.int .i64 z) (.int .i64 d) (.slice ao cs.length cap) (.int .i64 0)
  have hI := own_weak (b := w.heap.size) (own_above (own_above (own_above (own_above HI2.out HZ.out.1 0 (.int .i64 z)) HZ.out.1 1 (.int .i64 d)) HZ.out.1 2 (.slice ao cs.length cap)) HZ.out.2 0 (.int .i64 0)) (Nat.le_of_lt HZ.out.1)
  rw [← hw3] at x y hb hI
  clear hw3
  obtain ⟨x0, x1, x2, _⟩ := x.three
  have y0 := y.cell (j := 0) rfl
  simp [Leaves, settle, results, Try.results11, go_sem, x0, x1, x2, y0]
  exact ⟨hI, hb⟩

theorem mGet_calls (s : List UInt8) (hs : s.length ≤ 4611686018427387904) (w : World) :
    Calls Try.prog 11 #[.string ⟨s.toArray⟩] w fun e w' => ∃ v, e = .returned (.tuple #[MV (gotM s).1 (gotM s).2.1 v, .int .i64 (gotE s)]) ∧ OwnI w' w.heap.size v (gotM s).2.2 ∧ Below w.heap.size w w' := by
  cases h : getM s with
  | none =>
    have h1 : gotM s = (0, 0, []) := by simp [gotM, h]
    have h2 : gotE s = 30 := by simp [gotE, h]
    rw [h1, h2]
    exact (mGet_no s hs h w).mono fun e w' he => ⟨_, he.1, World.ownsRow_nil _ _ _ _, he.2⟩
  | some m =>
    obtain ⟨z, d, cs⟩ := m
    have h1 : gotM s = (z, d, cs) := by simp [gotM, h]
    have h2 : gotE s = 0 := by simp [gotE, h]
    rw [h1, h2]
    obtain ⟨e1, e2⟩ := laid_getM h
    have hr := readM_laid e2 []
    rw [List.append_nil, ← e1] at hr
    exact mGet_ok s hs hr w

end Go.Proofs.Ytijhbnkfkjfcfaa
