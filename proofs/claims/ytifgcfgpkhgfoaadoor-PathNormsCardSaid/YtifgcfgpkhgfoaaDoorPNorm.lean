/-
  path.Norm and path.Join.
-/
import Derived.Test.YtifgcfgpkhgfoaaDoorPWalk
import Derived.Tactics
import Derived.Tactics2
import Derived.Defers
import Derived.Recover
import Derived.Laws.Pointers
namespace Go.Proofs.YtifgcfgpkhgfoaaDoor
open Go.RowKit

theorem catch_panicking (p q : Addr) (x : List UInt8) (y : Int) (u : TypeId) (pv : Value) (older : List PanicEntry) (w : World) (hc : w.cell? p = some (.string ⟨x.toArray⟩)) (hz : w.frozen? p = false) (hd : w.cell? q = some (.int .i64 y)) (hy : w.frozen? q = false) (hne : p ≠ q) :
    CallsD Tryd.prog 25 #[.pointer (some p), .pointer (some q)] (.panicking ({ v := .iface u pv, recovered := false } :: older)) w fun e u' w' =>
      e = .returned (.tuple #[]) ∧ u' = .panicking ({ v := .iface u pv, recovered := true } :: older) ∧ w' = (w.setCell p (.string ⟨#[]⟩)).setCell q (.int .i64 20) := by
  refine callsD_of_wpS Tryd.func25 rfl fun c₀ cs hu => ?_
  apply wpS_seq
  apply wpS_region
  simp [wpOpsS, go_sem, recoverD, hu, Tryd.ntmps25, Exit.thenS]
  refine wpS_cond (t := true) (by simp [Act.eval, Array.replicate]) ?_
  simp only [if_true]
  have hd2 : (w.setCell p (.string ⟨#[]⟩)).cell? q = some (.int .i64 y) := by rw [World.cell?_setCell_other _ _ _ _ hne]; exact hd
  have hy2 : (w.setCell p (.string ⟨#[]⟩)).frozen? q = false := by simpa [go_sem] using hy
  apply wpS_region
  simp [wpOpsS, go_sem, hc, hz, hd2, hy2, bodyPostS, results, Tryd.results25]

theorem catch_idle (p q : Addr) (w : World) :
    CallsD Tryd.prog 25 #[.pointer (some p), .pointer (some q)] .returning w fun e u' w' => e = .returned (.tuple #[]) ∧ u' = .returning ∧ w' = w := by
  refine callsD_of_wpS Tryd.func25 rfl fun c₀ cs hu => ?_
  apply wpS_seq
  apply wpS_region
  simp [wpOpsS, go_sem, recoverD, hu, Tryd.ntmps25, Exit.thenS]
  refine wpS_cond (t := false) (by simp [Act.eval, Array.replicate]) ?_
  simp only [Bool.false_eq_true, if_false]
  refine wpS_of_wp (wp_skip ?_)
  cases c₀
  simp_all [bodyPostS, results, Tryd.results25]

theorem norm_long (s : List UInt8) (h : 400 < s.length) (hm : s.length ≤ 9223372036854775807) (w : World) :
    Calls Tryd.prog 9 #[.string ⟨s.toArray⟩] w fun e w' => e = .returned (.tuple #[.string ⟨#[]⟩, .int .i64 20]) ∧ Below w.heap.size w w' := by
  have hmf : ∀ (fn : Fn) (first cap : Array Value) (w : World), (Instr.makeFunc fn first cap).run Tryd.prog w = .ok (.func fn first cap) w := fun _ _ _ _ => rfl
  go_enter_defers Tryd.func9, Tryd.ntmps9
  go_wp2_with fail
  simp [bodyPostD, Leaves, results, Tryd.results9, go_sem]
  exact below2 (below_alloc w _) (below_alloc _ _)

/-- Two boxes of one cell each, laid one behind the other. -/
theorem boxes {w w1 : World} {x y : Value} {t1 t2 : TypeId} (hB : Below ((w.alloc (.cells #[x] t1)).alloc (.cells #[y] t2)).heap.size ((w.alloc (.cells #[x] t1)).alloc (.cells #[y] t2)) w1) :
    (w1.cell? ⟨w.heap.size, 0, none⟩ = some x ∧ w1.frozen? ⟨w.heap.size, 0, none⟩ = false) ∧ (w1.cell? ⟨w.heap.size + 1, 0, none⟩ = some y ∧ w1.frozen? ⟨w.heap.size + 1, 0, none⟩ = false) ∧ Below w.heap.size w w1 := by
  refine ⟨⟨?_, ?_⟩, ⟨?_, ?_⟩, ?_⟩
  · rw [hB.cell (by simp; omega)]; simp [go_sem]
  · rw [hB.frozen (by simp; omega)]; simp [go_sem]
  · rw [hB.cell (by simp)]; simp [go_sem]
  · rw [hB.frozen (by simp)]; simp [go_sem]
  · exact below3 (below_alloc w _) (below_alloc _ _) hB

set_option maxHeartbeats 2000000 in
theorem norm_bad (s : List UInt8) (h : s.length ≤ 400) (hw : walkL (cut s) [] = none) (w : World) (hm : Ml w) :
    Calls Tryd.prog 9 #[.string ⟨s.toArray⟩] w fun e w' => e = .returned (.tuple #[.string ⟨#[]⟩, .int .i64 20]) ∧ Below w.heap.size w w' := by
  have hmf : ∀ (fn : Fn) (first cap : Array Value) (w : World), (Instr.makeFunc fn first cap).run Tryd.prog w = .ok (.func fn first cap) w := fun _ _ _ _ => rfl
  have hd : decide ((400 : Int) < s.length) = false := by simp; omega
  have HW := Lib.hid hw
  clear hw
  go_enter_defers Tryd.func9, Tryd.ntmps9
  go_wp2_with fail
  refine (walk_calls s h _ (hm.below (below2 (below_alloc w _) (below_alloc _ _)))).mono ?_
  rintro e w1 ⟨hB, hp⟩
  rw [HW.out] at hp
  subst hp
  obtain ⟨⟨hc1, hf1⟩, ⟨hc2, hf2⟩, hBw⟩ := boxes hB
  have hne : (⟨w.heap.size, 0, none⟩ : Addr) ≠ ⟨w.heap.size + 1, 0, none⟩ := by simp
  refine leaves_cons (f := 25) (args := #[.pointer (some ⟨w.heap.size, 0, none⟩), .pointer (some ⟨w.heap.size + 1, 0, none⟩)]) (by simp) (by simp [go_sem]) ?_
  refine (catch_panicking _ _ [] 0 22 _ [] _ hc1 hf1 hc2 hf2 hne).mono ?_
  rintro e u' w2 ⟨rfl, rfl, rfl⟩
  have g1 : ((w1.setCell ⟨w.heap.size, 0, none⟩ (.string ⟨#[]⟩)).setCell ⟨w.heap.size + 1, 0, none⟩ (.int .i64 20)).cell? ⟨w.heap.size, 0, none⟩ = some (.string ⟨#[]⟩) := by
    rw [World.cell?_setCell_other _ _ _ _ (Ne.symm hne)]; exact World.cell?_setCell_same _ _ _ hc1
  have g2 : ((w1.setCell ⟨w.heap.size, 0, none⟩ (.string ⟨#[]⟩)).setCell ⟨w.heap.size + 1, 0, none⟩ (.int .i64 20)).cell? ⟨w.heap.size + 1, 0, none⟩ = some (.int .i64 20) := by
    exact World.cell?_setCell_same _ _ _ (by rw [World.cell?_setCell_other _ _ _ _ hne]; exact hc2)
  have g3 : Below w.heap.size w ((w1.setCell ⟨w.heap.size, 0, none⟩ (.string ⟨#[]⟩)).setCell ⟨w.heap.size + 1, 0, none⟩ (.int .i64 20)) := (hBw.setCell (p := ⟨w.heap.size, 0, none⟩) (Nat.le_refl _) _).setCell (p := ⟨w.heap.size + 1, 0, none⟩) (Nat.le_succ _) _
  simp [Leaves, settle, results, Tryd.results9, go_sem, g1, g2]
  exact g3

theorem set3 {w w2 : World} {x y : Value} (hc1 : w2.cell? ⟨w.heap.size, 0, none⟩ = some x) (hc2 : w2.cell? ⟨w.heap.size + 1, 0, none⟩ = some y) (hB : Below w.heap.size w w2) (a b c : Value) :
    (((w2.setCell ⟨w.heap.size, 0, none⟩ a).setCell ⟨w.heap.size, 0, none⟩ b).setCell ⟨w.heap.size + 1, 0, none⟩ c).cell? ⟨w.heap.size, 0, none⟩ = some b ∧
    (((w2.setCell ⟨w.heap.size, 0, none⟩ a).setCell ⟨w.heap.size, 0, none⟩ b).setCell ⟨w.heap.size + 1, 0, none⟩ c).cell? ⟨w.heap.size + 1, 0, none⟩ = some c ∧
    Below w.heap.size w (((w2.setCell ⟨w.heap.size, 0, none⟩ a).setCell ⟨w.heap.size, 0, none⟩ b).setCell ⟨w.heap.size + 1, 0, none⟩ c) := by
  have hne : (⟨w.heap.size, 0, none⟩ : Addr) ≠ ⟨w.heap.size + 1, 0, none⟩ := by simp
  refine ⟨?_, ?_, ?_⟩
  · rw [World.cell?_setCell_other _ _ _ _ (Ne.symm hne)]; exact World.cell?_setCell_same _ _ _ (World.cell?_setCell_same _ _ _ hc1)
  · exact World.cell?_setCell_same _ _ _ (by rw [World.cell?_setCell_other _ _ _ _ hne, World.cell?_setCell_other _ _ _ _ hne]; exact hc2)
  · exact ((hB.setCell (p := ⟨w.heap.size, 0, none⟩) (Nat.le_refl _) _).setCell (p := ⟨w.heap.size, 0, none⟩) (Nat.le_refl _) _).setCell (p := ⟨w.heap.size + 1, 0, none⟩) (Nat.le_succ _) _

theorem walk_len {s : List UInt8} {l : List (List UInt8)} (hw : walkL (cut s) [] = some l) : l.length ≤ s.length + 1 ∧ (gl l).length ≤ s.length := by
  obtain ⟨_, hm⟩ := walk_fine hw Fine.nil (cut_clean s)
  have h1 := gl_mass (cut_ne s)
  rw [gl_cut] at h1
  have h2 : ∀ l : List (List UInt8), l.length ≤ mass l := by
    intro l
    induction l with
    | nil => simp
    | cons x r ih => rw [mass_cons]; simp; omega
  have h3 := h2 l
  have h4 := gl_le (a := l) (b := cut s) (by simpa [mass] using hm) (cut_ne s)
  rw [gl_cut] at h4
  have h5 : mass ([] : List (List UInt8)) = 0 := rfl
  exact ⟨by omega, h4⟩

set_option maxHeartbeats 2000000 in
theorem norm_walked (s : List UInt8) (h : s.length ≤ 400) {l : List (List UInt8)} (hw : walkL (cut s) [] = some l) (hlen : (gl l).length ≤ 100) (w : World) (hm : Ml w) :
    Calls Tryd.prog 9 #[.string ⟨s.toArray⟩] w fun e w' => e = .returned (.tuple #[.string ⟨(gl l).toArray⟩, .int .i64 0]) ∧ Below w.heap.size w w' := by
  have hmf : ∀ (fn : Fn) (first cap : Array Value) (w : World), (Instr.makeFunc fn first cap).run Tryd.prog w = .ok (.func fn first cap) w := fun _ _ _ _ => rfl
  have hd : decide ((400 : Int) < s.length) = false := by simp; omega
  obtain ⟨hl1, hl2⟩ := walk_len hw
  have HW := Lib.hid hw
  clear hw
  go_enter_defers Tryd.func9, Tryd.ntmps9
  go_wp2_with fail
  refine (walk_calls s h _ (hm.below (below2 (below_alloc w _) (below_alloc _ _)))).mono ?_
  rintro e w1 ⟨hB, hp⟩
  rw [HW.out] at hp
  obtain ⟨v, rfl, hT⟩ := hp
  go_wp2_with fail
  refine (join_calls v l _ hT (by omega) (by omega)).mono ?_
  rintro e w2 ⟨rfl, hB2⟩
  have hBB := below2 hB hB2
  obtain ⟨⟨hc1, hf1⟩, ⟨hc2, hf2⟩, hBw⟩ := boxes hBB
  have HB := Lib.hid hBw
  clear hB hB2 hBB hBw hT
  go_wp2_with fail
  refine leaves_cons (f := 25) (args := #[.pointer (some ⟨w.heap.size, 0, none⟩), .pointer (some ⟨w.heap.size + 1, 0, none⟩)]) (by simp) (by simp [go_sem]) ?_
  refine (catch_idle _ _ _).mono ?_
  rintro e u' w3 ⟨rfl, rfl, rfl⟩
  obtain ⟨g1, g2, g3⟩ := set3 hc1 hc2 HB.out (.string ⟨(gl l).toArray⟩) (.string ⟨(gl l).toArray⟩) (.int .i64 0)
  simp [Leaves, settle, results, Tryd.results9, go_sem, g1, g2]
  exact g3

set_option maxHeartbeats 2000000 in
theorem norm_great (s : List UInt8) (h : s.length ≤ 400) {l : List (List UInt8)} (hw : walkL (cut s) [] = some l) (hlen : 100 < (gl l).length) (w : World) (hm : Ml w) :
    Calls Tryd.prog 9 #[.string ⟨s.toArray⟩] w fun e w' => e = .returned (.tuple #[.string ⟨#[]⟩, .int .i64 20]) ∧ Below w.heap.size w w' := by
  have hmf : ∀ (fn : Fn) (first cap : Array Value) (w : World), (Instr.makeFunc fn first cap).run Tryd.prog w = .ok (.func fn first cap) w := fun _ _ _ _ => rfl
  have hd : decide ((400 : Int) < s.length) = false := by simp; omega
  obtain ⟨hl1, hl2⟩ := walk_len hw
  have HW := Lib.hid hw
  clear hw
  go_enter_defers Tryd.func9, Tryd.ntmps9
  go_wp2_with fail
  refine (walk_calls s h _ (hm.below (below2 (below_alloc w _) (below_alloc _ _)))).mono ?_
  rintro e w1 ⟨hB, hp⟩
  rw [HW.out] at hp
  obtain ⟨v, rfl, hT⟩ := hp
  go_wp2_with fail
  refine (join_calls v l _ hT (by omega) (by omega)).mono ?_
  rintro e w2 ⟨rfl, hB2⟩
  have hBB := below2 hB hB2
  obtain ⟨⟨hc1, hf1⟩, ⟨hc2, hf2⟩, hBw⟩ := boxes hBB
  have HB := Lib.hid hBw
  clear hB hB2 hBB hBw hT
  go_wp2_with fail
  refine leaves_cons (f := 25) (args := #[.pointer (some ⟨w.heap.size, 0, none⟩), .pointer (some ⟨w.heap.size + 1, 0, none⟩)]) (by simp) (by simp [go_sem]) ?_
  refine (catch_idle _ _ _).mono ?_
  rintro e u' w3 ⟨rfl, rfl, rfl⟩
  obtain ⟨g1, g2, g3⟩ := set3 hc1 hc2 HB.out (.string ⟨(gl l).toArray⟩) (.string ⟨#[]⟩) (.int .i64 20)
  simp [Leaves, settle, results, Tryd.results9, go_sem, g1, g2]
  exact g3

/-- What Norm and Join answer. -/
def NPost (w : World) (o : Option (List UInt8)) (e : Ending) (w' : World) : Prop :=
  Below w.heap.size w w' ∧ match o with
    | none => e = .returned (.tuple #[.string ⟨#[]⟩, .int .i64 20])
    | some a => e = .returned (.tuple #[.string ⟨a.toArray⟩, .int .i64 0])

theorem norm_calls (s : List UInt8) (hl : s.length ≤ 9223372036854775807) (w : World) (hm : Ml w) :
    Calls Tryd.prog 9 #[.string ⟨s.toArray⟩] w (NPost w (normOf s)) := by
  by_cases h4 : 400 < s.length
  · rw [normOf, if_pos h4]
    exact (norm_long s h4 hl w).mono fun e w' ⟨he, hB⟩ => ⟨hB, he⟩
  · rw [normOf, if_neg h4]
    cases hw : walkL (cut s) [] with
    | none => exact (norm_bad s (by omega) hw w hm).mono fun e w' ⟨he, hB⟩ => ⟨hB, he⟩
    | some l =>
      rw [Option.bind_some, shut]
      by_cases h1 : 100 < (gl l).length
      · rw [if_pos h1]
        exact (norm_great s (by omega) hw h1 w hm).mono fun e w' ⟨he, hB⟩ => ⟨hB, he⟩
      · rw [if_neg h1]
        exact (norm_walked s (by omega) hw (by omega) w hm).mono fun e w' ⟨he, hB⟩ => ⟨hB, he⟩
theorem norm_some {s a : List UInt8} (h : normOf s = some a) (hl : s.length ≤ 9223372036854775807) (w : World) (hm : Ml w) :
    Calls Tryd.prog 9 #[.string ⟨s.toArray⟩] w fun e w' => e = .returned (.tuple #[.string ⟨a.toArray⟩, .int .i64 0]) ∧ Below w.heap.size w w' :=
  (norm_calls s hl w hm).mono fun e w' hp => by rw [h] at hp; exact ⟨hp.2, hp.1⟩
theorem norm_not {s : List UInt8} (h : normOf s = none) (hl : s.length ≤ 9223372036854775807) (w : World) (hm : Ml w) :
    Calls Tryd.prog 9 #[.string ⟨s.toArray⟩] w fun e w' => e = .returned (.tuple #[.string ⟨#[]⟩, .int .i64 20]) ∧ Below w.heap.size w w' :=
  (norm_calls s hl w hm).mono fun e w' hp => by rw [h] at hp; exact ⟨hp.2, hp.1⟩

attribute [local go_sem] app_mk

set_option maxHeartbeats 1000000 in
theorem join_no {d s : List UInt8} (h : isP d = false) (hl : d.length ≤ 9223372036854775807) (w : World) (hm : Ml w) :
    Calls Tryd.prog 11 #[.string ⟨d.toArray⟩, .string ⟨s.toArray⟩] w fun e w' => e = .returned (.tuple #[.string ⟨#[]⟩, .int .i64 20]) ∧ Below w.heap.size w w' := by
  go_enter Tryd.func11, Tryd.ntmps11
  go_wp2_with (go_at_call 14; refine (is_calls d hl _ hm).mono ?_; rintro e w1 ⟨rfl, hB⟩; rw [h])
  go_ret2
  exact ⟨rfl, hB⟩
set_option maxHeartbeats 1000000 in
theorem join_bad {d s : List UInt8} (h : isP d = true) (h2 : normOf (d ++ 47 :: s) = none) (hd : d.length ≤ 1000000) (hs : s.length ≤ 1000000) (w : World) (hm : Ml w) :
    Calls Tryd.prog 11 #[.string ⟨d.toArray⟩, .string ⟨s.toArray⟩] w fun e w' => e = .returned (.tuple #[.string ⟨#[]⟩, .int .i64 20]) ∧ Below w.heap.size w w' := by
  have H2 := Lib.hid h2
  clear h2
  have hb1 : ¬ 9223372036854775807 < d.length + 1 := by omega
  have hb2 : ¬ 9223372036854775807 < d.length + 1 + s.length := by omega
  have hb3 : (d ++ 47 :: s).length ≤ 9223372036854775807 := by simp; omega
  go_enter Tryd.func11, Tryd.ntmps11
  go_wp2_with (first | (go_at_call 14; refine (is_calls d (by omega) _ hm).mono ?_; rintro e w1 ⟨rfl, hB⟩; rw [h]; have hm1 := hm.below hB) | (go_at_call 9; refine (norm_not H2.out hb3 _ hm1).mono ?_; rintro e w2 ⟨rfl, hB2⟩))
  go_ret2
  exact ⟨rfl, below2 hB hB2⟩
set_option maxHeartbeats 1000000 in
theorem join_ok {d s a : List UInt8} (h : isP d = true) (h2 : normOf (d ++ 47 :: s) = some a) (hd : d.length ≤ 1000000) (hs : s.length ≤ 1000000) (w : World) (hm : Ml w) :
    Calls Tryd.prog 11 #[.string ⟨d.toArray⟩, .string ⟨s.toArray⟩] w fun e w' => e = .returned (.tuple #[.string ⟨a.toArray⟩, .int .i64 0]) ∧ Below w.heap.size w w' := by
  have H2 := Lib.hid h2
  clear h2
  have hb1 : ¬ 9223372036854775807 < d.length + 1 := by omega
  have hb2 : ¬ 9223372036854775807 < d.length + 1 + s.length := by omega
  have hb3 : (d ++ 47 :: s).length ≤ 9223372036854775807 := by simp; omega
  go_enter Tryd.func11, Tryd.ntmps11
  go_wp2_with (first | (go_at_call 14; refine (is_calls d (by omega) _ hm).mono ?_; rintro e w1 ⟨rfl, hB⟩; rw [h]; have hm1 := hm.below hB) | (go_at_call 9; refine (norm_some H2.out hb3 _ hm1).mono ?_; rintro e w2 ⟨rfl, hB2⟩))
  go_ret2
  exact ⟨rfl, below2 hB hB2⟩

theorem Join_some {d s a : List UInt8} (h : joinOf d s = some a) (hd : d.length ≤ 1000000) (hs : s.length ≤ 1000000) (w : World) (hm : Ml w) :
    Calls Tryd.prog 11 #[.string ⟨d.toArray⟩, .string ⟨s.toArray⟩] w fun e w' => e = .returned (.tuple #[.string ⟨a.toArray⟩, .int .i64 0]) ∧ Below w.heap.size w w' := by
  unfold joinOf at h
  split at h
  · rename_i hp
    exact join_ok hp h hd hs w hm
  · cases h
theorem Join_not {d s : List UInt8} (h : joinOf d s = none) (hd : d.length ≤ 1000000) (hs : s.length ≤ 1000000) (w : World) (hm : Ml w) :
    Calls Tryd.prog 11 #[.string ⟨d.toArray⟩, .string ⟨s.toArray⟩] w fun e w' => e = .returned (.tuple #[.string ⟨#[]⟩, .int .i64 20]) ∧ Below w.heap.size w w' := by
  unfold joinOf at h
  split at h
  · rename_i hp
    exact join_bad hp h hd hs w hm
  · rename_i hp
    exact join_no (by simpa using hp) (by omega) w hm

end Go.Proofs.YtifgcfgpkhgfoaaDoor
