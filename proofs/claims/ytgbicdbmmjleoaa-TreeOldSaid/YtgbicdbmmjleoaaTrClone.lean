/-
  slices.Clone: rows of vertices, of pairs.
-/
import Derived.Test.YtgbicdbmmjleoaaTrGrow
import Derived.Lib.SliceRun
namespace Go.Proofs.Ytgbicdbmmjleoaa
open Go.RowKit

set_option maxHeartbeats 2000000 in
set_option maxRecDepth 100000 in
theorem cloneV_raw (v : Value) (n : Nat) (cs : List Value) (w : World) (h : Rw w 1 v n cs) (h1 : ∀ u ∈ cs, u.oneCell' = true) (hm : n ≤ 1000000) :
    Calls Try.prog 53 #[v] w fun e w' => ∃ ao cap, e = .returned (.slice ao n cap) ∧ Rw w' 1 (.slice ao n cap) n cs ∧ Below w.heap.size w w' := by
  obtain ⟨i0, hi, hz0, hz1, hz2⟩ := info_parts infoV
  obtain ⟨ao, cap, rfl⟩ := h.form
  cases ao with
  | none =>
    have HO := Lib.hid h
    have heq : ∀ W, (binOp .eql 68 (.slice none n cap) (.slice none 0 0)).run Try.prog W = .ok (.bool true) W := fun W => Lib.run_eql_slice_nil W _ _ none n cap 0 0 Try.underlying68
    clear h
    go_enter Try.func53, Try.ntmps53
    go_wp2_with fail
    go_ret
    obtain ⟨hl, ao, c, he, hc, h0 | ⟨b, off, h, _⟩⟩ := HO.out
    · subst h0
      exact ⟨none, 0, rfl, ⟨hl, none, 0, rfl, Nat.le_refl _, .inl rfl⟩, Below.refl _ _⟩
    · cases he
      cases h
  | some ad =>
    have HO := Lib.hid h
    have H1 := Lib.hid h1
    have hB0 := below_alloc w (.cells #[] 53)
    have hown : (w.alloc (.cells #[] 53)).ownsRow w.heap.size 53 1 (.slice (some ⟨w.heap.size, 0, none⟩) 0 0) 0 [] := World.ownsRow_made w #[] 0 (Nat.le_refl _) (Nat.zero_le _) rfl
    have HW := Lib.hid hown
    have heq : ∀ W, (binOp .eql 68 (.slice (some ad) n cap) (.slice none 0 0)).run Try.prog W = .ok (.bool false) W := fun W => Lib.run_eql_slice_nil W _ _ (some ad) n cap 0 0 Try.underlying68
    clear h h1 hown
    go_enter Try.func53, Try.ntmps53
    go_wp2_with (at_builtin; refine wpList_append_rw rfl _ _ 68 rfl w.heap.size 53 i0 _ 1 16 Try.underlying68 hi hz0 hz1 hz2 rfl (by decide) _ 0 [] rfl HW.out (some ad) n cap cs rfl (HO.out.below hB0) H1.out n (Nat.zero_add _) (by unfold maxLen; omega) (by omega) hB0.size ?_; intro a3 c3 w3 hown3 hg3)
    have hB3 := hB0.grown hg3 hB0.size (fun j e => (HW.out.lt j e).1)
    go_ret
    exact ⟨a3, c3, rfl, Rw.own hown3, hB3⟩

set_option maxHeartbeats 2000000 in
set_option maxRecDepth 100000 in
theorem cloneP_raw (v : Value) (n : Nat) (cs : List Value) (w : World) (h : Rw w 3 v n cs) (h1 : ∀ u ∈ cs, u.oneCell' = true) (hm : n ≤ 1000000) :
    Calls Try.prog 52 #[v] w fun e w' => ∃ ao cap, e = .returned (.slice ao n cap) ∧ Rw w' 3 (.slice ao n cap) n cs ∧ Below w.heap.size w w' := by
  obtain ⟨i0, hi, hz0, hz1, hz2⟩ := info_parts infoP
  obtain ⟨ao, cap, rfl⟩ := h.form
  cases ao with
  | none =>
    have HO := Lib.hid h
    have heq : ∀ W, (binOp .eql 28 (.slice none n cap) (.slice none 0 0)).run Try.prog W = .ok (.bool true) W := fun W => Lib.run_eql_slice_nil W _ _ none n cap 0 0 Try.underlying28
    clear h
    go_enter Try.func52, Try.ntmps52
    go_wp2_with fail
    go_ret
    obtain ⟨hl, ao, c, he, hc, h0 | ⟨b, off, h, _⟩⟩ := HO.out
    · subst h0
      exact ⟨none, 0, rfl, ⟨hl, none, 0, rfl, Nat.le_refl _, .inl rfl⟩, Below.refl _ _⟩
    · cases he
      cases h
  | some ad =>
    have HO := Lib.hid h
    have H1 := Lib.hid h1
    have hB0 := below_alloc w (.cells #[] 31)
    have hown : (w.alloc (.cells #[] 31)).ownsRow w.heap.size 31 3 (.slice (some ⟨w.heap.size, 0, none⟩) 0 0) 0 [] := World.ownsRow_made w #[] 0 (Nat.le_refl _) (Nat.zero_le _) rfl
    have HW := Lib.hid hown
    have heq : ∀ W, (binOp .eql 28 (.slice (some ad) n cap) (.slice none 0 0)).run Try.prog W = .ok (.bool false) W := fun W => Lib.run_eql_slice_nil W _ _ (some ad) n cap 0 0 Try.underlying28
    clear h h1 hown
    go_enter Try.func52, Try.ntmps52
    go_wp2_with (at_builtin; refine wpList_append_rw rfl _ _ 28 rfl w.heap.size 31 i0 _ 3 40 Try.underlying28 hi hz0 hz1 hz2 rfl (by decide) _ 0 [] rfl HW.out (some ad) n cap cs rfl (HO.out.below hB0) H1.out n (Nat.zero_add _) (by unfold maxLen; omega) (by omega) hB0.size ?_; intro a3 c3 w3 hown3 hg3)
    have hB3 := hB0.grown hg3 hB0.size (fun j e => (HW.out.lt j e).1)
    go_ret
    exact ⟨a3, c3, rfl, Rw.own hown3, hB3⟩

theorem cloneP_calls (v : Value) (l : List Pr) (w : World) (h : Prs w v l) (hm : l.length ≤ 1000000) :
    Calls Try.prog 52 #[v] w fun e w' => ∃ u, e = .returned u ∧ Prs w' u l ∧ Below w.heap.size w w' := by
  refine (cloneP_raw v l.length (pcells l) w h (pcells_one l) hm).mono ?_
  rintro e w' ⟨ao, cap, rfl, hR, hB⟩
  exact ⟨_, rfl, hR, hB⟩
theorem Vx.oneCell {w : World} {d : Nat} {v : Value} {l : List Pr} {n : Nat} (h : Vx d w v l n) : v.oneCell' = true := by
  cases d with
  | zero =>
    obtain ⟨_, u, rfl, _⟩ := h
    rfl
  | succ d =>
    obtain ⟨_, _, _, _, rfl, _⟩ := h
    rfl
theorem VRow.ones {w : World} {d : Nat} {rv : Value} {S : List Ch} (h : VRow d w rv S) : ∀ u ∈ S.map (·.1), u.oneCell' = true := by
  intro u hu
  obtain ⟨c, hc, rfl⟩ := List.mem_map.1 hu
  exact (h.2 c hc).oneCell
theorem cloneV_calls (d : Nat) (v : Value) (S : List Ch) (w : World) (h : VRow d w v S) (hm : S.length ≤ 1000000) :
    Calls Try.prog 53 #[v] w fun e w' => ∃ u, e = .returned u ∧ VRow d w' u S ∧ Below w.heap.size w w' := by
  refine (cloneV_raw v S.length (S.map (·.1)) w h.1 h.ones hm).mono ?_
  rintro e w' ⟨ao, cap, rfl, hR, hB⟩
  exact ⟨_, rfl, ⟨hR, fun c hc => (h.2 c hc).below hB⟩, hB⟩

end Go.Proofs.Ytgbicdbmmjleoaa
