/-
  disk: New, and the document's own New.
-/
import Derived.Test.YtcikgmgkaenpmaaCopied
import Derived.Test.YtcikgmgkaenpmaaDoes
namespace Go.Proofs.Ytcikgmgkaenpmaa
open Go.RowKit

/-- What New answers: its blocks, and the error. -/
def newB (n : Int) : List (List UInt8) := if 1 ≤ n ∧ n ≤ 200 then List.replicate n.toNat [] else []
def newE (n : Int) : Int := if 1 ≤ n ∧ n ≤ 200 then 0 else 1

theorem madeTexts (n : Nat) : madeCells #[.string ⟨#[]⟩] n = ((List.replicate n ([] : List UInt8)).map SV).toArray := by
  apply Array.toList_inj.1
  rw [toList_madeCells_one]
  simp [SV]

set_option maxHeartbeats 4000000 in
theorem new_calls (n : Int) (w : World) :
    Calls Try.prog 18 #[.int .i64 n] w fun e w' => ∃ vb vw, e = .returned (.tuple #[.agg #[vb, vw], .int .i64 (newE n)]) ∧ OwnD w' w.heap.size vb (newB n) vw [] ∧ Below w.heap.size w w' := by
  by_cases h : 1 ≤ n ∧ n ≤ 200
  · obtain ⟨h1, h2⟩ := h
    obtain ⟨k, rfl⟩ : ∃ k : Nat, n = (k : Int) := ⟨n.toNat, by omega⟩
    have hm1 := make_texts k (by omega)
    have e1 : newB k = List.replicate k [] := by simp [newB, h1, h2]
    have e2 : newE k = 0 := by simp [newE, h1, h2]
    rw [madeTexts] at hm1
    obtain ⟨A, hA⟩ : ∃ A, A = ((List.replicate k ([] : List UInt8)).map SV).toArray := ⟨_, rfl⟩
    rw [← hA] at hm1
    have HA := Lib.hid hA
    clear hA
    have E1 := Lib.hid e1
    have E2 := Lib.hid e2
    clear e1 e2
    go_enter Try.func18, Try.ntmps18
    go_wp2_with fail
    refine ret_disk2 (p := 2) (q := 3) (by kernel_rfl) rfl w.heap.size (.slice (some ⟨w.heap.size + 1, 0, none⟩) k k) (.slice none 0 0) (.int .i64 0) rfl rfl (by go_simp) (by go_simp) ?_
    refine ⟨_, _, by rw [E2.out], ?_, below_alloc2 w _ _⟩
    rw [E1.out]
    have hg := heap_alloc_new (w.alloc (.cells #[.slice (some ⟨w.heap.size + 1, 0, none⟩) k k, .slice none 0 0] 25)) (.cells A 9)
    rw [World.size_alloc, HA.out] at hg
    rw [HA.out]
    have h := own_whole (base := w.heap.size) (k := 1) (n := k) hg (by omega) (by simp) (by omega)
    exact ⟨by simpa using h, World.ownsRow_nil _ _ _ _⟩
  · have e1 : newB n = [] := by simp [newB, h]
    have e2 : newE n = 1 := by simp [newE, h]
    have E1 := Lib.hid e1
    have E2 := Lib.hid e2
    clear e1 e2
    have hc : n < 1 ∨ (1 ≤ n ∧ 200 < n) := by omega
    clear h
    rcases hc with h | ⟨h, h'⟩
    all_goals
      go_enter Try.func18, Try.ntmps18
      go_wp2_with fail
      refine ret_disk2 (p := 2) (q := 3) (by kernel_rfl) rfl w.heap.size (.slice none 0 0) (.slice none 0 0) (.int .i64 1) rfl rfl (by go_simp) (by go_simp) ?_
      exact ⟨_, _, by rw [E2.out], by rw [E1.out]; exact ⟨World.ownsRow_nil _ _ _ _, World.ownsRow_nil _ _ _ _⟩, below_alloc w _⟩

set_option maxHeartbeats 4000000 in
theorem refNew_calls (n : Int) (w : World) :
    Calls Try.prog 19 #[.int .i64 n] w fun e w' => ∃ vb vw, e = .returned (.tuple #[.agg #[vb, vw], .int .i64 (newE n)]) ∧ OwnD w' w.heap.size vb (newB n) vw [] ∧ Below w.heap.size w w' := by
  by_cases h : 1 ≤ n ∧ n ≤ 200
  · obtain ⟨h1, h2⟩ := h
    obtain ⟨k, rfl⟩ : ∃ k : Nat, n = (k : Int) := ⟨n.toNat, by omega⟩
    have hm1 := make_texts k (by omega)
    have e1 : newB k = List.replicate k [] := by simp [newB, h1, h2]
    have e2 : newE k = 0 := by simp [newE, h1, h2]
    rw [madeTexts] at hm1
    obtain ⟨A, hA⟩ : ∃ A, A = ((List.replicate k ([] : List UInt8)).map SV).toArray := ⟨_, rfl⟩
    rw [← hA] at hm1
    have HA := Lib.hid hA
    clear hA
    have E1 := Lib.hid e1
    have E2 := Lib.hid e2
    clear e1 e2
    go_enter Try.func19, Try.ntmps19
    go_wp2_with fail
    refine ret_disk2 (p := 2) (q := 3) (by kernel_rfl) rfl w.heap.size (.slice (some ⟨w.heap.size + 1, 0, none⟩) k k) (.slice none 0 0) (.int .i64 0) rfl rfl (by go_simp) (by go_simp) ?_
    refine ⟨_, _, by rw [E2.out], ?_, below_alloc2 w _ _⟩
    rw [E1.out]
    have hg := heap_alloc_new (w.alloc (.cells #[.slice (some ⟨w.heap.size + 1, 0, none⟩) k k, .slice none 0 0] 25)) (.cells A 9)
    rw [World.size_alloc, HA.out] at hg
    rw [HA.out]
    have h := own_whole (base := w.heap.size) (k := 1) (n := k) hg (by omega) (by simp) (by omega)
    exact ⟨by simpa using h, World.ownsRow_nil _ _ _ _⟩
  · have e1 : newB n = [] := by simp [newB, h]
    have e2 : newE n = 1 := by simp [newE, h]
    have E1 := Lib.hid e1
    have E2 := Lib.hid e2
    clear e1 e2
    have hc : n < 1 ∨ (1 ≤ n ∧ 200 < n) := by omega
    clear h
    rcases hc with h | ⟨h, h'⟩
    all_goals
      go_enter Try.func19, Try.ntmps19
      go_wp2_with fail
      refine ret_disk2 (p := 2) (q := 3) (by kernel_rfl) rfl w.heap.size (.slice none 0 0) (.slice none 0 0) (.int .i64 1) rfl rfl (by go_simp) (by go_simp) ?_
      exact ⟨_, _, by rw [E2.out], by rw [E1.out]; exact ⟨World.ownsRow_nil _ _ _ _, World.ownsRow_nil _ _ _ _⟩, below_alloc w _⟩

end Go.Proofs.Ytcikgmgkaenpmaa
