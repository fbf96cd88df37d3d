/-
  A row of ints, from the n-th on.
-/
import Derived.Test.YtijhbnkfkjfcfaaInts
import Derived.Lib.SliceRun
namespace Go.Proofs.Ytijhbnkfkjfcfaa
set_option maxRecDepth 100000
open Go.RowKit

theorem int_elem : Try.prog.elem 22 = 3 := by kernel_rfl
theorem int_slice : Try.prog.underlying 22 = some (.slice (Try.prog.elem 22)) := by kernel_rfl
theorem int_size (W : World) : (sizeOf 3).run Try.prog W = .ok 1 W := by
  have h : (Try.prog.info? 3).map (·.size) = some 1 := by kernel_rfl
  cases hq : Try.prog.info? 3 with
  | none => simp [hq] at h
  | some i =>
    have hs : i.size = 1 := by simpa [hq] using h
    simp [sizeOf, typeInfo, hq, hs]
theorem Ints.len {w : World} {ao : Option Addr} {n cap : Nat} {l : List Int} (h : Ints w (.slice ao n cap) l) : n = l.length ∧ n ≤ cap := by
  obtain ⟨_, ao', c, he, hc, _⟩ := h
  cases he
  exact ⟨rfl, hc⟩
theorem Ints.first {w : World} {ao : Option Addr} {n cap : Nat} {l : List Int} (h : Ints w (.slice ao n cap) l) (h0 : l ≠ []) : ∃ b off, ao = some ⟨b, off, none⟩ ∧ ∀ j (hj : j < l.length), w.cell? ⟨b, off + j, none⟩ = some (.int .i64 l[j]) := by
  obtain ⟨_, ao', c, he, _, h1 | ⟨b, off, rfl, hc⟩⟩ := h
  · exact absurd (List.eq_nil_of_length_eq_zero h1) h0
  · cases he
    refine ⟨b, off, rfl, fun j hj => ?_⟩
    have := hc j (by simpa using hj)
    simpa using this
/-- A slice from the n-th int on. -/
theorem ints_from {w : World} {b off k cap : Nat} {l : List Int} (h : Ints w (.slice (some ⟨b, off, none⟩) k cap) l) (n m : Nat) (hn : n ≤ k) (hm : n + m = k) :
    ∃ a1 c1, (∀ W, (Instr.slice 22 (.slice (some ⟨b, off, none⟩) k cap) (some (.int .i64 (n : Int))) none none).run Try.prog W = .ok (.slice a1 m c1) W) ∧ Ints w (.slice a1 m c1) (l.drop n) := by
  obtain ⟨hk, hc⟩ := h.len
  subst hk
  have hm' : m = l.length - n := by omega
  have hr : ∀ W, (Instr.slice 22 (.slice (some ⟨b, off, none⟩) l.length cap) (some (.int .i64 (n : Int))) none none).run Try.prog W = .ok (sliced (some ⟨b, off, none⟩) n l.length cap 1) W := by
    intro W
    rw [run_slice_l W _ _ l.length cap int_slice .i64 n (by omega) (by omega), int_elem, int_size]
    rfl
  unfold sliced at hr
  rw [← hm'] at hr
  refine ⟨_, _, hr, ?_⟩
  have hl : (l.drop n).length = m := by simp; omega
  refine ⟨by simp, _, cap - n, by rw [hl], by rw [hl]; omega, ?_⟩
  rw [hl]
  by_cases h0 : m = 0
  · exact .inl h0
  · have hne : cap ≠ n := by omega
    rw [if_neg hne, Option.map_some, Go.WideShapes.add_plain]
    obtain ⟨b', off', he, hcs⟩ := h.first (by intro e; subst e; simp at hm'; omega)
    cases he
    refine .inr ⟨b, _, rfl, fun j hj => ?_⟩
    have hj2 : j < m := by rw [List.length_map, hl] at hj; exact hj
    have h2 := hcs (n + j) (by omega)
    rw [Nat.mul_one, Nat.add_assoc, h2]
    simp

end Go.Proofs.Ytijhbnkfkjfcfaa
