/-
  The row's condition on crc's table, in the words of the walks; a byte that came in.
-/
import Derived.Test.YtinbeapkhmcifaaDoorStep
import Derived.Lib.LaidTab
import Derived.MakeChecks
namespace Go.Proofs.YtinbeapkhmcifaaDoor

theorem tab_ok {W : World} (h : laidMetH Tryd.prog [("sexton/crc.halfSteps", Rows.laid_sexton_crc_halfSteps)] W) : TabOk W := by
  rw [MakeChecks.laidMetH_plain _ _ _ (by kernel_rfl)] at h
  have hT := Lib.tabIs_of_head (P := Tryd.prog) (name := "sexton/crc.halfSteps") (g := 0) (k := .u32) (zs := tabN.map fun n : Nat => (n : Int)) (rest := []) (n := 16) (by kernel_rfl) (by kernel_rfl) Tryd.underlying74 Tryd.underlying55 (by kernel_rfl) (by kernel_rfl) h
  intro i hi
  have hl : tabN.length = 16 := rfl
  rw [hT.cell (by kernel_rfl) i (by rw [List.length_map]; omega)]
  simp only [List.getD_eq_getElem?_getD, List.getElem?_map]
  rw [List.getElem?_eq_getElem (by omega)]
  rfl
theorem byte_of {n : Int} (h : (Lit.int .u8 n).wf = true) : ∃ b : UInt8, n = (b.toNat : Int) := by
  simp only [Lit.wf, IntKind.min, IntKind.max, IntKind.signed, IntKind.bits, Bool.and_eq_true] at h
  obtain ⟨h0, h1⟩ := h
  refine ⟨UInt8.ofNat n.toNat, ?_⟩
  simp at h0 h1 ⊢
  omega

end Go.Proofs.YtinbeapkhmcifaaDoor
