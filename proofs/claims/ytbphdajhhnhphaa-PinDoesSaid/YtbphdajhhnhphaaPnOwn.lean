/-
  sexton/sextonref17.Own: a row of one's own that reads as another one.
-/
import Derived.Test.YtbphdajhhnhphaaPns
namespace Go.Proofs.Ytbphdajhhnhphaa
set_option maxRecDepth 100000
open Go.RowKit

set_option maxHeartbeats 2000000 in
theorem refPnown_calls (v : Value) (l : List Pn) (w : World) (h : Pns w v l) (hl : l.length ≤ 100000) :
    Calls Try.prog 8 #[v] w fun e w' => ∃ u, e = .returned u ∧ OwnPn w' w.heap.size u l ∧ Below w.heap.size w w' := by
  obtain ⟨ao, cap, rfl⟩ := h.form
  have HH := Lib.hid h
  clear h
  go_enter Try.func8, Try.ntmps8
  go_wp2_with (at_builtin; refine app_pns rfl _ _ rfl w.heap.size _ [] rfl (OwnOf.nil _ _) _ _ _ l rfl HH.out l rfl l.length rfl (by omega) w (Below.refl _ _) (Nat.le_refl _) ?_; intro a1 c1 w1 ho1 hB1)
  go_ret
  exact ⟨_, rfl, ho1, hB1⟩

end Go.Proofs.Ytbphdajhhnhphaa
