/-
  path.Is.
-/
import Derived.Test.YtaoiiocgnnjnnaaDoorPName
namespace Go.Proofs.YtaoiiocgnnjnnaaDoor
open Go.RowKit

theorem is_calls (s : List UInt8) (hl : s.length ≤ 9223372036854775807) (w : World) (hm : Ml w) :
    Calls Tryd.prog 24 #[.string ⟨s.toArray⟩] w fun e w' => e = .returned (.bool (isP s)) ∧ Below w.heap.size w w' := by
  cases hn : namesOf s with
  | none =>
    rw [isP_none hn]
    have H := Lib.hid hn
    clear hn
    go_enter Tryd.func24, Tryd.ntmps24
    go_wp2_with (go_at_call 28; refine (names_not H.out hl _ hm).mono ?_; rintro e w1 ⟨rfl, hB⟩)
    go_ret
    exact ⟨rfl, hB⟩
  | some l =>
    rw [isP_of hn]
    have H := Lib.hid hn
    clear hn
    go_enter Tryd.func24, Tryd.ntmps24
    go_wp2_with (go_at_call 28; refine (names_is H.out _ hm).mono ?_; rintro e w1 ⟨v, rfl, _, hB⟩)
    go_ret
    exact ⟨rfl, hB⟩

end Go.Proofs.YtaoiiocgnnjnnaaDoor
