/-
  tree: a tree in memory; New, top.
-/
import Derived.Test.YtgbicdbmmjleoaaTrRel
import Derived.Deep.RegionHeld3
namespace Go.Proofs.Ytgbicdbmmjleoaa
open Go.RowKit

/-- The value v is a tree of these pairs, which rise. -/
def TreeV (w : World) (v : Value) (l : List Pr) : Prop :=
  Rises l ∧ ((v = .pointer none ∧ l = []) ∨ ∃ g u, v = .pointer (some ⟨g, 0, none⟩) ∧ w.cell? ⟨g, 0, none⟩ = some u ∧ ((u = .nilIface ∧ l = []) ∨ ∃ d n, Vx d w u l n))
theorem TreeV.below {w w' : World} {v : Value} {l : List Pr} (h : TreeV w v l) (hb : Below w.heap.size w w') : TreeV w' v l := by
  obtain ⟨hr, ⟨hv, hl⟩ | ⟨g, u, hv, hc, hu⟩⟩ := h
  · exact ⟨hr, .inl ⟨hv, hl⟩⟩
  · refine ⟨hr, .inr ⟨g, u, hv, look_below hb hc, ?_⟩⟩
    rcases hu with hu | ⟨d, n, hu⟩
    · exact .inl hu
    · exact .inr ⟨d, n, hu.below hb⟩
theorem TreeV.none (w : World) : TreeV w (.pointer none) [] := ⟨List.Pairwise.nil, .inl ⟨rfl, rfl⟩⟩
theorem Vx.iface {w : World} {d : Nat} {v : Value} {l : List Pr} {n : Nat} (h : Vx d w v l n) : ∃ T u, v = .iface T u := by
  cases d with
  | zero =>
    obtain ⟨_, u, rfl, _⟩ := h
    exact ⟨_, _, rfl⟩
  | succ d =>
    obtain ⟨_, _, _, _, rfl, _⟩ := h
    exact ⟨_, _, rfl⟩
theorem leaf_nil (w : World) : Vx 0 w (.iface 66 (.slice none 0 0)) [] 0 := ⟨rfl, _, rfl, Prs.nil w⟩

theorem top_eqTo (T : TypeId) (u : Value) (w : World) : (binOp .eql 53 (.iface T u) .nilIface).run Try.prog w = .ok (.bool false) w := by
  rfl

set_option maxHeartbeats 1000000 in
theorem top_calls (v : Value) (l : List Pr) (w : World) (ht : TreeV w v l) :
   Calls Try.prog 28 #[v] w fun e w' => w' = w ∧ ∃ u d n, e = .returned u ∧ Vx d w u l n := by
  obtain ⟨_, ⟨rfl, rfl⟩ | ⟨g, u, rfl, hc, ⟨rfl, rfl⟩ | ⟨d, n, hu⟩⟩⟩ := ht
  · go_enter Try.func28, Try.ntmps28
    go_wp2_with fail
    go_ret
    exact ⟨rfl, _, 0, 0, rfl, leaf_nil w⟩
  · go_enter Try.func28, Try.ntmps28
    go_wp2_with fail
    go_ret
    exact ⟨rfl, _, 0, 0, rfl, leaf_nil w⟩
  · obtain ⟨T, u, rfl⟩ := hu.iface
    have HU := Lib.hid hu
    have he := top_eqTo T u
    clear hu
    go_enter Try.func28, Try.ntmps28
    go_wp2_with fail
    go_ret
    exact ⟨rfl, _, d, n, rfl, HU.out⟩

theorem new_calls (w : World) : Calls Try.prog 9 #[] w fun e w' => ∃ v, e = .returned v ∧ TreeV w' v [] ∧ Below w.heap.size w w' := by
  go_enter Try.func9, Try.ntmps9
  go_wp2_with fail
  go_ret
  exact ⟨_, rfl, ⟨List.Pairwise.nil, .inr ⟨_, _, rfl, by rw [World.cell?_alloc_new]; rfl, .inl ⟨rfl, rfl⟩⟩⟩, below_alloc _ _⟩

end Go.Proofs.Ytgbicdbmmjleoaa
