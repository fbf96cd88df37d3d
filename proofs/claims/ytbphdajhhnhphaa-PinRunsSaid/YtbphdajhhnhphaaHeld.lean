/-
  A region that is walked operation by operation, in the text's order. No function and no type is named here.
-/
import Derived.Test.YtbphdajhhnhphaaGround
import Derived.Deep.RegionHeld3
namespace Go.Proofs.Ytbphdajhhnhphaa
set_option maxRecDepth 100000

/-- The first k of n have come up. -/
def upTo (n : Nat) : Nat → Array Bool
  | 0 => Array.replicate n false
  | k + 1 => (upTo n k).setIfInBounds k true
section
variable {P : Program} {ops : Array Oper} {Q : Exit → Act → World → Prop} {md : Region.Mode} {S : World → Prop} {n k : Nat} {oi : Oper} {fuel : Nat} {a : Act} {w : World}
theorem held0 {id : Nat} (hm : P.follows .mixedOrders = true) (hS : S w.drew) (h : S w.drew → wpAnyH P .any ops Q S ops.size (upTo ops.size 0) a w.drew) : (Code.region id ops true).wp P Q a w :=
  wp_region_held_drew hm hS h
theorem heldU (hS : S w) (hi : ops[k]? = some oi) (hw : Region.wanted oi (yielded ops a.tmps) = false)
    (hs : Region.noSelect ops = true) (hf : Region.free md ops (upTo n k) k = true) (hr : (Region.ready md ops (upTo n k)).contains k = true) (hQ : ∀ c a w, Q (.panic c) (a.put oi.dst undef) w → Q (.panic c) a w)
    (h : wpAnyH P md ops Q S fuel (upTo n (k + 1)) (a.put oi.dst undef) w) : wpAnyH P md ops Q S (fuel + 1) (upTo n k) a w :=
  wpAnyH_take hi hs hf hr hQ (.inr ⟨hw, rfl⟩) hS h
theorem heldT {v : Value} (hS : S w) (hi : ops[k]? = some oi) (hw : Region.wanted oi (yielded ops a.tmps) = true)
    (hs : Region.noSelect ops = true) (hf : Region.free md ops (upTo n k) k = true) (hr : (Region.ready md ops (upTo n k)).contains k = true) (hQ : ∀ c a w, Q (.panic c) (a.put oi.dst v) w → Q (.panic c) a w)
    (hy : ∀ w, S w → (execOp a.eval oi).run P w = .ok (.value v) w)
    (h : wpAnyH P md ops Q S fuel (upTo n (k + 1)) (a.put oi.dst v) w) : wpAnyH P md ops Q S (fuel + 1) (upTo n k) a w :=
  wpAnyH_take hi hs hf hr hQ (.inl ⟨hw, hy⟩) hS h
end

end Go.Proofs.Ytbphdajhhnhphaa
