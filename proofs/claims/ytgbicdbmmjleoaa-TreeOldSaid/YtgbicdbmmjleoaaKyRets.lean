/-
  A key and an error's number as results.
-/
import Derived.Test.YtgbicdbmmjleoaaCell
namespace Go.Proofs.Ytgbicdbmmjleoaa
open Go.RowKit

theorem key_size : (Try.prog.info? 24).map (·.size) = some 2 := by kernel_rfl
theorem load_key (w : World) (g : Nat) (v0 v1 : Value) (c0 : w.cell? ⟨g, 0, none⟩ = some v0) (c1 : w.cell? ⟨g, 1, none⟩ = some v1) : (loadVar 24 ⟨g, 0, none⟩).run Try.prog w = .ok (.agg #[v0, v1]) w :=
  load_two Try.underlying24 key_size w g 0 v0 v1 c0 c1
/-- A key and an error's number are what comes out of a call. -/
theorem ret_key2 {fn : Func} {p q : Tmp} {R : Ending → World → Prop} {a : Act} {w : World} (h : fn.results = #[.cell p 24, .tmp q]) (hd : a.defers = []) (g : Nat) (v0 v1 v2 : Value) (hp : a.tmps.getD p undef = .pointer (some ⟨g, 0, none⟩))
    (hq : a.tmps.getD q undef = v2) (c0 : w.cell? ⟨g, 0, none⟩ = some v0) (c1 : w.cell? ⟨g, 1, none⟩ = some v1) (hR : R (.returned (.tuple #[.agg #[v0, v1], v2])) w) : bodyPost Try.prog fn R .ret a w := by
  refine bodyPost_ret (v := .tuple #[.agg #[v0, v1], v2]) ?_ hd hR
  have hp' : a.tmps[p]?.getD undef = .pointer (some ⟨g, 0, none⟩) := by simpa using hp
  have hq' : a.tmps[q]?.getD undef = v2 := by simpa using hq
  simp [results, h, hp', hq', asAddr, load_key w g v0 v1 c0 c1]

theorem Cx.two {w : World} {b : Nat} {t : TypeId} {v0 v1 : Value} (h : Cx w b t [v0, v1]) : w.cell? ⟨b, 0, none⟩ = some v0 ∧ w.cell? ⟨b, 1, none⟩ = some v1 ∧ w.frozen? ⟨b, 0, none⟩ = false ∧ w.frozen? ⟨b, 1, none⟩ = false ∧ b < w.heap.size :=
  ⟨h.cell rfl, h.cell rfl, h.frozen _, h.frozen _, h.lt⟩
theorem Cx.sets {w : World} {b : Nat} {t : TypeId} {v0 v1 : Value} (h : Cx w b t [v0, v1]) (x y : Value) : Cx ((w.setCell ⟨b, 0, none⟩ x).setCell ⟨b, 1, none⟩ y) b t [x, y] := (h.set 0 x).set 1 y
theorem below_sets {B : Nat} {w w' : World} {b : Nat} (h : Below B w w') (hb : B ≤ b) (x y : Value) : Below B w ((w'.setCell ⟨b, 0, none⟩ x).setCell ⟨b, 1, none⟩ y) := (h.setCell hb _).setCell hb _

end Go.Proofs.Ytgbicdbmmjleoaa
