/-
  Two metas that came in: their boxes, what their values' bytes say.
-/
import Derived.Test.YtijhbnkfkjfcfaaMeValue
import Derived.Test.YtijhbnkfkjfcfaaMeRets
namespace Go.Proofs.Ytijhbnkfkjfcfaa
set_option maxRecDepth 100000
open Go.RowKit

/-- How things stand within a law of two metas. -/
def GSt (z0 m0 : Int) (v0 : Value) (cs0 : List Int) (z1 m1 : Int) (v1 : Value) (cs1 : List Int) (w W : World) : Prop :=
  Below w.heap.size w W ∧ Ints W v0 cs0 ∧ Ints W v1 cs1 ∧ Cx W w.heap.size 24 [.int .i64 z0, .int .i64 m0, v0] ∧ Cx W (w.heap.size + 1) 24 [.int .i64 z1, .int .i64 m1, v1]
theorem GSt.below {z0 m0 : Int} {v0 : Value} {cs0 : List Int} {z1 m1 : Int} {v1 : Value} {cs1 : List Int} {w W W' : World} (h : GSt z0 m0 v0 cs0 z1 m1 v1 cs1 w W) (hB : Below W.heap.size W W') : GSt z0 m0 v0 cs0 z1 m1 v1 cs1 w W' :=
  ⟨below2 h.1 hB, h.2.1.below hB, h.2.2.1.below hB, h.2.2.2.1.below hB, h.2.2.2.2.below hB⟩
theorem GSt.new (z0 m0 z1 m1 : Int) {v0 v1 : Value} {cs0 cs1 : List Int} {w : World} (h0 : Ints w v0 cs0) (h1 : Ints w v1 cs1) :
    GSt z0 m0 v0 cs0 z1 m1 v1 cs1 w ((w.alloc (.cells #[.int .i64 z0, .int .i64 m0, v0] 24)).alloc (.cells #[.int .i64 z1, .int .i64 m1, v1] 24)) := by
  have hB := below_alloc2 w (.cells #[.int .i64 z0, .int .i64 m0, v0] 24) (.cells #[.int .i64 z1, .int .i64 m1, v1] 24)
  refine ⟨hB, h0.below hB, h1.below hB, (Cx.new w 24 [.int .i64 z0, .int .i64 m0, v0]).below (below_alloc _ _), ?_⟩
  have := Cx.new (w.alloc (.cells #[.int .i64 z0, .int .i64 m0, v0] 24)) 24 [.int .i64 z1, .int .i64 m1, v1]
  rw [World.size_alloc] at this
  exact this
theorem vGone (z d : Int) (v : Value) (cs : List Int) (w : World) (hv : Ints w v cs) (hl : cs.length ≤ 1000000) :
    Calls Try.prog 13 #[MV z d v, .bool true] w fun e w' => e = .returned (.tuple #[.string ⟨#[0]⟩, .int .i64 0]) ∧ Below w.heap.size w w' := mValue_calls z d v cs true w hv hl
/-- Two values' bytes are the same just where the metas are. -/
theorem vals_eq {z0 m0 : Int} {cs0 : List Int} {z1 m1 : Int} {cs1 : List Int} (h : metaB z0 m0 cs0 = true) (h' : metaB z1 m1 cs1 = true) : ((1 :: metaT z0 m0 cs0) == (1 :: metaT z1 m1 cs1)) = sameM z0 m0 cs0 z1 m1 cs1 := by
  cases hs : sameM z0 m0 cs0 z1 m1 cs1 with
  | true =>
    have := sameM_iff.1 hs
    simp only [Prod.mk.injEq] at this
    obtain ⟨rfl, rfl, rfl⟩ := this
    simp
  | false =>
    rw [beq_eq_false_iff_ne]
    intro e
    have e2 := (List.cons.inj e).2
    have := metaT_inj h h' (r := []) (r' := []) (by simpa using e2)
    rw [sameM_iff.2 this] at hs
    cases hs

end Go.Proofs.Ytijhbnkfkjfcfaa
