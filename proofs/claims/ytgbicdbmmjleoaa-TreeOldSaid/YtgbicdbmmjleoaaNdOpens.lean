/-
  Pairs that came in, opened: one, and a row of them.
-/
import Derived.Test.YtgbicdbmmjleoaaPrs
import Derived.Lib.SmallJoins
import Derived.Deep.Grids
import Derived.ChangeSame
namespace Go.Proofs.Ytgbicdbmmjleoaa
open Go.RowKit Go.Joins Go.ChangeShapes Go.WideShapes Go.Deep

theorem pairCells : Try.prog.cellsOf 31 = 3 := by kernel_rfl
theorem keyCells2 : Try.prog.cellsOf 24 = 2 := by kernel_rfl
/-- Three cells that are a pair. -/
theorem pair_trod {W : World} {n : Nat} {H : Type} {enc : TypeId × Value → H} {x : DataW H × List MemPlace} {c0 c1 c2 : Value}
    (hf : DataW.trod enc Try.prog W 0 (fun _ => true) true n 31 [c0, c1, c2] = some x) : ∃ y : Pr, c0 = .string ⟨y.1.1.toArray⟩ ∧ c1 = .int .i64 y.1.2 ∧ c2 = .string ⟨y.2.toArray⟩ := by
  obtain ⟨y0, y1, k, _, _, g0, g1⟩ := trod_struct2 Try.underlying31 hf
  have k0 : Try.prog.cellsOf 24 = 2 := keyCells2
  have k1 : Try.prog.cellsOf 9 = 1 := by kernel_rfl
  have k2 : Try.prog.cellsOf 3 = 1 := by kernel_rfl
  simp [k0] at g0
  simp [k1] at g1
  obtain ⟨z0, z1, j, _, _, f0, f1⟩ := trod_struct2 Try.underlying24 g0
  simp [k1] at f0
  simp [k2] at f1
  obtain ⟨s0, e0, _, _⟩ := DataW.trod_string Try.underlying9 f0
  obtain ⟨z, e1, _, _⟩ := DataW.trod_int Try.underlying3 f1
  obtain ⟨s2, e2, _, _⟩ := DataW.trod_string Try.underlying9 g1
  simp at e0 e1 e2
  subst e0
  subst e1
  subst e2
  obtain ⟨l0, rfl⟩ := bytes_list s0
  obtain ⟨l2, rfl⟩ := bytes_list s2
  exact ⟨((l0, z), l2), rfl, rfl, rfl⟩

set_option maxRecDepth 100000 in
/-- A pair that came in. -/
theorem pair_open {W : World} {base : Nat} {v : Value} {H : Type} {enc : TypeId × Value → H} {d : DataW H} {p : List MemPlace} (hv : Value.okWide Try.prog W .any base 31 v)
    (h : DataW.Trod enc Try.prog W 0 (fun _ => true) true 31 v d p) : ∃ (q : List UInt8) (z : Int) (s : List UInt8), v = .agg #[.string ⟨q.toArray⟩, .int .i64 z, .string ⟨s.toArray⟩] := by
  obtain ⟨cs, rfl, hsz⟩ := okWide_struct Try.underlying31 hv
  obtain ⟨c0, c1, c2, rfl⟩ := array3 (hsz.trans pairCells)
  obtain ⟨fuel, hf⟩ := h
  obtain ⟨y, rfl, rfl, rfl⟩ := pair_trod (by simpa [Value.cells] using hf)
  exact ⟨_, _, _, rfl⟩

/-- A row of pairs. -/
theorem prs_trod {W : World} {n : Nat} {v : Value} {H : Type} {enc : TypeId × Value → H} {x : DataW H × List MemPlace}
    (hf : DataW.trod enc Try.prog W 0 (fun _ => true) true n 28 [v] = some x) : ∃ l : List Pr, Prs W v l ∧ l.length ≤ maxLen := by
  rcases open_slice Try.underlying28 hf with ⟨hcs, _⟩ | ⟨a, l, c, m, k, D, Pl, hcs, _, hl, hm, hz, _, hcell⟩
  · simp at hcs
    subst hcs
    exact ⟨[], Prs.nil W, by simp⟩
  · simp at hcs
    subst hcs
    have hz' : m = c := by simpa using hz
    rw [pairCells] at hcell
    have each : ∀ i, i < m → ∃ y : Pr, W.cell? (a.add (i * 3)) = some (.string ⟨y.1.1.toArray⟩) ∧ W.cell? (a.add (i * 3 + 1)) = some (.int .i64 y.1.2) ∧ W.cell? (a.add (i * 3 + 2)) = some (.string ⟨y.2.toArray⟩) := by
      intro i hi
      obtain ⟨cs', h1, h2⟩ := hcell i hi
      obtain ⟨_, hlen, hc⟩ := World.cells?_some h1
      match cs', hlen with
      | [v0, v1, v2], _ =>
        have e0 := hc 0 (by omega)
        have e1 := hc 1 (by omega)
        have e2 := hc 2 (by omega)
        rw [add_add] at e0 e1 e2
        obtain ⟨y, rfl, rfl, rfl⟩ := pair_trod h2
        exact ⟨y, by simpa using e0, by simpa using e1, by simpa using e2⟩
    obtain ⟨Y, hY⟩ := choose_lt each
    have hll : ((List.range l).map Y).length = l := by simp
    refine ⟨(List.range l).map Y, ⟨pcells_len _, some a, c, by rw [hll], by rw [hll]; omega, ?_⟩, by rw [hll]; omega⟩
    by_cases h0 : l = 0
    · left; rw [hll]; exact h0
    · right
      obtain ⟨b, off, spot⟩ := a
      have hspot : spot = none := by simpa [Addr.add] using World.cell?_spot (hY 0 (by omega)).1
      subst hspot
      refine ⟨b, off, rfl, fun j hj => ?_⟩
      have hj2 : j < l * 3 := by rw [pcells_len, hll] at hj; exact hj
      have hq : j / 3 < l := by omega
      obtain ⟨e0, e1, e2⟩ := pcells_at ((List.range l).map Y) (j / 3) (by rw [hll]; exact hq)
      obtain ⟨y0, y1, y2⟩ := hY (j / 3) (by omega)
      rw [Go.WideShapes.add_plain] at y0 y1 y2
      simp only [List.getElem_map, List.getElem_range] at e0 e1 e2
      rcases (by omega : j % 3 = 0 ∨ j % 3 = 1 ∨ j % 3 = 2) with h | h | h
      · have ej : j / 3 * 3 = j := by omega
        rw [ej] at e0 y0
        rw [y0, ← e0, List.getElem?_eq_getElem hj]
      · have ej : j / 3 * 3 + 1 = j := by omega
        rw [ej] at e1 y1
        rw [y1, ← e1, List.getElem?_eq_getElem hj]
      · have ej : j / 3 * 3 + 2 = j := by omega
        rw [ej] at e2 y2
        rw [y2, ← e2, List.getElem?_eq_getElem hj]
set_option maxRecDepth 100000 in
theorem prs_open {W : World} {base : Nat} {v : Value} {H : Type} {enc : TypeId × Value → H} {d : DataW H} {p : List MemPlace} (hv : Value.okWide Try.prog W .any base 28 v)
    (h : DataW.Trod enc Try.prog W 0 (fun _ => true) true 28 v d p) : ∃ l : List Pr, Prs W v l ∧ l.length ≤ maxLen := by
  obtain ⟨a0, len, cap, rfl⟩ := okWide_slice Try.underlying28 hv
  obtain ⟨fuel, hf⟩ := h
  exact prs_trod (by simpa [Value.cells] using hf)

end Go.Proofs.Ytgbicdbmmjleoaa
