/-
  Steps that came in, opened. Times that came in are numbers of the program's.
-/
import Derived.Test.YtgbicdbmmjleoaaTrOps
import Derived.Test.YtgbicdbmmjleoaaTrAll
import Derived.Test.YtgbicdbmmjleoaaNdOpens
namespace Go.Proofs.Ytgbicdbmmjleoaa
open Go.RowKit Go.Joins Go.ChangeShapes Go.WideShapes Go.Deep

theorem opCells : Try.prog.cellsOf 33 = 4 := by kernel_rfl
theorem pair_trod2 {W : World} {n : Nat} {H : Type} {enc : TypeId × Value → H} {x : DataW H × List MemPlace} {c0 c1 c2 : Value}
    (hf : DataW.trod enc Try.prog W 0 (fun _ => true) true n 31 [c0, c1, c2] = some x) : ∃ y : Pr, (c0 = .string ⟨y.1.1.toArray⟩ ∧ c1 = .int .i64 y.1.2 ∧ c2 = .string ⟨y.2.toArray⟩) ∧ y.1.2 ≤ 9223372036854775807 := by
  obtain ⟨y0, y1, k, _, _, g0, g1⟩ := trod_struct2 Try.underlying31 hf
  have k0 : Try.prog.cellsOf 24 = 2 := keyCells2
  have k1 : Try.prog.cellsOf 9 = 1 := by kernel_rfl
  have k2 : Try.prog.cellsOf 3 = 1 := by kernel_rfl
  simp [k0] at g0
  simp [k1] at g1
  obtain ⟨z0, z1, j, _, _, f0, f1⟩ := trod_struct2 Try.underlying24 g0
  simp [k1] at f0
  simp [k2] at f1
  obtain ⟨s0, e0, _, _⟩ := DataW.trod_string Try.underlying9 f0
  obtain ⟨z, e1, _, hwf⟩ := DataW.trod_int Try.underlying3 f1
  obtain ⟨s2, e2, _, _⟩ := DataW.trod_string Try.underlying9 g1
  simp at e0 e1 e2
  subst e0
  subst e1
  subst e2
  obtain ⟨l0, rfl⟩ := bytes_list s0
  obtain ⟨l2, rfl⟩ := bytes_list s2
  exact ⟨((l0, z), l2), ⟨rfl, rfl, rfl⟩, (i64_bounds hwf).2⟩
set_option maxRecDepth 100000 in
/-- A pair that came in. -/
theorem pair_open2 {W : World} {base : Nat} {v : Value} {H : Type} {enc : TypeId × Value → H} {d : DataW H} {p : List MemPlace} (hv : Value.okWide Try.prog W .any base 31 v)
    (h : DataW.Trod enc Try.prog W 0 (fun _ => true) true 31 v d p) : ∃ (q : List UInt8) (z : Int) (s : List UInt8), v = .agg #[.string ⟨q.toArray⟩, .int .i64 z, .string ⟨s.toArray⟩] ∧ z ≤ 9223372036854775807 := by
  obtain ⟨cs, rfl, hsz⟩ := okWide_struct Try.underlying31 hv
  obtain ⟨c0, c1, c2, rfl⟩ := array3 (hsz.trans pairCells)
  obtain ⟨fuel, hf⟩ := h
  obtain ⟨y, ⟨rfl, rfl, rfl⟩, hy⟩ := pair_trod2 (by simpa [Value.cells] using hf)
  exact ⟨_, _, _, rfl, hy⟩

/-- A row of pairs. -/
theorem prs_trod2 {W : World} {n : Nat} {v : Value} {H : Type} {enc : TypeId × Value → H} {x : DataW H × List MemPlace}
    (hf : DataW.trod enc Try.prog W 0 (fun _ => true) true n 28 [v] = some x) : ∃ l : List Pr, Prs W v l ∧ l.length ≤ maxLen ∧ Timed l := by
  rcases open_slice Try.underlying28 hf with ⟨hcs, _⟩ | ⟨a, l, c, m, k, D, Pl, hcs, _, hl, hm, hz, _, hcell⟩
  · simp at hcs
    subst hcs
    exact ⟨[], Prs.nil W, by simp, fun x hx => by simp at hx⟩
  · simp at hcs
    subst hcs
    have hz' : m = c := by simpa using hz
    rw [pairCells] at hcell
    have each : ∀ i, i < m → ∃ y : Pr, (W.cell? (a.add (i * 3)) = some (.string ⟨y.1.1.toArray⟩) ∧ W.cell? (a.add (i * 3 + 1)) = some (.int .i64 y.1.2) ∧ W.cell? (a.add (i * 3 + 2)) = some (.string ⟨y.2.toArray⟩)) ∧ y.1.2 ≤ 9223372036854775807 := by
      intro i hi
      obtain ⟨cs', h1, h2⟩ := hcell i hi
      obtain ⟨_, hlen, hc⟩ := World.cells?_some h1
      match cs', hlen with
      | [v0, v1, v2], _ =>
        have e0 := hc 0 (by omega)
        have e1 := hc 1 (by omega)
        have e2 := hc 2 (by omega)
        rw [add_add] at e0 e1 e2
        obtain ⟨y, ⟨rfl, rfl, rfl⟩, hy⟩ := pair_trod2 h2
        exact ⟨y, ⟨by simpa using e0, by simpa using e1, by simpa using e2⟩, hy⟩
    obtain ⟨Y, hY⟩ := choose_lt each
    have hll : ((List.range l).map Y).length = l := by simp
    refine ⟨(List.range l).map Y, ⟨pcells_len _, some a, c, by rw [hll], by rw [hll]; omega, ?_⟩, by rw [hll]; omega, fun x hx => ?_⟩
    · by_cases h0 : l = 0
      · left; rw [hll]; exact h0
      · right
        obtain ⟨b, off, spot⟩ := a
        have hspot : spot = none := by simpa [Addr.add] using World.cell?_spot (hY 0 (by omega)).1.1
        subst hspot
        refine ⟨b, off, rfl, fun j hj => ?_⟩
        have hj2 : j < l * 3 := by rw [pcells_len, hll] at hj; exact hj
        have hq : j / 3 < l := by omega
        obtain ⟨e0, e1, e2⟩ := pcells_at ((List.range l).map Y) (j / 3) (by rw [hll]; exact hq)
        obtain ⟨⟨y0, y1, y2⟩, _⟩ := hY (j / 3) (by omega)
        rw [Go.WideShapes.add_plain] at y0 y1 y2
        simp only [List.getElem_map, List.getElem_range] at e0 e1 e2
        rcases (by omega : j % 3 = 0 ∨ j % 3 = 1 ∨ j % 3 = 2) with h | h | h
        · have ej : j / 3 * 3 = j := by omega
          rw [ej] at e0 y0
          rw [y0, ← e0, List.getElem?_eq_getElem hj]
        · have ej : j / 3 * 3 + 1 = j := by omega
          rw [ej] at e1 y1
          rw [y1, ← e1, List.getElem?_eq_getElem hj]
        · have ej : j / 3 * 3 + 2 = j := by omega
          rw [ej] at e2 y2
          rw [y2, ← e2, List.getElem?_eq_getElem hj]
    · obtain ⟨i, hi, rfl⟩ := List.mem_map.1 hx
      exact (hY i (by have := List.mem_range.1 hi; omega)).2
set_option maxRecDepth 100000 in
theorem prs_open2 {W : World} {base : Nat} {v : Value} {H : Type} {enc : TypeId × Value → H} {d : DataW H} {p : List MemPlace} (hv : Value.okWide Try.prog W .any base 28 v)
    (h : DataW.Trod enc Try.prog W 0 (fun _ => true) true 28 v d p) : ∃ l : List Pr, Prs W v l ∧ l.length ≤ maxLen ∧ Timed l := by
  obtain ⟨a0, len, cap, rfl⟩ := okWide_slice Try.underlying28 hv
  obtain ⟨fuel, hf⟩ := h
  exact prs_trod2 (by simpa [Value.cells] using hf)

/-- Four cells that are a step. -/
theorem stp_trod {W : World} {n : Nat} {H : Type} {enc : TypeId × Value → H} {x : DataW H × List MemPlace} {c0 c1 c2 c3 : Value}
    (hf : DataW.trod enc Try.prog W 0 (fun _ => true) true n 33 [c0, c1, c2, c3] = some x) : ∃ y : Stp, (c0 = .int .i64 y.1 ∧ c1 = .string ⟨y.2.1.1.toArray⟩ ∧ c2 = .int .i64 y.2.1.2 ∧ c3 = .string ⟨y.2.2.toArray⟩) ∧ y.2.1.2 ≤ 9223372036854775807 := by
  obtain ⟨y0, y1, k, _, _, g0, g1⟩ := trod_struct2 Try.underlying33 hf
  have k0 : Try.prog.cellsOf 3 = 1 := by kernel_rfl
  have k1 : Try.prog.cellsOf 31 = 3 := pairCells
  simp [k0] at g0
  simp [k1] at g1
  obtain ⟨z, e0, _, _⟩ := DataW.trod_int Try.underlying3 g0
  simp at e0
  subst e0
  obtain ⟨y, ⟨rfl, rfl, rfl⟩, hy⟩ := pair_trod2 g1
  exact ⟨(z, y), ⟨rfl, rfl, rfl, rfl⟩, hy⟩
/-- A row of steps. -/
theorem stps_trod {W : World} {n : Nat} {v : Value} {H : Type} {enc : TypeId × Value → H} {x : DataW H × List MemPlace}
    (hf : DataW.trod enc Try.prog W 0 (fun _ => true) true n 22 [v] = some x) : ∃ l : List Stp, Stps W v l ∧ l.length ≤ maxLen ∧ Timed (l.map (·.2)) := by
  rcases open_slice Try.underlying22 hf with ⟨hcs, _⟩ | ⟨a, l, c, m, k, D, Pl, hcs, _, hl, hm, hz, _, hcell⟩
  · simp at hcs
    subst hcs
    exact ⟨[], Stps.nil W, by simp, fun x hx => by simp at hx⟩
  · simp at hcs
    subst hcs
    have hz' : m = c := by simpa using hz
    rw [opCells] at hcell
    have each : ∀ i, i < m → ∃ y : Stp, (W.cell? (a.add (i * 4)) = some (.int .i64 y.1) ∧ W.cell? (a.add (i * 4 + 1)) = some (.string ⟨y.2.1.1.toArray⟩) ∧ W.cell? (a.add (i * 4 + 2)) = some (.int .i64 y.2.1.2) ∧ W.cell? (a.add (i * 4 + 3)) = some (.string ⟨y.2.2.toArray⟩)) ∧ y.2.1.2 ≤ 9223372036854775807 := by
      intro i hi
      obtain ⟨cs', h1, h2⟩ := hcell i hi
      obtain ⟨_, hlen, hc⟩ := World.cells?_some h1
      match cs', hlen with
      | [v0, v1, v2, v3], _ =>
        have e0 := hc 0 (by omega)
        have e1 := hc 1 (by omega)
        have e2 := hc 2 (by omega)
        have e3 := hc 3 (by omega)
        rw [add_add] at e0 e1 e2 e3
        obtain ⟨y, ⟨rfl, rfl, rfl, rfl⟩, hy⟩ := stp_trod h2
        exact ⟨y, ⟨by simpa using e0, by simpa using e1, by simpa using e2, by simpa using e3⟩, hy⟩
    obtain ⟨Y, hY⟩ := choose_lt each
    have hll : ((List.range l).map Y).length = l := by simp
    refine ⟨(List.range l).map Y, ⟨ocells_len _, some a, c, by rw [hll], by rw [hll]; omega, ?_⟩, by rw [hll]; omega, fun x hx => ?_⟩
    · by_cases h0 : l = 0
      · left; rw [hll]; exact h0
      · right
        obtain ⟨b, off, spot⟩ := a
        have hspot : spot = none := by simpa [Addr.add] using World.cell?_spot (hY 0 (by omega)).1.1
        subst hspot
        refine ⟨b, off, rfl, fun j hj => ?_⟩
        have hj2 : j < l * 4 := by rw [ocells_len, hll] at hj; exact hj
        have hq : j / 4 < l := by omega
        obtain ⟨e0, e1, e2, e3⟩ := ocells_at ((List.range l).map Y) (j / 4) (by rw [hll]; exact hq)
        obtain ⟨⟨y0, y1, y2, y3⟩, _⟩ := hY (j / 4) (by omega)
        rw [Go.WideShapes.add_plain] at y0 y1 y2 y3
        simp only [List.getElem_map, List.getElem_range] at e0 e1 e2 e3
        rcases (by omega : j % 4 = 0 ∨ j % 4 = 1 ∨ j % 4 = 2 ∨ j % 4 = 3) with h | h | h | h
        · have ej : j / 4 * 4 = j := by omega
          rw [ej] at e0 y0
          rw [y0, ← e0, List.getElem?_eq_getElem hj]
        · have ej : j / 4 * 4 + 1 = j := by omega
          rw [ej] at e1 y1
          rw [y1, ← e1, List.getElem?_eq_getElem hj]
        · have ej : j / 4 * 4 + 2 = j := by omega
          rw [ej] at e2 y2
          rw [y2, ← e2, List.getElem?_eq_getElem hj]
        · have ej : j / 4 * 4 + 3 = j := by omega
          rw [ej] at e3 y3
          rw [y3, ← e3, List.getElem?_eq_getElem hj]
    · obtain ⟨y, hy, rfl⟩ := List.mem_map.1 hx
      obtain ⟨i, hi, rfl⟩ := List.mem_map.1 hy
      exact (hY i (by have := List.mem_range.1 hi; omega)).2
set_option maxRecDepth 100000 in
theorem stps_open {W : World} {base : Nat} {v : Value} {H : Type} {enc : TypeId × Value → H} {d : DataW H} {p : List MemPlace} (hv : Value.okWide Try.prog W .any base 22 v)
    (h : DataW.Trod enc Try.prog W 0 (fun _ => true) true 22 v d p) : ∃ l : List Stp, Stps W v l ∧ l.length ≤ maxLen ∧ Timed (l.map (·.2)) := by
  obtain ⟨a0, len, cap, rfl⟩ := okWide_slice Try.underlying22 hv
  obtain ⟨fuel, hf⟩ := h
  exact stps_trod (by simpa [Value.cells] using hf)

end Go.Proofs.Ytgbicdbmmjleoaa
