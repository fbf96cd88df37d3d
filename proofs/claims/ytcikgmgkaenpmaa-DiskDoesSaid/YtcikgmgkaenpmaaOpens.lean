/-
  Arguments that came in, opened: disks, rows of writes, rows of bools.
-/
import Derived.Test.YtcikgmgkaenpmaaKept
import Derived.Lib.SmallJoins
import Derived.Deep.SlicePairs
import Derived.Deep.Grids
namespace Go.Proofs.Ytcikgmgkaenpmaa
open Go.RowKit Go.Joins Go.ChangeShapes Go.WideShapes Go.Deep

/-- A row of strings reads as some texts. -/
theorem txts_trod {W : World} {n : Nat} {v : Value} {H : Type} {enc : TypeId × Value → H} {x : DataW H × List MemPlace}
    (hf : DataW.trod enc Try.prog W 0 (fun _ => true) true n 22 [v] = some x) : ∃ ls : List (List UInt8), Txts W v ls ∧ ls.length ≤ maxLen := by
  rcases open_strings Try.underlying22 Try.underlying9 (by kernel_rfl) hf with ⟨hcs, _⟩ | ⟨a, l, c, ss, hcs, _, hl, hm, hz, _, hcell, _⟩
  · simp at hcs
    subst hcs
    exact ⟨[], Txts.nil W, by simp⟩
  · simp at hcs
    subst hcs
    have hz' : ss.length = c := by simpa using hz
    have hll : ((ss.take l).map fun s => s.data.toList).length = l := by simp; omega
    refine ⟨(ss.take l).map fun s => s.data.toList, ⟨some a, c, by rw [hll], by rw [hll]; omega, ?_⟩, by rw [hll]; omega⟩
    by_cases h0 : l = 0
    · left; subst h0; simp
    · right
      obtain ⟨b, off, spot⟩ := a
      have hspot : spot = none := by simpa [Addr.add] using World.cell?_spot (hcell 0 (by omega))
      subst hspot
      refine ⟨b, off, rfl, fun i hi => ?_⟩
      rw [hll] at hi
      have h1 := hcell i (by omega)
      rw [Go.WideShapes.add_plain] at h1
      rw [h1]
      have hi2 : i < ss.length := by omega
      simp [List.getD, List.getElem?_eq_getElem hi2, SV]

/-- A row of writes reads as some writes. -/
theorem wrs_trod {W : World} {n : Nat} {v : Value} {H : Type} {enc : TypeId × Value → H} {x : DataW H × List MemPlace}
    (hf : DataW.trod enc Try.prog W 0 (fun _ => true) true n 23 [v] = some x) : ∃ ws : List Wr, Wrs W v ws ∧ ws.length ≤ maxLen := by
  rcases open_slice_pairs Try.underlying23 Try.underlying40 (by kernel_rfl) rfl rfl (by kernel_rfl) (by kernel_rfl) hf with ⟨hcs, _⟩ | ⟨a, l, c, m, k, V0, V1, D0, D1, P0, P1, hcs, _, hl, hm, hz, _, hcell⟩
  · simp at hcs
    subst hcs
    exact ⟨[], Wrs.nil W, by simp⟩
  · simp at hcs
    subst hcs
    have hz' : m = c := by simpa using hz
    have each : ∀ i, i < m → ∃ y : Wr, W.cell? (a.add (i * 2)) = some (.int .i64 y.1) ∧ W.cell? (a.add (i * 2 + 1)) = some (SV y.2) := by
      intro i hi
      obtain ⟨h0, h1, t0, t1⟩ := hcell i hi
      obtain ⟨z, e0, _, _⟩ := DataW.trod_int Try.underlying3 t0
      obtain ⟨s, e1, _, _⟩ := DataW.trod_string Try.underlying9 t1
      simp at e0 e1
      exact ⟨(z, s.data.toList), by rw [h0, e0], by rw [h1, e1, SV_data]⟩
    obtain ⟨Y, hY⟩ := choose_lt each
    have hll : ((List.range l).map Y).length = l := by simp
    refine ⟨(List.range l).map Y, ⟨wcells_len _, some a, c, by rw [hll], by rw [hll]; omega, ?_⟩, by rw [hll]; omega⟩
    by_cases h0 : l = 0
    · left; rw [hll]; exact h0
    · right
      obtain ⟨b, off, spot⟩ := a
      have hspot : spot = none := by simpa [Addr.add] using World.cell?_spot (hY 0 (by omega)).1
      subst hspot
      refine ⟨b, off, rfl, fun j hj => ?_⟩
      have hj2 : j < l * 2 := by rw [wcells_len, hll] at hj; exact hj
      have hq : j / 2 < l := by omega
      obtain ⟨e0, e1⟩ := wcells_at ((List.range l).map Y) (j / 2) (by rw [hll]; exact hq)
      obtain ⟨y0, y1⟩ := hY (j / 2) (by omega)
      rw [Go.WideShapes.add_plain] at y0 y1
      simp only [List.getElem_map, List.getElem_range] at e0 e1
      rcases Nat.mod_two_eq_zero_or_one j with h | h
      · have ej : j / 2 * 2 = j := by omega
        rw [ej] at e0 y0
        rw [y0, ← e0, List.getElem?_eq_getElem hj]
      · have ej : j / 2 * 2 + 1 = j := by omega
        rw [ej] at e1 y1
        rw [y1, ← e1, List.getElem?_eq_getElem hj]

/-- A row of bools reads as some bools. -/
theorem bools_trod {W : World} {n : Nat} {v : Value} {H : Type} {enc : TypeId × Value → H} {x : DataW H × List MemPlace}
    (hf : DataW.trod enc Try.prog W 0 (fun _ => true) true n 26 [v] = some x) : ∃ ks : List Bool, Bools W v ks ∧ ks.length ≤ maxLen := by
  rcases open_bools Try.underlying26 Try.underlying4 (by kernel_rfl) hf with ⟨hcs, _⟩ | ⟨a, l, c, B, hcs, _, hl, hm, _, hcell⟩
  · simp at hcs
    subst hcs
    exact ⟨[], Bools.nil W, by simp⟩
  · simp at hcs
    subst hcs
    have hll : ((List.range l).map B).length = l := by simp
    refine ⟨(List.range l).map B, ⟨by simp, some a, c, by rw [hll], by rw [hll]; omega, ?_⟩, by rw [hll]; omega⟩
    by_cases h0 : l = 0
    · left; rw [hll]; exact h0
    · right
      obtain ⟨b, off, spot⟩ := a
      have hspot : spot = none := by simpa [Addr.add] using World.cell?_spot (hcell 0 (by omega))
      subst hspot
      refine ⟨b, off, rfl, fun j hj => ?_⟩
      have hj2 : j < l := by simpa using hj
      have h1 := hcell j (by omega)
      rw [Go.WideShapes.add_plain] at h1
      rw [h1]
      simp

theorem diskCells : Try.prog.cellsOf 25 = 2 := by kernel_rfl
/-- A disk that came in. -/
theorem disk_open {W : World} {base : Nat} {v : Value} {H : Type} {enc : TypeId × Value → H} {d : DataW H} {p : List MemPlace} (hv : Value.okWide Try.prog W .any base 25 v)
    (h : DataW.Trod enc Try.prog W 0 (fun _ => true) true 25 v d p) : ∃ vb vw bs ws, v = .agg #[vb, vw] ∧ Txts W vb bs ∧ Wrs W vw ws ∧ bs.length ≤ maxLen ∧ ws.length ≤ maxLen := by
  obtain ⟨c0, c1, y0, y1, n, rfl, _, _, t0, t1⟩ := open_agg2 Try.underlying25 (by kernel_rfl) diskCells hv h
  obtain ⟨bs, hb, hbl⟩ := txts_trod t0
  obtain ⟨ws, hw, hwl⟩ := wrs_trod t1
  exact ⟨c0, c1, bs, ws, rfl, hb, hw, hbl, hwl⟩
theorem writes_open {W : World} {base : Nat} {v : Value} {H : Type} {enc : TypeId × Value → H} {d : DataW H} {p : List MemPlace} (hv : Value.okWide Try.prog W .any base 23 v)
    (h : DataW.Trod enc Try.prog W 0 (fun _ => true) true 23 v d p) : ∃ ws, Wrs W v ws ∧ ws.length ≤ maxLen := by
  obtain ⟨a0, len, cap, rfl⟩ := okWide_slice Try.underlying23 hv
  obtain ⟨fuel, hf⟩ := h
  exact wrs_trod (by simpa [Value.cells] using hf)
theorem bools_open {W : World} {base : Nat} {v : Value} {H : Type} {enc : TypeId × Value → H} {d : DataW H} {p : List MemPlace} (hv : Value.okWide Try.prog W .any base 26 v)
    (h : DataW.Trod enc Try.prog W 0 (fun _ => true) true 26 v d p) : ∃ ks, Bools W v ks ∧ ks.length ≤ maxLen := by
  obtain ⟨a0, len, cap, rfl⟩ := okWide_slice Try.underlying26 hv
  obtain ⟨fuel, hf⟩ := h
  exact bools_trod (by simpa [Value.cells] using hf)

end Go.Proofs.Ytcikgmgkaenpmaa
