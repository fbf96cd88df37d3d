/-
  A row of structs that came in, opened: each element is k cells. No function and no type is named here.
-/
import Derived.Test.YtbphdajhhnhphaaRowOf
import Derived.Lib.SmallJoins
import Derived.Deep.Grids
import Derived.ChangeSame
namespace Go.Proofs.Ytbphdajhhnhphaa
set_option maxRecDepth 100000
open Go.RowKit Go.Joins Go.ChangeShapes Go.WideShapes Go.Deep

/-- A row whose elements are told by 'each'. -/
theorem rowOf_trod {α : Type} [Inhabited α] {cell : α → List Value} {k : Nat} (hk0 : 0 < k) (hkl : ∀ x, (cell x).length = k) {t e : TypeId} (ht : Try.prog.underlying t = some (.slice e)) (he : Try.prog.cellsOf e = k) {W : World} {n : Nat} {v : Value} {H : Type} {enc : TypeId × Value → H} {x : DataW H × List MemPlace}
    (P : α → Prop) (each : ∀ (m : Nat) cs y, DataW.trod enc Try.prog W 0 (fun _ => true) true m e cs = some y → cs.length = k → ∃ z : α, cs = cell z ∧ P z)
    (hf : DataW.trod enc Try.prog W 0 (fun _ => true) true n t [v] = some x) : ∃ l : List α, RowOf cell k W v l ∧ l.length ≤ maxLen ∧ ∀ z ∈ l, P z := by
  have hk : ∀ l : List α, (cellsOf cell l).length = l.length * k := by
    intro l
    induction l with
    | nil => simp [cellsOf]
    | cons x r ih => rw [cellsOf_cons, List.length_append, hkl, ih, List.length_cons, Nat.succ_mul, Nat.add_comm]
  have hat : ∀ (l : List α) (i j : Nat) (hi : i < l.length) (u : Value), (cell l[i])[j]? = some u → (cellsOf cell l)[i * k + j]? = some u := by
    intro l
    induction l with
    | nil => intro i j hi; simp at hi
    | cons x r ih =>
      intro i j hi u hj
      have hjk : j < k := by
        obtain ⟨h1, _⟩ := List.getElem?_eq_some_iff.1 hj
        rw [hkl] at h1
        exact h1
      cases i with
      | zero =>
        rw [cellsOf_cons, Nat.zero_mul, Nat.zero_add, List.getElem?_append_left (by rw [hkl]; exact hjk)]
        exact hj
      | succ i =>
        have h1 := ih i j (by simpa using hi) u hj
        rw [cellsOf_cons, List.getElem?_append_right (by rw [hkl, Nat.succ_mul]; omega), hkl]
        rw [show (i + 1) * k + j - k = i * k + j by rw [Nat.succ_mul]; omega]
        exact h1
  rcases open_slice ht hf with ⟨hcs, _⟩ | ⟨a, l, c, m, q, D, Pl, hcs, _, hl, hm, hz, _, hcell⟩
  · simp at hcs
    subst hcs
    exact ⟨[], ⟨by simp [cellsOf], none, 0, rfl, Nat.le_refl _, .inl rfl⟩, by simp, fun z hz => by cases hz⟩
  · simp at hcs
    subst hcs
    have hz' : m = c := by simpa using hz
    rw [he] at hcell
    have all : ∀ i, i < m → ∃ y : α, (∀ j, j < k → W.cell? (a.add (i * k + j)) = (cell y)[j]?) ∧ P y := by
      intro i hi
      obtain ⟨cs', h1, h2⟩ := hcell i hi
      obtain ⟨_, hlen, hc⟩ := World.cells?_some h1
      obtain ⟨y, hy, hp⟩ := each _ _ _ h2 (by simpa using hlen)
      refine ⟨y, fun j hj => ?_, hp⟩
      have e0 := hc j (by omega)
      rw [add_add] at e0
      rw [← hy]
      exact e0
    obtain ⟨Y, hY⟩ := choose_lt all
    have hll : ((List.range l).map Y).length = l := by simp
    refine ⟨(List.range l).map Y, ⟨by rw [hk], some a, c, by rw [hll], by rw [hll]; omega, ?_⟩, by rw [hll]; omega, ?_⟩
    · by_cases h0 : l = 0
      · left; rw [hll]; exact h0
      · right
        obtain ⟨b, off, spot⟩ := a
        have hspot : spot = none := by
          have h1 := (hY 0 (by omega)).1 0 hk0
          rw [List.getElem?_eq_getElem (by rw [hkl]; exact hk0)] at h1
          simpa [Addr.add] using World.cell?_spot h1
        subst hspot
        refine ⟨b, off, rfl, fun j hj => ?_⟩
        have hj2 : j < l * k := by rw [hk, hll] at hj; exact hj
        have hq : j / k < l := (Nat.div_lt_iff_lt_mul hk0).2 hj2
        have hr : j % k < k := Nat.mod_lt _ hk0
        have ej : j / k * k + j % k = j := by rw [Nat.mul_comm]; exact Nat.div_add_mod j k
        have y0 := (hY (j / k) (by omega)).1 (j % k) hr
        rw [Go.WideShapes.add_plain, ej] at y0
        have hz0 : (cell (((List.range l).map Y)[j / k]'(by rw [hll]; exact hq)))[j % k]? = some ((cell (Y (j / k)))[j % k]'(by rw [hkl]; exact hr)) := by
          rw [List.getElem_map, List.getElem_range, List.getElem?_eq_getElem]
        have h2 := hat ((List.range l).map Y) (j / k) (j % k) (by rw [hll]; exact hq) _ hz0
        rw [ej, List.getElem?_eq_getElem hj] at h2
        rw [y0, List.getElem?_eq_getElem (by rw [hkl]; exact hr)]
        exact h2.symm
    · intro z hz
      obtain ⟨r, hr, rfl⟩ := List.mem_map.1 hz
      exact (hY r (by have := List.mem_range.1 hr; omega)).2
/-- A row that is an argument. -/
theorem rowOf_open {α : Type} [Inhabited α] {cell : α → List Value} {k : Nat} (hk0 : 0 < k) (hkl : ∀ x, (cell x).length = k) {t e : TypeId} (ht : Try.prog.underlying t = some (.slice e)) (he : Try.prog.cellsOf e = k) {W : World} {base : Nat} {v : Value} {H : Type} {enc : TypeId × Value → H} {d : DataW H} {p : List MemPlace}
    (P : α → Prop) (each : ∀ (m : Nat) cs y, DataW.trod enc Try.prog W 0 (fun _ => true) true m e cs = some y → cs.length = k → ∃ z : α, cs = cell z ∧ P z)
    (hv : Value.okWide Try.prog W .any base t v) (h : DataW.Trod enc Try.prog W 0 (fun _ => true) true t v d p) : ∃ l : List α, RowOf cell k W v l ∧ l.length ≤ maxLen ∧ ∀ z ∈ l, P z := by
  obtain ⟨a0, len0, cap0, rfl⟩ := okWide_slice ht hv
  obtain ⟨fuel, hf⟩ := h
  exact rowOf_trod hk0 hkl ht he P each (by simpa [Value.cells] using hf)

end Go.Proofs.Ytbphdajhhnhphaa
