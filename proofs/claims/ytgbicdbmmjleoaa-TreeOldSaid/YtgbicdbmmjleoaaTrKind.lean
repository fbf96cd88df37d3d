/-
  Rows of one's own whose cells are all of one kind (pointers; slices): trees and rows of pairs stay while such a row grows.
-/
import Derived.Test.YtgbicdbmmjleoaaTrAll
namespace Go.Proofs.Ytgbicdbmmjleoaa
open Go.RowKit

def isPtr : Value → Bool | .pointer _ => true | _ => false
def isSl : Value → Bool | .slice _ _ _ => true | _ => false
/-- No text, no interface is of this kind. -/
def Kind (K : Value → Bool) : Prop := (∀ s, K (.string s) = false) ∧ (∀ T u, K (.iface T u) = false) ∧ K .nilIface = false
theorem kind_ptr : Kind isPtr := ⟨fun _ => rfl, fun _ _ => rfl, rfl⟩
theorem kind_sl : Kind isSl := ⟨fun _ => rfl, fun _ _ => rfl, rfl⟩
/-- At most one block is another one: of this type, with cells of this kind alone. -/
def StepK (K : Value → Bool) (e : TypeId) (w w' : World) : Prop := w.heap.size ≤ w'.heap.size ∧ ∃ g : Nat, (∀ cur t f, w.heap[g]? = some (.cells cur t f) → t = e ∧ ∀ u ∈ cur.toList, K u = true) ∧ ∀ i, i ≠ g → i < w.heap.size → w'.heap[i]? = w.heap[i]?
theorem StepK.of_below {K : Value → Bool} {e : TypeId} {w w' : World} (h : Below w.heap.size w w') : StepK K e w w' :=
  ⟨h.size, w.heap.size, fun cur t f hg => by
    have := (Array.getElem?_eq_some_iff.1 hg).1
    omega, fun i _ hi => h.block i hi⟩
theorem cell_block {w w' : World} {b o : Nat} (h : w'.heap[b]? = w.heap[b]?) : w'.cell? ⟨b, o, none⟩ = w.cell? ⟨b, o, none⟩ := by
  unfold World.cell?
  rw [h]
/-- A block in which a cell is not of this kind stays. -/
theorem StepK.cell {K : Value → Bool} {e : TypeId} {w w' : World} (h : StepK K e w w') {b o : Nat} {v : Value} (hc : w.cell? ⟨b, o, none⟩ = some v) (hv : K v = false) (o' : Nat) : w'.cell? ⟨b, o', none⟩ = w.cell? ⟨b, o', none⟩ := by
  obtain ⟨_, g, hg, hk⟩ := h
  refine cell_block (hk b (fun e => ?_) (World.block_lt_of_cell? w _ hc))
  subst e
  unfold World.cell? at hc
  dsimp only at hc
  split at hc
  · rename_i c t f hb
    have hcb := hc
    simp only [Option.isSome_none, Bool.false_eq_true, if_false] at hcb
    obtain ⟨ho, hx⟩ := Array.getElem?_eq_some_iff.1 hcb
    have := (hg c t f hb).2 v (by rw [← hx]; exact Array.getElem_mem_toList ho)
    rw [hv] at this
    cases this
  · cases hc
theorem Prs.step {K : Value → Bool} (hK : Kind K) {e : TypeId} {w w' : World} (h : StepK K e w w') {v : Value} {l : List Pr} (hp : Prs w v l) : Prs w' v l := by
  obtain ⟨hl, ao, cap, he, hc, h0 | ⟨b, off, rfl, hcs⟩⟩ := hp
  · exact ⟨hl, ao, cap, he, hc, .inl h0⟩
  · refine ⟨hl, _, cap, he, hc, .inr ⟨b, off, rfl, fun j hj => ?_⟩⟩
    have h0 := hcs 0 (by omega)
    obtain ⟨x, r, rfl⟩ : ∃ x r, l = x :: r := by
      cases l with
      | nil => simp [pcells] at hj
      | cons x r => exact ⟨x, r, rfl⟩
    have e0 : (pcells (x :: r))[0]'(by omega) = .string ⟨x.1.1.toArray⟩ := rfl
    rw [e0, Nat.add_zero] at h0
    rw [h.cell h0 (hK.1 _)]
    exact hcs j hj
theorem Vx.step {K : Value → Bool} (hK : Kind K) {e : TypeId} {w w' : World} (h : StepK K e w w') : ∀ {d : Nat} {v : Value} {l : List Pr} {n : Nat}, Vx d w v l n → Vx d w' v l n
  | 0, _, _, _, ⟨hn, u, hv, hp⟩ => ⟨hn, u, hv, hp.step hK h⟩
  | _ + 1, _, _, _, ⟨g, rv, S, x, hv, hn, h2, hl, hx, c0, c1, c2, c3, hR, hS⟩ => by
    have hc := fun o => h.cell c1 (hK.1 _) o
    refine ⟨g, rv, S, x, hv, hn, h2, hl, hx, (hc 0).trans c0, (hc 1).trans c1, (hc 2).trans c2, (hc 3).trans c3, ?_, fun c hc' => ⟨(hS c hc').1.step hK h, (hS c hc').2⟩⟩
    obtain ⟨hrl, ao, cap, he, hcp, h0 | ⟨b, off, rfl, hcs⟩⟩ := hR
    · exact ⟨hrl, ao, cap, he, hcp, .inl h0⟩
    · refine ⟨hrl, _, cap, he, hcp, .inr ⟨b, off, rfl, fun j hj => ?_⟩⟩
      have hj' := hcs j hj
      rw [← hj']
      have hjS : j < S.length := by simpa using hj
      obtain ⟨T, u, hi⟩ := (hS _ (List.getElem_mem hjS)).1.iface
      refine h.cell hj' ?_ _
      rw [List.getElem_map, hi]
      exact hK.2.1 _ _
theorem TreeV.step {K : Value → Bool} (hK : Kind K) {e : TypeId} {w w' : World} (h : StepK K e w w') {v : Value} {l : List Pr} (ht : TreeV w v l) : TreeV w' v l := by
  obtain ⟨hr, ⟨hv, hl⟩ | ⟨g, u, hv, hc, hu⟩⟩ := ht
  · exact ⟨hr, .inl ⟨hv, hl⟩⟩
  · rcases hu with ⟨rfl, hl⟩ | ⟨d, n, hu⟩
    · exact ⟨hr, .inr ⟨g, _, hv, (h.cell hc hK.2.2 _).trans hc, .inl ⟨rfl, hl⟩⟩⟩
    · obtain ⟨T, x, rfl⟩ := hu.iface
      exact ⟨hr, .inr ⟨g, _, hv, (h.cell hc (hK.2.1 _ _) _).trans hc, .inr ⟨d, n, hu.step hK h⟩⟩⟩

/-- A row of the call's own, all of whose cells, up to its room, are of one kind. -/
def OwnK (w : World) (base : Nat) (e : TypeId) (K : Value → Bool) (v : Value) (xs : List Value) : Prop :=
  ∃ g cap cur, v = .slice (some ⟨g, 0, none⟩) xs.length cap ∧ base ≤ g ∧ w.heap[g]? = some (.cells cur e (0, 0)) ∧ xs.length ≤ cap ∧ cap ≤ maxLen ∧ cur.size = cap ∧ cur.toList.take xs.length = xs ∧ ∀ u ∈ cur.toList, K u = true
theorem OwnK.stays {w w' : World} {base : Nat} {e : TypeId} {K : Value → Bool} {v : Value} {xs : List Value} (h : OwnK w base e K v xs) (hB : Below w.heap.size w w') : OwnK w' base e K v xs := by
  obtain ⟨g, cap, cur, hv, hb, hg, h1⟩ := h
  exact ⟨g, cap, cur, hv, hb, (hB.block g (Array.getElem?_eq_some_iff.1 hg).1).trans hg, h1⟩
theorem OwnK.step {w w' : World} {base : Nat} {e e' : TypeId} {K K' : Value → Bool} {v : Value} {xs : List Value} (h : OwnK w base e K v xs) (hs : StepK K' e' w w') (hne : e ≠ e') : OwnK w' base e K v xs := by
  obtain ⟨g, cap, cur, hv, hb, hg, h1⟩ := h
  obtain ⟨_, g', hg', hk⟩ := hs
  refine ⟨g, cap, cur, hv, hb, (hk g (fun e0 => ?_) (Array.getElem?_eq_some_iff.1 hg).1).trans hg, h1⟩
  subst e0
  exact hne (hg' _ _ _ hg).1
theorem OwnK.form {w : World} {base : Nat} {e : TypeId} {K : Value → Bool} {v : Value} {xs : List Value} (h : OwnK w base e K v xs) : ∃ g cap, v = .slice (some ⟨g, 0, none⟩) xs.length cap ∧ ∀ j (hj : j < xs.length), w.cell? ⟨g, 0 + j, none⟩ = some xs[j] := by
  obtain ⟨g, cap, cur, hv, hb, hg, _, _, hs, ht, _⟩ := h
  refine ⟨g, cap, hv, fun j hj => ?_⟩
  rw [cell_of_row w g (0 + j) _ _ _ hg, Nat.zero_add, ← Array.getElem?_toList]
  have : (cur.toList.take xs.length)[j]? = some xs[j] := by rw [ht, List.getElem?_eq_getElem hj]
  rw [List.getElem?_take] at this
  simpa [hj] using this
theorem OwnK.one {w : World} {e : TypeId} {K : Value → Bool} {u : Value} (hu : K u = true) : OwnK (w.alloc (.cells #[u] e)) w.heap.size e K (.slice (some ⟨w.heap.size, 0, none⟩) 1 1) [u] :=
  ⟨w.heap.size, 1, #[u], rfl, Nat.le_refl _, heap_alloc_new w _, Nat.le_refl _, by unfold maxLen; omega, rfl, rfl, fun x hx => by
    simp at hx
    subst hx
    exact hu⟩
theorem OwnK.weak {w : World} {b b' : Nat} {e : TypeId} {K : Value → Bool} {v : Value} {xs : List Value} (h : OwnK w b' e K v xs) (hb : b ≤ b') : OwnK w b e K v xs := by
  obtain ⟨g, cap, cur, hv, hb', h1⟩ := h
  exact ⟨g, cap, cur, hv, Nat.le_trans hb hb', h1⟩
theorem zeros_all (z0 : Value) (n : Nat) : ∀ u ∈ (Builtin.zeroCells #[z0] n).toList, u = z0 := by
  intro u hu
  simp only [Builtin.zeroCells, Array.toList_map, List.mem_map] at hu
  obtain ⟨i, _, rfl⟩ := hu
  have : i % #[z0].size = 0 := Nat.mod_one i
  rw [this]
  rfl

/-- One more: an append to such a row. -/
theorem run_append_kind (w : World) (t ty e : TypeId) (i : TypeInfo) (z z0 : Value) (bytes : Nat) (ht : Try.prog.underlying t = some (.slice e)) (hi : Try.prog.info? e = some i) (hz : i.zero = some z) (hsize : i.size = 1) (hby : i.bytes = bytes) (hzs : z.cells = #[z0])
    (K : Value → Bool) (hz0 : K z0 = true) (base : Nat) (v u : Value) (xs : List Value) (hown : OwnK w base e K v xs) (h : Nat) (hc : w.cell? ⟨h, 0, none⟩ = some u) (hu : K u = true) (h1 : u.oneCell' = true) (hl : xs.length ≤ 1000) (hb : bytes ≤ 1000) (w0 : World) (hB : Below base w0 w) (hb0 : base ≤ w0.heap.size) :
    ∃ g cap w', (Builtin.append_ #[t, t] ty #[v, .slice (some ⟨h, 0, none⟩) 1 1]).run Try.prog w = .ok (.slice (some ⟨g, 0, none⟩) (xs.length + 1) cap) w' ∧ OwnK w' base e K (.slice (some ⟨g, 0, none⟩) (xs.length + 1) cap) (xs ++ [u]) ∧ StepK K e w w' ∧ Below base w0 w' := by
  obtain ⟨g, cap, cur, rfl, hbg, hg, hnc, hcm, hcs, htk, hall⟩ := hown
  have hnews : ∀ j x, [u][j]? = some x → w.cell? ((⟨h, 0, none⟩ : Addr).add j) = some x := by
    intro j x hj
    match j, hj with
    | 0, hj =>
      simp at hj
      subst hj
      rw [Go.WideShapes.add_plain]
      exact hc
  have hxs : ∀ x ∈ xs, K x = true := fun x hx => hall x (List.mem_of_mem_take (by rw [htk]; exact hx))
  have hbb : (xs.length + 1) * bytes ≤ 1001 * 1000 := Nat.mul_le_mul (by omega) hb
  by_cases hroom : xs.length + 1 ≤ cap
  · have hr := run_append_room (P := Try.prog) w t ty e i ht hi g xs.length cap cur hg ⟨h, 0, none⟩ 1 1 [u] (by rw [hsize]; rfl) hnews (by simpa using h1) hroom (by rw [hsize, hcs]; simpa using hroom)
    rw [hsize, Nat.mul_one, htk] at hr
    refine ⟨g, cap, _, hr, ⟨g, cap, _, by simp, hbg, setRow_heap w g cur _ e _ hg, by simpa using hroom, hcm, ?_, ?_, ?_⟩, ⟨by simp, g, ?_, ?_⟩, ⟨hB.os, hB.tape, hB.output, by simpa using hB.size, fun k hk => (setRow_other w g k _ (by omega)).trans (hB.block k hk)⟩⟩
    · simp only [List.size_toArray, List.length_append, List.length_drop, Array.length_toList, List.length_singleton]
      omega
    · exact List.take_left
    · intro x hx
      simp only [List.mem_append, List.mem_singleton] at hx
      rcases hx with (hx | rfl) | hx
      · exact hxs x hx
      · exact hu
      · exact hall x (List.mem_of_mem_drop hx)
    · intro cur' t' f hg'
      rw [hg] at hg'
      cases hg'
      exact ⟨rfl, hall⟩
    · intro k hk _
      exact setRow_other w g k _ hk
  · have holds : ∀ j x, xs[j]? = some x → w.cell? ((⟨g, 0, none⟩ : Addr).add j) = some x := by
      intro j x hj
      obtain ⟨hj1, hj2⟩ := List.getElem?_eq_some_iff.1 hj
      rw [Go.WideShapes.add_plain, cell_of_row w g (0 + j) _ _ _ hg, Nat.zero_add, ← Array.getElem?_toList]
      have : (cur.toList.take xs.length)[j]? = some x := by rw [htk]; exact hj
      rw [List.getElem?_take] at this
      simpa [hj1] using this
    have hr := run_append_grow (P := Try.prog) w t ty e i z ht hi hz ⟨g, 0, none⟩ xs.length cap xs (by rw [hsize]; omega) holds ⟨h, 0, none⟩ 1 1 [u] (by rw [hsize]; rfl) hnews (by omega) (by omega) (growslice_fits (by omega) (by rw [hby]; omega))
    have hge := grownCap_ge w (xs.length + 1) cap e
    have hcm2 := grownCap_le_maxLen w (xs.length + 1) cap e (by unfold maxLen; omega)
    rw [hzs] at hr
    have hsb : w.heap.size ≥ base := Nat.le_trans hb0 hB.size
    refine ⟨_, _, _, hr, ⟨w.heap.size, _, _, by simp, hsb, heap_alloc_new w.drew _, by simpa using hge, hcm2, ?_, ?_, ?_⟩, StepK.of_below (below2 (drew_below _) (below_alloc _ _)), hB.drew.alloc hsb _⟩
    · simp only [Array.size_append, List.size_toArray, size_zeroCells, List.length_singleton]
      simp
      omega
    · simp only [Array.toList_append, List.append_assoc]
      rw [← List.append_assoc]
      exact List.take_left
    · intro x hx
      simp only [Array.toList_append, List.mem_append, List.mem_singleton] at hx
      rcases hx with (hx | rfl) | hx
      · exact hxs x hx
      · exact hu
      · rw [zeros_all z0 _ x hx]
        exact hz0

end Go.Proofs.Ytgbicdbmmjleoaa
