/-
  Rows of ints.
-/
import Derived.Test.YtbphdajhhnhphaaRw
import Derived.SizedLaws
import Derived.ChangeSlices
namespace Go.Proofs.Ytbphdajhhnhphaa
set_option maxRecDepth 100000
open Go.RowKit Go.ChangeShapes Go.WideShapes

/-- The slice v reads as these ints. -/
def Ints (w : World) (v : Value) (zs : List Int) : Prop := Rw w 1 v zs.length (zs.map (Value.int .i64))
theorem Ints.below {w w' : World} {v : Value} {zs : List Int} (h : Ints w v zs) (hb : Below w.heap.size w w') : Ints w' v zs := Rw.below h hb
theorem Ints.form {w : World} {v : Value} {zs : List Int} (h : Ints w v zs) : ∃ ao cap, v = .slice ao zs.length cap := Rw.form h
theorem Ints.at {w : World} {ao : Option Addr} {n cap : Nat} {zs : List Int} (h : Ints w (.slice ao n cap) zs) {k : Nat} (hk : k < zs.length) : ∃ b off, ao = some ⟨b, off, none⟩ ∧ w.cell? ⟨b, off + k, none⟩ = some (.int .i64 zs[k]) := by
  obtain ⟨_, ao', cap', he, _, hc⟩ := h
  cases he
  rcases hc with h0 | ⟨b, off, rfl, hc⟩
  · omega
  · refine ⟨b, off, rfl, ?_⟩
    have := hc k (by simpa using hk)
    simpa using this
/-- A row of ints that came in, as it lies in whatever holds it. -/
theorem ints_trod_wf {W : World} {n : Nat} {c : Value} {H : Type} {enc : TypeId × Value → H} {x : DataW H × List MemPlace} (hf : DataW.trod enc Try.prog W 0 (fun _ => true) true n 49 [c] = some x) : ∃ zs, Ints W c zs ∧ zs.length ≤ maxLen ∧ ∀ n ∈ zs, (Lit.int .i64 n).wf = true := by
  rcases open_ints Try.underlying49 Try.underlying3 (by kernel_rfl) hf with ⟨hcs, _⟩ | ⟨a, l, c, zs, hcs, _, hl, hm, hz, _, hcell, hwf⟩
  · simp at hcs
    subst hcs
    exact ⟨[], Rw.nil W 1, by simp, by simp⟩
  · simp at hcs
    subst hcs
    have hz' : zs.length = c := by simpa using hz
    have hll : (zs.take l).length = l := by rw [List.length_take]; omega
    refine ⟨zs.take l, ⟨by simp, some a, c, by rw [hll], by rw [hll]; omega, ?_⟩, by rw [hll]; omega, fun n hn => hwf n (List.mem_of_mem_take hn)⟩
    by_cases h0 : l = 0
    · left; rw [hll]; exact h0
    · right
      obtain ⟨b, off, spot⟩ := a
      have hspot : spot = none := by simpa [Addr.add] using World.cell?_spot (hcell 0 (by omega))
      subst hspot
      refine ⟨b, off, rfl, fun j hj => ?_⟩
      have hj2 : j < l := by rw [List.length_map, hll] at hj; exact hj
      have h1 := hcell j (by omega)
      rw [Go.WideShapes.add_plain] at h1
      rw [h1]
      have h3 : j < zs.length := by omega
      simp [List.getD, List.getElem?_eq_getElem h3]
theorem ints_trod {W : World} {n : Nat} {c : Value} {H : Type} {enc : TypeId × Value → H} {x : DataW H × List MemPlace} (hf : DataW.trod enc Try.prog W 0 (fun _ => true) true n 49 [c] = some x) : ∃ zs, Ints W c zs ∧ zs.length ≤ maxLen :=
  let ⟨zs, h1, h2, _⟩ := ints_trod_wf hf
  ⟨zs, h1, h2⟩
/-- A row of ints that came in. -/
theorem ints_open {W : World} {base : Nat} {v : Value} {H : Type} {enc : TypeId × Value → H} {d : DataW H} {p : List MemPlace} (hv : Value.okWide Try.prog W .any base 49 v)
    (h : DataW.Trod enc Try.prog W 0 (fun _ => true) true 49 v d p) : ∃ zs, Ints W v zs ∧ zs.length ≤ maxLen := by
  obtain ⟨a0, len, cap, rfl⟩ := okWide_slice Try.underlying49 hv
  obtain ⟨fuel, hf⟩ := h
  exact ints_trod (by simpa [Value.cells] using hf)

end Go.Proofs.Ytbphdajhhnhphaa
