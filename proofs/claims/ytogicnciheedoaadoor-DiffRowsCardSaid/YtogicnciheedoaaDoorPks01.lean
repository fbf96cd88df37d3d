/-
  The texts of one folder in one: SpecRow, SpecGet, Math, Math2, Laid.
-/
import Derived.Test.YtogicnciheedoaaDoorSpec
import Derived.Laws.Strings
import Derived.Test.YtogicnciheedoaaDoorPkbase
import Derived.Lib.LaidTab
import Derived.MakeChecks

/-
  The plain functions of codec.Row: what it answers. No program is named here.
-/
namespace Go.Proofs.YtogicnciheedoaaDoor

end Go.Proofs.YtogicnciheedoaaDoor

/-
  The plain functions of reading: what bytes begin with. No program is named here.
-/
namespace Go.Proofs.YtogicnciheedoaaDoor

/-- The number whose digits to the base 256 these are. -/
def valB (d : List UInt8) : Nat := d.foldl (fun n b => n * 256 + b.toNat) 0

/-- The number that s begins with, and what stands behind it. -/
def getN : List UInt8 → Option (Nat × List UInt8)
  | [] => none
  | h :: t => if 4 < h.toNat then none else if t.length < h.toNat then none else if wid (valB (t.take h.toNat)) = h.toNat then some (valB (t.take h.toNat), t.drop h.toNat) else none

end Go.Proofs.YtogicnciheedoaaDoor

/-
  What follows of the plain functions: what is laid is read, what is read is laid, and greater numbers stand behind. No program is named here.
-/
namespace Go.Proofs.YtogicnciheedoaaDoor

end Go.Proofs.YtogicnciheedoaaDoor

/-
  What is laid is read, whatever stands behind; what is read is laid as it was. No program is named here.
-/
namespace Go.Proofs.YtogicnciheedoaaDoor

end Go.Proofs.YtogicnciheedoaaDoor

/-
  What a row's condition says of a listed variable: wherever it stands in the list; a table, and a table of tables.
-/
namespace Go.Proofs.YtogicnciheedoaaDoor
set_option maxRecDepth 100000

theorem laidVars_mem {P : Program} {w : World} : ∀ {l : List (String × DataW Unit)} {ps : List MemPlace}, DataW.LaidVars P w l ps → ∀ {n : String} {d : DataW Unit}, (n, d) ∈ l →
    ∃ g t cs fuel p, P.globalNamed n = some g ∧ (P.globals[g]?).map (·.type) = some t ∧ w.var? P n = some cs ∧ DataW.trod (fun _ => ()) P w 0 (fun _ => true) false fuel t cs.toList = some (d, p)
  | [], _, _, _, _, hm => absurd hm List.not_mem_nil
  | (n', d') :: r, ps, h, n, d, hm => by
    obtain ⟨g, t, cs, fuel, p, q, h1, h2, h3, h4, h5, _⟩ := h
    rcases List.mem_cons.1 hm with e | hm
    · cases e
      exact ⟨g, t, cs, fuel, p, h1, h2, h3, h4⟩
    · exact laidVars_mem h5 hm
/-- The variable's cells, and how they read. -/
theorem laid_at {P : Program} {W : World} {l : List (String × DataW Unit)} (h : laidMet P l W) {n : String} {d : DataW Unit} (hm : (n, d) ∈ l) {g : Nat} {t : TypeId} (hg : P.globalNamed n = some g) (ht : (P.globals[g]?).map (·.type) = some t) :
    ∃ cs fuel p, (∀ i u, cs[i]? = some u → W.cell? ⟨g, i, none⟩ = some u) ∧ DataW.trod (fun _ => ()) P W 0 (fun _ => true) false fuel t cs = some (d, p) := by
  obtain ⟨ps, hv, _, _⟩ := h
  obtain ⟨g', t', cs, fuel, p, h1, h2, h3, h4⟩ := laidVars_mem hv hm
  obtain rfl := Option.some.inj (hg.symm.trans h1)
  obtain rfl := Option.some.inj (ht.symm.trans h2)
  refine ⟨cs.toList, fuel, p, fun i u hu => ?_, h4⟩
  rw [World.var?_cell hg h3 i]
  simpa using hu
/-- A table of tables: each row of cells is the numbers that it says. -/
theorem cells_of_grid {H : Type} {enc : TypeId × Value → H} {P : Program} {w : World} {base : Nat} {sp : Nat → Bool} {held : Bool} {fuel : Nat} {t r e : TypeId} {n m : Nat} {k : IntKind} {cs : List Value} {zss : List (List Int)} {p : List MemPlace}
    (ht : P.underlying t = some (.array n r)) (hr : P.underlying r = some (.array m e)) (he : P.underlying e = some (.int k)) (hce : P.cellsOf e = 1) (hcr : P.cellsOf r = m)
    (h : DataW.trod enc P w base sp held fuel t cs = some (.agg (zss.map (Lib.tabData k)), p)) : zss.length = n ∧ ∀ i (hi : i < zss.length), (cs.drop (i * m)).take m = zss[i].map fun z => Value.int k z := by
  cases fuel with
  | zero => simp [DataW.trod] at h
  | succ fuel =>
    simp only [DataW.trod, ht, hcr] at h
    split at h
    · obtain ⟨xs, hm, hx⟩ := Option.map_eq_some_iff.1 h
      have hxs : xs.map (·.1) = zss.map (Lib.tabData k) := by
        have := congrArg Prod.fst hx
        simpa using this
      have hxl : xs.length = n := by simpa using Lib.mapM_length hm
      have hzl : zss.length = n := by
        have := congrArg List.length hxs
        simp at this
        omega
      refine ⟨hzl, fun i hi => ?_⟩
      obtain ⟨b, hb, hf⟩ := Lib.mapM_at hm i i (by rw [List.getElem?_range (by omega)])
      have h2 : (xs.map (·.1))[i]? = some b.1 := by simp [hb]
      rw [hxs, List.getElem?_map, List.getElem?_eq_getElem hi] at h2
      have h3 : Lib.tabData k zss[i] = b.1 := by simpa using h2
      obtain ⟨b1, b2⟩ := b
      dsimp only at h3
      subst h3
      exact Lib.cells_of_tab hr he hce hcr hf
    · cases h
theorem grid_cell {cs : List Value} {k : IntKind} {m : Nat} {zss : List (List Int)} (h : ∀ i (hi : i < zss.length), (cs.drop (i * m)).take m = zss[i].map fun z => Value.int k z) {i j : Nat} (hi : i < zss.length) (hj : j < zss[i].length) : cs[i * m + j]? = some (.int k zss[i][j]) := by
  have h1 := congrArg (·[j]?) (h i hi)
  have hjm : j < m := by
    have := congrArg List.length (h i hi)
    rw [List.length_take, List.length_map] at this
    omega
  simp only [List.getElem?_map, List.getElem?_eq_getElem hj, Option.map_some] at h1
  rw [List.getElem?_take_of_lt hjm, List.getElem?_drop] at h1
  exact h1

end Go.Proofs.YtogicnciheedoaaDoor
