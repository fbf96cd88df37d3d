/-
  copy of a whole row into a row of the call's own, whatever the elements' size.
-/
import Derived.Test.YtcikgmgkaenpmaaWrs
import Derived.Laws.CopyOwn
namespace Go.Proofs.Ytcikgmgkaenpmaa
open Go.RowKit

theorem run_copy_all {P : Program} (w : World) (dT sT ty elem : TypeId) (k n g dCap : Nat) (v : Value) (cur : Array Value) (t : TypeId) (cs : List Value)
    (hu : P.underlying dT = some (.slice elem)) (hs : (P.info? elem).map (·.size) = some k)
    (hg : w.heap[g]? = some (.cells cur t (0, 0))) (hcur : cur.size = n * k) (hsrc : Rw w k v n cs) (h1 : ∀ u ∈ cs, u.oneCell' = true) :
    (Builtin.copy_ #[dT, sT] ty #[.slice (some ⟨g, 0, none⟩) n dCap, v]).run P w = .ok (goInt n) (w.setRow g cs.toArray) := by
  obtain ⟨hl, ao, cap, rfl, hc, hr⟩ := hsrc
  cases hq : P.info? elem with
  | none => simp [hq] at hs
  | some i =>
    have hi : i.size = k := by simpa [hq] using hs
    have hst := run_storeCells_at P g 0 t cs 0 cur w hg (by omega) h1
    have hdrop : cur.toList.drop (0 + 0 + cs.length) = [] := by apply List.drop_eq_nil_of_le; simp; omega
    rw [hdrop] at hst
    simp only [Nat.add_zero, List.take_zero, List.nil_append, List.append_nil] at hst
    rcases hr with h0 | ⟨b, off, rfl, hcell⟩
    · subst h0
      have : cs = [] := List.eq_nil_of_length_eq_zero (by simpa using hl)
      subst this
      cases ao with
      | none =>
        simp [Builtin.copy_, run_underlying hu, Builtin.lenOf, Builtin.firstCells, sizeOf, typeInfo, hq, storeCells] at hst ⊢
        exact hst
      | some a => simp [Builtin.copy_, run_underlying hu, Builtin.lenOf, Builtin.firstCells, sizeOf, typeInfo, hq, loadCells, loadCellsFrom, hst]
    · have hld := run_loadCells_list (P := P) (w := w) ⟨b, off, none⟩ cs (fun j u hj => by
        rw [Go.WideShapes.add_plain]
        obtain ⟨hj1, rfl⟩ := List.getElem?_eq_some_iff.1 hj
        exact hcell j hj1)
      rw [hl] at hld
      simp [Builtin.copy_, run_underlying hu, Builtin.lenOf, Builtin.firstCells, sizeOf, typeInfo, hq, hi, hld, hst]

theorem setRow_grown (w : World) (g : Nat) (cs : Array Value) : w.grownBy (w.setRow g cs) (some g) :=
  ⟨rfl, rfl, rfl, by simp [World.setRow], fun k _ hne => setRow_other w g k cs (by intro e; subst e; exact hne rfl)⟩

theorem wpList_copy_all {P : Program} {w : World} {ops : Array Oper} {rest : List Oper} {o : Oper} {a : Act} {Q : Exit → Act → World → Prop} (hgd : o.guard = none) (d s : Operand) (dT sT : TypeId)
    (ho : o.op = .call { callee := .builtin .copy, args := #[d, s], argTypes := #[dT, sT] }) (elem : TypeId) (hu : P.underlying dT = some (.slice elem)) (k : Nat) (hsz : (P.info? elem).map (·.size) = some k)
    (n g dCap : Nat) (v : Value) (hd : a.eval d = .slice (some ⟨g, 0, none⟩) n dCap) (hs : a.eval s = v) (cs : List Value) (hsrc : Rw w k v n cs) (h1 : ∀ u ∈ cs, u.oneCell' = true)
    (cur : Array Value) (t : TypeId) (hg : w.heap[g]? = some (.cells cur t (0, 0))) (hcur : cur.size = n * k)
    (h : ∀ w', w'.heap[g]? = some (.cells cs.toArray t (0, 0)) → w.grownBy w' (some g) → wpList P ops Q rest (a.put o.dst (goInt n)) w') :
    wpList P ops Q (o :: rest) a w := by
  refine wpList_plain hgd fun K hK => ?_
  have hrun := run_copy_all (P := P) w dT sT o.type elem k n g dCap v cur t cs hu hsz hg hcur hsrc h1
  unfold Oper.wp
  simp [execOp, ho, resolve, invoke, builtin, hd, hs, hrun, Result.andThen]
  exact hK _ _ (h _ (setRow_heap w g cur _ t _ hg) (setRow_grown w g _))

end Go.Proofs.Ytcikgmgkaenpmaa
