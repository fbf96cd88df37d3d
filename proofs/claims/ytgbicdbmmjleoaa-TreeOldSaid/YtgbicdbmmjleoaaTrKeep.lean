/-
  What stays while a row of pairs grows: blocks of other types. Appends of a leaf to pairs.
-/
import Derived.Test.YtgbicdbmmjleoaaTrRel
import Derived.Test.YtgbicdbmmjleoaaNdJoin
namespace Go.Proofs.Ytgbicdbmmjleoaa
open Go.RowKit

theorem Prs.any {w : World} {v : Value} {l : List Pr} (h : Prs w v l) : ∃ ao n cap, v = .slice ao n cap := by
  obtain ⟨ao, cap, e⟩ := h.form
  exact ⟨ao, _, cap, e⟩
/-- Blocks that hold no pairs are as they were. -/
def KeepN (w w' : World) : Prop := ∀ (i : Nat) (cs : Array Value) (t : TypeId) (f : Nat × Nat), t ≠ 31 → w.heap[i]? = some (Obj.cells cs t f) → w'.heap[i]? = some (Obj.cells cs t f)
theorem KeepN.refl (w : World) : KeepN w w := fun _ _ _ _ _ h => h
theorem KeepN.trans {a b c : World} (h1 : KeepN a b) (h2 : KeepN b c) : KeepN a c := fun i cs t f ht h => h2 i cs t f ht (h1 i cs t f ht h)
theorem KeepN.below {w w' : World} (h : Below w.heap.size w w') : KeepN w w' := fun i cs t f _ hi => by
  rw [h.block i (Array.getElem?_eq_some_iff.1 hi).1]
  exact hi
theorem KeepN.grown {w w' : World} {base : Nat} {v : Value} {l : List Pr} (ho : OwnP w base v l) (h : w.grownBy w' v.ownBlock) : KeepN w w' := fun i cs t f ht hi => by
  rw [h.block i (Array.getElem?_eq_some_iff.1 hi).1 (fun e => by
    rcases ho.2 with ⟨rfl, _⟩ | ⟨g, cap, cur, rfl, _, hg, _⟩
    · simp [Value.ownBlock] at e
    · simp [Value.ownBlock] at e
      subst e
      rw [hg] at hi
      cases hi
      exact ht rfl)]
  exact hi
theorem Cx.keep {w w' : World} {b : Nat} {t : TypeId} {cs : List Value} (h : Cx w b t cs) (hk : KeepN w w') (ht : t ≠ 31) : Cx w' b t cs := hk _ _ _ _ ht h

theorem run_append_types (w : World) (t t2 ty e : TypeId) (ht : Try.prog.underlying t = some (.slice e)) (ht2 : Try.prog.underlying t2 = some (.slice e)) (v x : Value) :
    (Builtin.append_ #[t, t2] ty #[v, x]).run Try.prog w = (Builtin.append_ #[t, t] ty #[v, x]).run Try.prog w := by
  cases v <;> simp [Builtin.append_, run_underlying ht, run_underlying ht2]

/-- An append of pairs (a leaf's, a row's) to pairs of the call's own: what holds no pairs stays. -/
theorem wpList_append_keep {w : World} {ops : Array Oper} {rest : List Oper} {o : Oper} {a : Act} {Q : Exit → Act → World → Prop} (hgd : o.guard = none) (s x : Operand) (t t2 : TypeId) (ht : Try.prog.underlying t = some (.slice 31)) (ht2 : Try.prog.underlying t2 = some (.slice 31))
    (ho : o.op = .call { callee := .builtin .append, args := #[s, x], argTypes := #[t, t2] }) (base : Nat) (v : Value) (T : List Pr) (hs : a.eval s = v) (hown : OwnP w base v T)
    (ao : Option Addr) (m c : Nat) (R : List Pr) (hx : a.eval x = .slice ao m c) (hR : Prs w (.slice ao m c) R) (U : List Pr) (hU : T ++ R = U) (q : Nat) (hq : U.length = q) (hq2 : q ≤ 1000000) (w0 : World) (hB : Below base w0 w) (hb0 : base ≤ w0.heap.size)
    (h : ∀ ao' cap' w', OwnP w' base (.slice ao' q cap') U → Below base w0 w' → KeepN w w' → w.heap.size ≤ w'.heap.size → wpList Try.prog ops Q rest (a.put o.dst (.slice ao' q cap')) w') : wpList Try.prog ops Q (o :: rest) a w := by
  obtain ⟨i0, hi, hz0, hz1, hz2⟩ := info_parts infoP
  have hm := hR.len
  have hk : T.length + m = q := by rw [← hq, ← hU, List.length_append, hm]
  have hbase : base ≤ w.heap.size := Nat.le_trans hb0 hB.size
  have hRw : Rw w 3 (.slice ao m c) m (pcells R) := by unfold Prs at hR; rwa [hm] at hR
  refine wpList_plain hgd fun K hK => ?_
  cases ao with
  | none =>
    obtain rfl := hR.of_nil
    obtain rfl : m = 0 := by simpa using hm.symm
    have hrun := (run_append_types w t t2 o.type _ ht ht2 v (.slice none 0 c)).trans (run_append_noneC base t o.type 31 i0 3 c ht hi v T.length (pcells T) hown)
    obtain ⟨ao', cap', rfl⟩ := hown.form
    unfold Oper.wp
    simp only [execOp, ho, resolve, invoke, builtin, Sem.run_bind, Sem.run_pure, Result.andThen_ok, List.map_toArray, List.map_cons, List.map_nil, hs, hx, hrun]
    have := h ao' cap' w (by rw [← hU, ← hq, ← hU]; simpa using hown) hB (KeepN.refl w) (Nat.le_refl _)
    rw [← hk] at this
    exact hK _ _ this
  | some ad =>
    obtain ⟨v', w', hr, h2, h3, _, _⟩ := run_append_own_at (P := Try.prog) w base t o.type 31 i0 _ 3 40 ht hi hz0 hz1 hz2 rfl (by decide) v T.length (pcells T) hown ad m c (pcells R) hRw.1 (rowN_news hRw) (pcells_one R) (by rw [hk]; unfold maxLen; omega) (by rw [hk]; omega) hbase
    have hrun := (run_append_types w t t2 o.type _ ht ht2 v (.slice (some ad) m c)).trans hr
    rw [hk, ← pcells_append, hU] at h2
    obtain ⟨ao', cap', rfl⟩ := (Rw.own h2).form
    unfold Oper.wp
    simp only [execOp, ho, resolve, invoke, builtin, Sem.run_bind, Sem.run_pure, Result.andThen_ok, List.map_toArray, List.map_cons, List.map_nil, hs, hx, hrun]
    refine hK _ _ (h ao' cap' w' ?_ (hB.grown h3 hbase (fun j e => (hown.lt j e).1)) (KeepN.grown hown h3) h3.size)
    unfold OwnP
    rw [hq]
    exact h2

end Go.Proofs.Ytgbicdbmmjleoaa
