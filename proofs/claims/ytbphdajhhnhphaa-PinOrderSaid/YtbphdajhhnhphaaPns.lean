/-
  Rows of sexton/api.Pin of the call's own; appends; parts.
-/
import Derived.Test.YtbphdajhhnhphaaPnRow
namespace Go.Proofs.Ytbphdajhhnhphaa
set_option maxRecDepth 100000
open Go.RowKit

abbrev OwnPn (w : World) (base : Nat) (v : Value) (l : List Pn) : Prop := OwnOf pncell 2 24 w base v l
theorem infoPn : (Try.prog.info? 24).map (fun i => (i.zero, i.size, i.bytes)) = some (some (.agg #[.int .i64 0, .int .i64 0]), 2, 16) := by kernel_rfl
/-- An append of one, which was laid for it. -/
theorem app_pn {w : World} {ops : Array Oper} {rest : List Oper} {o : Oper} {a : Act} {Q : Exit → Act → World → Prop} (hgd : o.guard = none) (s x : Operand)
    (ho : o.op = .call { callee := .builtin .append, args := #[s, x], argTypes := #[22, 22] })
    (base : Nat) (v : Value) (L : List Pn) (hs : a.eval s = v) (hown : OwnPn w base v L) (a0 : Int) (a1 : Int) (hx : a.eval x = .slice (some ⟨w.heap.size, 0, none⟩) 1 1)
    (hn : L.length < 1000000) (hbase : base ≤ w.heap.size)
    (h : ∀ ao' cap' w', OwnPn w' base (.slice ao' (L.length + 1) cap') (L ++ [(a0, a1)]) → (∀ w0, Below base w0 w → Below base w0 w') → wpList Try.prog ops Q rest (a.put o.dst (.slice ao' (L.length + 1) cap')) w') :
    wpList Try.prog ops Q (o :: rest) a (w.alloc (.cells #[.int .i64 a0, .int .i64 a1] 24)) := by
  obtain ⟨i0, hi, hz0, hz1, hz2⟩ := info_parts infoPn
  exact wpList_app_of pncell_k pncell_o hgd s x 22 ho i0 _ 16 Try.underlying22 hi hz0 hz1 hz2 rfl (by decide) base v L hs hown (a0, a1) _ rfl hx hn hbase h
/-- The same, where the block's number is spelled otherwise. -/
theorem app_pnK {w : World} {ops : Array Oper} {rest : List Oper} {o : Oper} {a : Act} {Q : Exit → Act → World → Prop} (hgd : o.guard = none) (s x : Operand)
    (ho : o.op = .call { callee := .builtin .append, args := #[s, x], argTypes := #[22, 22] })
    (base : Nat) (v : Value) (L : List Pn) (hs : a.eval s = v) (hown : OwnPn w base v L) (a0 : Int) (a1 : Int) (k : Nat) (hk : w.heap.size = k) (hx : a.eval x = .slice (some ⟨k, 0, none⟩) 1 1)
    (hn : L.length < 1000000) (hbase : base ≤ w.heap.size)
    (h : ∀ ao' cap' w', OwnPn w' base (.slice ao' (L.length + 1) cap') (L ++ [(a0, a1)]) → (∀ w0, Below base w0 w → Below base w0 w') → wpList Try.prog ops Q rest (a.put o.dst (.slice ao' (L.length + 1) cap')) w') :
    wpList Try.prog ops Q (o :: rest) a (w.alloc (.cells #[.int .i64 a0, .int .i64 a1] 24)) := by
  subst hk
  exact app_pn hgd s x ho base v L hs hown a0 a1 hx hn hbase h
/-- An append of a row. -/
theorem app_pns {w : World} {ops : Array Oper} {rest : List Oper} {o : Oper} {a : Act} {Q : Exit → Act → World → Prop} (hgd : o.guard = none) (s x : Operand)
    (ho : o.op = .call { callee := .builtin .append, args := #[s, x], argTypes := #[22, 22] }) (base : Nat) (v : Value) (L : List Pn) (hs : a.eval s = v) (hown : OwnPn w base v L)
    (ao : Option Addr) (m c : Nat) (R : List Pn) (hx : a.eval x = .slice ao m c) (hR : Pns w (.slice ao m c) R) (U : List Pn) (hU : L ++ R = U) (q : Nat) (hq : U.length = q) (hq2 : q ≤ 1000000) (w0 : World) (hB : Below base w0 w) (hb0 : base ≤ w0.heap.size)
    (h : ∀ ao' cap' w', OwnPn w' base (.slice ao' q cap') U → Below base w0 w' → wpList Try.prog ops Q rest (a.put o.dst (.slice ao' q cap')) w') : wpList Try.prog ops Q (o :: rest) a w := by
  obtain ⟨i0, hi, hz0, hz1, hz2⟩ := info_parts infoPn
  exact wpList_app_rowOf pncell_k pncell_o hgd s x 22 ho i0 _ 16 Try.underlying22 hi hz0 hz1 hz2 rfl (by decide) base v L hs hown ao m c R hx hR U hU q hq hq2 w0 hB hb0 h
theorem pns_elem : Try.prog.elem 22 = 24 := by kernel_rfl
theorem pns_from {w : World} {ao : Option Addr} {n cap : Nat} {S : List Pn} (h : Pns w (.slice ao n cap) S) (i m : Nat) (hi : i ≤ n) (hm : i + m = n) :
    ∃ a1 c1, (∀ W, (Instr.slice 22 (.slice ao n cap) (some (.int .i64 (i : Int))) none none).run Try.prog W = .ok (.slice a1 m c1) W) ∧ Pns w (.slice a1 m c1) (S.drop i) :=
  rowOf_from pncell_k (by rw [pns_elem]; exact Try.underlying22) (size_of (by rw [pns_elem]; kernel_rfl)) h i m hi hm
theorem pns_to {w : World} {ao : Option Addr} {n cap : Nat} {S : List Pn} (h : Pns w (.slice ao n cap) S) (i : Nat) (hi : i ≤ n) :
    (∀ W, (Instr.slice 22 (.slice ao n cap) none (some (.int .i64 (i : Int))) none).run Try.prog W = .ok (.slice ao i cap) W) ∧ Pns w (.slice ao i cap) (S.take i) :=
  rowOf_to pncell_k (by rw [pns_elem]; exact Try.underlying22) (size_of (by rw [pns_elem]; kernel_rfl)) h i hi

end Go.Proofs.Ytbphdajhhnhphaa
