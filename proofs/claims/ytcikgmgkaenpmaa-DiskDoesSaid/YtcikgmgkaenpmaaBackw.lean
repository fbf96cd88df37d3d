/-
  slices.Backward over a row of writes: the iterator hands on the places and the writes, the last one first.
-/
import Derived.Test.YtcikgmgkaenpmaaWrs
import Derived.RangeFuncNested
import Derived.RangeFuncBound
import Derived.RangeFuncCalls
import Derived.RangeFuncLeaves
import Derived.RangeFuncBox
import Derived.Shelf.Abstract
import Derived.Shelf.RegionOpen
import Derived.OwnWalkIn
import Derived.TacticsInMore
import Derived.LoopNIn
import Derived.LoopIn
import Derived.Outline
namespace Go.Proofs.Ytcikgmgkaenpmaa
open Go.RowKit Go.Shelf
attribute [local go_sem] Oper.semAt_some

/-- The first k writes with their places, the last one first. -/
def backTo (ws : List Wr) : Nat → List (Int × Wr)
  | 0 => []
  | k + 1 => ((k : Int), ws.getD k (0, [])) :: backTo ws k
def backL (ws : List Wr) : List (Int × Wr) := backTo ws ws.length
theorem backTo_len (ws : List Wr) (k : Nat) : (backTo ws k).length = k := by
  induction k with
  | zero => rfl
  | succ k ih => simp [backTo, ih]
/-- What a round is handed. -/
def encB (x : Int × Wr) : Array Value := #[.int .i64 x.1, .agg #[.int .i64 x.2.1, .string ⟨x.2.2.toArray⟩]]

set_option maxRecDepth 100000 in
set_option maxHeartbeats 1000000 in
theorem backward_in (n : Nat) (hn : 2 ≤ n) (l Bn : Nat) (v : Value) (ws : List Wr) (w : World) (hBn : Boxed w Bn 23 v) (hw : Wrs w v ws) (hl : ws.length ≤ 1000000) (J Jx : List (Int × Wr) → World → Prop)
    (hY : ∀ pre x W, J pre W → pre.length < ws.length → YieldAt Fence.wide (n - 1) Try.prog l (encB x) W fun e W' =>
      (e = .returned (.bool true) ∧ J (pre ++ [x]) W' ∧ Below w.heap.size W W') ∨ (e = .returned (.bool false) ∧ Jx (pre ++ [x]) W'))
    (W : World) (hB : Below w.heap.size w W) (h0 : J [] W) :
    CallsIn Fence.wide n Try.prog 37 #[.func (.yield l) #[] #[], .pointer (some ⟨Bn, 0, none⟩)] W fun e W' => (∃ v, e = .returned v) ∧
      ((∃ ys, ys = backL ws ∧ J ys W') ∨ (∃ pre, pre <+: backL ws ∧ Jx pre W')) := by
  obtain ⟨ao, cap, rfl⟩ := hw.form
  have hc0 := (hB.cell (p := ⟨Bn, 0, none⟩) hBn.lt).trans hBn.cell
  have hfw : ∀ f, Fence.wide.fn f := fun _ => trivial
  have hn1 : 1 ≤ n := by omega
  have HW := Lib.hid hw
  clear hw
  refine callsIn_of_wp Try.func37 rfl trivial ?_ rfl
  simp only [Try.ntmps37, List.size_toArray, List.length_cons, List.length_nil, Nat.reduceAdd, Nat.reduceSub, Array.replicate_succ, Array.replicate_zero, List.push_toArray, List.append_toArray, List.nil_append, List.cons_append]
  gi_wp2
  gi_loopw [3] (fun p wr => ∃ (pre : List (Int × Wr)) (k : Nat), p = .int .i64 ((k : Int) - 1) ∧ k ≤ ws.length ∧ pre ++ backTo ws k = backL ws ∧ Below w.heap.size w wr ∧ J pre wr)
    (fun p _ => (intOf p + 1).toNat)
  case atStart =>
    exact ⟨[], ws.length, rfl, Nat.le_refl _, rfl, hB, h0⟩
  case round =>
    obtain ⟨pre, k, rfl, hk, hp, hb, hJs⟩ := hrel
    have hc := (hb.cell (p := ⟨Bn, 0, none⟩) hBn.lt).trans hBn.cell
    have HP := Lib.hid hp
    clear hp hc0
    cases k with
    | zero =>
      gi_wp2
      go_end0
      exact ⟨⟨_, rfl⟩, .inl ⟨pre, by simpa [backTo] using HP.out, hJs⟩⟩
    | succ k =>
      have hlt : pre.length < ws.length := by
        have := congrArg List.length HP.out
        simp [backTo_len, backL] at this
        omega
      obtain ⟨b, off, rfl, he0, he1⟩ := (HW.out.below hb).at (k := k) (by omega)
      obtain ⟨⟨a, s⟩, hx⟩ : ∃ y, ws[k] = y := ⟨_, rfl⟩
      rw [hx] at he0 he1
      have hgd : ws.getD k (0, []) = (a, s) := by simp [List.getD, List.getElem?_eq_getElem (show k < ws.length by omega), hx]
      have HP2 : Hid (pre ++ [((k : Int), (a, s))] ++ backTo ws k = backL ws) := Lib.hid (by rw [← HP.out, backTo, hgd]; simp)
      obtain ⟨fn, tmps, assign, body, hy, hR⟩ := hY pre ((k : Int), (a, s)) wr hJs hlt
      clear hY hx hgd
      dsimp only [encB] at hy
      gi_wp2
      refine hR.mono ?_
      rintro e W3 (⟨rfl, hJ3, hk3⟩ | ⟨rfl, hJx3⟩)
      · gi_wp2
        go_roundw
        case rel => exact ⟨_, k, by go_num, by omega, HP2.out, hb.trans hk3, hJ3⟩
        case measure => simp [intOf]
      · gi_wp2
        refine bodyPost_ret (results_none rfl _ _ _) rfl ?_
        exact ⟨⟨_, rfl⟩, .inr ⟨_, ⟨backTo ws k, HP2.out⟩, hJx3⟩⟩

theorem backward_stops (n : Nat) (hn : 2 ≤ n) (Bn : Nat) (v : Value) (ws : List Wr) (w : World) (hBn : Boxed w Bn 23 v) (hw : Wrs w v ws) (hl : ws.length ≤ 1000000) :
    SeqStopsK Fence.wide n Try.prog 37 #[.pointer (some ⟨Bn, 0, none⟩)] encB (Below w.heap.size) (fun ys => ys = backL ws) (fun pre => pre <+: backL ws) ws.length w := fun l J Jx W hW _ _ hY h0 =>
  backward_in n hn l Bn v ws w hBn hw hl J Jx hY W hW h0

set_option maxHeartbeats 1000000 in
theorem backward_calls (n : Nat) (ao : Option Addr) (m cap : Nat) (w : World) :
    CallsIn Fence.wide n Try.prog 30 #[.slice ao m cap] w fun e w' => e = .returned (.func (.func 37) #[] #[.pointer (some ⟨w.heap.size, 0, none⟩)]) ∧ w' = w.alloc (.cells #[.slice ao m cap] 23) := by
  refine callsIn_of_wp Try.func30 rfl trivial ?_ rfl
  simp only [Try.ntmps30, List.size_toArray, List.length_cons, List.length_nil, Nat.reduceAdd, Nat.reduceSub, Array.replicate_succ, Array.replicate_zero, List.push_toArray, List.append_toArray, List.nil_append, List.cons_append]
  gi_wp2
  go_ret
  exact ⟨rfl, rfl⟩

end Go.Proofs.Ytcikgmgkaenpmaa
