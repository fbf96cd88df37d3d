/-
  codec.fromHighest: the iterator hands on the bytes of a number, the highest first.
-/
import Derived.RangeFuncNested
import Derived.RangeFuncBound
import Derived.RangeFuncCalls
import Derived.RangeFuncLeaves
import Derived.RangeFuncBox
import Derived.Shelf.Abstract
import Derived.Shelf.RegionOpen
import Derived.WalkKit
import Derived.OwnWalkIn
import Derived.TacticsInMore
import Derived.LoopNIn
import Derived.LoopIn
import Derived.Outline
import Derived.Test.YtijhbnkfkjfcfaaBits
namespace Go.Proofs.Ytijhbnkfkjfcfaa
open Go.RowKit Go.Shelf
attribute [local go_sem] Oper.semAt_some

/-- What a round keeps for the iterator: the box of the number. -/
def KeepsBox (Bn : Nat) (W W' : World) : Prop := W'.heap[Bn]? = W.heap[Bn]?
theorem keepsBox_t {Bn : Nat} {A B C : World} (h : KeepsBox Bn A B) (k : KeepsBox Bn B C) : KeepsBox Bn A C := Eq.trans k h
theorem keepsBox_b {Bn : Nat} {w : World} (hn : Bn < w.heap.size) (W : World) (l : Nat) (o o' : Obj) (hl : w.heap.size ≤ l) (_ : W.heap[l]? = some o) (_ : o.isCells = false) (_ : o.isWalk = false) : KeepsBox Bn W (W.putObj l o') :=
  World.putObj_heap_other (by omega)

theorem byte_shift (x k : Nat) : ((UInt8.ofNat (x / 256 ^ k)).toNat : Int) = (x : Int) / 2 ^ (8 * k) % 256 := by
  have e : (256 : Nat) ^ k = 2 ^ (8 * k) := by rw [Nat.pow_mul]
  rw [e]
  simp

set_option maxRecDepth 100000 in
set_option maxHeartbeats 1000000 in
theorem highest_in (n : Nat) (hn : 2 ≤ n) (l Bn : Nat) (x : Nat) (hx : x ≤ 4294967295) (J Jx : List UInt8 → World → Prop)
    (hY : ∀ pre b W, J pre W → pre.length < wid x → YieldAt Fence.wide (n - 1) Try.prog l #[.int .u8 (b.toNat : Int)] W fun e W' =>
      (e = .returned (.bool true) ∧ J (pre ++ [b]) W' ∧ KeepsBox Bn W W') ∨ (e = .returned (.bool false) ∧ Jx (pre ++ [b]) W'))
    (W : World) (hBn : Boxed W Bn 3 (.int .i64 x)) (h0 : J [] W) :
    CallsIn Fence.wide n Try.prog 47 #[.func (.yield l) #[] #[], .pointer (some ⟨Bn, 0, none⟩)] W fun e W' => (∃ v, e = .returned v) ∧
      ((∃ ys, ys = digs x ∧ J ys W') ∨ (∃ pre, pre <+: digs x ∧ Jx pre W')) := by
  have hc0 := hBn.cell
  have hfw : ∀ f, Fence.wide.fn f := fun _ => trivial
  have hn1 : 1 ≤ n := by omega
  have hwl := wid_le x
  refine callsIn_of_wp Try.func47 rfl trivial ?_ rfl
  simp only [Try.ntmps47, List.size_toArray, List.length_cons, List.length_nil, Nat.reduceAdd, Nat.reduceSub, Array.replicate_succ, Array.replicate_zero, List.push_toArray, List.append_toArray, List.nil_append, List.cons_append]
  gi_wp2_with (gi_at_call 42; refine (callsIn_wide.2 (width_calls _ _ (by omega) (by omega))).mono ?_; rintro e w' ⟨rfl, rfl⟩)
  go_outline
  gi_loopw [3] (fun p wr => ∃ (pre : List UInt8) (k : Nat), p = .int .i64 ((k : Int) - 1) ∧ k ≤ wid x ∧ pre ++ digsTo x k = digs x ∧ Boxed wr Bn 3 (.int .i64 x) ∧ J pre wr)
    (fun p _ => (intOf p + 1).toNat)
  case atStart =>
    exact ⟨[], wid x, rfl, Nat.le_refl _, rfl, hBn, h0⟩
  case round =>
    obtain ⟨pre, k, rfl, hk, hp, hb, hJs⟩ := hrel
    have hc := hb.cell
    have HP := Lib.hid hp
    clear hp
    cases k with
    | zero =>
      gi_wp2
      go_end0
      exact ⟨⟨_, rfl⟩, .inl ⟨pre, by simpa [digsTo] using HP.out, hJs⟩⟩
    | succ k =>
      have hlt : pre.length < wid x := by
        have := congrArg List.length HP.out
        simp [digsTo_length, digs_length] at this
        omega
      obtain ⟨fn, tmps, assign, body, hy, hR⟩ := hY pre (UInt8.ofNat (x / 256 ^ k)) wr hJs hlt
      clear hY
      rw [byte_shift] at hy
      have hk4 : k ≤ 3 := by omega
      gi_wp2
      refine hR.mono ?_
      rintro e W3 (⟨rfl, hJ3, hk3⟩ | ⟨rfl, hJx3⟩)
      · gi_wp2
        go_roundw
        case rel => exact ⟨pre ++ [UInt8.ofNat (x / 256 ^ k)], k, by go_num, by omega, by rw [← HP.out, digsTo]; simp, Eq.trans hk3 hb, hJ3⟩
        case measure => simp [intOf]
      · gi_wp2
        refine bodyPost_ret (results_none rfl _ _ _) rfl ?_
        exact ⟨⟨_, rfl⟩, .inr ⟨_, ⟨digsTo x k, by rw [← HP.out, digsTo]; simp⟩, hJx3⟩⟩

set_option maxHeartbeats 1000000 in
theorem fromHighest_in (n : Nat) (x : Int) (w : World) :
    CallsIn Fence.wide n Try.prog 43 #[.int .i64 x] w fun e w' => e = .returned (.func (.func 47) #[] #[.pointer (some ⟨w.heap.size, 0, none⟩)]) ∧ w' = w.alloc (.cells #[.int .i64 x] 3) := by
  refine callsIn_of_wp Try.func43 rfl trivial ?_ rfl
  simp only [Try.ntmps43, List.size_toArray, List.length_cons, List.length_nil, Nat.reduceAdd, Nat.reduceSub, Array.replicate_succ, Array.replicate_zero, List.push_toArray, List.append_toArray, List.nil_append, List.cons_append]
  gi_wp2
  go_ret
  exact ⟨rfl, rfl⟩

theorem highest_stops (n : Nat) (hn : 2 ≤ n) (Bn x : Nat) (hx : x ≤ 4294967295) (w : World) (hb : Boxed w Bn 3 (.int .i64 x)) :
    SeqStopsK Fence.wide n Try.prog 47 #[.pointer (some ⟨Bn, 0, none⟩)] (fun b : UInt8 => #[Value.int .u8 (b.toNat : Int)]) (KeepsBox Bn) (fun ys => ys = digs x) (fun pre => pre <+: digs x) (wid x) w := fun l J Jx W hW _ _ hY h0 =>
  highest_in n hn l Bn x hx J Jx hY W ((hW.block Bn hb.lt).trans hb) h0

end Go.Proofs.Ytijhbnkfkjfcfaa
