/-
  meta's reader: number, end; readMeta.
-/
import Derived.Test.YtijhbnkfkjfcfaaMeIs
import Derived.Test.YtijhbnkfkjfcfaaGetN
import Derived.Deep.RegionLaw
namespace Go.Proofs.Ytijhbnkfkjfcfaa
set_option maxRecDepth 100000
open Go.RowKit

/-- What is thrown at what is no meta's. -/
def thrownM : PanicEntry := { v := .iface 27 (.int .i64 30), recovered := false }
/-- The reader's box. -/
abbrev RdBox (w : World) (b : Nat) (s : List UInt8) : Prop := Boxed w b 45 (.string ⟨s.toArray⟩)

theorem panic_out {f : Func} {R : Ending → World → Prop} {ps : List PanicEntry} {a : Act} {w : World} (hd : a.defers = []) (h : R (.panicked ps) w) : bodyPost Try.prog f R (.panic ps) a w := by
  simp [bodyPost, hd, h]
theorem rd_below {w w' : World} {b : Nat} {s : List UInt8} (h : RdBox w b s) (hB : Below w.heap.size w w') : RdBox w' b s := (hB.block b h.lt).trans h
theorem grown_row {w w' : World} (h : Below w.heap.size w w') (b : Option Nat) : w.grownBy w' b := ⟨h.os, h.tape, h.output, h.size, fun k hk _ => h.block k hk⟩

set_option maxHeartbeats 2000000 in
theorem rNum_ok (b : Nat) (s : List UInt8) (m : Int) (hs : s.length ≤ 4611686018427387904) {n : Nat} {r : List UInt8} (h : getN s = some (n, r)) (hn : (n : Int) ≤ m) (w : World) (hb : RdBox w b s) :
    Calls Try.prog 25 #[.pointer (some ⟨b, 0, none⟩), .int .i64 m] w fun e w' => e = .returned (.int .i64 n) ∧ RdBox w' b r ∧ w.grownBy w' (some b) := by
  have H := Lib.hid h
  have hcell := hb.cell
  have hle : decide (m < (n : Int)) = false := by rw [decide_eq_false_iff_not]; omega
  clear h
  go_enter Try.func25, Try.ntmps25
  go_wp2_with fail
  refine (GetNumber_some s hs H.out _).mono ?_
  rintro e w1 ⟨rfl, hB1⟩
  have hb1 := rd_below hb hB1
  have hcell1 := hb1.cell
  have hfz := hb1.frozen
  go_wp2_with fail
  go_ret
  exact ⟨rfl, hb1.set _, grown_trans (grown_row hB1 _) (grownBy_setCell' _ _ _)⟩

set_option maxHeartbeats 2000000 in
theorem rNum_no (b : Nat) (s : List UInt8) (m : Int) (hs : s.length ≤ 4611686018427387904) (h : ∀ n r, getN s = some (n, r) → m < (n : Int)) (w : World) (hb : RdBox w b s) :
    Calls Try.prog 25 #[.pointer (some ⟨b, 0, none⟩), .int .i64 m] w fun e w' => e = .panicked [thrownM] ∧ w.grownBy w' (some b) := by
  have hcell := hb.cell
  cases hg : getN s with
  | none =>
    have H := Lib.hid hg
    clear hg h
    go_enter Try.func25, Try.ntmps25
    go_wp2_with fail
    refine (GetNumber_none s hs H.out _).mono ?_
    rintro e w1 ⟨rfl, hB1⟩
    go_wp2_with fail
    exact panic_out rfl ⟨rfl, grown_row hB1 _⟩
  | some x =>
    obtain ⟨n, r⟩ := x
    have hle : decide (m < (n : Int)) = true := by rw [decide_eq_true_eq]; exact h n r hg
    have H := Lib.hid hg
    clear hg h
    go_enter Try.func25, Try.ntmps25
    go_wp2_with fail
    refine (GetNumber_some s hs H.out _).mono ?_
    rintro e w1 ⟨rfl, hB1⟩
    go_wp2_with fail
    exact panic_out rfl ⟨rfl, grown_row hB1 _⟩

set_option maxHeartbeats 1000000 in
theorem rEnd_ok (b : Nat) (w : World) (hb : RdBox w b []) : Calls Try.prog 26 #[.pointer (some ⟨b, 0, none⟩)] w fun e w' => e = .returned (.tuple #[]) ∧ w' = w := by
  have hcell := hb.cell
  go_enter Try.func26, Try.ntmps26
  go_wp2_with fail
  go_end0
  exact ⟨rfl, rfl⟩
set_option maxHeartbeats 1000000 in
theorem rEnd_no (b : Nat) (s : List UInt8) (h : s ≠ []) (w : World) (hb : RdBox w b s) : Calls Try.prog 26 #[.pointer (some ⟨b, 0, none⟩)] w fun e w' => e = .panicked [thrownM] ∧ w' = w := by
  have hcell := hb.cell
  have hne : (s == []) = false := by simpa using h
  go_enter Try.func26, Try.ntmps26
  go_wp2_with fail
  exact panic_out rfl ⟨rfl, rfl⟩

end Go.Proofs.Ytijhbnkfkjfcfaa
