/-
  The document's own Value of metas.
-/
import Derived.Test.YtijhbnkfkjfcfaaMeRefP
namespace Go.Proofs.Ytijhbnkfkjfcfaa
set_option maxRecDepth 100000
open Go.RowKit

attribute [local go_sem] one_app

set_option maxHeartbeats 2000000 in
theorem rValue_gone (z d : Int) (v : Value) (w : World) (n : Int) (ao : Option Addr) (len cap : Nat) (hv : v = .slice ao len cap) (hn : n = 0) :
    Calls Try.prog 14 #[MV z d v, .bool true] w fun e w' => e = .returned (.tuple #[.string ⟨[0].toArray⟩, .int .i64 n]) ∧ Below w.heap.size w w' := by
  subst hv
  subst hn
  go_enter Try.func14, Try.ntmps14
  go_wp2_with fail
  go_ret2
  exact ⟨rfl, below_alloc _ _⟩

set_option maxHeartbeats 2000000 in
theorem rValue_there (z d : Int) (v : Value) (cs : List Int) (w : World) (hv : Ints w v cs) (hl : cs.length ≤ 1000000) :
    Calls Try.prog 14 #[MV z d v, .bool false] w fun e w' => e = .returned (.tuple #[.string ⟨(valM z d cs false).toArray⟩, .int .i64 (valMe z d cs false)]) ∧ Below w.heap.size w w' := by
  obtain ⟨ao, cap, rfl⟩ := hv.form
  have HV := Lib.hid (hv.below (below_alloc w (.cells #[.int .i64 z, .int .i64 d, .slice ao cs.length cap] 24)))
  clear hv
  cases hm : metaB z d cs with
  | false =>
    have h1 : valM z d cs false = [] := by simp [valM, hm]
    have h2 : valMe z d cs false = 1 := by simp [valMe, putMe, hm]
    have HM := Lib.hid hm
    rw [h1, h2]
    clear h1 h2 hm
    go_enter Try.func14, Try.ntmps14
    go_wp2_with fail
    refine (rPut_no z d _ cs _ HV.out hl HM.out).mono ?_
    rintro e w1 ⟨rfl, hB1⟩
    go_wp2_with fail
    go_ret2
    exact ⟨rfl, below2 (below_alloc _ _) hB1⟩
  | true =>
    have h1 : valM z d cs false = 1 :: metaT z d cs := by simp [valM, hm]
    have h2 : valMe z d cs false = 0 := by simp [valMe, putMe, hm]
    have K := rPut_ok z d _ cs _ HV.out hm
    have hlen := metaT_len z d cs
    have hl16 := (metaB_iff.1 hm).1
    have hsum : ¬ 9223372036854775807 < 1 + (metaT z d cs).length := by omega
    rw [h1, h2]
    clear h1 h2 hm hlen hl16 HV
    generalize metaT z d cs = t at *
    have K := Lib.hid K
    go_enter Try.func14, Try.ntmps14
    go_wp2_with fail
    refine K.out.mono ?_
    rintro e w1 ⟨rfl, hB1⟩
    go_wp2_with fail
    go_ret2
    exact ⟨rfl, below2 (below_alloc _ _) hB1⟩

theorem rValue_calls (z d : Int) (v : Value) (cs : List Int) (g : Bool) (w : World) (hv : Ints w v cs) (hl : cs.length ≤ 1000000) :
    Calls Try.prog 14 #[MV z d v, .bool g] w fun e w' => e = .returned (.tuple #[.string ⟨(valM z d cs g).toArray⟩, .int .i64 (valMe z d cs g)]) ∧ Below w.heap.size w w' := by
  cases g with
  | true =>
    obtain ⟨ao, cap, rfl⟩ := hv.form
    exact rValue_gone z d _ w 0 _ _ _ rfl rfl
  | false => exact rValue_there z d v cs w hv hl

end Go.Proofs.Ytijhbnkfkjfcfaa
