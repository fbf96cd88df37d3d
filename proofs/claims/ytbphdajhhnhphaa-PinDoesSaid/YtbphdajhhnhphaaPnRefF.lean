/-
  The document's own Of of pins.
-/
import Derived.Test.YtbphdajhhnhphaaPnRow
import Derived.Test.YtbphdajhhnhphaaPnMore
import Derived.Test.YtbphdajhhnhphaaCell
namespace Go.Proofs.Ytbphdajhhnhphaa
set_option maxRecDepth 100000
open Go.RowKit

set_option maxHeartbeats 4000000 in
theorem refPnOf_calls (v : Value) (l : List Pn) (s : Int) (w : World) (h : Pns w v l) (hl : l.length ≤ 1000000) :
    Calls Try.prog 14 #[v, .int .i64 s] w fun e w' => e = .returned (.tuple #[.int .i64 ((ofN l s).getD 0), .bool (ofN l s).isSome]) ∧ w = w' := by
  obtain ⟨ao, cap, rfl⟩ := h.form
  have HH := Lib.hid (And.intro h hl)
  obtain ⟨z, hz⟩ : ∃ z, ofN l s = z := ⟨_, rfl⟩
  rw [hz]
  have HZ := Lib.hid hz
  clear h hl hz
  go_enter Try.func14, Try.ntmps14
  go_wp2_with fail
  go_loopw [6] (fun i wr => ∃ k : Nat, i = .int .i64 k ∧ k ≤ l.length ∧ Hid (ofN (l.drop k) s = z) ∧ w = wr) (fun i _ => l.length - (intOf i).toNat)
  case atStart => exact ⟨0, rfl, Nat.zero_le _, Lib.hid HZ.out, rfl⟩
  case round =>
    obtain ⟨k, rfl, hk, hf, rfl⟩ := hrel
    have hl := HH.out.2
    by_cases hlt : k < l.length
    · have hd : decide ((k : Int) < (l.length : Int)) = true := by rw [decide_eq_true_eq]; omega
      obtain ⟨b, off, rfl, x0, x1⟩ := pns_at HH.out.1 hlt
      have hs := hf.out
      rw [ofN_drop hlt] at hs
      generalize l[k].1 = q at *
      generalize l[k].2 = n at *
      by_cases hq : q = s
      · rw [if_pos hq] at hs
        subst hs
        have e1 : (q == s) = true := by simpa using hq
        clear hq
        go_wp2_with fail
        go_ret2
        exact ⟨rfl, rfl⟩
      · rw [if_neg hq] at hs
        have HS := Lib.hid hs
        have e1 : (q == s) = false := by simpa using hq
        clear hq hs
        go_wp2_with fail
        go_roundw
        case rel => exact ⟨k + 1, by go_num, by omega, Lib.hid HS.out, trivial⟩
        case measure => simp [intOf]; omega
    · obtain rfl : k = l.length := by omega
      have hd : decide ((l.length : Int) < (l.length : Int)) = false := by simp
      have hs := hf.out
      rw [List.drop_length] at hs
      obtain rfl : (none : Option Int) = z := hs
      go_wp2_with fail
      go_ret2
      exact ⟨rfl, rfl⟩

end Go.Proofs.Ytbphdajhhnhphaa
