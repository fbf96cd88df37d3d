/-
  The document's own Unlike and Step.
-/
import Derived.Test.YtinbeapkhmcifaaDoorBase
import Derived.Test.YtinbeapkhmcifaaDoorCrcSpec
import Derived.Deep.QuietTactic
import Derived.BigQuiet
namespace Go.Proofs.YtinbeapkhmcifaaDoor
open Go.RowKit

theorem unlike_step (a b k : Nat) : (a ^^^ b) % 2 ^ (k + 1) = (a ^^^ b) % 2 ^ k + (if a / 2 ^ k % 2 = b / 2 ^ k % 2 then 0 else 2 ^ k) := by
  have h1 := Nat.mod_pow_succ (b := 2) (k := k) (x := a ^^^ b)
  have h2 : (a ^^^ b) / 2 ^ k % 2 = (a / 2 ^ k % 2 + b / 2 ^ k % 2) % 2 := by rw [xor_pow, xor_par]
  rw [h1, h2]
  have ha : a / 2 ^ k % 2 < 2 := Nat.mod_lt _ (by omega)
  have hb : b / 2 ^ k % 2 < 2 := Nat.mod_lt _ (by omega)
  generalize a / 2 ^ k % 2 = x at *
  generalize b / 2 ^ k % 2 = y at *
  rcases (by omega : x = 0 ∨ x = 1) with rfl | rfl <;> rcases (by omega : y = 0 ∨ y = 1) with rfl | rfl <;> simp
theorem pow_bound {k : Nat} (h : k < 32) : 1 ≤ 2 ^ k ∧ 2 ^ k ≤ 2147483648 :=
  ⟨Nat.one_le_two_pow, by have := Nat.pow_le_pow_right (n := 2) (by omega) (show k ≤ 31 by omega); simpa using this⟩

set_option maxHeartbeats 2000000 in
theorem unlike_calls (a b : Nat) (ha : a < 4294967296) (hb : b < 4294967296) (w : World) :
    Calls Tryd.prog 40 #[.int .i64 a, .int .i64 b] w fun e w' => e = .returned (.int .i64 (a ^^^ b : Nat)) ∧ Below w.heap.size w w' := by
  have hx : a ^^^ b < 4294967296 := Nat.xor_lt_two_pow (n := 32) ha hb
  go_enter Tryd.func40, Tryd.ntmps40
  go_wp2_with fail
  go_loopw [5, 6, 7] (fun o p i wr => ∃ k : Nat, k ≤ 32 ∧ i = .int .i64 k ∧ p = .int .i64 (2 ^ k : Nat) ∧ o = .int .i64 ((a ^^^ b) % 2 ^ k : Nat) ∧ Below w.heap.size w wr) (fun _ _ i _ => 32 - (intOf i).toNat)
  case atStart => exact ⟨0, by omega, rfl, rfl, by simp [Nat.mod_one], Below.refl _ _⟩
  case round =>
    obtain ⟨k, hk, rfl, rfl, rfl, hB⟩ := hrel
    by_cases hlt : k < 32
    · obtain ⟨hp1, hp2⟩ := pow_bound hlt
      have hst := unlike_step a b k
      have hpw : 2 ^ (k + 1) = 2 * 2 ^ k := by rw [Nat.pow_succ, Nat.mul_comm]
      have ho : (a ^^^ b) % 2 ^ k < 2 ^ k := Nat.mod_lt _ (by omega)
      have HST := Lib.hid hst
      have HP := Lib.hid hpw
      clear hst hpw
      generalize (a ^^^ b) % 2 ^ k = o at *
      generalize 2 ^ k = p at *
      have qa0 : (0 : Int) ≤ (a : Int) / (p : Int) := Int.ediv_nonneg (by omega) (by omega)
      have qa1 : (a : Int) / (p : Int) ≤ 4294967295 := Int.le_trans (Int.ediv_le_self _ (by omega)) (by omega)
      have qb0 : (0 : Int) ≤ (b : Int) / (p : Int) := Int.ediv_nonneg (by omega) (by omega)
      have qb1 : (b : Int) / (p : Int) ≤ 4294967295 := Int.le_trans (Int.ediv_le_self _ (by omega)) (by omega)
      have qa : ((a : Int) / (p : Int)) % 2 = ((a / p % 2 : Nat) : Int) := by simp
      have qb : ((b : Int) / (p : Int)) % 2 = ((b / p % 2 : Nat) : Int) := by simp
      by_cases he : a / p % 2 = b / p % 2
      · rw [if_pos he, Nat.add_zero] at HST
        have hne : (((a : Int) / (p : Int)) % 2 != ((b : Int) / (p : Int)) % 2) = false := by rw [qa, qb, he]; simp
        clear he qa qb
        go_wp2_with fail
        go_quiet (fail)
        go_wp2_with fail
        go_roundw
        case rel => exact ⟨k + 1, by omega, by go_num, by rw [HP.out]; go_num, by rw [HST.out]; rfl, below2 hB (drewn_below _ _)⟩
        case measure => simp [intOf]; omega
      · rw [if_neg he] at HST
        have hne : (((a : Int) / (p : Int)) % 2 != ((b : Int) / (p : Int)) % 2) = true := by rw [qa, qb]; simp; omega
        clear he qa qb
        go_wp2_with fail
        go_quiet (fail)
        go_wp2_with fail
        go_roundw
        case rel => exact ⟨k + 1, by omega, by go_num, by rw [HP.out]; go_num, by rw [HST.out]; go_num, below2 hB (drewn_below _ _)⟩
        case measure => simp [intOf]; omega
    · obtain rfl : k = 32 := by omega
      have hfin : (a ^^^ b) % 2 ^ 32 = a ^^^ b := Nat.mod_eq_of_lt (by simpa using hx)
      have HF := Lib.hid hfin
      clear hfin
      go_wp2_with fail
      go_ret
      exact ⟨by rw [HF.out]; rfl, hB⟩

set_option maxHeartbeats 1000000 in
theorem refStep_bad (c : Int) (h : c < 0 ∨ 4294967295 < c) (b : UInt8) (w : World) :
    Calls Tryd.prog 39 #[.int .i64 c, .int .u8 b.toNat] w fun e w' => e = .returned (.tuple #[.int .i64 0, .bool false]) ∧ w = w' := by
  rcases h with h | h
  · go_enter Tryd.func39, Tryd.ntmps39
    go_wp2_with fail
    go_ret2
    exact ⟨rfl, rfl⟩
  · have h' : 0 ≤ c := by omega
    go_enter Tryd.func39, Tryd.ntmps39
    go_wp2_with fail
    go_ret2
    exact ⟨rfl, rfl⟩

theorem bitN_odd {c : Nat} (h : c % 2 = 1) : bitN c = c / 2 ^^^ 3988292384 := by unfold bitN; rw [if_pos h]
theorem bitN_even {c : Nat} (h : ¬ c % 2 = 1) : bitN c = c / 2 := by unfold bitN; rw [if_neg h]

set_option maxHeartbeats 2000000 in
theorem refStep_ok (c : Nat) (h : c < 4294967296) (b : UInt8) (w : World) :
    Calls Tryd.prog 39 #[.int .i64 c, .int .u8 b.toNat] w fun e w' => e = .returned (.tuple #[.int .i64 (stepN c b : Nat), .bool true]) ∧ Below w.heap.size w w' := by
  have hb := b.toNat_lt
  have hx := byte_xor_lt h b
  rw [step_bits]
  generalize b.toNat = y at *
  go_enter Tryd.func39, Tryd.ntmps39
  go_wp2_with fail
  refine (unlike_calls c y h (by omega) _).mono ?_
  rintro e w1 ⟨rfl, hB1⟩
  generalize hd : c ^^^ y = d at *
  have HD := Lib.hid hd
  clear hd
  go_wp2_with fail
  go_loopw [0, 6] (fun q i wr => ∃ k : Nat, k ≤ 8 ∧ i = .int .i64 k ∧ q = .int .i64 (bitsN k d : Nat) ∧ Below w.heap.size w wr) (fun _ i _ => 8 - (intOf i).toNat)
  case atStart => exact ⟨0, by omega, rfl, rfl, hB1⟩
  case round =>
    obtain ⟨k, hk, rfl, rfl, hB⟩ := hrel
    have hl := bits_lt k hx
    by_cases hlt : k < 8
    · have hs := bits_snoc k d
      generalize bitsN k d = z at *
      by_cases ho : z % 2 = 1
      · rw [bitN_odd ho] at hs
        have HS := Lib.hid hs
        clear hs
        go_wp2_with fail
        refine (unlike_calls (z / 2) 3988292384 (by omega) (by omega) _).mono ?_
        rintro e w2 ⟨rfl, hB2⟩
        go_wp2_with fail
        go_roundw
        case rel => exact ⟨k + 1, by omega, by go_num, by rw [HS.out], below2 hB hB2⟩
        case measure => simp [intOf]; omega
      · rw [bitN_even ho] at hs
        have HS := Lib.hid hs
        clear hs
        go_wp2_with fail
        go_roundw
        case rel => exact ⟨k + 1, by omega, by go_num, by rw [HS.out]; rfl, hB⟩
        case measure => simp [intOf]; omega
    · obtain rfl : k = 8 := by omega
      go_wp2_with fail
      go_ret2
      exact ⟨by rw [HD.out]; rfl, hB⟩

end Go.Proofs.YtinbeapkhmcifaaDoor
