/-
  The walk of CrcBit.
-/
import Derived.Test.YtoaoinmmfpmgkaaDoorSummed
import Derived.Test.YtoaoinmmfpmgkaaDoorBytes
namespace Go.Proofs.YtoaoinmmfpmgkaaDoor
open Go.RowKit
theorem app_x (a : List UInt8) : ByteArray.mk a.toArray ++ ByteArray.mk #[120] = ⟨(a ++ [120]).toArray⟩ := app_mk a [120]
attribute [local go_sem] app_x

theorem bit_set {x p : Nat} (hp : ∃ j, j ≤ 7 ∧ p = 2 ^ j) (hx : x < 256) (h : x / p % 2 = 1) : p ≤ x ∧ x - p < 256 ∧ x - p ≠ x := by
  obtain ⟨j, hj, rfl⟩ := hp
  rcases (by omega : j = 0 ∨ j = 1 ∨ j = 2 ∨ j = 3 ∨ j = 4 ∨ j = 5 ∨ j = 6 ∨ j = 7) with rfl | rfl | rfl | rfl | rfl | rfl | rfl | rfl <;> simp only [Nat.reducePow] at h ⊢ <;> omega
theorem bit_clear {x p : Nat} (hp : ∃ j, j ≤ 7 ∧ p = 2 ^ j) (hx : x < 256) (h : x / p % 2 ≠ 1) : x + p < 256 ∧ x + p ≠ x := by
  obtain ⟨j, hj, rfl⟩ := hp
  rcases (by omega : j = 0 ∨ j = 1 ∨ j = 2 ∨ j = 3 ∨ j = 4 ∨ j = 5 ∨ j = 6 ∨ j = 7) with rfl | rfl | rfl | rfl | rfl | rfl | rfl | rfl <;> simp only [Nat.reducePow] at h ⊢ <;> omega
theorem pow_small {j : Nat} (h : j ≤ 7) : 1 ≤ 2 ^ j ∧ 2 ^ j ≤ 128 := by
  rcases (by omega : j = 0 ∨ j = 1 ∨ j = 2 ∨ j = 3 ∨ j = 4 ∨ j = 5 ∨ j = 6 ∨ j = 7) with rfl | rfl | rfl | rfl | rfl | rfl | rfl | rfl <;> decide

set_option maxHeartbeats 1000000 in
theorem bit_out (s : List UInt8) (p q : Int) (w : World) (hm : s.length ≤ 9223372036854775807) (ho : 400 < s.length ∨ p < 0 ∨ (s.length : Int) ≤ p ∨ q < 0 ∨ 7 < q) (hT : TabOk w) :
    Calls Tryd.prog 7 #[.string ⟨s.toArray⟩, .int .i64 p, .int .i64 q] w fun e w' => e = .returned (.bool true) ∧ Below w.heap.size w w' := by
  by_cases h1 : 400 < s.length
  · go_enter Tryd.func7, Tryd.ntmps7
    go_wp2_with fail
    refine (summed_calls _ hT).mono ?_
    rintro e w1 ⟨rfl, hB1⟩
    go_wp2_with fail
    go_ret
    exact ⟨rfl, hB1⟩
  have d1 : decide ((400 : Int) < (s.length : Int)) = false := by simp; omega
  by_cases h2 : p < 0
  · go_enter Tryd.func7, Tryd.ntmps7
    go_wp2_with fail
    refine (summed_calls _ hT).mono ?_
    rintro e w1 ⟨rfl, hB1⟩
    go_wp2_with fail
    go_ret
    exact ⟨rfl, hB1⟩
  have d2 : decide (p < 0) = false := by simp; omega
  by_cases h3 : (s.length : Int) ≤ p
  · go_enter Tryd.func7, Tryd.ntmps7
    go_wp2_with fail
    refine (summed_calls _ hT).mono ?_
    rintro e w1 ⟨rfl, hB1⟩
    go_wp2_with fail
    go_ret
    exact ⟨rfl, hB1⟩
  have d3 : decide ((s.length : Int) ≤ p) = false := by simp; omega
  by_cases h4 : q < 0
  · go_enter Tryd.func7, Tryd.ntmps7
    go_wp2_with fail
    refine (summed_calls _ hT).mono ?_
    rintro e w1 ⟨rfl, hB1⟩
    go_wp2_with fail
    go_ret
    exact ⟨rfl, hB1⟩
  have d4 : decide (q < 0) = false := by simp; omega
  have h5 : 7 < q := by omega
  go_enter Tryd.func7, Tryd.ntmps7
  go_wp2_with fail
  refine (summed_calls _ hT).mono ?_
  rintro e w1 ⟨rfl, hB1⟩
  go_wp2_with fail
  go_ret
  exact ⟨rfl, hB1⟩

set_option maxRecDepth 100000 in
set_option maxHeartbeats 4000000 in
theorem bit_in (s : List UInt8) (i j : Nat) (w : World) (hl : s.length ≤ 400) (hi : i < s.length) (hj : j ≤ 7) (hT : TabOk w) :
    Calls Tryd.prog 7 #[.string ⟨s.toArray⟩, .int .i64 i, .int .i64 j] w fun e w' => e = .returned (.bool true) ∧ Below w.heap.size w w' := by
  have d1 : decide ((400 : Int) < (s.length : Int)) = false := by simp; omega
  have d2 : decide ((i : Int) < 0) = false := by simp
  have d3 : decide (s.length ≤ i) = false := by simp; omega
  have d4 : decide ((j : Int) < 0) = false := by simp
  have d5 : decide ((7 : Int) < (j : Int)) = false := by simp; omega
  obtain ⟨cap, W, hconv, hrow, hB⟩ := conv_bytes s w
  have hTW := hT.below hB
  obtain ⟨hcell, hfz⟩ := hrow i hi
  have hx : s[i].toNat < 256 := UInt8.toNat_lt _
  have HR := Lib.hid hrow
  clear hrow
  go_enter Tryd.func7, Tryd.ntmps7
  go_wp2_with fail
  go_loopw [8, 9] (fun y z wr => ∃ k : Nat, k ≤ j ∧ z = .int .i64 k ∧ y = .int .i64 (2 ^ k : Nat) ∧ wr = W) (fun _ z _ => j - (intOf z).toNat)
  case atStart => exact ⟨0, Nat.zero_le _, rfl, rfl, rfl⟩
  case round =>
    obtain ⟨k, hk, rfl, rfl, rfl⟩ := hrel
    obtain ⟨hp1, hp2⟩ := pow_small (show k ≤ 7 by omega)
    by_cases hlt : k < j
    · have hpw : 2 ^ (k + 1) = 2 * 2 ^ k := by rw [Nat.pow_succ, Nat.mul_comm]
      have HP := Lib.hid hpw
      clear hpw
      generalize 2 ^ k = pk at *
      go_wp2_with fail
      go_roundw
      case rel => exact ⟨k + 1, by omega, by go_num, by rw [HP.out]; go_num, trivial⟩
      case measure => simp [intOf]; omega
    · obtain rfl : k = j := by omega
      have hpe : ∃ j, j ≤ 7 ∧ 2 ^ k = 2 ^ j := ⟨k, hj, rfl⟩
      generalize 2 ^ k = p at *
      generalize hxx : s[i].toNat = x at *
      have HX := Lib.hid hxx
      clear hxx hlt hk
      have hq0 : (0 : Int) ≤ (x : Int) / (p : Int) := Int.ediv_nonneg (by omega) (by omega)
      have hq1 : (x : Int) / (p : Int) ≤ 255 := Int.le_trans (Int.ediv_le_self _ (by omega)) (by omega)
      have hqn : ((x : Int) / (p : Int)) % 2 = ((x / p % 2 : Nat) : Int) := by simp
      by_cases hbit : x / p % 2 = 1
      · have hq : (x : Int) / (p : Int) % 2 = 1 := by rw [hqn, hbit]; rfl
        obtain ⟨hpx, hlt, hneq⟩ := bit_set hpe hx hbit
        clear hqn hpe hbit
        obtain ⟨b', hb, hbs⟩ : ∃ b' : UInt8, (b'.toNat : Int) = (x : Int) - (p : Int) ∧ b' ≠ s[i] := by
          refine ⟨UInt8.ofNat (x - p), by simp; omega, fun e => hneq ?_⟩
          have := congrArg UInt8.toNat e
          rw [HX.out] at this
          simp at this
          omega
        clear hneq
        have hset := HR.out.set i b'
        rw [hb] at hset
        have hne1 : (((sumN (s.set i b') : Nat) : Int) != ((sumN s : Nat) : Int)) = true := by
          have h := sum_set s i hi hbs []
          rw [List.append_nil, List.append_nil] at h
          simp
          omega
        have hne2 : (((sumN (s.set i b' ++ [120]) : Nat) : Int) != ((sumN (s ++ [120]) : Nat) : Int)) = true := by
          have h := sum_set s i hi hbs [120]
          simp
          omega
        have hlen : (s.set i b').length = s.length := List.length_set
        generalize s.set i b' = s' at *
        clear hbs hb
        have hB2 : Below w.heap.size w (wr.setCell ⟨w.heap.size, i, none⟩ (.int .u8 ((x : Int) - (p : Int)))) := hB.setCell (p := ⟨w.heap.size, i, none⟩) (Nat.le_refl _) _
        have hT2 := hT.below hB2
        go_wp2_with fail
        refine (summed_calls _ hT2).mono ?_
        rintro e w3 ⟨rfl, hB3⟩
        have hT3 := hT2.below hB3
        have hr3 := hset.below hB3
        have hc3 := conv_row hr3 cap
        rw [hlen] at hc3
        go_wp2_with fail
        refine (sum_calls s' (by omega) _ hT3).mono ?_
        rintro e w4 ⟨rfl, hB4⟩
        have hT4 := hT3.below hB4
        go_wp2_with fail
        refine (sum_calls s (by omega) _ hT4).mono ?_
        rintro e w5 ⟨rfl, hB5⟩
        have hT5 := hT4.below hB5
        have hc5 := conv_row ((hr3.below hB4).below hB5) cap
        rw [hlen] at hc5
        go_wp2_with fail
        refine (sum_calls (s' ++ [120]) (by rw [List.length_append, hlen]; simp; omega) _ hT5).mono ?_
        rintro e w6 ⟨rfl, hB6⟩
        have hT6 := hT5.below hB6
        go_wp2_with fail
        refine (sum_calls (s ++ [120]) (by rw [List.length_append]; simp; omega) _ hT6).mono ?_
        rintro e w7 ⟨rfl, hB7⟩
        go_wp2_with fail
        go_ret
        exact ⟨rfl, below2 (below2 (below2 (below2 (below2 hB2 hB3) hB4) hB5) hB6) hB7⟩
      · have hq : (x : Int) / (p : Int) % 2 = 0 := by rw [hqn]; omega
        obtain ⟨hpx, hneq⟩ := bit_clear hpe hx hbit
        clear hqn hpe hbit
        obtain ⟨b', hb, hbs⟩ : ∃ b' : UInt8, (b'.toNat : Int) = (x : Int) + (p : Int) ∧ b' ≠ s[i] := by
          refine ⟨UInt8.ofNat (x + p), by simp; omega, fun e => hneq ?_⟩
          have := congrArg UInt8.toNat e
          rw [HX.out] at this
          simp at this
          omega
        clear hneq
        have hset := HR.out.set i b'
        rw [hb] at hset
        have hne1 : (((sumN (s.set i b') : Nat) : Int) != ((sumN s : Nat) : Int)) = true := by
          have h := sum_set s i hi hbs []
          rw [List.append_nil, List.append_nil] at h
          simp
          omega
        have hne2 : (((sumN (s.set i b' ++ [120]) : Nat) : Int) != ((sumN (s ++ [120]) : Nat) : Int)) = true := by
          have h := sum_set s i hi hbs [120]
          simp
          omega
        have hlen : (s.set i b').length = s.length := List.length_set
        generalize s.set i b' = s' at *
        clear hbs hb
        have hB2 : Below w.heap.size w (wr.setCell ⟨w.heap.size, i, none⟩ (.int .u8 ((x : Int) + (p : Int)))) := hB.setCell (p := ⟨w.heap.size, i, none⟩) (Nat.le_refl _) _
        have hT2 := hT.below hB2
        go_wp2_with fail
        refine (summed_calls _ hT2).mono ?_
        rintro e w3 ⟨rfl, hB3⟩
        have hT3 := hT2.below hB3
        have hr3 := hset.below hB3
        have hc3 := conv_row hr3 cap
        rw [hlen] at hc3
        go_wp2_with fail
        refine (sum_calls s' (by omega) _ hT3).mono ?_
        rintro e w4 ⟨rfl, hB4⟩
        have hT4 := hT3.below hB4
        go_wp2_with fail
        refine (sum_calls s (by omega) _ hT4).mono ?_
        rintro e w5 ⟨rfl, hB5⟩
        have hT5 := hT4.below hB5
        have hc5 := conv_row ((hr3.below hB4).below hB5) cap
        rw [hlen] at hc5
        go_wp2_with fail
        refine (sum_calls (s' ++ [120]) (by rw [List.length_append, hlen]; simp; omega) _ hT5).mono ?_
        rintro e w6 ⟨rfl, hB6⟩
        have hT6 := hT5.below hB6
        go_wp2_with fail
        refine (sum_calls (s ++ [120]) (by rw [List.length_append]; simp; omega) _ hT6).mono ?_
        rintro e w7 ⟨rfl, hB7⟩
        go_wp2_with fail
        go_ret
        exact ⟨rfl, below2 (below2 (below2 (below2 (below2 hB2 hB3) hB4) hB5) hB6) hB7⟩

theorem bit_crc (s : List UInt8) (p q : Int) (w : World) (hs : s.length ≤ reachBytes) (_ : (Lit.int .i64 p).wf = true) (_ : (Lit.int .i64 q).wf = true) (hT : TabOk w) :
    Calls Tryd.prog 7 #[.string ⟨s.toArray⟩, .int .i64 p, .int .i64 q] w fun e w' => e = .returned (.bool true) ∧ Below w.heap.size w w' := by
  unfold reachBytes at hs
  by_cases ho : 400 < s.length ∨ p < 0 ∨ (s.length : Int) ≤ p ∨ q < 0 ∨ 7 < q
  · exact bit_out s p q w (by omega) ho hT
  · obtain ⟨i, rfl⟩ := Int.eq_ofNat_of_zero_le (show 0 ≤ p by omega)
    obtain ⟨j, rfl⟩ := Int.eq_ofNat_of_zero_le (show 0 ≤ q by omega)
    exact bit_in s i j w (by omega) (by omega) (by omega) hT

end Go.Proofs.YtoaoinmmfpmgkaaDoor
