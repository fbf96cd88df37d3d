/-
  The walk of TreeOrder.
-/
import Derived.Test.YtgbicdbmmjleoaaTrGrown
import Derived.Test.YtgbicdbmmjleoaaTrTime
import Derived.Test.YtgbicdbmmjleoaaNdPlace
namespace Go.Proofs.Ytgbicdbmmjleoaa
open Go.RowKit

set_option maxRecDepth 100000 in
set_option maxHeartbeats 32000000 in
theorem treeOrder_walk (v : Value) (l : List Pr) (w : World) (hs : Prs w v l) (hk : l.length ≤ maxLen) (hti : Timed l) :
    Calls Try.prog 5 #[v] w fun e w' => e = .returned (.bool true) ∧ Below w.heap.size w w' := by
  obtain ⟨ao, cap, rfl⟩ := hs.form
  have hk' : l.length ≤ 9223372036854775807 := by unfold maxLen at hk; exact hk
  have CB := big_calls _ l w hs hk'
  have HS := Lib.hid hs
  have HTI := Lib.hid hti
  clear hk hk' hs hti
  cases hb : bigP l with
  | true =>
    rw [hb] at CB
    have K := Lib.hid CB
    clear CB hb
    go_enter Try.func5, Try.ntmps5
    go_wp2_with fail
    refine K.out.mono ?_
    rintro e w1 ⟨rfl, rfl⟩
    go_wp2_with fail
    go_ret
    exact ⟨rfl, Below.refl _ _⟩
  | false =>
    rw [hb] at CB
    have K := Lib.hid CB
    have hl := small_facts hb
    have KN := Lib.hid new_calls
    have KG := Lib.hid grown_calls
    clear CB hb
    go_enter Try.func5, Try.ntmps5
    go_wp2_with fail
    refine K.out.mono ?_
    rintro e w1 ⟨rfl, rfl⟩
    go_wp2_with fail
    refine (KN.out _).mono ?_
    rintro e w2 ⟨ta, rfl, hta, hB2⟩
    have HA0 := Lib.hid hta
    clear hta
    go_wp2_with fail
    refine (KN.out _).mono ?_
    rintro e w3 ⟨tb, rfl, htb, hB3⟩
    have HB0 := Lib.hid (And.intro htb (below2 hB2 hB3))
    have HA1 := Lib.hid (HA0.out.below hB3)
    clear htb hB2 hB3
    go_wp2_with fail
    go_loopw [3, 5] (fun a i wr => ∃ k : Nat, k ≤ l.length ∧ i = .int .i64 k ∧ TreeV wr a (putsL (l.take k)) ∧ Unlike (l.take k) ∧ Below w3.heap.size w3 wr) (fun _ i _ => l.length - (intOf i).toNat)
    case atStart => exact ⟨0, Nat.zero_le _, rfl, by simpa [putsL] using HA1.out, by simp [Unlike], Below.refl _ _⟩
    case round =>
      obtain ⟨k, hk, rfl, ha, hu, hB⟩ := hrel
      have HA := Lib.hid ha
      have HU := Lib.hid hu
      have hBw := below2 HB0.out.2 hB
      clear ha hu
      by_cases hlt : k < l.length
      · go_wp2_with fail
        go_loopw [6] (fun i wr' => ∃ j : Nat, j ≤ k ∧ i = .int .i64 j ∧ (∀ i (hi : i < l.length), i < j → l[i].1 ≠ l[k].1) ∧ Below wr.heap.size wr wr') (fun i _ => k - (intOf i).toNat)
        case atStart => exact ⟨0, Nat.zero_le _, rfl, fun i hi h => by omega, Below.refl _ _⟩
        case round =>
          obtain ⟨j, hj, rfl, hne, hB2⟩ := hrel
          have HN := Lib.hid hne
          clear hne
          by_cases hjk : j < k
          · have hjl : j < l.length := by omega
            obtain ⟨b, off, rfl, c0, c1, c2⟩ := (HS.out.below (below2 hBw hB2)).at hjl
            obtain ⟨b', off', he, d0, d1, d2⟩ := (HS.out.below (below2 hBw hB2)).at hlt
            cases he
            obtain ⟨⟨⟨p, n⟩, s⟩, hx⟩ : ∃ x, l[j] = x := ⟨_, rfl⟩
            obtain ⟨⟨⟨q, m⟩, t⟩, hy⟩ : ∃ x, l[k] = x := ⟨_, rfl⟩
            rw [hx] at c0 c1
            rw [hy] at d0 d1
            dsimp only at c0 c1 d0 d1
            have HXY := Lib.hid (And.intro hx hy)
            clear c2 d2 hx hy
            rcases key_cases p q n m with ⟨he, e1, e2⟩ | ⟨he, e1⟩ | ⟨he, e1, e2⟩
            · clear he
              go_wp2_with fail
              go_region_held3 (fun w' => w'.cell? ⟨b, off + j * 3, none⟩ = some (.string ⟨p.toArray⟩) ∧ w'.cell? ⟨b, off + j * 3 + 1, none⟩ = some (.int .i64 n) ∧ w'.cell? ⟨b, off + k * 3, none⟩ = some (.string ⟨q.toArray⟩) ∧ w'.cell? ⟨b, off + k * 3 + 1, none⟩ = some (.int .i64 m)) (first | exact ⟨c0, c1, d0, d1⟩) (first | fail)
              all_goals
                go_wp2_with fail
                refine (KG.out _).mono ?_
                rintro e w4 ⟨rfl, hB3⟩
                go_wp2_with fail
                go_ret
                exact ⟨rfl, below3 hBw hB2 (below2 (drew_below _) hB3)⟩
            all_goals
              have hstep := unlike_step hlt hjl HN.out (by
                rw [HXY.out.1, HXY.out.2]
                rw [decide_eq_false_iff_not] at he
                exact he)
              have HT := Lib.hid hstep
              clear he hstep
              go_wp2_with fail
              go_region_held3 (fun w' => w'.cell? ⟨b, off + j * 3, none⟩ = some (.string ⟨p.toArray⟩) ∧ w'.cell? ⟨b, off + j * 3 + 1, none⟩ = some (.int .i64 n) ∧ w'.cell? ⟨b, off + k * 3, none⟩ = some (.string ⟨q.toArray⟩) ∧ w'.cell? ⟨b, off + k * 3 + 1, none⟩ = some (.int .i64 m)) (first | exact ⟨c0, c1, d0, d1⟩) (first | fail)
              all_goals
                go_wp2_with fail
                go_roundw
                case rel => exact ⟨j + 1, by omega, by go_num, HT.out, below2 hB2 (drew_below _)⟩
                case measure => simp [intOf]; omega
          · obtain rfl : j = k := by omega
            have HU2 := Lib.hid (unlike_succ hlt HU.out HN.out)
            have e1 := putsL_succ hlt
            obtain ⟨b, off, rfl, c0, c1, c2⟩ := (HS.out.below (below2 hBw hB2)).at hlt
            obtain ⟨⟨⟨p, n⟩, s⟩, hx⟩ : ∃ x, l[j] = x := ⟨_, rfl⟩
            rw [hx] at c0 c1 c2 e1
            dsimp only at c0 c1 c2
            have E1 := Lib.hid e1
            have KP := Lib.hid (tput_calls _ _ p n s _ (HA.out.below hB2) (by have := puts_bound l j (by omega); omega))
            clear e1 hx
            go_wp2_with fail
            refine KP.out.mono ?_
            rintro e w4 ⟨u, rfl, hu, hB4⟩
            rw [E1.out] at hu
            have HV := Lib.hid hu
            clear hu
            go_wp2_with fail
            go_roundw
            case rel => exact ⟨j + 1, by omega, by go_num, HV.out, HU2.out, below3 hB hB2 hB4⟩
            case measure => simp [intOf]; omega
      · obtain rfl : k = l.length := by omega
        rw [List.take_length] at HA HU
        have HBt := Lib.hid (HB0.out.1.below hB)
        have hbig : (l.length : Int) - 1 ≤ 80 := by omega
        go_wp2_with fail
        go_loopw [4, 7] (fun b i wr' => ∃ (k : Nat) (z : Int), k ≤ l.length ∧ z + k + 1 = l.length ∧ i = .int .i64 z ∧ TreeV wr' b (putsL (l.reverse.take k)) ∧ Below wr.heap.size wr wr') (fun _ i _ => (intOf i + 1).toNat)
        case atStart => exact ⟨0, (l.length : Int) - 1, Nat.zero_le _, by omega, rfl, by simpa [putsL] using HBt.out, Below.refl _ _⟩
        case round =>
          obtain ⟨k, z, hk, hz, rfl, hb, hB2⟩ := hrel
          have HB := Lib.hid hb
          clear hb
          by_cases hz0 : 0 ≤ z
          · obtain ⟨r, rfl⟩ : ∃ r : Nat, z = r := ⟨z.toNat, by omega⟩
            have hrl : r < l.length := by omega
            have e1 := puts_back (l := l) (k := k) (r := r) (by omega) (by omega)
            obtain ⟨bb, off, rfl, c0, c1, c2⟩ := (HS.out.below (below2 hBw hB2)).at hrl
            obtain ⟨⟨⟨p, n⟩, s⟩, hx⟩ : ∃ x, l[r] = x := ⟨_, rfl⟩
            rw [hx] at c0 c1 c2 e1
            dsimp only at c0 c1 c2
            have E1 := Lib.hid e1
            have KP := Lib.hid (tput_calls _ _ p n s _ HB.out (by have := puts_bound l.reverse k (by omega); omega))
            clear e1 hx
            go_wp2_with fail
            refine KP.out.mono ?_
            rintro e w4 ⟨u, rfl, hu, hB4⟩
            rw [E1.out] at hu
            have HV := Lib.hid hu
            clear hu
            go_wp2_with fail
            go_roundw
            case rel => exact ⟨k + 1, (r : Int) - 1, by omega, by omega, by go_num, HV.out, below2 hB2 hB4⟩
            case measure => simp [intOf]
          · obtain rfl : k = l.length := by omega
            obtain ⟨f1, _, f3⟩ := order_facts HU.out
            have hbr := HB.out
            rw [show l.reverse.take l.length = l.reverse from List.take_of_length_le (by simp), ← f1] at hbr
            have HBR := Lib.hid hbr
            have HT2 := Lib.hid (timed_puts HTI.out)
            have hpl : (putsL l).length ≤ 80 := by omega
            have HF := Lib.hid f3
            obtain ⟨T, hT⟩ : ∃ T, putsL l = T := ⟨_, rfl⟩
            rw [hT] at HA HBR HT2 hpl HF
            have hzn : decide ((0 : Int) ≤ z) = false := by rw [decide_eq_false_iff_not]; exact hz0
            clear hbr f1 f3 hT
            go_wp2_with fail
            refine (KG.out _).mono ?_
            rintro e w5 ⟨rfl, hB5⟩
            have HA5 := Lib.hid (HA.out.below (below2 hB2 hB5))
            have HB5 := Lib.hid (HBR.out.below hB5)
            go_wp2_with fail
            refine (all_calls _ T _ HA5.out (by omega) HT2.out).mono ?_
            rintro e w6 ⟨u6, rfl, hu6, hB6⟩
            have HA6 := Lib.hid (HA5.out.below hB6)
            have HB6 := Lib.hid (HB5.out.below hB6)
            have HU6 := Lib.hid hu6.prs
            clear hu6
            obtain ⟨a6, n6, c6, rfl⟩ := HU6.out.any
            go_wp2_with fail
            refine (all_calls _ T _ HB6.out (by omega) HT2.out).mono ?_
            rintro e w7 ⟨u7, rfl, hu7, hB7⟩
            have HA7 := Lib.hid (HA6.out.below hB7)
            have HU7 := Lib.hid hu7.prs
            have HU67 := Lib.hid (HU6.out.below hB7)
            clear hu7
            obtain ⟨a7, n7, c7, rfl⟩ := HU7.out.any
            go_wp2_with fail
            refine (gSame HU67.out HU7.out (by omega)).mono ?_
            rintro e w8 ⟨rfl, hB8⟩
            have KL := Lib.hid (len_calls _ T _ (HA7.out.below hB8))
            rw [HF.out] at KL
            go_wp2_with fail
            refine KL.out.mono ?_
            rintro e w9 ⟨rfl, rfl⟩
            go_wp2_with fail
            go_ret
            exact ⟨rfl, below2 (below3 hBw hB2 hB5) (below3 hB6 hB7 hB8)⟩

end Go.Proofs.Ytgbicdbmmjleoaa
