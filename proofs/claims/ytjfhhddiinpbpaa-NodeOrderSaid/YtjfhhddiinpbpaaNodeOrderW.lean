/-
  The walk of NodeOrder.
-/
import Derived.Test.YtjfhhddiinpbpaaNdNodes
import Derived.Deep.RegionHeld3
namespace Go.Proofs.Ytjfhhddiinpbpaa
open Go.RowKit

theorem unlike_succ {l : List Pr} {k : Nat} (hk : k < l.length) (h : Unlike (l.take k)) (h1 : ∀ j (hj : j < l.length), j < k → l[j].1 ≠ l[k].1) : Unlike (l.take (k + 1)) := by
  unfold Unlike at h ⊢
  rw [List.take_succ_eq_append_getElem hk, List.pairwise_append]
  refine ⟨h, by simp, fun x hx y hy => ?_⟩
  rw [List.mem_singleton] at hy
  subst hy
  obtain ⟨j, hj, rfl⟩ := List.mem_take_iff_getElem.1 hx
  exact h1 j (by omega) (by omega)
theorem unlike_step {l : List Pr} {k j : Nat} (hk : k < l.length) (hjl : j < l.length) (h : ∀ i (hi : i < l.length), i < j → l[i].1 ≠ l[k].1) (h1 : l[j].1 ≠ l[k].1) : ∀ i (hi : i < l.length), i < j + 1 → l[i].1 ≠ l[k].1 := by
  intro i hi hij
  by_cases e : i = j
  · subst e; exact h1
  · exact h i hi (by omega)
theorem puts_back {l : List Pr} {k r : Nat} (hk : k < l.length) (hr : r + k + 1 = l.length) : putL (putsL (l.reverse.take k)) (l[r]'(by omega)) = putsL (l.reverse.take (k + 1)) := by
  have h := putsL_succ (l := l.reverse) (k := k) (by simpa using hk)
  rw [← h]
  congr 1
  rw [List.getElem_reverse]
  congr 1
  omega
theorem puts_bound (l : List Pr) (k : Nat) (hk : k ≤ 80) : (putsL (l.take k)).length ≤ 80 := by
  have := putsL_le (l.take k)
  rw [List.length_take] at this
  omega

set_option maxRecDepth 100000 in
set_option maxHeartbeats 32000000 in
theorem nodeOrder_walk (v : Value) (l : List Pr) (w : World) (hs : Prs w v l) (hk : l.length ≤ maxLen) :
    Calls Try.prog 7 #[v] w fun e w' => e = .returned (.bool true) ∧ Below w.heap.size w w' := by
  obtain ⟨ao, cap, rfl⟩ := hs.form
  have hk' : l.length ≤ 9223372036854775807 := by unfold maxLen at hk; exact hk
  have CB := big_calls _ l w hs hk'
  have HS := Lib.hid hs
  clear hk hk' hs
  cases hb : bigP l with
  | true =>
    rw [hb] at CB
    have K := Lib.hid CB
    clear CB hb
    go_enter Try.func7, Try.ntmps7
    go_wp2_with fail
    refine K.out.mono ?_
    rintro e w1 ⟨rfl, rfl⟩
    go_wp2_with fail
    go_ret
    exact ⟨rfl, Below.refl _ _⟩
  | false =>
    rw [hb] at CB
    have K := Lib.hid CB
    have hl := small_facts hb
    clear CB hb
    go_enter Try.func7, Try.ntmps7
    go_wp2_with fail
    refine K.out.mono ?_
    rintro e w1 ⟨rfl, rfl⟩
    go_wp2_with fail
    go_loopw [3, 4, 5] (fun a b i wr => ∃ k : Nat, k ≤ l.length ∧ i = .int .i64 k ∧ (∃ aa na ca, a = .slice aa na ca ∧ Prs wr (.slice aa na ca) (putsL (l.take k))) ∧ (∃ ab nb cb, b = .slice ab nb cb ∧ Prs wr (.slice ab nb cb) (putsL (l.reverse.take k))) ∧ Unlike (l.take k) ∧ Below w.heap.size w wr) (fun _ _ i _ => l.length - (intOf i).toNat)
    case atStart => exact ⟨0, Nat.zero_le _, rfl, ⟨none, 0, 0, rfl, Prs.nil _⟩, ⟨none, 0, 0, rfl, Prs.nil _⟩, by simp [Unlike], Below.refl _ _⟩
    case round =>
      obtain ⟨k, hk, rfl, ⟨aa, na, ca, rfl, ha⟩, ⟨ab, nb, cb, rfl, hb⟩, hu, hB⟩ := hrel
      have HA := Lib.hid ha
      have HB := Lib.hid hb
      have HU := Lib.hid hu
      clear ha hb hu
      by_cases hlt : k < l.length
      · go_wp2_with fail
        go_loopw [6] (fun i wr' => ∃ j : Nat, j ≤ k ∧ i = .int .i64 j ∧ (∀ i (hi : i < l.length), i < j → l[i].1 ≠ l[k].1) ∧ Below wr.heap.size wr wr') (fun i _ => k - (intOf i).toNat)
        case atStart => exact ⟨0, Nat.zero_le _, rfl, fun i hi h => by omega, Below.refl _ _⟩
        case round =>
          obtain ⟨j, hj, rfl, hne, hB2⟩ := hrel
          have HN := Lib.hid hne
          clear hne
          by_cases hjk : j < k
          · have hjl : j < l.length := by omega
            obtain ⟨b, off, rfl, c0, c1, c2⟩ := (HS.out.below (below2 hB hB2)).at hjl
            obtain ⟨b', off', he, d0, d1, d2⟩ := (HS.out.below (below2 hB hB2)).at hlt
            cases he
            obtain ⟨⟨⟨p, n⟩, s⟩, hx⟩ : ∃ x, l[j] = x := ⟨_, rfl⟩
            obtain ⟨⟨⟨q, m⟩, t⟩, hy⟩ : ∃ x, l[k] = x := ⟨_, rfl⟩
            rw [hx] at c0 c1
            rw [hy] at d0 d1
            dsimp only at c0 c1 d0 d1
            have HXY := Lib.hid (And.intro hx hy)
            clear c2 d2 hx hy
            rcases key_cases p q n m with ⟨he, e1, e2⟩ | ⟨he, e1⟩ | ⟨he, e1, e2⟩
            · clear he
              go_wp2_with fail
              go_region_held3 (fun w' => w'.cell? ⟨b, off + j * 3, none⟩ = some (.string ⟨p.toArray⟩) ∧ w'.cell? ⟨b, off + j * 3 + 1, none⟩ = some (.int .i64 n) ∧ w'.cell? ⟨b, off + k * 3, none⟩ = some (.string ⟨q.toArray⟩) ∧ w'.cell? ⟨b, off + k * 3 + 1, none⟩ = some (.int .i64 m)) (first | exact ⟨c0, c1, d0, d1⟩) (first | fail)
              all_goals
                go_wp2_with fail
                refine (nodes_calls _).mono ?_
                rintro e w2 ⟨rfl, hB3⟩
                go_wp2_with fail
                go_ret
                exact ⟨rfl, below3 hB hB2 (below2 (drew_below _) hB3)⟩
            all_goals
              have hstep := unlike_step hlt hjl HN.out (by
                rw [HXY.out.1, HXY.out.2]
                rw [decide_eq_false_iff_not] at he
                exact he)
              have HT := Lib.hid hstep
              clear he hstep
              go_wp2_with fail
              go_region_held3 (fun w' => w'.cell? ⟨b, off + j * 3, none⟩ = some (.string ⟨p.toArray⟩) ∧ w'.cell? ⟨b, off + j * 3 + 1, none⟩ = some (.int .i64 n) ∧ w'.cell? ⟨b, off + k * 3, none⟩ = some (.string ⟨q.toArray⟩) ∧ w'.cell? ⟨b, off + k * 3 + 1, none⟩ = some (.int .i64 m)) (first | exact ⟨c0, c1, d0, d1⟩) (first | fail)
              all_goals
                go_wp2_with fail
                go_roundw
                case rel => exact ⟨j + 1, by omega, by go_num, HT.out, below2 hB2 (drew_below _)⟩
                case measure => simp [intOf]; omega
          · obtain rfl : j = k := by omega
            obtain ⟨r, hr⟩ : ∃ r, r + j + 1 = l.length := ⟨l.length - j - 1, by omega⟩
            have hrl : r < l.length := by omega
            have HU2 := Lib.hid (unlike_succ hlt HU.out HN.out)
            have E1 := Lib.hid (putsL_succ hlt)
            have E2 := Lib.hid (puts_back hlt hr)
            have hBB2 := below2 hB hB2
            obtain ⟨b, off, rfl, c0, c1, c2⟩ := (HS.out.below hBB2).at hlt
            obtain ⟨⟨⟨p, n⟩, s⟩, hx⟩ : ∃ x, l[j] = x := ⟨_, rfl⟩
            obtain ⟨⟨⟨q, m⟩, t⟩, hy⟩ : ∃ x, l[r] = x := ⟨_, rfl⟩
            rw [hx] at c0 c1 c2
            dsimp only at c0 c1 c2
            have e1 := E1.out
            have e2 := E2.out
            rw [hx] at e1
            rw [hy] at e2
            have E1' := Lib.hid e1
            have E2' := Lib.hid e2
            have HY := Lib.hid hy
            have hbA := Lib.hid (puts_bound l j (by omega))
            have hbB := Lib.hid (puts_bound l.reverse j (by omega))
            clear E1 E2 e1 e2 hx hy
            have hsub : ((l.length : Int) - 1 - (j : Int)) = (r : Int) := by omega
            go_wp2_with fail
            refine (putN_calls _ _ p n s _ (HA.out.below hB2) (by have := hbA.out; omega)).mono ?_
            rintro e w2 ⟨a2, n2, c2', rfl, ho2, hB3⟩
            rw [E1'.out] at ho2
            have HA2 := Lib.hid ho2.prs
            clear ho2 c0 c1 c2
            obtain ⟨b', off', he, d0, d1, d2⟩ := (HS.out.below (below2 hBB2 hB3)).at hrl
            cases he
            rw [HY.out] at d0 d1 d2
            dsimp only at d0 d1 d2
            go_wp2_with fail
            refine (putN_calls _ _ q m t _ (HB.out.below (below2 hB2 hB3)) (by have := hbB.out; omega)).mono ?_
            rintro e w3 ⟨a3, n3, c3, rfl, ho3, hB4⟩
            rw [E2'.out] at ho3
            have HB3 := Lib.hid ho3.prs
            clear ho3 d0 d1 d2 hsub
            go_wp2_with fail
            go_roundw
            case rel => exact ⟨j + 1, by omega, by go_num, ⟨_, _, _, rfl, HA2.out.below hB4⟩, ⟨_, _, _, rfl, HB3.out⟩, HU2.out, below3 hBB2 hB3 hB4⟩
            case measure => simp [intOf]; omega
      · obtain rfl : k = l.length := by omega
        have hu := HU.out
        have ha := HA.out
        have hb := HB.out
        rw [List.take_length] at hu ha
        rw [show l.reverse.take l.length = l.reverse from List.take_of_length_le (by simp)] at hb
        obtain ⟨f1, f2, f3⟩ := order_facts hu
        rw [← f1] at hb
        have hna := ha.len
        rw [f3] at hna
        obtain rfl := hna
        have HF := Lib.hid (And.intro f2 f3)
        have HA1 := Lib.hid ha
        have HB1 := Lib.hid hb
        clear hu ha hb f1 f2 f3 HA HB HU
        go_wp2_with fail
        refine (nodes_calls _).mono ?_
        rintro e w2 ⟨rfl, hB2⟩
        go_wp2_with fail
        refine (KSame (HA1.out.below hB2) (HB1.out.below hB2) (by rw [HF.out.2]; omega)).mono ?_
        rintro e w3 ⟨rfl, hB3⟩
        go_wp2_with fail
        refine (is_calls _ _ _ (HA1.out.below (below2 hB2 hB3)) (by rw [HF.out.2]; omega)).mono ?_
        rintro e w4 ⟨rfl, hB4⟩
        rw [HF.out.1]
        go_wp2_with fail
        go_ret
        exact ⟨rfl, below3 hB (below2 hB2 hB3) hB4⟩

end Go.Proofs.Ytjfhhddiinpbpaa
