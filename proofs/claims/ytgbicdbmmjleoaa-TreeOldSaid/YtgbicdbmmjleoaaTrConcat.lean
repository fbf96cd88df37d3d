/-
  slices.Concat: rows of vertices, leaves.
-/
import Derived.Test.YtgbicdbmmjleoaaTrClone
namespace Go.Proofs.Ytgbicdbmmjleoaa
open Go.RowKit

/-- A row in a row: what it is, how long, its cells. -/
abbrev Rin := Value × Nat × List Value
/-- Rows in a row. -/
def RwsN (w : World) (s : Nat) (v : Value) (R : List Rin) : Prop := Rw w 1 v R.length (R.map (·.1)) ∧ ∀ x ∈ R, Rw w s x.1 x.2.1 x.2.2
def catN (R : List Rin) : Nat := (R.map (·.2.1)).sum
def catC (R : List Rin) : List Value := R.flatMap (·.2.2)
theorem RwsN.below {w w' : World} {s : Nat} {v : Value} {R : List Rin} (h : RwsN w s v R) (hb : Below w.heap.size w w') : RwsN w' s v R := ⟨Rw.below h.1 hb, fun x hx => (h.2 x hx).below hb⟩
theorem RwsN.form {w : World} {s : Nat} {v : Value} {R : List Rin} (h : RwsN w s v R) : ∃ ao cap, v = .slice ao R.length cap := Rw.form h.1
theorem RwsN.at {w : World} {s : Nat} {ao : Option Addr} {n cap : Nat} {R : List Rin} (h : RwsN w s (.slice ao n cap) R) {k : Nat} (hk : k < R.length) : ∃ b off ar cr, ao = some ⟨b, off, none⟩ ∧ w.cell? ⟨b, off + k, none⟩ = some (.slice ar R[k].2.1 cr) ∧ Rw w s (.slice ar R[k].2.1 cr) R[k].2.1 R[k].2.2 := by
  have hx := h.2 _ (List.getElem_mem hk)
  obtain ⟨ar, cr, hv⟩ := hx.form
  obtain ⟨⟨_, ao', cap', he, _, hc⟩, _⟩ := h
  cases he
  rcases hc with h0 | ⟨b, off, rfl, hc⟩
  · omega
  · have := hc k (by simpa using hk)
    rw [List.getElem_map] at this
    exact ⟨b, off, ar, cr, rfl, hv ▸ this, hv ▸ hx⟩
theorem catN_succ {R : List Rin} {k : Nat} (hk : k < R.length) : catN (R.take (k + 1)) = catN (R.take k) + R[k].2.1 := by
  unfold catN
  rw [List.take_succ_eq_append_getElem hk, List.map_append, List.sum_append]
  simp
theorem catC_succ {R : List Rin} {k : Nat} (hk : k < R.length) : catC (R.take (k + 1)) = catC (R.take k) ++ R[k].2.2 := by
  unfold catC
  rw [List.take_succ_eq_append_getElem hk, List.flatMap_append]
  simp
theorem catN_le (R : List Rin) (k : Nat) : catN (R.take k) ≤ catN R := by
  unfold catN
  rw [← List.take_append_drop k R, List.map_append, List.sum_append, List.take_append_drop]
  omega

set_option maxHeartbeats 4000000 in
set_option maxRecDepth 100000 in
theorem concatV_raw (v : Value) (R : List Rin) (w : World) (hs : RwsN w 1 v R) (h1 : ∀ x ∈ R, ∀ u ∈ x.2.2, u.oneCell' = true) (hn : R.length ≤ 1000) (hm : catN R ≤ 1000000) :
    Calls Try.prog 54 #[v] w fun e w' => ∃ ao cap, e = .returned (.slice ao (catN R) cap) ∧ Rw w' 1 (.slice ao (catN R) cap) (catN R) (catC R) ∧ Below w.heap.size w w' := by
  obtain ⟨i0, hi, hz0, hz1, hz2⟩ := info_parts infoV
  obtain ⟨av, cv, rfl⟩ := hs.form
  have HS := Lib.hid (And.intro hs h1)
  clear hs h1
  go_enter Try.func54, Try.ntmps54
  go_wp2_with fail
  go_loop [3, 11] (fun n i => ∃ k : Nat, k ≤ R.length ∧ i = .int .i64 k ∧ n = .int .i64 (catN (R.take k))) (fun _ i => R.length - (intOf i).toNat)
  case atStart => exact ⟨0, Nat.zero_le _, rfl, by simp [catN]⟩
  case round =>
    obtain ⟨k, hk, rfl, rfl⟩ := hrel
    by_cases hlt : k < R.length
    · obtain ⟨b, off, ar, cr, rfl, c0, hp⟩ := HS.out.1.at hlt
      have hl := catN_succ hlt
      have hl2 := catN_le R (k + 1)
      obtain ⟨m, hm1⟩ : ∃ m, R[k].2.1 = m := ⟨_, rfl⟩
      obtain ⟨t, ht⟩ : ∃ t, catN (R.take k) = t := ⟨_, rfl⟩
      rw [hm1] at hl c0
      rw [ht] at hl ⊢
      have HL := Lib.hid hl
      have hb : t + m ≤ 1000000 := by omega
      have hneg : decide ((t : Int) + (m : Int) < 0) = false := by rw [decide_eq_false_iff_not]; omega
      clear hl hl2 hp hm1 ht
      go_wp2_with fail
      go_round
      case rel => exact ⟨k + 1, by omega, by go_num, by rw [HL.out]; go_num⟩
      case measure => simp [intOf]; omega
    · obtain rfl : k = R.length := by omega
      rw [List.take_length]
      obtain ⟨t, ht⟩ : ∃ t, catN R = t := ⟨_, rfl⟩
      rw [ht] at hm ⊢
      have HT := Lib.hid ht
      have KG := Lib.hid (growV_calls t w hm)
      clear ht
      go_wp2_with fail
      refine KG.out.mono ?_
      rintro e w0 ⟨a0, cap0, rfl, ho, hB0⟩
      have HO := Lib.hid ho
      clear ho
      go_wp2_with fail
      go_loopw [6, 27] (fun r i wr => ∃ k : Nat, k ≤ R.length ∧ i = .int .i64 k ∧ (∃ ao cap, r = .slice ao (catN (R.take k)) cap ∧ wr.ownsRow w.heap.size 53 1 (.slice ao (catN (R.take k)) cap) (catN (R.take k)) (catC (R.take k))) ∧ Below w.heap.size w wr) (fun _ i _ => R.length - (intOf i).toNat)
      case atStart => exact ⟨0, Nat.zero_le _, rfl, ⟨a0, cap0, by simp [catN], by simpa [catN, catC] using HO.out⟩, hB0⟩
      case round =>
        obtain ⟨k, hk, rfl, ⟨ao, cap, rfl, hown⟩, hB⟩ := hrel
        by_cases hlt : k < R.length
        · obtain ⟨b, off, ar, cr, rfl, c0, hp⟩ := (HS.out.1.below hB).at hlt
          have hone := HS.out.2 _ (List.getElem_mem hlt)
          have hl := catN_succ hlt
          have hl2 := catN_le R (k + 1)
          have hcs := catC_succ hlt
          rw [HT.out] at hl2
          obtain ⟨m, hm1⟩ : ∃ m, R[k].2.1 = m := ⟨_, rfl⟩
          obtain ⟨cs, hcs1⟩ : ∃ cs, R[k].2.2 = cs := ⟨_, rfl⟩
          obtain ⟨n, hm2⟩ : ∃ n, catN (R.take k) = n := ⟨_, rfl⟩
          obtain ⟨q, hm3⟩ : ∃ q, catN (R.take (k + 1)) = q := ⟨_, rfl⟩
          rw [hm1, hcs1] at hp
          rw [hm1] at c0 hl
          rw [hcs1] at hone hcs
          rw [hm2] at hown hl ⊢
          rw [hm3] at hl hl2
          have HP := Lib.hid (And.intro hp (And.intro hown (And.intro hcs (And.intro hm3 hone))))
          have hb : n + m = q := by omega
          have hb2 : q ≤ 1000000 := by omega
          clear hl hl2 hcs hp hown hm1 hm2 hm3 hone hcs1
          go_wp2_with (at_builtin; refine wpList_append_rw rfl (.tmp 31) (.tmp 32) 68 rfl w.heap.size 53 i0 _ 1 16 Try.underlying68 hi hz0 hz1 hz2 rfl (by decide) _ n _ rfl HP.out.2.1 ar m cr cs rfl HP.out.1 HP.out.2.2.2.2 q hb (by unfold maxLen; omega) (by omega) hB.size ?_; intro a3 c3 w3 hown3 hg3)
          have hB3 := hB.grown hg3 hB.size (fun j e => (HP.out.2.1.lt j e).1)
          go_roundw
          case rel =>
            obtain ⟨_, _, f3, f4, _⟩ := HP.out
            refine ⟨k + 1, by omega, by go_num, ⟨a3, c3, by rw [f4], ?_⟩, hB3⟩
            rw [f4, f3]
            exact hown3
          case measure => simp [intOf]; omega
        · obtain rfl : k = R.length := by omega
          rw [List.take_length, HT.out] at hown ⊢
          have HW := Lib.hid hown
          clear hown
          go_wp2_with fail
          go_ret
          exact ⟨ao, cap, by rw [HT.out]; rfl, by rw [HT.out]; exact Rw.own HW.out, hB⟩

set_option maxHeartbeats 4000000 in
set_option maxRecDepth 100000 in
theorem concatL_raw (v : Value) (R : List Rin) (w : World) (hs : RwsN w 3 v R) (h1 : ∀ x ∈ R, ∀ u ∈ x.2.2, u.oneCell' = true) (hn : R.length ≤ 1000) (hm : catN R ≤ 1000000) :
    Calls Try.prog 60 #[v] w fun e w' => ∃ ao cap, e = .returned (.slice ao (catN R) cap) ∧ Rw w' 3 (.slice ao (catN R) cap) (catN R) (catC R) ∧ Below w.heap.size w w' := by
  obtain ⟨i0, hi, hz0, hz1, hz2⟩ := info_parts infoP
  obtain ⟨av, cv, rfl⟩ := hs.form
  have HS := Lib.hid (And.intro hs h1)
  clear hs h1
  go_enter Try.func60, Try.ntmps60
  go_wp2_with fail
  go_loop [3, 11] (fun n i => ∃ k : Nat, k ≤ R.length ∧ i = .int .i64 k ∧ n = .int .i64 (catN (R.take k))) (fun _ i => R.length - (intOf i).toNat)
  case atStart => exact ⟨0, Nat.zero_le _, rfl, by simp [catN]⟩
  case round =>
    obtain ⟨k, hk, rfl, rfl⟩ := hrel
    by_cases hlt : k < R.length
    · obtain ⟨b, off, ar, cr, rfl, c0, hp⟩ := HS.out.1.at hlt
      have hl := catN_succ hlt
      have hl2 := catN_le R (k + 1)
      obtain ⟨m, hm1⟩ : ∃ m, R[k].2.1 = m := ⟨_, rfl⟩
      obtain ⟨t, ht⟩ : ∃ t, catN (R.take k) = t := ⟨_, rfl⟩
      rw [hm1] at hl c0
      rw [ht] at hl ⊢
      have HL := Lib.hid hl
      have hb : t + m ≤ 1000000 := by omega
      have hneg : decide ((t : Int) + (m : Int) < 0) = false := by rw [decide_eq_false_iff_not]; omega
      clear hl hl2 hp hm1 ht
      go_wp2_with fail
      go_round
      case rel => exact ⟨k + 1, by omega, by go_num, by rw [HL.out]; go_num⟩
      case measure => simp [intOf]; omega
    · obtain rfl : k = R.length := by omega
      rw [List.take_length]
      obtain ⟨t, ht⟩ : ∃ t, catN R = t := ⟨_, rfl⟩
      rw [ht] at hm ⊢
      have HT := Lib.hid ht
      have KG := Lib.hid (growL_calls t w hm)
      clear ht
      go_wp2_with fail
      refine KG.out.mono ?_
      rintro e w0 ⟨a0, cap0, rfl, ho, hB0⟩
      have HO := Lib.hid ho
      clear ho
      go_wp2_with fail
      go_loopw [6, 27] (fun r i wr => ∃ k : Nat, k ≤ R.length ∧ i = .int .i64 k ∧ (∃ ao cap, r = .slice ao (catN (R.take k)) cap ∧ wr.ownsRow w.heap.size 31 3 (.slice ao (catN (R.take k)) cap) (catN (R.take k)) (catC (R.take k))) ∧ Below w.heap.size w wr) (fun _ i _ => R.length - (intOf i).toNat)
      case atStart => exact ⟨0, Nat.zero_le _, rfl, ⟨a0, cap0, by simp [catN], by simpa [catN, catC] using HO.out⟩, hB0⟩
      case round =>
        obtain ⟨k, hk, rfl, ⟨ao, cap, rfl, hown⟩, hB⟩ := hrel
        by_cases hlt : k < R.length
        · obtain ⟨b, off, ar, cr, rfl, c0, hp⟩ := (HS.out.1.below hB).at hlt
          have hone := HS.out.2 _ (List.getElem_mem hlt)
          have hl := catN_succ hlt
          have hl2 := catN_le R (k + 1)
          have hcs := catC_succ hlt
          rw [HT.out] at hl2
          obtain ⟨m, hm1⟩ : ∃ m, R[k].2.1 = m := ⟨_, rfl⟩
          obtain ⟨cs, hcs1⟩ : ∃ cs, R[k].2.2 = cs := ⟨_, rfl⟩
          obtain ⟨n, hm2⟩ : ∃ n, catN (R.take k) = n := ⟨_, rfl⟩
          obtain ⟨q, hm3⟩ : ∃ q, catN (R.take (k + 1)) = q := ⟨_, rfl⟩
          rw [hm1, hcs1] at hp
          rw [hm1] at c0 hl
          rw [hcs1] at hone hcs
          rw [hm2] at hown hl ⊢
          rw [hm3] at hl hl2
          have HP := Lib.hid (And.intro hp (And.intro hown (And.intro hcs (And.intro hm3 hone))))
          have hb : n + m = q := by omega
          have hb2 : q ≤ 1000000 := by omega
          clear hl hl2 hcs hp hown hm1 hm2 hm3 hone hcs1
          go_wp2_with (at_builtin; refine wpList_append_rw rfl (.tmp 31) (.tmp 32) 66 rfl w.heap.size 31 i0 _ 3 40 leaf_slice2 hi hz0 hz1 hz2 rfl (by decide) _ n _ rfl HP.out.2.1 ar m cr cs rfl HP.out.1 HP.out.2.2.2.2 q hb (by unfold maxLen; omega) (by omega) hB.size ?_; intro a3 c3 w3 hown3 hg3)
          have hB3 := hB.grown hg3 hB.size (fun j e => (HP.out.2.1.lt j e).1)
          go_roundw
          case rel =>
            obtain ⟨_, _, f3, f4, _⟩ := HP.out
            refine ⟨k + 1, by omega, by go_num, ⟨a3, c3, by rw [f4], ?_⟩, hB3⟩
            rw [f4, f3]
            exact hown3
          case measure => simp [intOf]; omega
        · obtain rfl : k = R.length := by omega
          rw [List.take_length, HT.out] at hown ⊢
          have HW := Lib.hid hown
          clear hown
          go_wp2_with fail
          go_ret
          exact ⟨ao, cap, by rw [HT.out]; rfl, by rw [HT.out]; exact Rw.own HW.out, hB⟩

/-! ### What is put together -/

/-- Rows of vertices in a row. -/
def VRws (d : Nat) (w : World) (v : Value) (R : List (Value × List Ch)) : Prop := Rw w 1 v R.length (R.map (·.1)) ∧ ∀ x ∈ R, VRow d w x.1 x.2
theorem concatV_calls (d : Nat) (v : Value) (R : List (Value × List Ch)) (w : World) (h : VRws d w v R) (hn : R.length ≤ 1000) (hm : (R.flatMap (·.2)).length ≤ 1000000) :
    Calls Try.prog 54 #[v] w fun e w' => ∃ u, e = .returned u ∧ VRow d w' u (R.flatMap (·.2)) ∧ Below w.heap.size w w' := by
  have e1 : catN (R.map fun x => ((x.1, x.2.length, x.2.map (·.1)) : Rin)) = (R.flatMap (·.2)).length := by
    rw [List.length_flatMap]
    simp [catN, Function.comp_def]
  have e2 : catC (R.map fun x => ((x.1, x.2.length, x.2.map (·.1)) : Rin)) = (R.flatMap (·.2)).map (·.1) := by
    simp [catC, List.flatMap_map, List.map_flatMap]
  have hR : RwsN w 1 v (R.map fun x => ((x.1, x.2.length, x.2.map (·.1)) : Rin)) := by
    refine ⟨?_, fun x hx => ?_⟩
    · rw [List.length_map, List.map_map]
      exact h.1
    · obtain ⟨y, hy, rfl⟩ := List.mem_map.1 hx
      exact (h.2 y hy).1
  refine (concatV_raw v _ w hR (fun x hx u hu => ?_) (by simpa using hn) (by rw [e1]; exact hm)).mono ?_
  · obtain ⟨y, hy, rfl⟩ := List.mem_map.1 hx
    exact (h.2 y hy).ones u hu
  · rw [e1, e2]
    rintro e w' ⟨ao, cap, rfl, hr, hB⟩
    refine ⟨_, rfl, ⟨hr, fun c hc => ?_⟩, hB⟩
    obtain ⟨y, hy, hc⟩ := List.mem_flatMap.1 hc
    exact ((h.2 y hy).2 c hc).below hB
theorem concatL_calls (v : Value) (R : List (Value × List Pr)) (w : World) (h : Rws w v R) (hn : R.length ≤ 1000) (hm : (allP R).length ≤ 1000000) :
    Calls Try.prog 60 #[v] w fun e w' => ∃ u, e = .returned u ∧ Prs w' u (allP R) ∧ Below w.heap.size w w' := by
  have e1 : catN (R.map fun x => ((x.1, x.2.length, pcells x.2) : Rin)) = (allP R).length := by
    unfold allP
    rw [List.length_flatMap]
    simp [catN, Function.comp_def]
  have e2 : catC (R.map fun x => ((x.1, x.2.length, pcells x.2) : Rin)) = pcells (allP R) := by
    simp [catC, List.flatMap_map, allP, pcells, List.flatMap_assoc]
  have hR : RwsN w 3 v (R.map fun x => ((x.1, x.2.length, pcells x.2) : Rin)) := by
    refine ⟨?_, fun x hx => ?_⟩
    · rw [List.length_map, List.map_map]
      exact h.1
    · obtain ⟨y, hy, rfl⟩ := List.mem_map.1 hx
      exact h.2 y hy
  refine (concatL_raw v _ w hR (fun x hx u hu => ?_) (by simpa using hn) (by rw [e1]; exact hm)).mono ?_
  · obtain ⟨y, hy, rfl⟩ := List.mem_map.1 hx
    exact pcells_one _ u hu
  · rw [e1, e2]
    rintro e w' ⟨ao, cap, rfl, hr, hB⟩
    exact ⟨_, rfl, hr, hB⟩

end Go.Proofs.Ytgbicdbmmjleoaa
