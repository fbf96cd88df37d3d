/-
  slices.Grow, slices.Concat of rows of 24.
-/
import Derived.Test.YtbphdajhhnhphaaPns
import Derived.Test.YtbphdajhhnhphaaRws
import Derived.Test.YtbphdajhhnhphaaGrowN
namespace Go.Proofs.Ytbphdajhhnhphaa
set_option maxRecDepth 100000
open Go.RowKit

set_option maxHeartbeats 2000000 in
set_option maxRecDepth 100000 in
theorem pngrow_calls (n : Nat) (w : World) (hm : n ≤ 1000000) :
    Calls Try.prog 29 #[.slice none 0 0, .int .i64 n] w fun e w' => ∃ ao cap, e = .returned (.slice ao 0 cap) ∧ w'.ownsRow w.heap.size 24 2 (.slice ao 0 cap) 0 [] ∧ Below w.heap.size w w' := by
  obtain ⟨i0, hi, hz0, hz1, hz2⟩ := info_parts infoPn
  by_cases h0 : n = 0
  · subst h0
    go_enter Try.func29, Try.ntmps29
    go_wp2_with fail
    go_ret
    exact ⟨none, 0, rfl, World.ownsRow_nil _ _ _ _, Below.refl _ _⟩
  · obtain ⟨cap, w1, hr, hc1, hc2, ho, hB⟩ := grow_nil w 22 24 i0 _ 2 16 Try.underlying22 int_under hi hz0 hz1 hz2 rfl (by decide) n (by omega) hm (by decide)
    have HO := Lib.hid ho
    have hp : (0 : Int) < (n : Int) := by omega
    unfold maxLen at hc2
    have hsl : ∀ W, (Instr.slice 22 (.slice (some ⟨w.heap.size, 0, none⟩) n cap) none (some (.int .i64 0)) none).run Try.prog W = .ok (.slice (some ⟨w.heap.size, 0, none⟩) 0 cap) W := fun W => by
      have := run_slice_h (P := Try.prog) W 22 (some ⟨w.heap.size, 0, none⟩) n cap (by rw [pns_elem]; exact Try.underlying22) .i64 0 (by omega) (by omega)
      simpa [pns_elem, (size_of (k := 2) (by kernel_rfl : (Try.prog.info? 24).map (·.size) = some 2)), sliced, Result.andThen, Addr.add] using this
    clear ho
    go_enter Try.func29, Try.ntmps29
    go_wp2_with (at_builtin; refine Lib.wpList_append_run _ rfl _ _ _ _ rfl _ _ rfl rfl _ _ (hr _) ?_)
    go_ret
    exact ⟨_, cap, rfl, HO.out, hB⟩

set_option maxHeartbeats 4000000 in
set_option maxRecDepth 100000 in
theorem pnconcat_raw (v : Value) (R : List Rin) (w : World) (hs : RwsN w 2 v R) (h1 : ∀ x ∈ R, ∀ u ∈ x.2.2, u.oneCell' = true) (hn : R.length ≤ 1000) (hm : catN R ≤ 1000000) :
    Calls Try.prog 25 #[v] w fun e w' => ∃ ao cap, e = .returned (.slice ao (catN R) cap) ∧ w'.ownsRow w.heap.size 24 2 (.slice ao (catN R) cap) (catN R) (catC R) ∧ Below w.heap.size w w' := by
  obtain ⟨i0, hi, hz0, hz1, hz2⟩ := info_parts infoPn
  obtain ⟨av, cv, rfl⟩ := hs.form
  have HS := Lib.hid (And.intro hs h1)
  clear hs h1
  go_enter Try.func25, Try.ntmps25
  go_wp2_with fail
  go_loop [3, 11] (fun n i => ∃ k : Nat, k ≤ R.length ∧ i = .int .i64 k ∧ n = .int .i64 (catN (R.take k))) (fun _ i => R.length - (intOf i).toNat)
  case atStart => exact ⟨0, Nat.zero_le _, rfl, by simp [catN]⟩
  case round =>
    obtain ⟨k, hk, rfl, rfl⟩ := hrel
    by_cases hlt : k < R.length
    · obtain ⟨b, off, ar, cr, rfl, c0, hp⟩ := HS.out.1.at hlt
      have hl := catN_succ hlt
      have hl2 := catN_le R (k + 1)
      obtain ⟨m, hm1⟩ : ∃ m, R[k].2.1 = m := ⟨_, rfl⟩
      obtain ⟨t, ht⟩ : ∃ t, catN (R.take k) = t := ⟨_, rfl⟩
      rw [hm1] at hl c0
      rw [ht] at hl ⊢
      have HL := Lib.hid hl
      have hb : t + m ≤ 1000000 := by omega
      have hneg : decide ((t : Int) + (m : Int) < 0) = false := by rw [decide_eq_false_iff_not]; omega
      clear hl hl2 hp hm1 ht
      go_wp2_with fail
      go_round
      case rel => exact ⟨k + 1, by omega, by go_num, by rw [HL.out]; go_num⟩
      case measure => simp [intOf]; omega
    · obtain rfl : k = R.length := by omega
      rw [List.take_length]
      obtain ⟨t, ht⟩ : ∃ t, catN R = t := ⟨_, rfl⟩
      rw [ht] at hm ⊢
      have HT := Lib.hid ht
      have KG := Lib.hid (pngrow_calls t w hm)
      clear ht
      go_wp2_with fail
      refine KG.out.mono ?_
      rintro e w0 ⟨a0, cap0, rfl, ho, hB0⟩
      have HO := Lib.hid ho
      clear ho
      go_wp2_with fail
      go_loopw [6, 27] (fun r i wr => ∃ k : Nat, k ≤ R.length ∧ i = .int .i64 k ∧ (∃ ao cap, r = .slice ao (catN (R.take k)) cap ∧ wr.ownsRow w.heap.size 24 2 (.slice ao (catN (R.take k)) cap) (catN (R.take k)) (catC (R.take k))) ∧ Below w.heap.size w wr) (fun _ i _ => R.length - (intOf i).toNat)
      case atStart => exact ⟨0, Nat.zero_le _, rfl, ⟨a0, cap0, by simp [catN], by simpa [catN, catC] using HO.out⟩, hB0⟩
      case round =>
        obtain ⟨k, hk, rfl, ⟨ao, cap, rfl, hown⟩, hB⟩ := hrel
        by_cases hlt : k < R.length
        · obtain ⟨b, off, ar, cr, rfl, c0, hp⟩ := (HS.out.1.below hB).at hlt
          have hone := HS.out.2 _ (List.getElem_mem hlt)
          have hl := catN_succ hlt
          have hl2 := catN_le R (k + 1)
          have hcs := catC_succ hlt
          rw [HT.out] at hl2
          obtain ⟨m, hm1⟩ : ∃ m, R[k].2.1 = m := ⟨_, rfl⟩
          obtain ⟨cs, hcs1⟩ : ∃ cs, R[k].2.2 = cs := ⟨_, rfl⟩
          obtain ⟨n, hm2⟩ : ∃ n, catN (R.take k) = n := ⟨_, rfl⟩
          obtain ⟨q, hm3⟩ : ∃ q, catN (R.take (k + 1)) = q := ⟨_, rfl⟩
          rw [hm1, hcs1] at hp
          rw [hm1] at c0 hl
          rw [hcs1] at hone hcs
          rw [hm2] at hown hl ⊢
          rw [hm3] at hl hl2
          have HP := Lib.hid (And.intro hp (And.intro hown (And.intro hcs (And.intro hm3 hone))))
          have hb : n + m = q := by omega
          have hb2 : q ≤ 1000000 := by omega
          clear hl hl2 hcs hp hown hm1 hm2 hm3 hone hcs1
          go_wp2_with (at_builtin; refine wpList_append_rw rfl (.tmp 31) (.tmp 32) 22 rfl w.heap.size 24 i0 _ 2 16 Try.underlying22 hi hz0 hz1 hz2 rfl (by decide) _ n _ rfl HP.out.2.1 ar m cr cs rfl HP.out.1 HP.out.2.2.2.2 q hb (by unfold maxLen; omega) (by omega) hB.size ?_; intro a3 c3 w3 hown3 hg3)
          have hB3 := hB.grown hg3 hB.size (fun j e => (HP.out.2.1.lt j e).1)
          go_roundw
          case rel =>
            obtain ⟨_, _, f3, f4, _⟩ := HP.out
            refine ⟨k + 1, by omega, by go_num, ⟨a3, c3, by rw [f4], ?_⟩, hB3⟩
            rw [f4, f3]
            exact hown3
          case measure => simp [intOf]; omega
        · obtain rfl : k = R.length := by omega
          rw [List.take_length, HT.out] at hown ⊢
          have HW := Lib.hid hown
          clear hown
          go_wp2_with fail
          go_ret
          exact ⟨ao, cap, by rw [HT.out]; rfl, by rw [HT.out]; exact HW.out, hB⟩

/-- Rows of such elements, one behind the other. -/
def pnrins (R : List (Value × List Pn)) : List Rin := R.map fun x => (x.1, x.2.length, cellsOf pncell x.2)
theorem pnrins_cat (R : List (Value × List Pn)) : catN (pnrins R) = (R.flatMap (·.2)).length ∧ catC (pnrins R) = cellsOf pncell (R.flatMap (·.2)) := by
  induction R with
  | nil => exact ⟨rfl, rfl⟩
  | cons x r ih =>
    obtain ⟨h1, h2⟩ := ih
    unfold pnrins catN catC at *
    constructor
    · rw [List.map_cons, List.map_cons, List.sum_cons, h1, List.flatMap_cons, List.length_append]
    · rw [List.map_cons, List.flatMap_cons, h2, List.flatMap_cons, cellsOf_append]
theorem pnconcat_calls (v : Value) (R : List (Value × List Pn)) (U : List Pn) (w : World) (hv : Rw w 1 v R.length (R.map (·.1))) (hR : ∀ x ∈ R, Pns w x.1 x.2) (hU : R.flatMap (·.2) = U) (hn : R.length ≤ 1000) (hm : U.length ≤ 1000000) :
    Calls Try.prog 25 #[v] w fun e w' => ∃ ao cap, e = .returned (.slice ao U.length cap) ∧ OwnPn w' w.heap.size (.slice ao U.length cap) U ∧ Below w.heap.size w w' := by
  obtain ⟨e1, e2⟩ := pnrins_cat R
  rw [hU] at e1 e2
  have hl : (pnrins R).length = R.length := by unfold pnrins; rw [List.length_map]
  refine (pnconcat_raw v (pnrins R) w ⟨?_, fun x hx => ?_⟩ (fun x hx u hu => ?_) (by rw [hl]; exact hn) (by rw [e1]; exact hm)).mono ?_
  · rw [hl]
    unfold pnrins
    rw [List.map_map]
    exact hv
  · unfold pnrins at hx
    obtain ⟨y, hy, rfl⟩ := List.mem_map.1 hx
    exact hR y hy
  · unfold pnrins at hx
    obtain ⟨y, hy, rfl⟩ := List.mem_map.1 hx
    exact cellsOf_one pncell_o _ u hu
  · rintro e w' ⟨ao, cap, rfl, hr, hB⟩
    rw [e1, e2] at hr
    rw [e1]
    exact ⟨ao, cap, rfl, hr, hB⟩

end Go.Proofs.Ytbphdajhhnhphaa
