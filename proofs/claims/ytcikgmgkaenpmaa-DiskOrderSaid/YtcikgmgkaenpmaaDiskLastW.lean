/-
  The walk of DiskLast.
-/
import Derived.Test.YtcikgmgkaenpmaaFar
import Derived.Test.YtcikgmgkaenpmaaSpun
import Derived.Test.YtcikgmgkaenpmaaSync
import Derived.Test.YtcikgmgkaenpmaaSameD
namespace Go.Proofs.Ytcikgmgkaenpmaa
open Go.RowKit

theorem hasB_len {bs : List (List UInt8)} {ws : List Wr} (i : Int) : hasB (layL bs ws).length i = hasB bs.length i := by rw [layL_len]
theorem lay_all {bs : List (List UInt8)} {xs : List Wr} (h : bs.all blockB = true) (hx : ∀ x ∈ xs, blockB x.2 = true) : (layL bs xs).all blockB = true := by
  induction xs generalizing bs with
  | nil => exact h
  | cons x r ih =>
    show (layL (bs.set x.1.toNat x.2) r).all blockB = true
    refine ih ?_ (fun y hy => hx y (List.mem_cons_of_mem _ hy))
    rw [List.all_eq_true] at h ⊢
    intro y hy
    rcases List.mem_or_eq_of_mem_set hy with h1 | rfl
    · exact h y h1
    · exact hx x List.mem_cons_self
/-- A disk to which some of its writes were laid is right. -/
theorem right_lay {bs : List (List UInt8)} {ws xs : List Wr} (h : rightB bs ws = true) (hx : ∀ x ∈ xs, x ∈ ws) : rightB (layL bs xs) [] = true := by
  simp only [rightB, Bool.and_eq_true, decide_eq_true_eq] at h ⊢
  obtain ⟨⟨⟨⟨a1, a2⟩, a3⟩, a4⟩, a5⟩ := h
  rw [layL_len]
  refine ⟨⟨⟨⟨a1, a2⟩, by simp⟩, ?_⟩, by simp⟩
  refine lay_all a4 (fun x hx' => ?_)
  have := List.all_eq_true.1 a5 x (hx x hx')
  simp only [writeB, Bool.and_eq_true] at this
  exact this.2
theorem keptL_true (ws : List Wr) : keptL ws (List.replicate ws.length true) = ws := by
  induction ws with
  | nil => rfl
  | cons x r ih => simp [List.replicate_succ, keptL, ih]
theorem keptL_none (ks : List Bool) : keptL [] ks = [] := by cases ks <;> rfl

theorem Bools.own {w : World} {base n : Nat} {e : TypeId} {v : Value} {ks : List Bool} (h : w.ownsRow base e 1 v n (ks.map Value.bool)) (hn : ks.length = n) : Bools w v ks := by
  subst hn
  exact Rw.own h
theorem infoB : (Try.prog.info? 4).map (fun i => (i.zero, i.size, i.bytes)) = some (some (.bool false), 1, 1) := by kernel_rfl
theorem make_bools (n : Nat) (h : n ≤ 1000000) (w : World) : (Instr.makeSlice 26 (.int .i64 (n : Int)) (.int .i64 (n : Int))).run Try.prog w = .ok (.slice (some ⟨w.heap.size, 0, none⟩) n n) (w.alloc (.cells (madeCells #[.bool false] n) 4)) := by
  obtain ⟨i0, hi, hz0, hz1, hz2⟩ := info_parts infoB
  have hr := run_make (P := Try.prog) w 26 4 i0 _ Try.underlying26 hi hz0 .i64 .i64 n n (by omega) (Int.le_refl _) (by rw [hz2]; omega) (by omega)
  simpa [hz1, Value.cells] using hr
/-- k bools are true, the others not yet. -/
def trueTo (n k : Nat) : List Bool := List.replicate k true ++ List.replicate (n - k) false
theorem trueTo_zero (n : Nat) : trueTo n 0 = List.replicate n false := by simp [trueTo]
theorem trueTo_all (n : Nat) : trueTo n n = List.replicate n true := by simp [trueTo]
theorem trueTo_len {n k : Nat} (h : k ≤ n) : (trueTo n k).length = n := by simp [trueTo]; omega
theorem trueTo_set {n k : Nat} (h : k < n) : (trueTo n k).set k true = trueTo n (k + 1) := by
  unfold trueTo
  obtain ⟨m, rfl⟩ : ∃ m, n = k + 1 + m := ⟨n - (k + 1), by omega⟩
  rw [show k + 1 + m - k = m + 1 by omega, show k + 1 + m - (k + 1) = m by omega, List.replicate_succ, List.replicate_succ']
  rw [List.set_append_right _ _ (by simp)]
  simp
theorem madeBools (n : Nat) : madeCells #[.bool false] n = ((List.replicate n false).map Value.bool).toArray := by
  apply Array.toList_inj.1
  rw [toList_madeCells_one]
  simp
/-- Behind the store: one more is true. -/
theorem true_step {w : World} {g n k : Nat} (h : w.ownsRow g 4 1 (.slice (some ⟨g, 0, none⟩) n n) n ((trueTo n k).map Value.bool)) (hk : k < n) :
    (w.setCell ⟨g, k, none⟩ (.bool true)).ownsRow g 4 1 (.slice (some ⟨g, 0, none⟩) n n) n ((trueTo n (k + 1)).map Value.bool) ∧ w.cell? ⟨g, k, none⟩ = some (.bool false) ∧ w.frozen? ⟨g, k, none⟩ = false := by
  refine ⟨?_, ?_, h.frozenAt k⟩
  · have h1 := (h.stored k (.bool true)).1
    rw [← List.map_set, trueTo_set hk] at h1
    exact h1
  · rw [h.cellAt k (by omega), List.getElem?_map]
    unfold trueTo
    rw [List.getElem?_append_right (by simp), List.length_replicate, Nat.sub_self, List.getElem?_replicate]
    rw [if_pos (by omega)]
    rfl

set_option maxRecDepth 100000 in
set_option maxHeartbeats 8000000 in
theorem diskLast_walk (vb vw : Value) (bs : List (List UInt8)) (ws : List Wr) (v1 : Value) (ks : List Bool) (w0 : World) (ht0 : Txts w0 vb bs) (hv0 : Wrs w0 vw ws) (hk : Bools w0 v1 ks) :
    Calls Try.prog 5 #[.agg #[vb, vw], v1] w0 fun e w' => e = .returned (.bool true) ∧ Below w0.heap.size w0 w' := by
  obtain ⟨ab0, cb0, rfl⟩ := ht0.strs.form
  obtain ⟨aw0, cw0, rfl⟩ := hv0.form
  obtain ⟨ak, ck, rfl⟩ := hk.form
  have hBB := Below.refl w0.heap.size w0
  cases hF : farB bs ws [] ks.length with
  | true =>
    have HF := Lib.hid hF
    clear hF
    go_enter Try.func5, Try.ntmps5
    go_wp2_with fail
    refine (far_calls _ _ ak ks.length ck _ _ [] _ (ht0.below (below_alloc _ _)) (hv0.below (below_alloc _ _))).mono ?_
    rintro e w1 ⟨he, hB1⟩
    rw [HF.out] at he
    subst he
    have hC1 := below2 (below_alloc _ _) hB1
    have hx0 := (Bx.new w0 _ _).below hB1
    replace ht0 := ht0.below hC1
    replace hv0 := hv0.below hC1
    replace hk := hk.below hC1
    have c00 := hx0.cells.1
    have c01 := hx0.cells.2.1
    have l0 := hx0.cells.2.2.2.2
    replace hBB := below2 hBB hC1
    go_wp2_with fail
    refine (spun_calls _).mono ?_
    rintro e w2 ⟨he, hB2⟩
    subst he
    have hC2 := hB2
    replace hx0 := hx0.below hC2
    replace ht0 := ht0.below hC2
    replace hv0 := hv0.below hC2
    replace hk := hk.below hC2
    replace c00 := hx0.cells.1
    replace c01 := hx0.cells.2.1
    replace l0 := hx0.cells.2.2.2.2
    replace hBB := below2 hBB hC2
    go_wp2_with fail
    go_ret
    exact ⟨rfl, hBB⟩
  | false =>
    have HF := Lib.hid hF
    have hfar := far_not hF
    clear hF
    cases hR : rightB bs ws with
    | false =>
      have HR := Lib.hid hR
      clear hR
      go_enter Try.func5, Try.ntmps5
      go_wp2_with fail
      refine (far_calls _ _ ak ks.length ck _ _ [] _ (ht0.below (below_alloc _ _)) (hv0.below (below_alloc _ _))).mono ?_
      rintro e w1 ⟨he, hB1⟩
      rw [HF.out] at he
      subst he
      have hC1 := below2 (below_alloc _ _) hB1
      have hx0 := (Bx.new w0 _ _).below hB1
      replace ht0 := ht0.below hC1
      replace hv0 := hv0.below hC1
      replace hk := hk.below hC1
      have c00 := hx0.cells.1
      have c01 := hx0.cells.2.1
      have l0 := hx0.cells.2.2.2.2
      replace hBB := below2 hBB hC1
      go_wp2_with fail
      refine (check_calls _ _ bs ws _ ht0 hv0).mono ?_
      rintro e w2 ⟨he, hB2⟩
      rw [HR.out] at he
      subst he
      have hC2 := hB2
      replace hx0 := hx0.below hC2
      replace ht0 := ht0.below hC2
      replace hv0 := hv0.below hC2
      replace hk := hk.below hC2
      replace c00 := hx0.cells.1
      replace c01 := hx0.cells.2.1
      replace l0 := hx0.cells.2.2.2.2
      replace hBB := below2 hBB hC2
      go_wp2_with fail
      refine (spun_calls _).mono ?_
      rintro e w3 ⟨he, hB3⟩
      subst he
      have hC3 := hB3
      replace hx0 := hx0.below hC3
      replace ht0 := ht0.below hC3
      replace hv0 := hv0.below hC3
      replace hk := hk.below hC3
      replace c00 := hx0.cells.1
      replace c01 := hx0.cells.2.1
      replace l0 := hx0.cells.2.2.2.2
      replace hBB := below2 hBB hC3
      go_wp2_with fail
      go_ret
      exact ⟨rfl, hBB⟩
    | true =>
      have hwl := hfar.2.1
      have HR := Lib.hid hR
      have E3 := Lib.hid (show syncE bs ws = 0 by simp [syncE, hR])
      have B3 := Lib.hid (show syncBs bs ws = layL bs ws by simp [syncBs, hR])
      have hR2 := right_lay hR (fun x hx => hx)
      have E4 := Lib.hid (show syncE (layL bs ws) [] = 0 by simp [syncE, hR2])
      have B4 := Lib.hid (show crashBs (layL bs ws) [] ks = layL bs ws by simp only [crashBs, hR2, if_true, keptL_none]; rfl)
      have B6 := Lib.hid (show crashBs bs ws (List.replicate ws.length true) = layL bs ws by simp [crashBs, hR, keptL_true])
      have B7 := Lib.hid (show crashBs bs ws [] = bs by simp [crashBs, hR, keptL_nil, layL])
      have hl4 := (right_parts hR).2.1
      have hl5 := layL_len bs ws
      have HL := Lib.hid (show bs.length ≤ 9223372036854775807 ∧ (layL bs ws).length ≤ 9223372036854775807 by omega)
      have hm := make_bools ws.length (by omega)
      obtain ⟨A, hA⟩ : ∃ A, A = madeCells #[.bool false] ws.length := ⟨_, rfl⟩
      rw [← hA] at hm
      have HA := Lib.hid (hA.trans (madeBools ws.length))
      clear hR hR2 hl5 hA
      go_enter Try.func5, Try.ntmps5
      go_wp2_with fail
      refine (far_calls _ _ ak ks.length ck _ _ [] _ (ht0.below (below_alloc _ _)) (hv0.below (below_alloc _ _))).mono ?_
      rintro e w1 ⟨he, hB1⟩
      rw [HF.out] at he
      subst he
      have hC1 := below2 (below_alloc _ _) hB1
      have hx0 := (Bx.new w0 _ _).below hB1
      replace ht0 := ht0.below hC1
      replace hv0 := hv0.below hC1
      replace hk := hk.below hC1
      have c00 := hx0.cells.1
      have c01 := hx0.cells.2.1
      have l0 := hx0.cells.2.2.2.2
      replace hBB := below2 hBB hC1
      go_wp2_with fail
      refine (check_calls _ _ bs ws _ ht0 hv0).mono ?_
      rintro e w2 ⟨he, hB2⟩
      rw [HR.out] at he
      subst he
      have hC2 := hB2
      replace hx0 := hx0.below hC2
      replace ht0 := ht0.below hC2
      replace hv0 := hv0.below hC2
      replace hk := hk.below hC2
      replace c00 := hx0.cells.1
      replace c01 := hx0.cells.2.1
      replace l0 := hx0.cells.2.2.2.2
      replace hBB := below2 hBB hC2
      go_wp2_with fail
      refine (sync_calls _ _ bs ws _ ht0 hv0).mono ?_
      rintro e w3 ⟨vb3, vw3, he, ho3, hB3⟩
      rw [E3.out] at he
      subst he
      have hC3 := hB3
      replace hx0 := hx0.below hC3
      replace ht0 := ht0.below hC3
      replace hv0 := hv0.below hC3
      replace hk := hk.below hC3
      replace c00 := hx0.cells.1
      replace c01 := hx0.cells.2.1
      replace l0 := hx0.cells.2.2.2.2
      replace hBB := below2 hBB hC3
      obtain ⟨ab3, nb3, cb3, aw3, nw3, cw3, rfl, rfl, hnb3, hnw3⟩ := ho3.forms
      have ht3 := ho3.texts
      have hv3 := ho3.wrs
      have N3 := Lib.hid (And.intro hnb3 hnw3)
      clear hnb3 hnw3
      rw [B3.out] at ht3
      go_wp2_with fail
      refine (crash_calls _ _ _ (layL bs ws) [] ks _ (ht3.below (below_alloc _ _)) (hv3.below (below_alloc _ _)) (hk.below (below_alloc _ _))).mono ?_
      rintro e w4 ⟨vb4, vw4, he, ho4, hB4⟩
      rw [E4.out] at he
      subst he
      have hC4 := below2 (below_alloc _ _) hB4
      replace hx0 := hx0.below hC4
      replace ht0 := ht0.below hC4
      replace hv0 := hv0.below hC4
      have hx3 := (Bx.new w3 _ _).below hB4
      replace ht3 := ht3.below hC4
      replace hv3 := hv3.below hC4
      replace hk := hk.below hC4
      replace c00 := hx0.cells.1
      replace c01 := hx0.cells.2.1
      replace l0 := hx0.cells.2.2.2.2
      have c30 := hx3.cells.1
      have c31 := hx3.cells.2.1
      have l3 := hx3.cells.2.2.2.2
      replace hBB := below2 hBB hC4
      obtain ⟨ab4, nb4, cb4, aw4, nw4, cw4, rfl, rfl, hnb4, hnw4⟩ := ho4.forms
      have ht4 := ho4.texts
      have hv4 := ho4.wrs
      have N4 := Lib.hid (And.intro hnb4 hnw4)
      clear hnb4 hnw4
      rw [B4.out] at ht4
      have hrow : ((w4.alloc (.cells #[.slice ab4 nb4 cb4, .slice aw4 nw4 cw4] 25)).alloc (.cells A 4)).ownsRow (w4.heap.size + 1) 4 1 (.slice (some ⟨w4.heap.size + 1, 0, none⟩) ws.length ws.length) ws.length ((trueTo ws.length 0).map Value.bool) := by
        have hg := heap_alloc_new (w4.alloc (.cells #[.slice ab4 nb4 cb4, .slice aw4 nw4 cw4] 25)) (.cells A 4)
        rw [World.size_alloc, HA.out] at hg
        rw [HA.out, trueTo_zero]
        exact own_whole hg (Nat.le_refl _) (by simp) (by omega)
      have HROW := Lib.hid hrow
      clear hrow
      go_wp2_with fail
      go_loopw [10] (fun i wr => ∃ k : Nat, k ≤ ws.length ∧ i = .int .i64 k ∧ wr.ownsRow (w4.heap.size + 1) 4 1 (.slice (some ⟨w4.heap.size + 1, 0, none⟩) ws.length ws.length) ws.length ((trueTo ws.length k).map Value.bool) ∧ Below (w4.heap.size + 1) (w4.alloc (.cells #[.slice ab4 nb4 cb4, .slice aw4 nw4 cw4] 25)) wr) (fun i _ => ws.length - (intOf i).toNat)
      case atStart => exact ⟨0, Nat.zero_le _, rfl, HROW.out, (Below.refl _ _).alloc (by simp) _⟩
      case round =>
        obtain ⟨k, hk1, rfl, hown, hBl⟩ := hrel
        by_cases hlt : k < ws.length
        · obtain ⟨hn, hc, hf⟩ := true_step hown hlt
          have HN := Lib.hid hn
          clear hn hown
          go_wp2_with fail
          go_roundw
          case rel => exact ⟨k + 1, by omega, by go_num, HN.out, hBl.setCell (by simp) _⟩
          case measure => simp [intOf]; omega
        · obtain rfl : k = ws.length := by omega
          rw [trueTo_all] at hown
          have hev := Bools.own hown (by simp)
          have hB5 : Below (w4.alloc (.cells #[.slice ab4 nb4 cb4, .slice aw4 nw4 cw4] 25)).heap.size (w4.alloc (.cells #[.slice ab4 nb4 cb4, .slice aw4 nw4 cw4] 25)) wr := by rw [World.size_alloc]; exact hBl
          clear hown hBl
          have hC5 := below2 (below_alloc _ _) hB5
          replace hx0 := hx0.below hC5
          replace ht0 := ht0.below hC5
          replace hv0 := hv0.below hC5
          replace hx3 := hx3.below hC5
          replace ht3 := ht3.below hC5
          replace hv3 := hv3.below hC5
          have hx4 := (Bx.new w4 _ _).below hB5
          replace ht4 := ht4.below hC5
          replace hv4 := hv4.below hC5
          replace hk := hk.below hC5
          replace c00 := hx0.cells.1
          replace c01 := hx0.cells.2.1
          replace l0 := hx0.cells.2.2.2.2
          replace c30 := hx3.cells.1
          replace c31 := hx3.cells.2.1
          replace l3 := hx3.cells.2.2.2.2
          have c40 := hx4.cells.1
          have c41 := hx4.cells.2.1
          have l4 := hx4.cells.2.2.2.2
          replace hBB := below2 hBB hC5
          go_wp2_with fail
          refine (crash_calls _ _ _ bs ws (List.replicate ws.length true) _ ht0 hv0 hev).mono ?_
          rintro e w6 ⟨vb6, vw6, he, ho6, hB6⟩
          rw [E3.out] at he
          subst he
          have hC6 := hB6
          replace hx0 := hx0.below hC6
          replace ht0 := ht0.below hC6
          replace hv0 := hv0.below hC6
          replace hx3 := hx3.below hC6
          replace ht3 := ht3.below hC6
          replace hv3 := hv3.below hC6
          replace hx4 := hx4.below hC6
          replace ht4 := ht4.below hC6
          replace hv4 := hv4.below hC6
          replace hk := hk.below hC6
          replace c00 := hx0.cells.1
          replace c01 := hx0.cells.2.1
          replace l0 := hx0.cells.2.2.2.2
          replace c30 := hx3.cells.1
          replace c31 := hx3.cells.2.1
          replace l3 := hx3.cells.2.2.2.2
          replace c40 := hx4.cells.1
          replace c41 := hx4.cells.2.1
          replace l4 := hx4.cells.2.2.2.2
          replace hBB := below2 hBB hC6
          obtain ⟨ab6, nb6, cb6, aw6, nw6, cw6, rfl, rfl, hnb6, hnw6⟩ := ho6.forms
          have ht6 := ho6.texts
          have hv6 := ho6.wrs
          have N6 := Lib.hid (And.intro hnb6 hnw6)
          clear hnb6 hnw6
          rw [B6.out] at ht6
          go_wp2_with fail
          refine (crash_calls _ _ _ bs ws [] _ (ht0.below (below_alloc _ _)) (hv0.below (below_alloc _ _)) (Bools.nil _)).mono ?_
          rintro e w7 ⟨vb7, vw7, he, ho7, hB7⟩
          rw [E3.out] at he
          subst he
          have hC7 := below2 (below_alloc _ _) hB7
          replace hx0 := hx0.below hC7
          replace ht0 := ht0.below hC7
          replace hv0 := hv0.below hC7
          replace hx3 := hx3.below hC7
          replace ht3 := ht3.below hC7
          replace hv3 := hv3.below hC7
          replace hx4 := hx4.below hC7
          replace ht4 := ht4.below hC7
          replace hv4 := hv4.below hC7
          have hx6 := (Bx.new w6 _ _).below hB7
          replace ht6 := ht6.below hC7
          replace hv6 := hv6.below hC7
          replace hk := hk.below hC7
          replace c00 := hx0.cells.1
          replace c01 := hx0.cells.2.1
          replace l0 := hx0.cells.2.2.2.2
          replace c30 := hx3.cells.1
          replace c31 := hx3.cells.2.1
          replace l3 := hx3.cells.2.2.2.2
          replace c40 := hx4.cells.1
          replace c41 := hx4.cells.2.1
          replace l4 := hx4.cells.2.2.2.2
          have c60 := hx6.cells.1
          have c61 := hx6.cells.2.1
          have l6 := hx6.cells.2.2.2.2
          replace hBB := below2 hBB hC7
          obtain ⟨ab7, nb7, cb7, aw7, nw7, cw7, rfl, rfl, hnb7, hnw7⟩ := ho7.forms
          have ht7 := ho7.texts
          have hv7 := ho7.wrs
          have N7 := Lib.hid (And.intro hnb7 hnw7)
          clear hnb7 hnw7
          rw [B7.out] at ht7
          go_wp2_with fail
          refine (spun_calls _).mono ?_
          rintro e w8 ⟨he, hB8⟩
          subst he
          have hC8 := below2 (below_alloc _ _) hB8
          replace hx0 := hx0.below hC8
          replace ht0 := ht0.below hC8
          replace hv0 := hv0.below hC8
          replace hx3 := hx3.below hC8
          replace ht3 := ht3.below hC8
          replace hv3 := hv3.below hC8
          replace hx4 := hx4.below hC8
          replace ht4 := ht4.below hC8
          replace hv4 := hv4.below hC8
          replace hx6 := hx6.below hC8
          replace ht6 := ht6.below hC8
          replace hv6 := hv6.below hC8
          have hx7 := (Bx.new w7 _ _).below hB8
          replace ht7 := ht7.below hC8
          replace hv7 := hv7.below hC8
          replace hk := hk.below hC8
          replace c00 := hx0.cells.1
          replace c01 := hx0.cells.2.1
          replace l0 := hx0.cells.2.2.2.2
          replace c30 := hx3.cells.1
          replace c31 := hx3.cells.2.1
          replace l3 := hx3.cells.2.2.2.2
          replace c40 := hx4.cells.1
          replace c41 := hx4.cells.2.1
          replace l4 := hx4.cells.2.2.2.2
          replace c60 := hx6.cells.1
          replace c61 := hx6.cells.2.1
          replace l6 := hx6.cells.2.2.2.2
          have c70 := hx7.cells.1
          have c71 := hx7.cells.2.1
          have l7 := hx7.cells.2.2.2.2
          replace hBB := below2 hBB hC8
          go_wp2_with fail
          refine (same_calls _ _ _ _ (layL bs ws) (layL bs ws) [] [] _ ht3 hv3 ht4 hv4 HL.out.2 (by simp)).mono ?_
          rintro e w9 ⟨he, hB9⟩
          rw [sameD_refl] at he
          subst he
          have hC9 := hB9
          replace hx0 := hx0.below hC9
          replace ht0 := ht0.below hC9
          replace hv0 := hv0.below hC9
          replace hx3 := hx3.below hC9
          replace ht3 := ht3.below hC9
          replace hv3 := hv3.below hC9
          replace hx4 := hx4.below hC9
          replace ht4 := ht4.below hC9
          replace hv4 := hv4.below hC9
          replace hx6 := hx6.below hC9
          replace ht6 := ht6.below hC9
          replace hv6 := hv6.below hC9
          replace hx7 := hx7.below hC9
          replace ht7 := ht7.below hC9
          replace hv7 := hv7.below hC9
          replace hk := hk.below hC9
          replace c00 := hx0.cells.1
          replace c01 := hx0.cells.2.1
          replace l0 := hx0.cells.2.2.2.2
          replace c30 := hx3.cells.1
          replace c31 := hx3.cells.2.1
          replace l3 := hx3.cells.2.2.2.2
          replace c40 := hx4.cells.1
          replace c41 := hx4.cells.2.1
          replace l4 := hx4.cells.2.2.2.2
          replace c60 := hx6.cells.1
          replace c61 := hx6.cells.2.1
          replace l6 := hx6.cells.2.2.2.2
          replace c70 := hx7.cells.1
          replace c71 := hx7.cells.2.1
          replace l7 := hx7.cells.2.2.2.2
          replace hBB := below2 hBB hC9
          go_wp2_with fail
          refine (same_calls _ _ _ _ (layL bs ws) (layL bs ws) [] [] _ ht6 hv6 ht3 hv3 HL.out.2 (by simp)).mono ?_
          rintro e w10 ⟨he, hB10⟩
          rw [sameD_refl] at he
          subst he
          have hC10 := hB10
          replace hx0 := hx0.below hC10
          replace ht0 := ht0.below hC10
          replace hv0 := hv0.below hC10
          replace hx3 := hx3.below hC10
          replace ht3 := ht3.below hC10
          replace hv3 := hv3.below hC10
          replace hx4 := hx4.below hC10
          replace ht4 := ht4.below hC10
          replace hv4 := hv4.below hC10
          replace hx6 := hx6.below hC10
          replace ht6 := ht6.below hC10
          replace hv6 := hv6.below hC10
          replace hx7 := hx7.below hC10
          replace ht7 := ht7.below hC10
          replace hv7 := hv7.below hC10
          replace hk := hk.below hC10
          replace c00 := hx0.cells.1
          replace c01 := hx0.cells.2.1
          replace l0 := hx0.cells.2.2.2.2
          replace c30 := hx3.cells.1
          replace c31 := hx3.cells.2.1
          replace l3 := hx3.cells.2.2.2.2
          replace c40 := hx4.cells.1
          replace c41 := hx4.cells.2.1
          replace l4 := hx4.cells.2.2.2.2
          replace c60 := hx6.cells.1
          replace c61 := hx6.cells.2.1
          replace l6 := hx6.cells.2.2.2.2
          replace c70 := hx7.cells.1
          replace c71 := hx7.cells.2.1
          replace l7 := hx7.cells.2.2.2.2
          replace hBB := below2 hBB hC10
          go_wp2_with fail
          refine (same_calls _ _ _ _ bs bs [] [] _ ht7 hv7 ht0 (Wrs.nil _) HL.out.1 (by simp)).mono ?_
          rintro e w11 ⟨he, hB11⟩
          rw [sameD_refl] at he
          subst he
          have hC11 := hB11
          replace hx0 := hx0.below hC11
          replace ht0 := ht0.below hC11
          replace hv0 := hv0.below hC11
          replace hx3 := hx3.below hC11
          replace ht3 := ht3.below hC11
          replace hv3 := hv3.below hC11
          replace hx4 := hx4.below hC11
          replace ht4 := ht4.below hC11
          replace hv4 := hv4.below hC11
          replace hx6 := hx6.below hC11
          replace ht6 := ht6.below hC11
          replace hv6 := hv6.below hC11
          replace hx7 := hx7.below hC11
          replace ht7 := ht7.below hC11
          replace hv7 := hv7.below hC11
          replace hk := hk.below hC11
          replace c00 := hx0.cells.1
          replace c01 := hx0.cells.2.1
          replace l0 := hx0.cells.2.2.2.2
          replace c30 := hx3.cells.1
          replace c31 := hx3.cells.2.1
          replace l3 := hx3.cells.2.2.2.2
          replace c40 := hx4.cells.1
          replace c41 := hx4.cells.2.1
          replace l4 := hx4.cells.2.2.2.2
          replace c60 := hx6.cells.1
          replace c61 := hx6.cells.2.1
          replace l6 := hx6.cells.2.2.2.2
          replace c70 := hx7.cells.1
          replace c71 := hx7.cells.2.1
          replace l7 := hx7.cells.2.2.2.2
          replace hBB := below2 hBB hC11
          go_wp2_with fail
          go_ret
          exact ⟨rfl, hBB⟩

end Go.Proofs.Ytcikgmgkaenpmaa
