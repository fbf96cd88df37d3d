/-
  The statement DiffRows is proved as a tied card: for any two rows of entries and any two rows of deltas the law returns true, and the arguments read as they did. No other condition.
-/
import Derived.Test.YtogicnciheedoaaDoorZDiffRowsW
import Derived.Test.YtogicnciheedoaaDoorPks16d
import Derived.Test.YtogicnciheedoaaDoorCards
import Derived.Test.YtogicnciheedoaaDoorTie
import Derived.Deep.DeepHandedRow
import Derived.SizedLaws
import Derived.Lay
import Derived.SevenTiedAt
namespace Go.Proofs.YtogicnciheedoaaDoor
open Go.ChangeShapes Go.WideShapes Go.ChangeAt Go.RowKit
open Go.ChangeMaps (open_string shut_string)

theorem diffRows_all (v0 : Value) (l0 : List Ev) (v1 : Value) (l1 : List Ev) (v2 : Value) (l2 : List Dl) (v3 : Value) (l3 : List Dl) (W : World) (tk0 : Ents W v0 l0) (_lk0 : l0.length ≤ maxLen) (_wk0 : ∀ c ∈ ens l0, c.1.length ≤ maxLen ∧ c.2.2.2.2.length ≤ maxLen) (tk1 : Ents W v1 l1) (_lk1 : l1.length ≤ maxLen) (_wk1 : ∀ c ∈ ens l1, c.1.length ≤ maxLen ∧ c.2.2.2.2.length ≤ maxLen) (tk2 : Dls W v2 l2) (lk2 : l2.length ≤ maxLen) (_wk2 : ∀ c ∈ l2, c.1.length ≤ maxLen ∧ (Lit.int .i64 c.2).wf = true) (tk3 : Dls W v3 l3) (lk3 : l3.length ≤ maxLen) (_wk3 : ∀ c ∈ l3, c.1.length ≤ maxLen ∧ (Lit.int .i64 c.2).wf = true) (hki : KiOk W) : Calls Tryd.prog 3 #[v0, v1, v2, v3] W fun e w' => e = .returned (.bool true) ∧ Below W.heap.size W w' :=
  diffRows_walk v0 l0 v1 l1 v2 l2 v3 l3 W tk0 tk1 tk2 (Nat.le_trans lk2 (by decide)) tk3 (Nat.le_trans lk3 (by decide)) hki

set_option linter.unusedVariables false
set_option maxRecDepth 100000 in
set_option maxHeartbeats 2000000 in
theorem diffRows_lifted (os : Os) (started : os.Started) (H : Type) (enc : TypeId × Value → H) (F : Stop.Interp) :
    ReturnsInHanded {} Tryd.checked os 3 .any ((OpenSpec.ofChange Rows.diffRowsSpec).preRow enc Tryd.prog Tryd.f3 Rows.diffRowsRow.domain false Rows.diffRowsRow.laid) (((OpenSpec.ofChange Rows.diffRowsSpec).at F).post enc Tryd.prog Tryd.f3 false true false false) := by
  refine returnsInHanded_of_row (C := Tryd.checked) (s := OpenSpec.ofChange Rows.diffRowsSpec) own_knob started (by kernel_rfl) Tryd.func3
    (ChangeSpec.witness_shaped (enc := enc) (C := Tryd.checked) (os := os) (X := fun w _ => laidMetH Tryd.prog Rows.diffRowsRow.laid w) false (World.laidAll Tryd.prog os Rows.diffRowsRow.laid) #[.slice none 0 0, .slice none 0 0, .slice none 0 0, .slice none 0 0] 8 (World.laidAll_os _ _ _)
      (World.shaped_of_ZipB (by kernel_rfl) (by kernel_rfl)) (by kernel_rfl) (by kernel_rfl) (by kernel_rfl)
      (by rw [MakeChecks.laidMetH_plain _ _ _ (by kernel_rfl)]; exact laidMet_laidAll _ (by kernel_rfl) (by kernel_rfl))) ?_
  intro W base args ds gs before hval0 hW _ _ hsz0 hL hsh _
  have hsz : (DataW.weightsEach Tryd.prog (Tryd.f3.params.toList ++ (OpenSpec.ofChange Rows.diffRowsSpec).bare.plain.varTypes Tryd.prog) (ds ++ gs)).all (· ≤ reachBytes) = true := hsz0
  have hki : KiOk W := ki_of (l := Rows.diffRowsRow.laid) hL (by kernel_rfl) (by first | exact .head _ | exact .tail _ (.head _)) (by first | exact .tail _ (.head _) | exact .tail _ (.tail _ (.head _)))
  have hval : ∀ (j : Nat) t v, Tryd.f3.params[j]? = some t → args[j]? = some v → Value.okWide Tryd.prog W .any base t v := hval0
  have hW' := hW
  obtain ⟨p, q, hA0, hV, rfl, hfz, hnd⟩ := hW
  have hA : DataW.TrodAll enc Tryd.prog W 0 (fun _ => true) true Tryd.f3.params.toList args.toList ds p := hA0
  rw [Tryd.params3] at hA hval hsz
  obtain ⟨v0, vs0, d0, ds0, p0, q0, hargs, rfl, rfl, h0, r0⟩ := trodAll_cons hA
  obtain ⟨v1, vs1, d1, ds1, p1, q1, rfl, rfl, rfl, h1, r1⟩ := trodAll_cons r0
  obtain ⟨v2, vs2, d2, ds2, p2, q2, rfl, rfl, rfl, h2, r2⟩ := trodAll_cons r1
  obtain ⟨v3, vs3, d3, ds3, p3, q3, rfl, rfl, rfl, h3, r3⟩ := trodAll_cons r2
  obtain ⟨rfl, rfl, rfl⟩ := trodAll_nil r3
  obtain rfl : args = #[v0, v1, v2, v3] := by cases args; simp_all
  obtain ⟨rfl, rfl⟩ := trodVars_none hV
  have k0 := h0
  have lt0 : ∀ x ∈ p0, x.block < W.heap.size := by obtain ⟨m, hm⟩ := k0; exact DataW.trod_lt m _ _ _ hm
  have k1 := h1
  have lt1 : ∀ x ∈ p1, x.block < W.heap.size := by obtain ⟨m, hm⟩ := k1; exact DataW.trod_lt m _ _ _ hm
  have k2 := h2
  have lt2 : ∀ x ∈ p2, x.block < W.heap.size := by obtain ⟨m, hm⟩ := k2; exact DataW.trod_lt m _ _ _ hm
  have k3 := h3
  have lt3 : ∀ x ∈ p3, x.block < W.heap.size := by obtain ⟨m, hm⟩ := k3; exact DataW.trod_lt m _ _ _ hm
  obtain ⟨l0, tk0, lk0, wk0⟩ := entries_open (hval 0 22 v0 rfl rfl) h0
  obtain ⟨l1, tk1, lk1, wk1⟩ := entries_open (hval 1 22 v1 rfl rfl) h1
  obtain ⟨l2, tk2, lk2, wk2⟩ := deltas_open (hval 2 23 v2 rfl rfl) h2
  obtain ⟨l3, tk3, lk3, wk3⟩ := deltas_open (hval 3 23 v3 rfl rfl) h3
  refine (diffRows_all v0 l0 v1 l1 v2 l2 v3 l3 W tk0 lk0 wk0 tk1 lk1 wk1 tk2 lk2 wk2 tk3 lk3 wk3 hki).mono fun e W' ⟨he, bel⟩ => ?_
  subst he
  exact ⟨_, rfl, _, _, _, [], _, [], hW', trodAll_mk1 (shut_bool Tryd.underlying4 _), (trodAll_cons_mk (Below.trod laid_out (by kernel_rfl) (of_decide_eq_true (by kernel_rfl)) k0 bel lt0) (trodAll_cons_mk (Below.trod laid_out (by kernel_rfl) (of_decide_eq_true (by kernel_rfl)) k1 bel lt1) (trodAll_cons_mk (Below.trod laid_out (by kernel_rfl) (of_decide_eq_true (by kernel_rfl)) k2 bel lt2) (trodAll_cons_mk (Below.trod laid_out (by kernel_rfl) (of_decide_eq_true (by kernel_rfl)) k3 bel lt3) trodAll_mk0)))), rfl, bel.frame _, fun h => by cases h⟩

theorem diffRows_row : Rows.DiffRowsSaid :=
  OpenClaim.holds_of_cond 3 Tryd.f3 rfl rfl rfl rfl rfl rfl rfl ⟨rfl, rfl, rfl, rfl, rfl⟩ rfl rfl rfl rfl rfl (by kernel_rfl) Tryd.func3 (by kernel_rfl)
    (of_decide_eq_true (by kernel_rfl)) (by unfold Func.isWrapper; first | (rw [if_pos (by decide +kernel)]; kernel_rfl) | (rw [if_neg (by decide +kernel)]; exact ⟨rfl, rfl⟩))
    (fun os started H enc _ F0 => by rw [OpenClaim.pre_eq_preRow]; exact diffRows_lifted os started H enc F0)

theorem diffRows_holds : Rows.DiffRowsCardSaid :=
  Claim7.holds_tied_plain_at .later [] Rows.diffRowsCard.laidKinds Rows.diffRowsCard.laidTests Rows.diffRowsCard.stood.harness Rows.diffRowsCard.stood.looks diffRows_row (fun _ h => by cases h) (by kernel_rfl) (fun _ h => by cases h) diffRows_row_tie rfl ⟨rfl, rfl⟩ (by kernel_rfl) rfl
    (fun f fn hf hfn => by
      obtain rfl : f = 3 := Option.some.inj ((show Tryd.prog.funcNamed Rows.diffRowsRow.func = some 3 by kernel_rfl).symm.trans hf) |>.symm
      obtain rfl : fn = Tryd.f3 := (Option.some.inj (Tryd.func3.symm.trans hfn)).symm
      exact ⟨by kernel_rfl, fun j t ht => by
        rw [Tryd.params3] at ht
        have hm : t ∈ [22, 22, 23, 23] := by simpa using Array.mem_of_getElem? ht
        have hall : ([22, 22, 23, 23].all fun u => !Tryd.prog.wantsStandIn u) = true := by kernel_rfl
        exact (show Tryd.prog.wantsStandIn t = false by simpa using List.all_eq_true.1 hall t hm)⟩)
    (by kernel_rfl)

end Go.Proofs.YtogicnciheedoaaDoor
