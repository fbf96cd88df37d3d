/-
  The statement StoreDoes is proved as a tied card: for any pairs, every batch, every text and any two numbers the law returns true, and the arguments read as they did. No other condition.
-/
import Derived.Test.YtbadbfmeoiclfaaGreatDoorZStoreDoesW
import Derived.Test.YtbadbfmeoiclfaaGreatDoorPks14
import Derived.Test.YtbadbfmeoiclfaaGreatDoorPks11
import Derived.Test.YtbadbfmeoiclfaaGreatDoorCards
import Derived.Test.YtbadbfmeoiclfaaGreatDoorTie
import Derived.Deep.DeepHandedRow
import Derived.SizedLaws
import Derived.Lay
import Derived.SevenTiedAt
namespace Go.Proofs.YtbadbfmeoiclfaaGreatDoor
open Go.ChangeShapes Go.WideShapes Go.ChangeAt Go.RowKit
open Go.ChangeMaps (open_string shut_string)

theorem storeDoes_all (v0 : Value) (l0 : List Pr) (a1 : Int) (v2 : Value) (l2 : List Cv) (l3 : List UInt8) (a4 : Int) (W : World) (tk0 : Prs W v0 l0) (lk0 : l0.length ≤ maxLen) (ti0 : TimesK l0) (_y1 : (Lit.int .i64 a1).wf = true) (tk2 : Cgs W v2 l2) (lk2 : l2.length ≤ maxLen) (wk2 : ∀ c ∈ chs l2, c.1.length ≤ maxLen ∧ c.2.2.2.2.length ≤ maxLen) (y3 : l3.length ≤ reachBytes) (_y4 : (Lit.int .i64 a4).wf = true) (hm : Ml W) : Calls Tryz.prog 3 #[v0, .int .i64 a1, v2, .string ⟨l3.toArray⟩, .int .i64 a4] W fun e w' => e = .returned (.bool true) ∧ Below W.heap.size W w' :=
  storeDoes_walk v0 l0 a1 v2 l2 l3 a4 W tk0 (Nat.le_trans lk0 (by decide)) ti0 tk2 ⟨Nat.le_trans lk2 (by decide), fun c hc => ⟨Nat.le_trans (wk2 c hc).1 (by decide), Nat.le_trans (wk2 c hc).2 (by decide)⟩⟩ (Nat.le_trans y3 (by decide)) hm

set_option linter.unusedVariables false
set_option maxRecDepth 100000 in
set_option maxHeartbeats 2000000 in
theorem storeDoes_lifted (os : Os) (started : os.Started) (H : Type) (enc : TypeId × Value → H) (F : Stop.Interp) :
    ReturnsInHanded {} Tryz.checked os 3 .any ((OpenSpec.ofChange Rows.storeDoesSpec).preRow enc Tryz.prog Tryz.f3 Rows.storeDoesRow.domain false Rows.storeDoesRow.laid) (((OpenSpec.ofChange Rows.storeDoesSpec).at F).post enc Tryz.prog Tryz.f3 false true false false) := by
  refine returnsInHanded_of_row (C := Tryz.checked) (s := OpenSpec.ofChange Rows.storeDoesSpec) own_knob started (by kernel_rfl) Tryz.func3
    (ChangeSpec.witness_shaped (enc := enc) (C := Tryz.checked) (os := os) (X := fun w _ => laidMetH Tryz.prog Rows.storeDoesRow.laid w) false (World.laidAll Tryz.prog os Rows.storeDoesRow.laid) #[.slice none 0 0, .int .i64 0, .slice none 0 0, .string ⟨#[]⟩, .int .i64 0] 8 (World.laidAll_os _ _ _)
      (World.shaped_of_ZipB (by kernel_rfl) (by kernel_rfl)) (by kernel_rfl) (by kernel_rfl) (by kernel_rfl)
      (by rw [MakeChecks.laidMetH_plain _ _ _ (by kernel_rfl)]; exact laidMet_laidAll _ (by kernel_rfl) (by kernel_rfl))) ?_
  intro W base args ds gs before hval0 hW _ _ hsz0 hL hsh _
  have hsz : (DataW.weightsEach Tryz.prog (Tryz.f3.params.toList ++ (OpenSpec.ofChange Rows.storeDoesSpec).bare.plain.varTypes Tryz.prog) (ds ++ gs)).all (· ≤ reachBytes) = true := hsz0
  have hm : Ml W := Tryz.laysM146.s1_3 W hsh
  have hval : ∀ (j : Nat) t v, Tryz.f3.params[j]? = some t → args[j]? = some v → Value.okWide Tryz.prog W .any base t v := hval0
  have hW' := hW
  obtain ⟨p, q, hA0, hV, rfl, hfz, hnd⟩ := hW
  have hA : DataW.TrodAll enc Tryz.prog W 0 (fun _ => true) true Tryz.f3.params.toList args.toList ds p := hA0
  rw [Tryz.params3] at hA hval hsz
  obtain ⟨v0, vs0, d0, ds0, p0, q0, hargs, rfl, rfl, h0, r0⟩ := trodAll_cons hA
  obtain ⟨v1, vs1, d1, ds1, p1, q1, rfl, rfl, rfl, h1, r1⟩ := trodAll_cons r0
  obtain ⟨v2, vs2, d2, ds2, p2, q2, rfl, rfl, rfl, h2, r2⟩ := trodAll_cons r1
  obtain ⟨v3, vs3, d3, ds3, p3, q3, rfl, rfl, rfl, h3, r3⟩ := trodAll_cons r2
  obtain ⟨v4, vs4, d4, ds4, p4, q4, rfl, rfl, rfl, h4, r4⟩ := trodAll_cons r3
  obtain ⟨rfl, rfl, rfl⟩ := trodAll_nil r4
  obtain rfl : args = #[v0, v1, v2, v3, v4] := by cases args; simp_all
  obtain ⟨rfl, rfl⟩ := trodVars_none hV
  have k0 := h0
  have lt0 : ∀ x ∈ p0, x.block < W.heap.size := by obtain ⟨m, hm⟩ := k0; exact DataW.trod_lt m _ _ _ hm
  have k1 := h1
  have lt1 : ∀ x ∈ p1, x.block < W.heap.size := by obtain ⟨m, hm⟩ := k1; exact DataW.trod_lt m _ _ _ hm
  have k2 := h2
  have lt2 : ∀ x ∈ p2, x.block < W.heap.size := by obtain ⟨m, hm⟩ := k2; exact DataW.trod_lt m _ _ _ hm
  have k3 := h3
  have lt3 : ∀ x ∈ p3, x.block < W.heap.size := by obtain ⟨m, hm⟩ := k3; exact DataW.trod_lt m _ _ _ hm
  have k4 := h4
  have lt4 : ∀ x ∈ p4, x.block < W.heap.size := by obtain ⟨m, hm⟩ := k4; exact DataW.trod_lt m _ _ _ hm
  obtain ⟨l0, tk0, lk0, ti0⟩ := prs_open3 (hval 0 22 v0 rfl rfl) h0
  obtain ⟨a1, rfl, e1, f1, w1⟩ := open_int Tryz.underlying3 (hval 1 3 v1 rfl rfl) h1
  obtain ⟨l2, tk2, lk2, wk2⟩ := changes_open (hval 2 23 v2 rfl rfl) h2
  obtain ⟨s3, rfl, e3, f3, w3⟩ := open_string Tryz.underlying9 (hval 3 9 v3 rfl rfl) h3
  have z3 : s3.data.toList.length ≤ reachBytes := sized_string hsz (j := 3) (t := 9) rfl (by rw [e3]; rfl)
  obtain ⟨l3, rfl⟩ := bytes_list s3
  obtain ⟨a4, rfl, e4, f4, w4⟩ := open_int Tryz.underlying3 (hval 4 3 v4 rfl rfl) h4
  refine (storeDoes_all v0 l0 a1 v2 l2 l3 a4 W tk0 lk0 ti0 w1 tk2 lk2 wk2 z3 w4 hm).mono fun e W' ⟨he, bel⟩ => ?_
  subst he
  exact ⟨_, rfl, _, _, _, [], _, [], hW', trodAll_mk1 (shut_bool Tryz.underlying4 _), (trodAll_cons_mk (Below.trod laid_out (by kernel_rfl) (of_decide_eq_true (by kernel_rfl)) k0 bel lt0) (trodAll_cons_mk (Below.trod laid_out (by kernel_rfl) (of_decide_eq_true (by kernel_rfl)) k1 bel lt1) (trodAll_cons_mk (Below.trod laid_out (by kernel_rfl) (of_decide_eq_true (by kernel_rfl)) k2 bel lt2) (trodAll_cons_mk (Below.trod laid_out (by kernel_rfl) (of_decide_eq_true (by kernel_rfl)) k3 bel lt3) (trodAll_cons_mk (Below.trod laid_out (by kernel_rfl) (of_decide_eq_true (by kernel_rfl)) k4 bel lt4) trodAll_mk0))))), rfl, bel.frame _, fun h => by cases h⟩

theorem storeDoes_row : Rows.StoreDoesSaid :=
  OpenClaim.holds_of_cond 3 Tryz.f3 rfl rfl rfl rfl rfl rfl rfl ⟨rfl, rfl, rfl, rfl, rfl⟩ rfl rfl rfl rfl rfl (by kernel_rfl) Tryz.func3 (by kernel_rfl)
    (of_decide_eq_true (by kernel_rfl)) (by unfold Func.isWrapper; first | (rw [if_pos (by decide +kernel)]; kernel_rfl) | (rw [if_neg (by decide +kernel)]; exact ⟨rfl, rfl⟩))
    (fun os started H enc _ F0 => by rw [OpenClaim.pre_eq_preRow]; exact storeDoes_lifted os started H enc F0)

theorem storeDoes_holds : Rows.StoreDoesCardSaid :=
  Claim7.holds_tied_plain_at .later [] Rows.storeDoesCard.laidKinds Rows.storeDoesCard.laidTests Rows.storeDoesCard.stood.harness Rows.storeDoesCard.stood.looks storeDoes_row (fun _ h => by cases h) (by kernel_rfl) (fun _ h => by cases h) storeDoes_row_tie rfl ⟨rfl, rfl⟩ (by kernel_rfl) rfl
    (fun f fn hf hfn => by
      obtain rfl : f = 3 := Option.some.inj ((show Tryz.prog.funcNamed Rows.storeDoesRow.func = some 3 by kernel_rfl).symm.trans hf) |>.symm
      obtain rfl : fn = Tryz.f3 := (Option.some.inj (Tryz.func3.symm.trans hfn)).symm
      exact ⟨by kernel_rfl, fun j t ht => by
        rw [Tryz.params3] at ht
        have hm : t ∈ [22, 3, 23, 9, 3] := by simpa using Array.mem_of_getElem? ht
        have hall : ([22, 3, 23, 9, 3].all fun u => !Tryz.prog.wantsStandIn u) = true := by kernel_rfl
        exact (show Tryz.prog.wantsStandIn t = false by simpa using List.all_eq_true.1 hall t hm)⟩)
    (by kernel_rfl)

end Go.Proofs.YtbadbfmeoiclfaaGreatDoor
