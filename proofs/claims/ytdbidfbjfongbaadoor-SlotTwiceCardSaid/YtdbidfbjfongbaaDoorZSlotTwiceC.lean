/-
  The statement SlotTwice is proved as a tied card: for every disk and row of texts the law returns true, and the arguments read as they did. The package's table of crc starts as the program's text lays it. No other condition.
-/
import Derived.Test.YtdbidfbjfongbaaDoorZSlotTwiceW
import Derived.Test.YtdbidfbjfongbaaDoorPks04
import Derived.Test.YtdbidfbjfongbaaDoorCards
import Derived.Test.YtdbidfbjfongbaaDoorTie
import Derived.Test.YtdbidfbjfongbaaDoorPks03
import Derived.Deep.DeepHandedRow
import Derived.SizedLaws
import Derived.Lay
import Derived.SevenTiedAt
namespace Go.Proofs.YtdbidfbjfongbaaDoor
open Go.ChangeShapes Go.WideShapes Go.ChangeAt Go.RowKit
open Go.ChangeMaps (open_string shut_string)

theorem slotTwice_all (vb0 vw0 : Value) (bs0 : List (List UInt8)) (ws0 : List Wr) (v1 : Value) (l1 : List (List UInt8)) (W : World) (tb0 : Txts W vb0 bs0) (tw0 : Wrs W vw0 ws0) (_ : bs0.length ≤ maxLen) (_ : ws0.length ≤ maxLen) (hs1 : Txts W v1 l1) (_ : l1.length ≤ maxLen) (hm : TabOk W) : Calls Tryd.prog 6 #[.agg #[vb0, vw0], v1] W fun e w' => e = .returned (.bool true) ∧ Below W.heap.size W w' :=
  slotTwice_walk vb0 vw0 v1 bs0 ws0 l1 W tb0 tw0 hs1 hm

set_option linter.unusedVariables false
set_option maxRecDepth 100000 in
set_option maxHeartbeats 2000000 in
theorem slotTwice_lifted (os : Os) (started : os.Started) (H : Type) (enc : TypeId × Value → H) (F : Stop.Interp) :
    ReturnsInHanded {} Tryd.checked os 6 .any ((OpenSpec.ofChange Rows.slotTwiceSpec).preRow enc Tryd.prog Tryd.f6 Rows.slotTwiceRow.domain false Rows.slotTwiceRow.laid) (((OpenSpec.ofChange Rows.slotTwiceSpec).at F).post enc Tryd.prog Tryd.f6 false true false false) := by
  refine returnsInHanded_of_row (C := Tryd.checked) (s := OpenSpec.ofChange Rows.slotTwiceSpec) own_knob started (by kernel_rfl) Tryd.func6
    (ChangeSpec.witness_shaped (enc := enc) (C := Tryd.checked) (os := os) (X := fun w _ => laidMetH Tryd.prog Rows.slotTwiceRow.laid w) false (World.laidAll Tryd.prog os Rows.slotTwiceRow.laid) #[.agg #[.slice none 0 0, .slice none 0 0], .slice none 0 0] 8 (World.laidAll_os _ _ _)
      (World.shaped_of_ZipB (by kernel_rfl) (by kernel_rfl)) (by kernel_rfl) (by kernel_rfl) (by kernel_rfl)
      (by rw [MakeChecks.laidMetH_plain _ _ _ (by kernel_rfl)]; exact laidMet_laidAll _ (by kernel_rfl) (by kernel_rfl))) ?_
  intro W base args ds gs before hval0 hW _ _ hsz0 hL hsh _
  have hsz : (DataW.weightsEach Tryd.prog (Tryd.f6.params.toList ++ (OpenSpec.ofChange Rows.slotTwiceSpec).bare.plain.varTypes Tryd.prog) (ds ++ gs)).all (· ≤ reachBytes) = true := hsz0
  have hm : TabOk W := tab_ok hL
  have hval : ∀ (j : Nat) t v, Tryd.f6.params[j]? = some t → args[j]? = some v → Value.okWide Tryd.prog W .any base t v := hval0
  have hW' := hW
  obtain ⟨p, q, hA0, hV, rfl, hfz, hnd⟩ := hW
  have hA : DataW.TrodAll enc Tryd.prog W 0 (fun _ => true) true Tryd.f6.params.toList args.toList ds p := hA0
  rw [Tryd.params6] at hA hval hsz
  obtain ⟨v0, vs0, d0, ds0, p0, q0, hargs, rfl, rfl, h0, r0⟩ := trodAll_cons hA
  obtain ⟨v1, vs1, d1, ds1, p1, q1, rfl, rfl, rfl, h1, r1⟩ := trodAll_cons r0
  obtain ⟨rfl, rfl, rfl⟩ := trodAll_nil r1
  obtain rfl : args = #[v0, v1] := by cases args; simp_all
  obtain ⟨rfl, rfl⟩ := trodVars_none hV
  have k0 := h0
  have lt0 : ∀ x ∈ p0, x.block < W.heap.size := by obtain ⟨m, hm⟩ := k0; exact DataW.trod_lt m _ _ _ hm
  have k1 := h1
  have lt1 : ∀ x ∈ p1, x.block < W.heap.size := by obtain ⟨m, hm⟩ := k1; exact DataW.trod_lt m _ _ _ hm
  obtain ⟨vb0, vw0, bs0, ws0, rfl, tb0, tw0, lb0, lw0⟩ := disk_open (hval 0 25 v0 rfl rfl) h0
  obtain ⟨l1, hs1, hl1⟩ := txts_open (hval 1 22 v1 rfl rfl) h1
  refine (slotTwice_all vb0 vw0 bs0 ws0 v1 l1 W tb0 tw0 lb0 lw0 hs1 hl1 hm).mono fun e W' ⟨he, bel⟩ => ?_
  subst he
  exact ⟨_, rfl, _, _, _, [], _, [], hW', trodAll_mk1 (shut_bool Tryd.underlying4 _), (trodAll_cons_mk (Below.trod laid_out (by kernel_rfl) (of_decide_eq_true (by kernel_rfl)) k0 bel lt0) (trodAll_cons_mk (Below.trod laid_out (by kernel_rfl) (of_decide_eq_true (by kernel_rfl)) k1 bel lt1) trodAll_mk0)), rfl, bel.frame _, fun h => by cases h⟩

theorem slotTwice_row : Rows.SlotTwiceSaid :=
  OpenClaim.holds_of_cond 6 Tryd.f6 rfl rfl rfl rfl rfl rfl rfl ⟨rfl, rfl, rfl, rfl, rfl⟩ rfl rfl rfl rfl rfl (by kernel_rfl) Tryd.func6 (by kernel_rfl)
    (of_decide_eq_true (by kernel_rfl)) (by unfold Func.isWrapper; first | (rw [if_pos (by decide +kernel)]; kernel_rfl) | (rw [if_neg (by decide +kernel)]; exact ⟨rfl, rfl⟩))
    (fun os started H enc _ F0 => by rw [OpenClaim.pre_eq_preRow]; exact slotTwice_lifted os started H enc F0)

theorem slotTwice_holds : Rows.SlotTwiceCardSaid :=
  Claim7.holds_tied_plain_at .later [] Rows.slotTwiceCard.laidKinds Rows.slotTwiceCard.laidTests Rows.slotTwiceCard.stood.harness Rows.slotTwiceCard.stood.looks slotTwice_row (fun _ h => by cases h) (by kernel_rfl) (fun _ h => by cases h) slotTwice_row_tie rfl ⟨rfl, rfl⟩ (by kernel_rfl) rfl
    (fun f fn hf hfn => by
      obtain rfl : f = 6 := Option.some.inj ((show Tryd.prog.funcNamed Rows.slotTwiceRow.func = some 6 by kernel_rfl).symm.trans hf) |>.symm
      obtain rfl : fn = Tryd.f6 := (Option.some.inj (Tryd.func6.symm.trans hfn)).symm
      exact ⟨by kernel_rfl, fun j t ht => by
        rw [Tryd.params6] at ht
        have hm : t ∈ [25, 22] := by simpa using Array.mem_of_getElem? ht
        have hall : ([25, 22].all fun u => !Tryd.prog.wantsStandIn u) = true := by kernel_rfl
        exact (show Tryd.prog.wantsStandIn t = false by simpa using List.all_eq_true.1 hall t hm)⟩)
    (by kernel_rfl)

end Go.Proofs.YtdbidfbjfongbaaDoor
