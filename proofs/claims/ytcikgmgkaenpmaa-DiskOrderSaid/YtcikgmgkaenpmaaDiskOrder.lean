/-
  DiskOrder answers true for every disk and every row of writes, and its arguments read behind the call as they read before; no condition.
-/
import Derived.Test.YtcikgmgkaenpmaaDiskOrderW
import Derived.Test.YtcikgmgkaenpmaaOpens
namespace Go.Proofs.Ytcikgmgkaenpmaa
open Go.RowKit Go.ChangeShapes Go.WideShapes
open Go.ChangeMaps (open_string shut_string)

theorem diskOrder_all (vb0 vw0 : Value) (bs0 : List (List UInt8)) (ws0 : List Wr) (v1 : Value) (ws1 : List Wr) (W : World) (tb0 : Txts W vb0 bs0) (tw0 : Wrs W vw0 ws0) (_ : bs0.length ≤ maxLen) (_ : ws0.length ≤ maxLen) (tw1 : Wrs W v1 ws1) (_ : ws1.length ≤ maxLen) : Calls Try.prog 7 #[.agg #[vb0, vw0], v1] W fun e w' => e = .returned (.bool true) ∧ Below W.heap.size W w' :=
  diskOrder_walk vb0 vw0 bs0 ws0 v1 ws1 W tb0 tw0 tw1

set_option linter.unusedVariables false
set_option maxRecDepth 100000 in
theorem diskOrder_lifted (os : Os) (started : os.Started) (H : Type) (enc : TypeId × Value → H) :
    ReturnsInHanded {} Try.checked os 7 .any (Rows.diskOrderSpec.pre6 enc Try.prog Try.f7 Rows.diskOrderRow.domain false) (Rows.diskOrderSpec.post enc Try.prog Try.f7 false true false false) := by
  refine returnsInHanded_of_change (C := Try.checked) own_knob started (by kernel_rfl) Try.func7
    (ChangeSpec.witness6 (enc := enc) (C := Try.checked) false ⟨#[], #[.agg #[.slice none 0 0, .slice none 0 0], .slice none 0 0], []⟩ 8 (by kernel_rfl) (by kernel_rfl) (by kernel_rfl) (by kernel_rfl)) ?_
  intro W base args ds gs before hval0 hW hcnd _
  have hval : ∀ (j : Nat) t v, Try.f7.params[j]? = some t → args[j]? = some v → Value.okWide Try.prog W .any base t v := hval0
  have hW' := hW
  obtain ⟨p, q, hA0, hV, rfl, hfz, hnd⟩ := hW
  have hA : DataW.TrodAll enc Try.prog W 0 (fun _ => true) true Try.f7.params.toList args.toList ds p := hA0
  rw [Try.params7] at hA hval
  obtain ⟨v0, vs0, d0, ds0, p0, q0, hargs, rfl, rfl, h0, r0⟩ := trodAll_cons hA
  obtain ⟨v1, vs1, d1, ds1, p1, q1, rfl, rfl, rfl, h1, r1⟩ := trodAll_cons r0
  obtain ⟨rfl, rfl, rfl⟩ := trodAll_nil r1
  obtain rfl : args = #[v0, v1] := by cases args; simp_all
  obtain ⟨rfl, rfl⟩ := trodVars_none hV
  have k0 := h0
  have lt0 : ∀ x ∈ p0, x.block < W.heap.size := by obtain ⟨m, hm⟩ := k0; exact DataW.trod_lt m _ _ _ hm
  have k1 := h1
  have lt1 : ∀ x ∈ p1, x.block < W.heap.size := by obtain ⟨m, hm⟩ := k1; exact DataW.trod_lt m _ _ _ hm
  obtain ⟨vb0, vw0, bs0, ws0, rfl, tb0, tw0, lb0, lw0⟩ := disk_open (hval 0 25 v0 rfl rfl) h0
  obtain ⟨ws1, tw1, lw1⟩ := writes_open (hval 1 23 v1 rfl rfl) h1
  refine (diskOrder_all vb0 vw0 bs0 ws0 v1 ws1 W tb0 tw0 lb0 lw0 tw1 lw1).mono fun e W' ⟨he, bel⟩ => ?_
  subst he
  exact ⟨_, rfl, _, _, _, [], _, [], hW', trodAll_mk1 (shut_bool Try.underlying4 _), (trodAll_cons_mk (Below.trod laid_out (by kernel_rfl) (of_decide_eq_true (by kernel_rfl)) k0 bel lt0) (trodAll_cons_mk (Below.trod laid_out (by kernel_rfl) (of_decide_eq_true (by kernel_rfl)) k1 bel lt1) trodAll_mk0)), rfl, bel.frame _, fun h => by cases h⟩

theorem diskOrder_holds : Rows.DiskOrderSaid :=
  OpenClaim.holds_of_wide 7 Try.f7 rfl rfl rfl rfl rfl rfl rfl ⟨rfl, rfl, rfl, rfl, rfl⟩ rfl rfl rfl rfl rfl (by kernel_rfl) Try.func7 (by kernel_rfl)
    (of_decide_eq_true (by kernel_rfl)) (by unfold Func.isWrapper; first | (rw [if_pos (by decide +kernel)]; kernel_rfl) | (rw [if_neg (by decide +kernel)]; exact ⟨rfl, rfl⟩))
    (fun os started H enc _ => diskOrder_lifted os started H enc)


end Go.Proofs.Ytcikgmgkaenpmaa
