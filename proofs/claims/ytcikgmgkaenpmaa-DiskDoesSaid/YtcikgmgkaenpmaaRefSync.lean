/-
  The document's own Sync.
-/
import Derived.Test.YtcikgmgkaenpmaaSays
import Derived.Test.YtcikgmgkaenpmaaOwnT
import Derived.Maps.AppendAt
namespace Go.Proofs.Ytcikgmgkaenpmaa
open Go.RowKit

theorem bx_set0 {w : World} {B : Nat} {v x : Value} (h : Bx w B v x) (v' : Value) : Bx (w.setCell ⟨B, 0, none⟩ v') B v' x := heap_setCell_same w B 0 _ _ v' h
theorem bx_far {w : World} {B B' c : Nat} {v x : Value} (h : Bx w B v x) (hne : B ≠ B') (u : Value) : Bx (w.setCell ⟨B', c, none⟩ u) B v x := by
  unfold Bx at h ⊢
  rw [heap_setCell_other _ _ _ _ hne]
  exact h

/-- The first k blocks are laid. -/
def SyncAt (w w1 : World) (L : List (List UInt8)) (vb vw : Value) (k : Nat) (wr : World) : Prop :=
  ∃ v, Bx wr w1.heap.size v (.slice none 0 0) ∧ wr.ownsRow (w.heap.size + 2) 9 1 v k ((L.take k).map SV) ∧ Bx wr w.heap.size vb vw ∧ Bx wr (w.heap.size + 1) (.slice none 0 0) (.slice none 0 0) ∧ Below w.heap.size w wr
theorem sync_step {w w1 wr W w3 : World} {L : List (List UInt8)} {vb vw v v3 : Value} {s : List UInt8} {k : Nat} (hsz : w.heap.size + 2 ≤ w1.heap.size) (hx : Bx wr w1.heap.size v (.slice none 0 0)) (ho : wr.ownsRow (w.heap.size + 2) 9 1 v k ((L.take k).map SV)) (hp : Bx wr w.heap.size vb vw) (hr : Bx wr (w.heap.size + 1) (.slice none 0 0) (.slice none 0 0))
    (hB : Below w.heap.size w wr) (hW : Below wr.heap.size wr W) (hk : k < L.length) (hs : L[k] = s) (hown : w3.ownsRow (w.heap.size + 2) 9 1 v3 (k + 1) ((L.take k).map SV ++ [.string ⟨s.toArray⟩])) (hg : W.grownBy w3 v.ownBlock) : SyncAt w w1 L vb vw (k + 1) (w3.setCell ⟨w1.heap.size, 0, none⟩ v3) ∧ Bx w3 w1.heap.size v (.slice none 0 0) := by
  have o2 := own_stays ho hW
  have hxW := hx.below hW
  have hx3 := hxW.kept hg (hxW.not_row o2 (by decide))
  have hpW := hp.below hW
  have hp3 := hpW.kept hg (hpW.not_row o2 (by decide))
  have hrW := hr.below hW
  have hr3 := hrW.kept hg (hrW.not_row o2 (by decide))
  refine ⟨⟨v3, bx_set0 hx3 v3, ?_, bx_far hp3 (by omega) _, bx_far hr3 (by omega) _, ?_⟩, hx3⟩
  · have h := ownsRow_setCell_other hown (a := ⟨w1.heap.size, 0, none⟩) (by simpa using hx3.not_row hown (by decide)) v3
    rw [List.take_succ_eq_append_getElem hk, hs, List.map_append]
    exact h
  · refine ((below2 hB hW).grown hg (below2 hB hW).size (fun j e => ?_)).setCell ?_ _
    · have := (o2.lt j e).1; omega
    · simp; omega

set_option maxRecDepth 100000 in
set_option maxHeartbeats 8000000 in
theorem refSync_calls (vb vw : Value) (bs : List (List UInt8)) (ws : List Wr) (w : World) (hb : Txts w vb bs) (hw : Wrs w vw ws) :
    Calls Try.prog 15 #[.agg #[vb, vw]] w fun e w' => ∃ vb' vw', e = .returned (.tuple #[.agg #[vb', vw'], .int .i64 (syncE bs ws)]) ∧ OwnD w' w.heap.size vb' (syncBs bs ws) vw' [] ∧ Below w.heap.size w w' := by
  obtain ⟨i0, hi, hz0, hz1, hz2⟩ := info_parts info9
  obtain ⟨ab, cb, rfl⟩ := hb.strs.form
  obtain ⟨aw, cw, rfl⟩ := hw.form
  obtain ⟨hx0, hr0, hB0⟩ := entry2 w (.slice ab bs.length cb) (.slice aw ws.length cw)
  have C1 := refCheck_calls _ _ bs ws _ (hb.below hB0) (hw.below hB0)
  cases hR : rightB bs ws with
  | false =>
    have E1 := Lib.hid (show syncE bs ws = 1 by simp [syncE, hR])
    have E2 := Lib.hid (show syncBs bs ws = [] by simp [syncBs, hR])
    rw [hR] at C1
    have K1 := Lib.hid C1
    clear C1 hR
    go_enter Try.func15, Try.ntmps15
    go_wp2_with fail
    refine K1.out.mono ?_
    rintro e w1 ⟨rfl, hB1⟩
    obtain ⟨q0, q1, q2, q3, q4⟩ := (hr0.below hB1).cells
    have hBB := below2 hB0 hB1
    go_wp2_with fail
    obtain ⟨r1, r2⟩ := ret_own (x := .slice none 0 0) (y := .slice none 0 0) (nil_own w1 (w.heap.size + 2)) (Nat.le_refl _) hBB
    refine ret_disk2 (p := 2) (q := 3) (by kernel_rfl) rfl (w.heap.size + 1) (.slice none 0 0) (.slice none 0 0) (.int .i64 1) rfl rfl (by go_simp) (by go_simp) ?_
    exact ⟨_, _, by rw [E1.out], by rw [E2.out]; exact r1, r2⟩
  | true =>
    have E1 := Lib.hid (show syncE bs ws = 0 by simp [syncE, hR])
    have E2 := Lib.hid (show syncBs bs ws = layL bs ws by simp [syncBs, hR])
    obtain ⟨hl1, hl2, hl3, hl4, hl5⟩ := right_parts hR
    have HL5 := Lib.hid (fun x hx => (hl5 x hx).1)
    obtain ⟨L, hL⟩ : ∃ L, L = layL bs ws := ⟨_, rfl⟩
    have hLL := layL_len bs ws
    rw [← hL] at E2 hLL
    have HLL := Lib.hid hLL
    have HSY := Lib.hid (fun (k : Nat) (hk : k < L.length) => show saysL bs ws (k : Int) = L[k] by simp [saysL, ← hL, List.getD, List.getElem?_eq_getElem hk])
    rw [hR] at C1
    have K1 := Lib.hid C1
    clear C1 hR hl4 hl5 hL hLL
    go_enter Try.func15, Try.ntmps15
    go_wp2_with fail
    refine K1.out.mono ?_
    rintro e w1 ⟨rfl, hB1⟩
    have hx1 := hx0.below hB1
    have hr1 := hr0.below hB1
    have hBB1 := below2 hB0 hB1
    obtain ⟨p10, p11, p12, p13, p14⟩ := hx1.cells
    obtain ⟨q10, q11, q12, q13, q14⟩ := hr1.cells
    have hsz : w.heap.size + 2 ≤ w1.heap.size := q14
    have hst : SyncAt w w1 L (.slice ab bs.length cb) (.slice aw ws.length cw) 0 (w1.alloc (.cells #[.slice none 0 0, .slice none 0 0] 25)) :=
      ⟨_, Bx.new w1 _ _, World.ownsRow_nil _ _ _ _, hx1.below (below_alloc _ _), hr1.below (below_alloc _ _), below2 hBB1 (below_alloc _ _)⟩
    have HST := Lib.hid hst
    clear hst hx1 hr1
    go_wp2_with fail
    go_loopw [5] (fun i wr => ∃ k : Nat, k ≤ bs.length ∧ i = .int .i64 k ∧ SyncAt w w1 L (.slice ab bs.length cb) (.slice aw ws.length cw) k wr) (fun i _ => bs.length - (intOf i).toNat)
    case atStart => exact ⟨0, Nat.zero_le _, rfl, HST.out⟩
    case round =>
      clear p10 p11 p12 p13 q10 q11 q12 q13
      obtain ⟨k, hk, rfl, v, hxv, hov, hpv, hrv, hBv⟩ := hrel
      obtain ⟨p20, p21, p22, p23, p24⟩ := hpv.cells
      by_cases hlt : k < bs.length
      · have hltL : k < L.length := by have := HLL.out; omega
        have hH : hasB bs.length (k : Int) = true := by simp [hasB]; omega
        have HK := Lib.hid (HSY.out k hltL)
        go_wp2_with fail
        refine (says_calls _ _ bs ws (k : Int) _ (hb.below hBv) (hw.below hBv) (by omega) hH HL5.out).mono ?_
        rintro e w2 ⟨he, hB2⟩
        rw [HK.out] at he
        obtain ⟨s, hs⟩ : ∃ s, L[k] = s := ⟨_, rfl⟩
        rw [hs] at he
        subst he
        have HS := Lib.hid hs
        have hxv2 := hxv.below hB2
        obtain ⟨x20, x21, x22, x23, x24⟩ := hxv2.cells
        obtain ⟨av, nv, cv, rfl⟩ := own_form hov
        have O2 := Lib.hid (own_stays hov hB2)
        have HOV := Lib.hid hov
        clear hs hov hH
        go_wp2_with (at_builtin; refine wpList_append_own _ rfl (.tmp 22) (.tmp 24) 22 rfl (w.heap.size + 2) 9 i0 (.string ⟨#[]⟩) 1 16 Try.underlying22 hi hz0 hz1 hz2 rfl (by decide) (.slice av nv cv) k ((L.take k).map SV) rfl (O2.out.alloc _) ⟨w2.heap.size, 0, none⟩ 1 1 [.string ⟨s.toArray⟩] rfl rfl (cell_one_new _ _ _) (by simp [Value.oneCell']) (by unfold maxLen; omega) (by omega) (by have := hBv.size; have := hB2.size; simp; omega) ?_; intro v3 w3 hown3 hg3 _; obtain ⟨a3, n3, c3, rfl⟩ := own_form hown3; have HE := Lib.hid (sync_step hsz hxv HOV.out hpv hrv hBv (below2 hB2 (below_alloc _ _)) hltL HS.out hown3 hg3); have hx3 := HE.out.2; obtain ⟨y0, y1, y2, y3, y4⟩ := hx3.cells; clear hown3 hg3)
        go_roundw
        case rel => exact ⟨k + 1, by omega, by go_num, HE.out.1⟩
        case measure => simp [intOf]; omega
      · obtain rfl : k = bs.length := by omega
        obtain ⟨av, nv, cv, rfl⟩ := own_form hov
        obtain ⟨x20, x21, x22, x23, x24⟩ := hxv.cells
        obtain ⟨q20, q21, q22, q23, q24⟩ := hrv.cells
        have HOV := Lib.hid hov
        clear hov
        go_wp2_with fail
        have hod : OwnD wr (w.heap.size + 2) (.slice av nv cv) L (.slice none 0 0) [] := by
          have h := HOV.out
          have hl := HLL.out
          rw [List.take_of_length_le (by omega)] at h
          refine ⟨by rw [hl]; exact h, World.ownsRow_nil _ _ _ _⟩
        obtain ⟨r1, r2⟩ := ret_own (w := w) (x := .slice av nv cv) (y := .slice none 0 0) hod (Nat.le_refl _) hBv
        have hr4 := bx_set hrv (.slice av nv cv) (.slice none 0 0)
        refine ret_disk2 (p := 2) (q := 3) (by kernel_rfl) rfl (w.heap.size + 1) _ _ (.int .i64 0) rfl rfl hr4.cells.1 hr4.cells.2.1 ?_
        exact ⟨_, _, by rw [E1.out], by rw [E2.out]; exact r1, r2⟩

end Go.Proofs.Ytcikgmgkaenpmaa
