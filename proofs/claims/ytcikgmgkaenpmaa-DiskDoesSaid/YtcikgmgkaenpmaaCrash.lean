/-
  disk: Crash.
-/
import Derived.Test.YtcikgmgkaenpmaaDSpec
import Derived.Deep.RegionWith
import Derived.Deep.DeepCutAuto
namespace Go.Proofs.Ytcikgmgkaenpmaa
open Go.RowKit

set_option maxRecDepth 100000 in
set_option maxHeartbeats 4000000 in
theorem crash_calls (vb vw vk : Value) (bs : List (List UInt8)) (ws : List Wr) (ks : List Bool) (w : World) (hb : Txts w vb bs) (hw : Wrs w vw ws) (hk : Bools w vk ks) :
    Calls Try.prog 16 #[.agg #[vb, vw], vk] w fun e w' => ∃ vb' vw', e = .returned (.tuple #[.agg #[vb', vw'], .int .i64 (syncE bs ws)]) ∧ OwnD w' w.heap.size vb' (crashBs bs ws ks) vw' [] ∧ Below w.heap.size w w' := by
  obtain ⟨ab, cb, rfl⟩ := hb.strs.form
  obtain ⟨aw, cw, rfl⟩ := hw.form
  obtain ⟨ak, ck, rfl⟩ := hk.form
  obtain ⟨hx0, hr0, hB0⟩ := entry2 w (.slice ab bs.length cb) (.slice aw ws.length cw)
  have C1 := check_calls _ _ bs ws _ (hb.below hB0) (hw.below hB0)
  cases hR : rightB bs ws with
  | false =>
    have E1 := Lib.hid (show syncE bs ws = 1 by simp [syncE, hR])
    have E2 := Lib.hid (show crashBs bs ws ks = [] by simp [crashBs, hR])
    rw [hR] at C1
    have K1 := Lib.hid C1
    clear C1 hR
    go_enter Try.func16, Try.ntmps16
    go_wp2_with fail
    refine K1.out.mono ?_
    rintro e w1 ⟨rfl, hB1⟩
    obtain ⟨q0, q1, q2, q3, q4⟩ := (hr0.below hB1).cells
    have hBB := below2 hB0 hB1
    go_wp2_with fail
    obtain ⟨r1, r2⟩ := ret_own (x := .slice none 0 0) (y := .slice none 0 0) (nil_own w1 (w.heap.size + 2)) (Nat.le_refl _) hBB
    refine ret_disk2 (p := 4) (q := 5) (by kernel_rfl) rfl (w.heap.size + 1) (.slice none 0 0) (.slice none 0 0) (.int .i64 1) rfl rfl (by go_simp) (by go_simp) ?_
    exact ⟨_, _, by rw [E1.out], by rw [E2.out]; exact r1, r2⟩
  | true =>
    have E1 := Lib.hid (show syncE bs ws = 0 by simp [syncE, hR])
    have E2 := Lib.hid (show crashBs bs ws ks = layL bs (keptL ws ks) by simp [crashBs, hR])
    obtain ⟨hl1, hl2, hl3, hl4, hl5⟩ := right_parts hR
    have HL5 := Lib.hid (fun x hx => (hl5 x (keptL_mem (ks := ks) hx)).1)
    rw [hR] at C1
    have K1 := Lib.hid C1
    clear C1 hR hl4 hl5
    go_enter Try.func16, Try.ntmps16
    go_wp2_with fail
    refine K1.out.mono ?_
    rintro e w1 ⟨rfl, hB1⟩
    have hxc := (hx0.below hB1).below (drew_below w1)
    have hrc := (hr0.below hB1).below (drew_below w1)
    have hBB1 := below2 hB0 hB1
    have hBBc := below2 hBB1 (drew_below w1)
    obtain ⟨p10, p11, p12, p13, p14⟩ := (hx0.below hB1).cells
    obtain ⟨q10, q11, q12, q13, q14⟩ := (hr0.below hB1).cells
    have hkl := keptL_le ws ks
    go_upto_region 3 with fail
    go_region_with (first
      | (go_at_call 32; refine (still_calls _ _ _ _ _ _ _).mono ?_; rintro e w2 ⟨rfl, hBs⟩; have hxc := hxc.below hBs; have hrc := hrc.below hBs; have hBBc := below2 hBBc hBs; obtain ⟨p20, p21, p22, p23, p24⟩ := hxc.cells; obtain ⟨q20, q21, q22, q23, q24⟩ := hrc.cells)
      | (go_at_call 34; refine (kept_calls _ _ ws ks _ (hw.below hBBc) (hk.below hBBc) (by omega)).mono ?_; rintro e w3 ⟨v3, rfl, hok, hBk⟩; have hok := Lib.hid (Wrs.own hok); have hxc := hxc.below hBk; have hrc := hrc.below hBk; have hBBc := below2 hBBc hBk; obtain ⟨p30, p31, p32, p33, p34⟩ := hxc.cells; obtain ⟨q30, q31, q32, q33, q34⟩ := hrc.cells)
      | (go_at_call 28; (first | refine (after_lay_calls _ _ _ bs [] (keptL ws ks) _ (hb.below hBBc) (Wrs.nil _) hok.out (by omega) (by simp) (by omega) HL5.out).mono ?_ | refine (after_lay_calls _ _ _ bs [] (keptL ws ks) _ (hb.below hBBc) (Wrs.nil _) (hok.out.below hBs) (by omega) (by simp) (by omega) HL5.out).mono ?_); rintro e w4 ⟨vb4, vw4, rfl, ho4, hB4⟩; obtain ⟨q40, q41, q42, q43, q44⟩ := (hrc.below hB4).cells; obtain ⟨aw4, cw4, hv3⟩ := (Wrs.own ho4.2).form; obtain ⟨ab4, cb4, hv4⟩ := (Txts.own ho4.1).strs.form; rw [layL_len] at hv4; rw [List.length_nil] at hv3; subst hv3 hv4; have hsz2 := hrc.cells.2.2.2.2; have hBB4 := below2 hBBc hB4; have HO4 := Lib.hid ho4; clear ho4))
    all_goals
      go_wp2_with fail
      obtain ⟨r1, r2⟩ := ret_own (w := w) (x := .slice ab4 bs.length cb4) (y := .slice aw4 0 cw4) HO4.out hsz2 hBB4
      refine ret_disk2 (p := 4) (q := 5) (by kernel_rfl) rfl (w.heap.size + 1) (.slice ab4 bs.length cb4) (.slice aw4 0 cw4) (.int .i64 0) rfl rfl (by go_simp) (by go_simp) ?_
      exact ⟨_, _, by rw [E1.out], by rw [E2.out]; exact r1, r2⟩

end Go.Proofs.Ytcikgmgkaenpmaa
