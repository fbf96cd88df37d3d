/-
  The document's own Crash.
-/
import Derived.Test.YtcikgmgkaenpmaaRefSync
import Derived.RegionTactic
import Derived.BigRegion
import Derived.Deep.RegionHeld3
namespace Go.Proofs.Ytcikgmgkaenpmaa
open Go.RowKit

theorem keptTo_end (ws : List Wr) (ks : List Bool) : keptTo ws ks ks.length = keptL ws ks := by
  unfold keptTo
  induction ws generalizing ks with
  | nil => simp
  | cons x r ih =>
    cases ks with
    | nil => simp [keptL]
    | cons b q => cases b <;> simp [keptL, ih]

/-- Behind k of the writes. -/
def CrashAt (w w2 : World) (v : Value) (bs : List (List UInt8)) (xs : List Wr) (vb vw : Value) (wr : World) : Prop :=
  Bx wr w2.heap.size v (.slice none 0 0) ∧ wr.ownsRow (w.heap.size + 2) 9 1 v bs.length ((layL bs xs).map SV) ∧ Bx wr w.heap.size vb vw ∧ Bx wr (w.heap.size + 1) (.slice none 0 0) (.slice none 0 0) ∧ Below w.heap.size w wr
theorem crash_step {w w2 wr : World} {g n c q : Nat} {bs : List (List UInt8)} {xs : List Wr} {vb vw : Value} {s : List UInt8} (h : CrashAt w w2 (.slice (some ⟨g, 0, none⟩) n c) bs xs vb vw wr) (hn : n = bs.length) (hq : q < n) :
    CrashAt w w2 (.slice (some ⟨g, 0, none⟩) n c) bs (xs ++ [((q : Int), s)]) vb vw (wr.setCell ⟨g, q, none⟩ (.string ⟨s.toArray⟩)).drew ∧ wr.cell? ⟨g, q, none⟩ = some (SV ((layL bs xs)[q]'(by rw [layL_len]; omega))) ∧ wr.frozen? ⟨g, q, none⟩ = false := by
  subst hn
  obtain ⟨hx, ho, hp, hr, hB⟩ := h
  obtain ⟨s1, s2⟩ := ho.stored q (.string ⟨s.toArray⟩)
  have hbg := (ho.lt g rfl).1
  have hd := drew_below (wr.setCell ⟨g, q, none⟩ (.string ⟨s.toArray⟩))
  refine ⟨⟨(hx.kept s2 (hx.not_row ho (by decide))).below hd, own_stays ?_ hd, (hp.kept s2 (hp.not_row ho (by decide))).below hd, (hr.kept s2 (hr.not_row ho (by decide))).below hd, below2 (hB.setCell (by simp; omega) _) hd⟩, ?_, ho.frozenAt q⟩
  · rw [layL_snoc, List.map_set]
    have e : (((q : Int), s) : Wr).1.toNat = q := rfl
    rw [e]
    exact s1
  · rw [ho.cellAt q (by omega), List.getElem?_map, List.getElem?_eq_getElem (by rw [layL_len]; omega)]
    rfl

set_option maxRecDepth 100000 in
set_option maxHeartbeats 8000000 in
theorem refCrash_calls (vb vw vk : Value) (bs : List (List UInt8)) (ws : List Wr) (ks : List Bool) (w : World) (hb : Txts w vb bs) (hw : Wrs w vw ws) (hk : Bools w vk ks) :
    Calls Try.prog 17 #[.agg #[vb, vw], vk] w fun e w' => ∃ vb' vw', e = .returned (.tuple #[.agg #[vb', vw'], .int .i64 (syncE bs ws)]) ∧ OwnD w' w.heap.size vb' (crashBs bs ws ks) vw' [] ∧ Below w.heap.size w w' := by
  obtain ⟨ab, cb, rfl⟩ := hb.strs.form
  obtain ⟨aw, cw, rfl⟩ := hw.form
  obtain ⟨ak, ck, rfl⟩ := hk.form
  obtain ⟨hx0, hr0, hB0⟩ := entry2 w (.slice ab bs.length cb) (.slice aw ws.length cw)
  have C1 := refCheck_calls _ _ bs ws _ (hb.below hB0) (hw.below hB0)
  cases hR : rightB bs ws with
  | false =>
    have E1 := Lib.hid (show syncE bs ws = 1 by simp [syncE, hR])
    have E2 := Lib.hid (show crashBs bs ws ks = [] by simp [crashBs, hR])
    rw [hR] at C1
    have K1 := Lib.hid C1
    clear C1 hR
    go_enter Try.func17, Try.ntmps17
    go_wp2_with fail
    refine K1.out.mono ?_
    rintro e w1 ⟨rfl, hB1⟩
    obtain ⟨q0, q1, q2, q3, q4⟩ := (hr0.below hB1).cells
    have hBB := below2 hB0 hB1
    go_wp2_with fail
    obtain ⟨r1, r2⟩ := ret_own (x := .slice none 0 0) (y := .slice none 0 0) (nil_own w1 (w.heap.size + 2)) (Nat.le_refl _) hBB
    refine ret_disk2 (p := 4) (q := 5) (by kernel_rfl) rfl (w.heap.size + 1) (.slice none 0 0) (.slice none 0 0) (.int .i64 1) rfl rfl (by go_simp) (by go_simp) ?_
    exact ⟨_, _, by rw [E1.out], by rw [E2.out]; exact r1, r2⟩
  | true =>
    have E1 := Lib.hid (show syncE bs ws = 0 by simp [syncE, hR])
    have E2 := Lib.hid (show crashBs bs ws ks = layL bs (keptL ws ks) by simp [crashBs, hR])
    obtain ⟨hl1, hl2, hl3, hl4, hl5⟩ := right_parts hR
    have HL5 := Lib.hid (fun x hx => (hl5 x hx).1)
    rw [hR] at C1
    have K1 := Lib.hid C1
    clear C1 hR hl4 hl5
    go_enter Try.func17, Try.ntmps17
    go_wp2_with fail
    refine K1.out.mono ?_
    rintro e w1 ⟨rfl, hB1⟩
    have hx1 := hx0.below hB1
    have hr1 := hr0.below hB1
    have hBB1 := below2 hB0 hB1
    obtain ⟨p10, p11, p12, p13, p14⟩ := hx1.cells
    have hsz : w.heap.size + 2 ≤ w1.heap.size := hr1.cells.2.2.2.2
    go_wp2_with fail
    refine (ownT_calls _ bs _ (hb.below hBB1).strs (by omega)).mono ?_
    rintro e w2 ⟨v2, rfl, ho2, hB2⟩
    obtain ⟨g, c, hv2, hg1, hg2⟩ := ho2.form (by omega)
    subst hv2
    have hBa := below_alloc w2 (.cells #[.slice (some ⟨g, 0, none⟩) bs.length c, .slice none 0 0] 25)
    have hst : CrashAt w w2 (.slice (some ⟨g, 0, none⟩) bs.length c) bs (keptTo ws ks 0) (.slice ab bs.length cb) (.slice aw ws.length cw) (w2.alloc (.cells #[.slice (some ⟨g, 0, none⟩) bs.length c, .slice none 0 0] 25)) :=
      ⟨Bx.new w2 _ _, own_weak (by rw [keptTo_zero]; exact own_stays ho2 hBa) hsz, (hx1.below hB2).below hBa, (hr1.below hB2).below hBa, below3 hBB1 hB2 hBa⟩
    have HST := Lib.hid hst
    have p20 := (hx1.below hB2).cells.1
    clear hst hx1 hr1 ho2 p10 p11 p12 p13
    go_wp2_with fail
    go_loopw [7] (fun i wr => ∃ k : Nat, k ≤ ws.length ∧ k ≤ ks.length ∧ i = .int .i64 k ∧ CrashAt w w2 (.slice (some ⟨g, 0, none⟩) bs.length c) bs (keptTo ws ks k) (.slice ab bs.length cb) (.slice aw ws.length cw) wr) (fun i _ => ws.length - (intOf i).toNat)
    case atStart => exact ⟨0, Nat.zero_le _, Nat.zero_le _, rfl, HST.out⟩
    case round =>
      clear p20
      obtain ⟨k, hk1, hk2, rfl, hat⟩ := hrel
      have HAT := Lib.hid hat
      obtain ⟨hxv, hov, hpv, hrv, hBv⟩ := hat
      obtain ⟨p20, p21, p22, p23, p24⟩ := hpv.cells
      obtain ⟨x20, x21, x22, x23, x24⟩ := hxv.cells
      have fin : (keptTo ws ks k = keptL ws ks) → OwnD wr (w.heap.size + 2) (.slice (some ⟨g, 0, none⟩) bs.length c) (crashBs bs ws ks) (.slice none 0 0) [] := by
        intro he
        rw [he] at hov
        refine ⟨?_, World.ownsRow_nil _ _ _ _⟩
        rw [E2.out, layL_len]
        exact hov
      have FIN := Lib.hid fin
      have HRV := Lib.hid hrv
      clear fin
      by_cases hlt : k < ws.length
      · by_cases hlk : k < ks.length
        · obtain ⟨bk, ok, rfl, ck1⟩ := (hk.below hBv).at hlk
          have HS := Lib.hid (keptTo_succ ws ks k hlt)
          obtain ⟨b, off, rfl, c0, c1⟩ := (hw.below hBv).at hlt
          obtain ⟨⟨a, s⟩, hx⟩ : ∃ y, ws[k] = y := ⟨_, rfl⟩
          rw [hx] at c0 c1
          cases hkk : ks[k] with
          | false =>
            rw [hkk] at ck1
            have H3 := Lib.hid (show keptTo ws ks (k + 1) = keptTo ws ks k by rw [HS.out, List.getElem?_eq_getElem hlk, hkk]; simp)
            clear hkk hx hov hxv hpv hrv c0 c1
            go_wp2_with fail
            go_roundw
            case rel => exact ⟨k + 1, by omega, by omega, by go_num, by rw [H3.out]; exact HAT.out⟩
            case measure => simp [intOf]; omega
          | true =>
            rw [hkk] at ck1
            have hH := HL5.out (a, s) (hx ▸ List.getElem_mem hlt)
            have ha : 0 ≤ a ∧ a < bs.length := by simpa [hasB] using hH
            obtain ⟨q, rfl⟩ : ∃ q : Nat, a = (q : Int) := ⟨a.toNat, by omega⟩
            have hq : q < bs.length := by omega
            have H3 := Lib.hid (show keptTo ws ks (k + 1) = keptTo ws ks k ++ [((q : Int), s)] by rw [HS.out, List.getElem?_eq_getElem hlk, hkk, hx]; simp)
            obtain ⟨hn1, hn2, hn3⟩ := crash_step (s := s) HAT.out rfl hq
            have HN := Lib.hid hn1
            obtain ⟨old, hold⟩ : ∃ t, t = (layL bs (keptTo ws ks k))[q]'(by rw [layL_len]; omega) := ⟨_, rfl⟩
            rw [← hold] at hn2
            unfold SV at hn2
            clear hkk hx hov hxv hpv hrv hn1 hold hH ha
            go_wp2_with fail
            go_region
            go_wp2_with fail
            go_roundw
            case rel => exact ⟨k + 1, by omega, by omega, by go_num, by rw [H3.out]; exact HN.out⟩
            case measure => simp [intOf]; omega
        · obtain rfl : k = ks.length := by omega
          have HO := Lib.hid (FIN.out (keptTo_end ws ks))
          obtain ⟨q20, q21, q22, q23, q24⟩ := HRV.out.cells
          clear hov hxv hpv hrv
          go_wp2_with fail
          obtain ⟨r1, r2⟩ := ret_own (w := w) (x := .slice (some ⟨g, 0, none⟩) bs.length c) (y := .slice none 0 0) HO.out (Nat.le_refl _) hBv
          have hr4 := bx_set HRV.out (.slice (some ⟨g, 0, none⟩) bs.length c) (.slice none 0 0)
          refine ret_disk2 (p := 4) (q := 5) (by kernel_rfl) rfl (w.heap.size + 1) _ _ (.int .i64 0) rfl rfl hr4.cells.1 hr4.cells.2.1 ?_
          exact ⟨_, _, by rw [E1.out], r1, r2⟩
      · obtain rfl : k = ws.length := by omega
        have HO := Lib.hid (FIN.out (keptTo_all ws ks))
        obtain ⟨q20, q21, q22, q23, q24⟩ := HRV.out.cells
        clear hov hxv hpv hrv
        go_wp2_with fail
        obtain ⟨r1, r2⟩ := ret_own (w := w) (x := .slice (some ⟨g, 0, none⟩) bs.length c) (y := .slice none 0 0) HO.out (Nat.le_refl _) hBv
        have hr4 := bx_set HRV.out (.slice (some ⟨g, 0, none⟩) bs.length c) (.slice none 0 0)
        refine ret_disk2 (p := 4) (q := 5) (by kernel_rfl) rfl (w.heap.size + 1) _ _ (.int .i64 0) rfl rfl hr4.cells.1 hr4.cells.2.1 ?_
        exact ⟨_, _, by rw [E1.out], r1, r2⟩

end Go.Proofs.Ytcikgmgkaenpmaa
