/-
  The walk of DiskCrash.
-/
import Derived.Test.YtcikgmgkaenpmaaDiskLastW
import Derived.Deep.QuietTactic
import Derived.BigQuiet
import Derived.WalkSmall
namespace Go.Proofs.Ytcikgmgkaenpmaa
open Go.RowKit

/-- What is laid is a block's own text, or one that was written to it. -/
theorem lay_from (bs : List (List UInt8)) (xs : List Wr) (hx : ∀ x ∈ xs, hasB bs.length x.1 = true) (q : Nat) (hq : q < bs.length) : (layL bs xs).getD q [] = bs.getD q [] ∨ ∃ x ∈ xs, x.1 = q ∧ x.2 = (layL bs xs).getD q [] := by
  induction xs generalizing bs with
  | nil => exact .inl rfl
  | cons x r ih =>
    have e : layL bs (x :: r) = layL (bs.set x.1.toNat x.2) r := rfl
    rw [e]
    have h0 : 0 ≤ x.1 ∧ x.1 < bs.length := by simpa [hasB] using hx x List.mem_cons_self
    rcases ih (bs.set x.1.toNat x.2) (by simpa using fun a b h => hx (a, b) (List.mem_cons_of_mem _ h)) (by simpa using hq) with h | ⟨y, hy, h1, h2⟩
    · by_cases hj : x.1.toNat = q
      · right
        refine ⟨x, List.mem_cons_self, by omega, ?_⟩
        rw [h]
        have h2 : x.1.toNat < bs.length := by omega
        simp [List.getD, hj, hq]
      · left
        rw [h]
        simp [List.getD, hj]
    · exact .inr ⟨y, List.mem_cons_of_mem _ hy, h1, h2⟩

/-- in, behind k of the writes. -/
def InAt (b0 : Bool) (ws : List Wr) (q : Nat) (t : List UInt8) (k : Nat) (b : Bool) : Prop := b = (b0 || (ws.take k).any fun x => decide (x.1 = (q : Int)) && decide (x.2 = t))
theorem inAt_zero (b0 : Bool) (ws : List Wr) (q : Nat) (t : List UInt8) : InAt b0 ws q t 0 b0 := by simp [InAt]
theorem inAt_true {b0 : Bool} {ws : List Wr} {q : Nat} {t : List UInt8} {k : Nat} (h : InAt b0 ws q t k true) (hk : k < ws.length) : InAt b0 ws q t (k + 1) true := by
  unfold InAt at h ⊢
  rw [List.take_succ_eq_append_getElem hk, List.any_append, ← Bool.or_assoc, ← h]
  rfl
theorem inAt_false {b0 : Bool} {ws : List Wr} {q : Nat} {t : List UInt8} {k : Nat} (h : InAt b0 ws q t k false) (hk : k < ws.length) {x : Wr} (hx : ws[k] = x) (b : Bool) (hb : b = (decide (x.1 = (q : Int)) && decide (x.2 = t))) : InAt b0 ws q t (k + 1) b := by
  unfold InAt at h ⊢
  rw [List.take_succ_eq_append_getElem hk, List.any_append, ← Bool.or_assoc, ← h, hx, hb]
  simp
theorem inAt_all {bs : List (List UInt8)} {ws xs : List Wr} (hx : ∀ x ∈ xs, hasB bs.length x.1 = true) (hs : ∀ x ∈ xs, x ∈ ws) {q : Nat} (hq : q < bs.length) {s t : List UInt8} (h1 : bs.getD q [] = s) (h2 : (layL bs xs).getD q [] = t) {b : Bool}
    (h : InAt (decide (t = s)) ws q t ws.length b) : b = true := by
  unfold InAt at h
  rw [List.take_length] at h
  rw [h]
  rcases lay_from bs xs hx q hq with e | ⟨x, hm, e1, e2⟩
  · rw [h1, h2] at e
    simp [e]
  · rw [h2] at e2
    rw [Bool.or_eq_true]
    right
    rw [List.any_eq_true]
    exact ⟨x, hs x hm, by simp [e1, e2]⟩

set_option maxRecDepth 100000 in
set_option maxHeartbeats 16000000 in
theorem diskCrash_walk (vb vw : Value) (bs : List (List UInt8)) (ws : List Wr) (v1 : Value) (ks : List Bool) (w0 : World) (ht0 : Txts w0 vb bs) (hv0 : Wrs w0 vw ws) (hk : Bools w0 v1 ks) :
    Calls Try.prog 6 #[.agg #[vb, vw], v1] w0 fun e w' => e = .returned (.bool true) ∧ Below w0.heap.size w0 w' := by
  obtain ⟨ab0, cb0, rfl⟩ := ht0.strs.form
  obtain ⟨aw0, cw0, rfl⟩ := hv0.form
  obtain ⟨ak, ck, rfl⟩ := hk.form
  have hBB := Below.refl w0.heap.size w0
  cases hF : farB bs ws [] ks.length with
  | true =>
    have HF := Lib.hid hF
    clear hF
    go_enter Try.func6, Try.ntmps6
    go_wp2_with fail
    refine (far_calls _ _ ak ks.length ck _ _ [] _ (ht0.below (below_alloc _ _)) (hv0.below (below_alloc _ _))).mono ?_
    rintro e w1 ⟨he, hB1⟩
    rw [HF.out] at he
    subst he
    have hC1 := below2 (below_alloc _ _) hB1
    have hx0 := (Bx.new w0 _ _).below hB1
    replace ht0 := ht0.below hC1
    replace hv0 := hv0.below hC1
    replace hk := hk.below hC1
    have c00 := hx0.cells.1
    have c01 := hx0.cells.2.1
    have l0 := hx0.cells.2.2.2.2
    replace hBB := below2 hBB hC1
    go_wp2_with fail
    refine (spun_calls _).mono ?_
    rintro e w2 ⟨he, hB2⟩
    subst he
    have hC2 := hB2
    replace hx0 := hx0.below hC2
    replace ht0 := ht0.below hC2
    replace hv0 := hv0.below hC2
    replace hk := hk.below hC2
    replace c00 := hx0.cells.1
    replace c01 := hx0.cells.2.1
    replace l0 := hx0.cells.2.2.2.2
    replace hBB := below2 hBB hC2
    go_wp2_with fail
    go_ret
    exact ⟨rfl, hBB⟩
  | false =>
    have HF := Lib.hid hF
    have hfar := far_not hF
    clear hF
    cases hR : rightB bs ws with
    | false =>
      have HR := Lib.hid hR
      clear hR
      go_enter Try.func6, Try.ntmps6
      go_wp2_with fail
      refine (far_calls _ _ ak ks.length ck _ _ [] _ (ht0.below (below_alloc _ _)) (hv0.below (below_alloc _ _))).mono ?_
      rintro e w1 ⟨he, hB1⟩
      rw [HF.out] at he
      subst he
      have hC1 := below2 (below_alloc _ _) hB1
      have hx0 := (Bx.new w0 _ _).below hB1
      replace ht0 := ht0.below hC1
      replace hv0 := hv0.below hC1
      replace hk := hk.below hC1
      have c00 := hx0.cells.1
      have c01 := hx0.cells.2.1
      have l0 := hx0.cells.2.2.2.2
      replace hBB := below2 hBB hC1
      go_wp2_with fail
      refine (check_calls _ _ bs ws _ ht0 hv0).mono ?_
      rintro e w2 ⟨he, hB2⟩
      rw [HR.out] at he
      subst he
      have hC2 := hB2
      replace hx0 := hx0.below hC2
      replace ht0 := ht0.below hC2
      replace hv0 := hv0.below hC2
      replace hk := hk.below hC2
      replace c00 := hx0.cells.1
      replace c01 := hx0.cells.2.1
      replace l0 := hx0.cells.2.2.2.2
      replace hBB := below2 hBB hC2
      go_wp2_with fail
      refine (spun_calls _).mono ?_
      rintro e w3 ⟨he, hB3⟩
      subst he
      have hC3 := hB3
      replace hx0 := hx0.below hC3
      replace ht0 := ht0.below hC3
      replace hv0 := hv0.below hC3
      replace hk := hk.below hC3
      replace c00 := hx0.cells.1
      replace c01 := hx0.cells.2.1
      replace l0 := hx0.cells.2.2.2.2
      replace hBB := below2 hBB hC3
      go_wp2_with fail
      go_ret
      exact ⟨rfl, hBB⟩
    | true =>
      have hwl := hfar.2.1
      have HR := Lib.hid hR
      have E3 := Lib.hid (show syncE bs ws = 0 by simp [syncE, hR])
      have B3 := Lib.hid (show crashBs bs ws ks = layL bs (keptL ws ks) by simp [crashBs, hR])
      have HR2 := Lib.hid (right_lay hR (fun x hx => keptL_mem (ks := ks) hx))
      have HIN := Lib.hid (fun (q : Nat) (hq : q < bs.length) (s t : List UInt8) (h1 : bs.getD q [] = s) (h2 : (layL bs (keptL ws ks)).getD q [] = t) (b : Bool) (h : InAt (decide (t = s)) ws q t ws.length b) =>
        inAt_all (fun x hx => ((right_parts hR).2.2.2.2 x (keptL_mem hx)).1) (fun x hx => keptL_mem hx) hq h1 h2 h)
      have hl4 := (right_parts hR).2.1
      obtain ⟨C, hC⟩ : ∃ C, C = layL bs (keptL ws ks) := ⟨_, rfl⟩
      rw [← hC] at B3 HR2 HIN
      have HCL := Lib.hid (show C.length = bs.length by rw [hC, layL_len])
      clear hR hC
      go_enter Try.func6, Try.ntmps6
      go_wp2_with fail
      refine (far_calls _ _ ak ks.length ck _ _ [] _ (ht0.below (below_alloc _ _)) (hv0.below (below_alloc _ _))).mono ?_
      rintro e w1 ⟨he, hB1⟩
      rw [HF.out] at he
      subst he
      have hC1 := below2 (below_alloc _ _) hB1
      have hx0 := (Bx.new w0 _ _).below hB1
      replace ht0 := ht0.below hC1
      replace hv0 := hv0.below hC1
      replace hk := hk.below hC1
      have c00 := hx0.cells.1
      have c01 := hx0.cells.2.1
      have l0 := hx0.cells.2.2.2.2
      replace hBB := below2 hBB hC1
      go_wp2_with fail
      refine (check_calls _ _ bs ws _ ht0 hv0).mono ?_
      rintro e w2 ⟨he, hB2⟩
      rw [HR.out] at he
      subst he
      have hC2 := hB2
      replace hx0 := hx0.below hC2
      replace ht0 := ht0.below hC2
      replace hv0 := hv0.below hC2
      replace hk := hk.below hC2
      replace c00 := hx0.cells.1
      replace c01 := hx0.cells.2.1
      replace l0 := hx0.cells.2.2.2.2
      replace hBB := below2 hBB hC2
      go_wp2_with fail
      refine (crash_calls _ _ _ bs ws ks _ ht0 hv0 hk).mono ?_
      rintro e w3 ⟨vb3, vw3, he, ho3, hB3⟩
      rw [E3.out] at he
      subst he
      have hC3 := hB3
      replace hx0 := hx0.below hC3
      replace ht0 := ht0.below hC3
      replace hv0 := hv0.below hC3
      replace hk := hk.below hC3
      replace c00 := hx0.cells.1
      replace c01 := hx0.cells.2.1
      replace l0 := hx0.cells.2.2.2.2
      replace hBB := below2 hBB hC3
      obtain ⟨ab3, nb3, cb3, aw3, nw3, cw3, rfl, rfl, hnb3, hnw3⟩ := ho3.forms
      have ht3 := ho3.texts
      have hv3 := ho3.wrs
      have N3 := Lib.hid (And.intro hnb3 hnw3)
      clear hnb3 hnw3
      rw [B3.out] at ht3
      obtain rfl : nb3 = bs.length := by have h := N3.out.1; rw [B3.out, HCL.out] at h; exact h
      obtain rfl : nw3 = 0 := N3.out.2
      go_wp2_with fail
      refine (check_calls _ _ C [] _ (ht3.below (below_alloc _ _)) (hv3.below (below_alloc _ _))).mono ?_
      rintro e w4 ⟨he, hB4⟩
      rw [HR2.out] at he
      subst he
      have hC4 := below2 (below_alloc _ _) hB4
      replace hx0 := hx0.below hC4
      replace ht0 := ht0.below hC4
      replace hv0 := hv0.below hC4
      have hx3 := (Bx.new w3 _ _).below hB4
      replace ht3 := ht3.below hC4
      replace hv3 := hv3.below hC4
      replace hk := hk.below hC4
      replace c00 := hx0.cells.1
      replace c01 := hx0.cells.2.1
      replace l0 := hx0.cells.2.2.2.2
      have c30 := hx3.cells.1
      have c31 := hx3.cells.2.1
      have l3 := hx3.cells.2.2.2.2
      replace hBB := below2 hBB hC4
      go_wp2_with fail
      go_loopw [7] (fun i wr => ∃ q : Nat, q ≤ bs.length ∧ i = .int .i64 q ∧ Below w4.heap.size w4 wr) (fun i _ => bs.length - (intOf i).toNat)
      case atStart => exact ⟨0, Nat.zero_le _, rfl, Below.refl _ _⟩
      case round =>
        obtain ⟨q, hq, rfl, hBr⟩ := hrel
        have hxr0 := hx0.below hBr
        replace c00 := hxr0.cells.1
        replace c01 := hxr0.cells.2.1
        replace l0 := hxr0.cells.2.2.2.2
        have hxr3 := hx3.below hBr
        replace c30 := hxr3.cells.1
        replace c31 := hxr3.cells.2.1
        replace l3 := hxr3.cells.2.2.2.2
        by_cases hlt : q < bs.length
        · have hltC : q < C.length := by have h := HCL.out; omega
          obtain ⟨b1, o1, rfl, e1⟩ := ht0.strs.at hlt
          obtain ⟨b2, o2, rfl, e2⟩ := ht3.strs.at hltC
          have HS1 := Lib.hid (show bs.getD q [] = bs[q] by simp [List.getD, List.getElem?_eq_getElem hlt])
          have HS2 := Lib.hid (show C.getD q [] = C[q] by simp [List.getD, List.getElem?_eq_getElem hltC])
          generalize bs[q] = s at e1 HS1
          generalize C[q] = t at e2 HS2
          have e1r := look_below hBr e1
          have e2r := look_below hBr e2
          have E2 := Lib.hid e2
          clear e1 e2
          have hend := Lib.hid (fun (b : Bool) h => HIN.out q hlt s t HS1.out HS2.out b h)
          cases hst : decide (t = s) with
          | false =>
            have hb0 : (t == s) = false := by simpa using hst
            rw [hst] at hend
            have HST := Lib.hid hst
            clear hst
            go_wp2_with fail
            go_quiet (fail)
            go_wp2_with fail
            have hBd := below_drewN hBr nq
            obtain ⟨wo, hwo⟩ : ∃ wo, wo = wr.drewN nq := ⟨_, rfl⟩
            rw [← hwo] at hBd ⊢
            have HWO := Lib.hid hwo
            clear hwo
            go_loopw [8, 9] (fun u k wx => ∃ (n : Nat) (b : Bool), n ≤ ws.length ∧ k = .int .i64 n ∧ u = .bool b ∧ InAt false ws q t n b ∧ Below w4.heap.size w4 wx) (fun _ k _ => ws.length - (intOf k).toNat)
            case atStart => exact ⟨0, false, Nat.zero_le _, rfl, rfl, inAt_zero _ _ _ _, hBd⟩
            case round =>
              obtain ⟨n, b, hn, rfl, rfl, hb, hBx⟩ := hrel
              clear c00 c01 c30 c31 e1r e2r
              have hxx0 := hx0.below hBx
              have c00 := hxx0.cells.1
              have c01 := hxx0.cells.2.1
              have hxx3 := hx3.below hBx
              have c30 := hxx3.cells.1
              have c31 := hxx3.cells.2.1
              have e2x := look_below hBx E2.out
              by_cases hnl : n < ws.length
              · cases b with
                  | true =>
                    obtain ⟨bw, ow, rfl, f0, f1⟩ := (hv0.below hBx).at hnl
                    have HN := Lib.hid (inAt_true hb hnl)
                    clear hb f0 f1
                    go_wp2_with fail
                    go_quiet (fail)
                    go_wp2_with fail
                    go_roundw
                    case rel => exact ⟨n + 1, true, by omega, by go_num, rfl, HN.out, below_drewN hBx _⟩
                    case measure => simp [intOf]; omega
                  | false =>
                    obtain ⟨bw, ow, rfl, f0, f1⟩ := (hv0.below hBx).at hnl
                    have HN := Lib.hid (fun (x : Wr) (b : Bool) => inAt_false (x := x) hb hnl (b := b))
                    clear hb
                    obtain ⟨⟨a, s2⟩, hxk⟩ : ∃ y, ws[n] = y := ⟨_, rfl⟩
                    rw [hxk] at f0 f1
                    have HXK := Lib.hid hxk
                    clear hxk
                    by_cases ha : a = (q : Int)
                    · have ha1 : (a == (q : Int)) = true := by simp [ha]
                      by_cases hs : s2 = t
                      · have hs1 : (s2 == t) = true := by simp [hs]
                        have HF2 := Lib.hid (HN.out (a, s2) true HXK.out (by simp [ha, hs]))
                        clear ha hs
                        go_wp2_with fail
                        go_quiet (fail)
                        go_wp2_with fail
                        go_roundw
                        case rel => exact ⟨n + 1, true, by omega, by go_num, rfl, HF2.out, below_drewN hBx _⟩
                        case measure => simp [intOf]; omega
                      · have hs1 : (s2 == t) = false := by simp [hs]
                        have HF2 := Lib.hid (HN.out (a, s2) false HXK.out (by simp [ha, hs]))
                        clear ha hs
                        go_wp2_with fail
                        go_quiet (fail)
                        go_wp2_with fail
                        go_roundw
                        case rel => exact ⟨n + 1, false, by omega, by go_num, rfl, HF2.out, below_drewN hBx _⟩
                        case measure => simp [intOf]; omega
                    · have ha1 : (a == (q : Int)) = false := by simp [ha]
                      have HF2 := Lib.hid (HN.out (a, s2) false HXK.out (by simp [ha]))
                      clear ha
                      go_wp2_with fail
                      go_quiet (fail)
                      go_wp2_with fail
                      go_roundw
                      case rel => exact ⟨n + 1, false, by omega, by go_num, rfl, HF2.out, below_drewN hBx _⟩
                      case measure => simp [intOf]; omega
              · obtain rfl : n = ws.length := by omega
                obtain rfl := hend.out b hb
                clear hb
                go_wp2_with fail
                go_roundw
                case rel => exact ⟨q + 1, by omega, by go_num, hBx⟩
                case measure => simp [intOf]; omega
          | true =>
            have hb0 : (t == s) = true := by simpa using hst
            rw [hst] at hend
            have HST := Lib.hid hst
            clear hst
            go_wp2_with fail
            go_quiet (fail)
            go_wp2_with fail
            have hBd := below_drewN hBr nq
            obtain ⟨wo, hwo⟩ : ∃ wo, wo = wr.drewN nq := ⟨_, rfl⟩
            rw [← hwo] at hBd ⊢
            have HWO := Lib.hid hwo
            clear hwo
            go_loopw [8, 9] (fun u k wx => ∃ (n : Nat) (b : Bool), n ≤ ws.length ∧ k = .int .i64 n ∧ u = .bool b ∧ InAt true ws q t n b ∧ Below w4.heap.size w4 wx) (fun _ k _ => ws.length - (intOf k).toNat)
            case atStart => exact ⟨0, true, Nat.zero_le _, rfl, rfl, inAt_zero _ _ _ _, hBd⟩
            case round =>
              obtain ⟨n, b, hn, rfl, rfl, hb, hBx⟩ := hrel
              clear c00 c01 c30 c31 e1r e2r
              have hxx0 := hx0.below hBx
              have c00 := hxx0.cells.1
              have c01 := hxx0.cells.2.1
              have hxx3 := hx3.below hBx
              have c30 := hxx3.cells.1
              have c31 := hxx3.cells.2.1
              have e2x := look_below hBx E2.out
              by_cases hnl : n < ws.length
              · cases b with
                  | true =>
                    obtain ⟨bw, ow, rfl, f0, f1⟩ := (hv0.below hBx).at hnl
                    have HN := Lib.hid (inAt_true hb hnl)
                    clear hb f0 f1
                    go_wp2_with fail
                    go_quiet (fail)
                    go_wp2_with fail
                    go_roundw
                    case rel => exact ⟨n + 1, true, by omega, by go_num, rfl, HN.out, below_drewN hBx _⟩
                    case measure => simp [intOf]; omega
                  | false =>
                    obtain ⟨bw, ow, rfl, f0, f1⟩ := (hv0.below hBx).at hnl
                    have HN := Lib.hid (fun (x : Wr) (b : Bool) => inAt_false (x := x) hb hnl (b := b))
                    clear hb
                    obtain ⟨⟨a, s2⟩, hxk⟩ : ∃ y, ws[n] = y := ⟨_, rfl⟩
                    rw [hxk] at f0 f1
                    have HXK := Lib.hid hxk
                    clear hxk
                    by_cases ha : a = (q : Int)
                    · have ha1 : (a == (q : Int)) = true := by simp [ha]
                      by_cases hs : s2 = t
                      · have hs1 : (s2 == t) = true := by simp [hs]
                        have HF2 := Lib.hid (HN.out (a, s2) true HXK.out (by simp [ha, hs]))
                        clear ha hs
                        go_wp2_with fail
                        go_quiet (fail)
                        go_wp2_with fail
                        go_roundw
                        case rel => exact ⟨n + 1, true, by omega, by go_num, rfl, HF2.out, below_drewN hBx _⟩
                        case measure => simp [intOf]; omega
                      · have hs1 : (s2 == t) = false := by simp [hs]
                        have HF2 := Lib.hid (HN.out (a, s2) false HXK.out (by simp [ha, hs]))
                        clear ha hs
                        go_wp2_with fail
                        go_quiet (fail)
                        go_wp2_with fail
                        go_roundw
                        case rel => exact ⟨n + 1, false, by omega, by go_num, rfl, HF2.out, below_drewN hBx _⟩
                        case measure => simp [intOf]; omega
                    · have ha1 : (a == (q : Int)) = false := by simp [ha]
                      have HF2 := Lib.hid (HN.out (a, s2) false HXK.out (by simp [ha]))
                      clear ha
                      go_wp2_with fail
                      go_quiet (fail)
                      go_wp2_with fail
                      go_roundw
                      case rel => exact ⟨n + 1, false, by omega, by go_num, rfl, HF2.out, below_drewN hBx _⟩
                      case measure => simp [intOf]; omega
              · obtain rfl : n = ws.length := by omega
                obtain rfl := hend.out b hb
                clear hb
                go_wp2_with fail
                go_roundw
                case rel => exact ⟨q + 1, by omega, by go_num, hBx⟩
                case measure => simp [intOf]; omega
        · obtain rfl : q = bs.length := by omega
          go_wp2_with fail
          refine (spun_calls _).mono ?_
          rintro e w5 ⟨rfl, hB5⟩
          go_wp2_with fail
          go_ret
          exact ⟨rfl, below3 hBB hBr hB5⟩

end Go.Proofs.Ytcikgmgkaenpmaa
