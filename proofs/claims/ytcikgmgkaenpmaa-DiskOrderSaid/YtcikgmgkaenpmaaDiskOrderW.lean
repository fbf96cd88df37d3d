/-
  The walk of DiskOrder.
-/
import Derived.Test.YtcikgmgkaenpmaaDiskLastW
import Derived.Test.YtcikgmgkaenpmaaDiskReadsW
import Derived.Test.YtcikgmgkaenpmaaOrderM
import Derived.Deep.QuietTactic
import Derived.BigQuiet
import Derived.WalkSmall
import Derived.Deep.LoopGhost
import Derived.Deep.DeepCutAuto
import Derived.Deep.RegionWith
import Derived.Deep.RegionHeld3
namespace Go.Proofs.Ytcikgmgkaenpmaa
open Go.RowKit

theorem wrs_form {w : World} {v : Value} {ws : List Wr} (h : Wrs w v ws) : ∃ ao n cap, v = .slice ao n cap := by
  obtain ⟨ao, cap, rfl⟩ := h.form
  exact ⟨ao, _, cap, rfl⟩
theorem txts_form {w : World} {v : Value} {ls : List (List UInt8)} (h : Txts w v ls) : ∃ ao n cap, v = .slice ao n cap := by
  obtain ⟨ao, cap, rfl⟩ := h.strs.form
  exact ⟨ao, _, cap, rfl⟩
/-- The two disks behind k rounds. -/
def OrdAt (w0 : World) (B5 B6 : Nat) (bs : List (List UInt8)) (ws l : List Wr) (k : Nat) (wr : World) : Prop :=
  ∃ va vx vb vy, Bx wr B5 va vx ∧ Bx wr B6 vb vy ∧ Txts wr va bs ∧ Wrs wr vx (ws ++ l.take k) ∧ Txts wr vb bs ∧ Wrs wr vy (ws ++ l.reverse.take k) ∧ Apart (l.take k) ∧ Below w0.heap.size w0 wr
theorem OrdAt.below {w0 : World} {B5 B6 : Nat} {bs : List (List UInt8)} {ws l : List Wr} {k : Nat} {wr wr' : World} (h : OrdAt w0 B5 B6 bs ws l k wr) (hb : Below wr.heap.size wr wr') : OrdAt w0 B5 B6 bs ws l k wr' := by
  obtain ⟨va, vx, vb, vy, h1, h2, h3, h4, h5, h6, h7, h8⟩ := h
  exact ⟨va, vx, vb, vy, h1.below hb, h2.below hb, h3.below hb, h4.below hb, h5.below hb, h6.below hb, h7, below2 h8 hb⟩

/-- The first disk with one write more, in a box of its own. -/
def MidAt (wx : World) (bs : List (List UInt8)) (ws : List Wr) (a : Int) (s : List UInt8) (B9 : Nat) (wc : World) : Prop :=
  ∃ v9 x9 base, Bx wc B9 v9 x9 ∧ wx.heap.size ≤ base ∧ OwnD wc base v9 (writeBs bs ws a s) x9 (writeWs bs ws a s) ∧ Below wx.heap.size wx wc
theorem ownD_below {w w' : World} {base : Nat} {vb vw : Value} {bs : List (List UInt8)} {ws : List Wr} (h : OwnD w base vb bs vw ws) (hb : Below w.heap.size w w') : OwnD w' base vb bs vw ws := ⟨own_stays h.1 hb, own_stays h.2 hb⟩
theorem bx_set {w : World} {B : Nat} {v x : Value} (h : Bx w B v x) (v' x' : Value) : Bx ((w.setCell ⟨B, 0, none⟩ v').setCell ⟨B, 1, none⟩ x') B v' x' := by
  unfold Bx at h ⊢
  have h1 := heap_setCell_same w B 0 _ _ v' h
  have h2 := heap_setCell_same _ B 1 _ _ x' h1
  exact h2
theorem own_sets {w : World} {base B : Nat} {vb vw : Value} {bs : List (List UInt8)} {ws : List Wr} (h : OwnD w base vb bs vw ws) (hB : B < base) (v x : Value) : OwnD ((w.setCell ⟨B, 0, none⟩ v).setCell ⟨B, 1, none⟩ x) base vb bs vw ws :=
  ⟨ownsRow_setCell_below (ownsRow_setCell_below h.1 (by simpa using hB) _) (by simpa using hB) _, ownsRow_setCell_below (ownsRow_setCell_below h.2 (by simpa using hB) _) (by simpa using hB) _⟩
theorem bx_other {w : World} {B B' : Nat} {v x : Value} (h : Bx w B v x) (hne : B ≠ B') (v' x' : Value) : Bx ((w.setCell ⟨B', 0, none⟩ v').setCell ⟨B', 1, none⟩ x') B v x := by
  unfold Bx at h ⊢
  rw [heap_setCell_other _ ⟨B', 1, none⟩ B x' hne, heap_setCell_other _ ⟨B', 0, none⟩ B v' hne]
  exact h
theorem ord_step {w0 w8 : World} {B5 B6 base9 base8 n : Nat} {p q p' q' v9 x9 v8 x8 : Value} {bs : List (List UInt8)} {ws l : List Wr} (h56 : B5 < B6) (hb : w0.heap.size ≤ B5) (h9 : B6 < base9) (h8 : B6 < base8) (hx5 : Bx w8 B5 p q) (hx6 : Bx w8 B6 p' q')
    (ho9 : OwnD w8 base9 v9 bs x9 (ws ++ l.take (n + 1))) (ho8 : OwnD w8 base8 v8 bs x8 (ws ++ l.reverse.take (n + 1))) (hap : Apart (l.take (n + 1))) (hB : Below w0.heap.size w0 w8) (o : Obj) :
    OrdAt w0 B5 B6 bs ws l (n + 1) (((((w8.setCell ⟨B5, 0, none⟩ v9).setCell ⟨B5, 1, none⟩ x9).setCell ⟨B6, 0, none⟩ v8).setCell ⟨B6, 1, none⟩ x8).alloc o) := by
  have h5 := bx_other (bx_set hx5 v9 x9) (B' := B6) (by omega) v8 x8
  have h6 := bx_set (bx_other hx6 (B' := B5) (by omega) v9 x9) v8 x8
  have o9 := own_sets (own_sets ho9 (B := B5) (by omega) v9 x9) (B := B6) (by omega) v8 x8
  have o8 := own_sets (own_sets ho8 (B := B5) (by omega) v9 x9) (B := B6) (by omega) v8 x8
  have hBa := below_alloc ((((w8.setCell ⟨B5, 0, none⟩ v9).setCell ⟨B5, 1, none⟩ x9).setCell ⟨B6, 0, none⟩ v8).setCell ⟨B6, 1, none⟩ x8) o
  refine ⟨_, _, _, _, h5.below hBa, h6.below hBa, o9.texts.below hBa, o9.wrs.below hBa, o8.texts.below hBa, o8.wrs.below hBa, hap, below2 ((((hB.setCell ?_ _).setCell ?_ _).setCell ?_ _).setCell ?_ _) hBa⟩
  all_goals simp
  all_goals omega

set_option maxRecDepth 100000 in
set_option maxHeartbeats 16000000 in
theorem diskOrder_walk (vb vw : Value) (bs : List (List UInt8)) (ws : List Wr) (v1 : Value) (l : List Wr) (w0 : World) (ht0 : Txts w0 vb bs) (hv0 : Wrs w0 vw ws) (hl : Wrs w0 v1 l) :
    Calls Try.prog 7 #[.agg #[vb, vw], v1] w0 fun e w' => e = .returned (.bool true) ∧ Below w0.heap.size w0 w' := by
  obtain ⟨ab0, cb0, rfl⟩ := ht0.strs.form
  obtain ⟨aw0, cw0, rfl⟩ := hv0.form
  obtain ⟨al, cl, rfl⟩ := hl.form
  have hBB := Below.refl w0.heap.size w0
  cases hF : farB bs ws [] 0 with
  | true =>
    have HF := Lib.hid hF
    clear hF
    go_enter Try.func7, Try.ntmps7
    go_wp2_with fail
    refine (far_calls _ _ none 0 0 _ _ [] _ (ht0.below (below_alloc _ _)) (hv0.below (below_alloc _ _))).mono ?_
    rintro e w1 ⟨he, hB1⟩
    rw [HF.out] at he
    subst he
    have hC1 := below2 (below_alloc _ _) hB1
    have hx0 := (Bx.new w0 _ _).below hB1
    replace ht0 := ht0.below hC1
    replace hv0 := hv0.below hC1
    replace hl := hl.below hC1
    have c00 := hx0.cells.1
    have c01 := hx0.cells.2.1
    have l0 := hx0.cells.2.2.2.2
    replace hBB := below2 hBB hC1
    go_wp2_with fail
    go_ret
    exact ⟨rfl, hBB⟩
  | false =>
    have HF := Lib.hid hF
    have hfar := far_not hF
    clear hF
    by_cases h20 : 20 < l.length
    · have d20 : decide ((20 : Int) < l.length) = true := by simp; omega
      go_enter Try.func7, Try.ntmps7
      go_wp2_with fail
      refine (far_calls _ _ none 0 0 _ _ [] _ (ht0.below (below_alloc _ _)) (hv0.below (below_alloc _ _))).mono ?_
      rintro e w1 ⟨he, hB1⟩
      rw [HF.out] at he
      subst he
      have hC1 := below2 (below_alloc _ _) hB1
      have hx0 := (Bx.new w0 _ _).below hB1
      replace ht0 := ht0.below hC1
      replace hv0 := hv0.below hC1
      replace hl := hl.below hC1
      have c00 := hx0.cells.1
      have c01 := hx0.cells.2.1
      have l0 := hx0.cells.2.2.2.2
      replace hBB := below2 hBB hC1
      go_wp2_with fail
      go_ret
      exact ⟨rfl, hBB⟩
    · have d20 : decide ((20 : Int) < l.length) = false := by simp; omega
      have hl20 : l.length ≤ 20 := by omega
      have hbl := hfar.1
      have hwl := hfar.2.1
      have HRA := Lib.hid (fun (k : Nat) (hk : k < l.length) => rev_at hk)
      clear hfar h20
      go_enter Try.func7, Try.ntmps7
      go_wp2_with fail
      refine (far_calls _ _ none 0 0 _ _ [] _ (ht0.below (below_alloc _ _)) (hv0.below (below_alloc _ _))).mono ?_
      rintro e w1 ⟨he, hB1⟩
      rw [HF.out] at he
      subst he
      have hC1 := below2 (below_alloc _ _) hB1
      have hx0 := (Bx.new w0 _ _).below hB1
      replace ht0 := ht0.below hC1
      replace hv0 := hv0.below hC1
      replace hl := hl.below hC1
      have c00 := hx0.cells.1
      have c01 := hx0.cells.2.1
      have l0 := hx0.cells.2.2.2.2
      replace hBB := below2 hBB hC1
      have hst : OrdAt w0 w1.heap.size (w1.heap.size + 1) bs ws l 0 ((w1.alloc (.cells #[.slice ab0 bs.length cb0, .slice aw0 ws.length cw0] 25)).alloc (.cells #[.slice ab0 bs.length cb0, .slice aw0 ws.length cw0] 25)) := by
        have hBa := below_alloc2 w1 (.cells #[.slice ab0 bs.length cb0, .slice aw0 ws.length cw0] 25) (.cells #[.slice ab0 bs.length cb0, .slice aw0 ws.length cw0] 25)
        have hx6 := Bx.new (w1.alloc (.cells #[.slice ab0 bs.length cb0, .slice aw0 ws.length cw0] 25)) (.slice ab0 bs.length cb0) (.slice aw0 ws.length cw0)
        rw [World.size_alloc] at hx6
        exact ⟨_, _, _, _, (Bx.new w1 _ _).below (below_alloc _ _), hx6, ht0.below hBa, by simpa using hv0.below hBa, ht0.below hBa, by simpa using hv0.below hBa, List.Pairwise.nil, below2 hBB hBa⟩
      have hll := hl
      have HST := Lib.hid hst
      clear hst
      go_wp2_with fail
      go_loopg [7] l.length (fun g i wr => ∃ k : Nat, k ≤ l.length ∧ g = l.length - k ∧ i = .int .i64 k ∧ OrdAt w0 w1.heap.size (w1.heap.size + 1) bs ws l k wr ∧ Below w1.heap.size w1 wr)
      case atStart => exact ⟨0, Nat.zero_le _, by simp, rfl, HST.out, below_alloc2 _ _ _⟩
      case round =>
        clear c00 c01 hx0
        obtain ⟨k, hk, rfl, rfl, hat, hBr⟩ := hrel
        by_cases hlt : k < l.length
        · obtain ⟨bl, ol, rfl, e0, e1⟩ := hl.at hlt
          obtain ⟨⟨a, s⟩, hxk⟩ : ∃ y, l[k] = y := ⟨_, rfl⟩
          rw [hxk] at e0 e1
          have HXK := Lib.hid hxk
          clear hxk
          have HAT := Lib.hid hat
          clear hat
          obtain ⟨wo, hwo⟩ : ∃ wo, wo = wr := ⟨_, rfl⟩
          rw [← hwo] at hBr HAT ⊢
          clear hwo
          go_wp2_with fail
          go_loopw [8] (fun j wx => ∃ n : Nat, n ≤ k ∧ j = .int .i64 n ∧ (∀ y ∈ l.take n, y.1 ≠ a) ∧ Below wo.heap.size wo wx) (fun j _ => k - (intOf j).toNat)
          case atStart => exact ⟨0, Nat.zero_le _, rfl, by simp, Below.refl _ _⟩
          case round =>
            obtain ⟨n, hn, rfl, hno, hBx⟩ := hrel
            have HNO := Lib.hid hno
            clear hno
            have hBw := below2 hBr hBx
            have e0x := look_below hBw e0
            by_cases hnk : n < k
            · obtain ⟨_, _, hq, f0, _⟩ := hl.at (k := n) (by omega)
              cases hq
              obtain ⟨⟨a2, s2⟩, hyk⟩ : ∃ y, l[n]'(by omega) = y := ⟨_, rfl⟩
              rw [hyk] at f0
              have f0x := look_below hBw f0
              clear f0
              by_cases ha : a2 = a
              · have ha1 : (a2 == a) = true := by simp [ha]
                clear ha hyk
                go_wp2_with fail
                go_quiet (fail)
                go_wp2_with fail
                refine (spun_calls _).mono ?_
                rintro e w9 ⟨rfl, hB9⟩
                go_wp2_with fail
                go_ret
                exact ⟨rfl, below3 hBB (below_drewN hBw nq) hB9⟩
              · have ha1 : (a2 == a) = false := by simp [ha]
                have HN2 : Hid (∀ y ∈ l.take (n + 1), y.1 ≠ a) := by
                  intro y hy
                  rw [List.take_succ_eq_append_getElem (show n < l.length by omega), hyk] at hy
                  rcases List.mem_append.1 hy with h | h
                  · exact HNO.out y h
                  · rw [List.mem_singleton.1 h]; exact ha
                clear ha hyk
                go_wp2_with fail
                go_quiet (fail)
                go_wp2_with fail
                go_roundw
                case rel => exact ⟨n + 1, by omega, by go_num, HN2.out, below_drewN hBx _⟩
                case measure => simp [intOf]; omega
            · obtain rfl : n = k := by omega
              have e1x := look_below hBw e1
              have HA2 := Lib.hid (HAT.out.below hBx)
              obtain ⟨va, vx, vb, vy, hx5, hx6, hta, hva, htb, hvb, hap, hBo⟩ := HA2.out
              obtain ⟨aa, ca, rfl⟩ := hta.strs.form
              obtain ⟨ax, nx, cx, rfl⟩ := wrs_form hva
              obtain ⟨ab, cb, rfl⟩ := htb.strs.form
              obtain ⟨ay, ny, cy, rfl⟩ := wrs_form hvb
              obtain ⟨c50, c51, _, _, l5⟩ := hx5.cells
              obtain ⟨c60, c61, _, _, l6⟩ := hx6.cells
              have hsz : w1.heap.size + 1 < wr.heap.size := l6
              have CW := Lib.hid (fun (W : World) (hb : Below wr.heap.size wr W) => write_calls _ _ bs _ a s W (hta.below hb) (hva.below hb))
              have HS := Lib.hid (fun (W : World) (hb : Below wr.heap.size wr W) => And.intro (look_below hb c50) (And.intro (look_below hb c51) (And.intro (look_below hb e0x) (look_below hb e1x))))
              have hb1 : Below wr.heap.size wr wr.drew := drew_below _
              have hb2 : Below wr.heap.size wr (wr.alloc (.cells #[.slice none 0 0, .slice none 0 0] 25)).drew := below2 (below_alloc _ _) (drew_below _)
              have hn9 : Bx (wr.alloc (.cells #[.slice none 0 0, .slice none 0 0] 25)).drew wr.heap.size (.slice none 0 0) (.slice none 0 0) := (Bx.new wr _ _).below (drew_below _)
              go_upto_region 13 with fail
              go_cut [9, 10] (fun p e wc => ∃ B9, p = .pointer (some ⟨B9, 0, none⟩) ∧ e = .int .i64 (writeE bs (ws ++ l.take n) a s) ∧ MidAt wr bs (ws ++ l.take n) a s B9 wc)
              case first =>
                go_region_held3 (fun w' => w'.cell? ⟨w1.heap.size, 0, none⟩ = some (.slice aa bs.length ca) ∧ w'.cell? ⟨w1.heap.size, 1, none⟩ = some (.slice ax nx cx) ∧ w'.cell? ⟨bl, ol + n * 2, none⟩ = some (.int .i64 a) ∧ w'.cell? ⟨bl, ol + n * 2 + 1, none⟩ = some (.string ⟨s.toArray⟩)) (first | exact HS.out _ hb1 | exact HS.out _ hb2 | exact HS.out _ hbx7 | exact HS.out _ (below2 hbx7 (below_alloc _ _)) | exact HS.out _ ((hbx7.setCell (Nat.le_refl _) _).setCell (Nat.le_refl _) _) | exact HS.out _ (below2 hb1 (below_alloc _ _))) (first | (go_at_call 10; (first | ((with_reducible refine (CW.out _ hb1).mono ?_); rintro e w7 ⟨vb7, vw7, rfl, ho7, hB7⟩; have hbx7 := below2 hb1 hB7) | ((with_reducible refine (CW.out _ hb2).mono ?_); rintro e w7 ⟨vb7, vw7, rfl, ho7, hB7⟩; have hbx7 := below2 hb2 hB7; have hx9 := hn9.below hB7; have g0 := hx9.cells.1; have g1 := hx9.cells.2.1; have g2 := hx9.cells.2.2.1; have g3 := hx9.cells.2.2.2.1)); obtain ⟨ab7, nb7, cb7, aw7, nw7, cw7, rfl, rfl, hnb7, hnw7⟩ := ho7.forms; have N7 := Lib.hid (And.intro hnb7 hnw7); clear hnb7 hnw7))
                all_goals
                  go_wp2_with fail
                  go_meet
                  case rel =>
                    first
                      | exact ⟨w7.heap.size, rfl, rfl, _, _, _, Bx.new w7 _ _, hb1.size, ownD_below ho7 (below_alloc _ _), below2 hbx7 (below_alloc _ _)⟩
                      | exact ⟨wr.heap.size, rfl, rfl, _, _, _, bx_set hx9 _ _, hb2.size, own_sets ho7 (by simp) _ _, (hbx7.setCell (Nat.le_refl _) _).setCell (Nat.le_refl _) _⟩
              case rest =>
                obtain ⟨B9, rfl, rfl, v9, x9, base9, hx9, hbase9, ho9, hb9⟩ := hcut
                obtain ⟨c1, hc1⟩ : ∃ c, c = writeE bs (ws ++ l.take n) a s := ⟨_, rfl⟩
                rw [← hc1]
                have HC1 := Lib.hid hc1
                clear hc1 HS CW hb1 hb2 hn9 c50 c51 c60 c61 e0x e1x
                have hBc := below2 hBw hb9
                obtain ⟨m, hm⟩ : ∃ m, m = l.length - 1 - n := ⟨_, rfl⟩
                obtain ⟨_, _, hq, f0, f1⟩ := hl.at (k := l.length - 1 - n) (by omega)
                cases hq
                obtain ⟨⟨a3, s3⟩, hyk⟩ : ∃ y, l[l.length - 1 - n]'(by omega) = y := ⟨_, rfl⟩
                rw [hyk] at f0 f1
                have HYK := Lib.hid hyk
                clear hyk hm
                replace f0 := look_below hBc f0
                replace f1 := look_below hBc f1
                have hlf := World.block_lt_of_cell? wc _ f0
                replace hx5 := hx5.below hb9
                replace hx6 := hx6.below hb9
                replace htb := htb.below hb9
                replace hvb := hvb.below hb9
                have c60 := hx6.cells.1
                have c61 := hx6.cells.2.1
                have l6c := hx6.cells.2.2.2.2
                go_wp2_with fail
                refine (write_calls _ _ bs _ a3 s3 _ (htb.below (below_alloc _ _)) (hvb.below (below_alloc _ _))).mono ?_
                rintro e w8 ⟨vb8, vw8, he, ho8, hB8⟩
                obtain ⟨c2, hc2⟩ : ∃ c, c = writeE bs (ws ++ l.reverse.take n) a3 s3 := ⟨_, rfl⟩
                rw [← hc2] at he
                subst he
                have HC2 := Lib.hid hc2
                clear hc2
                have hb8 := below2 (below_alloc _ _) hB8
                obtain ⟨ab8, nb8, cb8, aw8, nw8, cw8, rfl, rfl, hnb8, hnw8⟩ := ho8.forms
                have N8 := Lib.hid (And.intro hnb8 hnw8)
                clear hnb8 hnw8 c60 c61 f0 f1
                replace hx5 := hx5.below hb8
                replace hx6 := hx6.below hb8
                replace hx9 := hx9.below hb8
                replace ho9 := ownD_below ho9 hb8
                obtain ⟨a9, n9, cc9, ha9⟩ := txts_form ho9.texts
                obtain ⟨y9, m9, d9, hy9⟩ := wrs_form ho9.wrs
                subst ha9 hy9
                obtain ⟨c50, c51, g50, g51, l5⟩ := hx5.cells
                obtain ⟨c60, c61, g60, g61, l6⟩ := hx6.cells
                obtain ⟨c90, c91, g90, g91, l9⟩ := hx9.cells
                have hbc8 := below3 hBw hb9 hb8
                by_cases h1 : c1 = 0
                · by_cases h2 : c2 = 0
                  · have h1b : (c1 != 0) = false := by simp [h1]
                    have h2b : (c2 != 0) = false := by simp [h2]
                    have H1 := Lib.hid h1
                    have H2 := Lib.hid h2
                    clear h1 h2
                    go_wp2_with fail
                    go_roundg (l.length - (n + 1))
                    case measure => omega
                    case rel =>
                      have e1 : l.take (n + 1) = l.take n ++ [(a, s)] := by rw [List.take_succ_eq_append_getElem (show n < l.length by omega), HXK.out]
                      have e2 : l.reverse.take (n + 1) = l.reverse.take n ++ [(a3, s3)] := by rw [HRA.out n (by omega), HYK.out]
                      have k1 := HC1.out.symm.trans H1.out
                      have k2 := HC2.out.symm.trans H2.out
                      rw [show writeBs bs (ws ++ l.take n) a s = bs by simp [writeBs, k1], show writeWs bs (ws ++ l.take n) a s = ws ++ l.take (n + 1) by rw [writeWs, if_pos k1, e1, List.append_assoc]] at ho9
                      rw [show writeBs bs (ws ++ l.reverse.take n) a3 s3 = bs by simp [writeBs, k2], show writeWs bs (ws ++ l.reverse.take n) a3 s3 = ws ++ l.reverse.take (n + 1) by rw [writeWs, if_pos k2, e2, List.append_assoc]] at ho8
                      have hap2 : Apart (l.take (n + 1)) := by rw [e1]; exact apart_snoc hap HNO.out
                      refine ⟨n + 1, by omega, rfl, by go_num, ord_step (by omega) hBB.size (Nat.lt_of_lt_of_le hsz hbase9) (by have h := hb9.size; simp; omega) hx5 hx6 ho9 ho8 hap2 (below2 hBB hbc8) _, ?_⟩
                      refine below2 ((((hbc8.setCell ?_ _).setCell ?_ _).setCell ?_ _).setCell ?_ _) (below_alloc _ _)
                      all_goals simp
                  · have h1b : (c1 != 0) = false := by simp [h1]
                    have h2b : (c2 != 0) = true := by simpa using h2
                    clear h1 h2
                    go_wp2_with fail
                    refine (spun_calls _).mono ?_
                    rintro e w9 ⟨rfl, hB9⟩
                    go_wp2_with fail
                    go_ret
                    exact ⟨rfl, below3 hBB hbc8 (below2 (below_alloc _ _) hB9)⟩
                · have h1b : (c1 != 0) = true := by simpa using h1
                  clear h1
                  go_wp2_with fail
                  refine (spun_calls _).mono ?_
                  rintro e w9 ⟨rfl, hB9⟩
                  go_wp2_with fail
                  go_ret
                  exact ⟨rfl, below3 hBB hbc8 (below2 (below_alloc _ _) hB9)⟩
        · obtain rfl : k = l.length := by omega
          obtain ⟨va, vx, vb, vy, hx5, hx6, ht5, hv5, ht6, hv6, hap, hBo⟩ := hat
          rw [List.take_length] at hv5 hap
          rw [show l.reverse.take l.length = l.reverse by rw [← List.length_reverse, List.take_length]] at hv6
          obtain ⟨aa, na, ca, rfl⟩ := txts_form ht5
          obtain ⟨ax, nx, cx, rfl⟩ := wrs_form hv5
          obtain ⟨ab, nb, cb, rfl⟩ := txts_form ht6
          obtain ⟨ay, ny, cy, rfl⟩ := wrs_form hv6
          have c50 := hx5.cells.1
          have c51 := hx5.cells.2.1
          have l5 := hx5.cells.2.2.2.2
          have c60 := hx6.cells.1
          have c61 := hx6.cells.2.1
          have l6 := hx6.cells.2.2.2.2
          obtain ⟨c, hc⟩ : ∃ c, c = syncE bs (ws ++ l) := ⟨_, rfl⟩
          obtain ⟨C, hC⟩ : ∃ c, c = syncBs bs (ws ++ l) := ⟨_, rfl⟩
          have HSS := Lib.hid (sync_same (bs := bs) (ws := ws) hap)
          rw [← hc, ← hC] at HSS
          have hcl : C.length ≤ 1000 := by
            rw [hC, syncBs]
            split
            · rw [layL_len]; omega
            · simp
          have HC := Lib.hid hc
          have HCC := Lib.hid hC
          clear hc hC
          replace hBB := hBo
          go_wp2_with fail
          refine (sync_calls _ _ bs (ws ++ l) _ ht5 hv5).mono ?_
          rintro e w11 ⟨vb11, vw11, he, ho11, hB11⟩
          rw [← HC.out] at he
          subst he
          have hC11 := hB11
          replace hx5 := hx5.below hC11
          replace ht5 := ht5.below hC11
          replace hv5 := hv5.below hC11
          replace hx6 := hx6.below hC11
          replace ht6 := ht6.below hC11
          replace hv6 := hv6.below hC11
          replace c50 := hx5.cells.1
          replace c51 := hx5.cells.2.1
          replace l5 := hx5.cells.2.2.2.2
          replace c60 := hx6.cells.1
          replace c61 := hx6.cells.2.1
          replace l6 := hx6.cells.2.2.2.2
          replace hBB := below2 hBB hC11
          obtain ⟨ab11, nb11, cb11, aw11, nw11, cw11, rfl, rfl, hnb11, hnw11⟩ := ho11.forms
          have ht11 := ho11.texts
          have hv11 := ho11.wrs
          have N11 := Lib.hid (And.intro hnb11 hnw11)
          clear hnb11 hnw11
          rw [← HCC.out] at ht11
          go_wp2_with fail
          refine (sync_calls _ _ bs (ws ++ l.reverse) _ (ht6.below (below_alloc _ _)) (hv6.below (below_alloc _ _))).mono ?_
          rintro e w12 ⟨vb12, vw12, he, ho12, hB12⟩
          rw [HSS.out.1] at he
          subst he
          have hC12 := below2 (below_alloc _ _) hB12
          replace hx5 := hx5.below hC12
          replace ht5 := ht5.below hC12
          replace hv5 := hv5.below hC12
          replace hx6 := hx6.below hC12
          replace ht6 := ht6.below hC12
          replace hv6 := hv6.below hC12
          have hx11 := (Bx.new w11 _ _).below hB12
          replace ht11 := ht11.below hC12
          replace hv11 := hv11.below hC12
          replace c50 := hx5.cells.1
          replace c51 := hx5.cells.2.1
          replace l5 := hx5.cells.2.2.2.2
          replace c60 := hx6.cells.1
          replace c61 := hx6.cells.2.1
          replace l6 := hx6.cells.2.2.2.2
          have c110 := hx11.cells.1
          have c111 := hx11.cells.2.1
          have l11 := hx11.cells.2.2.2.2
          replace hBB := below2 hBB hC12
          obtain ⟨ab12, nb12, cb12, aw12, nw12, cw12, rfl, rfl, hnb12, hnw12⟩ := ho12.forms
          have ht12 := ho12.texts
          have hv12 := ho12.wrs
          have N12 := Lib.hid (And.intro hnb12 hnw12)
          clear hnb12 hnw12
          rw [HSS.out.2] at ht12
          go_wp2_with fail
          refine (spun_calls _).mono ?_
          rintro e w13 ⟨he, hB13⟩
          subst he
          have hC13 := below2 (below_alloc _ _) hB13
          replace hx5 := hx5.below hC13
          replace ht5 := ht5.below hC13
          replace hv5 := hv5.below hC13
          replace hx6 := hx6.below hC13
          replace ht6 := ht6.below hC13
          replace hv6 := hv6.below hC13
          replace hx11 := hx11.below hC13
          replace ht11 := ht11.below hC13
          replace hv11 := hv11.below hC13
          have hx12 := (Bx.new w12 _ _).below hB13
          replace ht12 := ht12.below hC13
          replace hv12 := hv12.below hC13
          replace c50 := hx5.cells.1
          replace c51 := hx5.cells.2.1
          replace l5 := hx5.cells.2.2.2.2
          replace c60 := hx6.cells.1
          replace c61 := hx6.cells.2.1
          replace l6 := hx6.cells.2.2.2.2
          replace c110 := hx11.cells.1
          replace c111 := hx11.cells.2.1
          replace l11 := hx11.cells.2.2.2.2
          have c120 := hx12.cells.1
          have c121 := hx12.cells.2.1
          have l12 := hx12.cells.2.2.2.2
          replace hBB := below2 hBB hC13
          go_wp2_with fail
          refine (same_calls _ _ _ _ C C [] [] _ ht11 hv11 ht12 hv12 (by omega) (by simp)).mono ?_
          rintro e w14 ⟨he, hB14⟩
          rw [sameD_refl] at he
          subst he
          have hC14 := hB14
          replace hx5 := hx5.below hC14
          replace ht5 := ht5.below hC14
          replace hv5 := hv5.below hC14
          replace hx6 := hx6.below hC14
          replace ht6 := ht6.below hC14
          replace hv6 := hv6.below hC14
          replace hx11 := hx11.below hC14
          replace ht11 := ht11.below hC14
          replace hv11 := hv11.below hC14
          replace hx12 := hx12.below hC14
          replace ht12 := ht12.below hC14
          replace hv12 := hv12.below hC14
          replace c50 := hx5.cells.1
          replace c51 := hx5.cells.2.1
          replace l5 := hx5.cells.2.2.2.2
          replace c60 := hx6.cells.1
          replace c61 := hx6.cells.2.1
          replace l6 := hx6.cells.2.2.2.2
          replace c110 := hx11.cells.1
          replace c111 := hx11.cells.2.1
          replace l11 := hx11.cells.2.2.2.2
          replace c120 := hx12.cells.1
          replace c121 := hx12.cells.2.1
          replace l12 := hx12.cells.2.2.2.2
          replace hBB := below2 hBB hC14
          go_wp2_with fail
          go_ret
          exact ⟨rfl, hBB⟩

end Go.Proofs.Ytcikgmgkaenpmaa
