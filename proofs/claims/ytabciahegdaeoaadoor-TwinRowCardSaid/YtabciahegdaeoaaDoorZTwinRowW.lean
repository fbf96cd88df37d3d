/-
  The walk of TwinRow.
-/
import Derived.Test.YtabciahegdaeoaaDoorPks05
import Derived.Deep.RegionWith
import Derived.Deep.RegionHeld3
import Derived.Deep.DeepCutAuto
import Derived.WalkMore
namespace Go.Proofs.YtabciahegdaeoaaDoor
open Go.RowKit

theorem infoK : (Tryd.prog.info? 4).map (fun i => (i.zero, i.size, i.bytes)) = some (some (.bool false), 1, 1) := by kernel_rfl
/-- What one round makes of a twin. -/
theorem row_facts {X : List (List UInt8)} {s : List UInt8} {q : Nat} (z : Int) (h1 : newestE X [] 0 = 0) (h2 : numO (newestC X [] 0) ≤ q) (hq : q < 20) (hs : s.length ≤ 200) :
    stopE X [] 0 s = 0 ∧ syncE (stopBs X [] 0 s z) (stopWs X [] 0 s z) = 0 ∧ ∀ ks, newestE (crashBs (stopBs X [] 0 s z) (stopWs X [] 0 s z) ks) [] 0 = 0 ∧
      (newestC (crashBs (stopBs X [] 0 s z) (stopWs X [] 0 s z) ks) [] 0 = some (numO (newestC X [] 0) + 1, s) ∨ (stopD X [] 0 s z = false ∧ newestC (crashBs (stopBs X [] 0 s z) (stopWs X [] 0 s z) ks) [] 0 = newestC X [] 0)) := by
  have h := stop_zero (ws := []) h1 hs (by omega) (by simp)
  refine ⟨h, by rw [syncE, if_pos (stop_right h z).1], fun ks => ?_⟩
  obtain ⟨c1, _, _, c4⟩ := crash_get h z ks
  exact ⟨c1, c4⟩

set_option maxRecDepth 100000 in
set_option maxHeartbeats 8000000 in
theorem twinRow_walk (v0 : Value) (l : List (List UInt8)) (v1 : Value) (zs : List Int) (v2 : Value) (G : List (Value × List Bool)) (w0 : World) (hl : Txts w0 v0 l) (hzs : Ints w0 v1 zs) (hG : Grid w0 v2 G) (hGl : ∀ x ∈ G, x.2.length ≤ reachBytes) (hT : TabOk w0) :
    Calls Tryd.prog 5 #[v0, v1, v2] w0 fun e w' => e = .returned (.bool true) ∧ Below w0.heap.size w0 w' := by
  obtain ⟨al, cl, rfl⟩ := hl.strs.form
  obtain ⟨az, cz, rfl⟩ := hzs.form
  obtain ⟨ag, cg, rfl⟩ := hG.form
  obtain ⟨iK, hiK, hk0, hk1, hk2⟩ := info_parts infoK
  have HL := Lib.hid hl
  have HZ := Lib.hid hzs
  have HG := Lib.hid (And.intro hG hGl)
  have HT := Lib.hid hT
  clear hl hzs hG hGl hT
  by_cases h20 : 20 < l.length
  · have d20 : decide ((20 : Int) < (l.length : Int)) = true := by simp; omega
    go_enter Tryd.func5, Tryd.ntmps5
    go_wp2_with fail
    refine (new_calls 2 _).mono ?_
    rintro e w1 ⟨vb1, vw1, he, ho1, hB1⟩
    rw [show newE 2 = 0 from rfl] at he
    subst he
    obtain ⟨ab1, nb1, cb1, aw1, nw1, cw1, rfl, rfl, hnb1, hnw1⟩ := ho1.forms
    clear hnb1 hnw1
    have HO := Lib.hid ho1
    clear ho1
    go_wp2_with fail
    refine (twins_calls _ (HT.out.below (below2 hB1 (below_alloc _ _)))).mono ?_
    rintro e w9 ⟨rfl, hB9⟩
    go_wp2_with fail
    go_ret
    exact ⟨rfl, below2 (below2 hB1 (below_alloc _ _)) hB9⟩
  · have d20 : decide ((20 : Int) < (l.length : Int)) = false := by simp; omega
    by_cases h30 : 30 < G.length
    · have d30 : decide ((30 : Int) < (G.length : Int)) = true := by simp; omega
      go_enter Tryd.func5, Tryd.ntmps5
      go_wp2_with fail
      refine (new_calls 2 _).mono ?_
      rintro e w1 ⟨vb1, vw1, he, ho1, hB1⟩
      rw [show newE 2 = 0 from rfl] at he
      subst he
      obtain ⟨ab1, nb1, cb1, aw1, nw1, cw1, rfl, rfl, hnb1, hnw1⟩ := ho1.forms
      clear hnb1 hnw1
      have HO := Lib.hid ho1
      clear ho1
      go_wp2_with fail
      refine (twins_calls _ (HT.out.below (below2 hB1 (below_alloc _ _)))).mono ?_
      rintro e w9 ⟨rfl, hB9⟩
      go_wp2_with fail
      go_ret
      exact ⟨rfl, below2 (below2 hB1 (below_alloc _ _)) hB9⟩
    · have d30 : decide ((30 : Int) < (G.length : Int)) = false := by simp; omega
      go_enter Tryd.func5, Tryd.ntmps5
      go_wp2_with fail
      refine (new_calls 2 _).mono ?_
      rintro e w1 ⟨vb1, vw1, he, ho1, hB1⟩
      rw [show newE 2 = 0 from rfl] at he
      subst he
      obtain ⟨ab1, nb1, cb1, aw1, nw1, cw1, rfl, rfl, hnb1, hnw1⟩ := ho1.forms
      clear hnb1 hnw1
      have HO := Lib.hid ho1
      clear ho1
      go_wp2_with fail
      go_loopw [9, 10] (fun u9 u10 wr => ∃ (q : Nat) (now : List UInt8) (X : List (List UInt8)) (aX : Option Addr) (nX cX : Nat) (aV : Option Addr) (nV cV : Nat), q ≤ l.length ∧ u9 = .string ⟨now.toArray⟩ ∧ u10 = .int .i64 q ∧ Below w0.heap.size w0 wr ∧ w1.heap.size < wr.heap.size
          ∧ Bx wr w1.heap.size (.slice aX nX cX) (.slice aV nV cV) ∧ Txts wr (.slice aX nX cX) X ∧ Wrs wr (.slice aV nV cV) [] ∧ Hid (newestE X [] 0 = 0 ∧ txtO (newestC X [] 0) = now ∧ numO (newestC X [] 0) ≤ q)) (fun _ u10 _ => l.length - (intOf u10).toNat)
      case atStart =>
        have hb := below_alloc w1 (.cells #[.slice ab1 nb1 cb1, .slice aw1 nw1 cw1] 25)
        have ho := OwnD.below HO.out hb
        exact ⟨0, [], [[], []], _, _, _, _, _, _, by omega, rfl, rfl, below2 hB1 hb, by simp, Bx.new w1 _ _, ho.texts, ho.wrs, Lib.hid ⟨new_twin.1, by rw [new_twin.2]; rfl, by rw [new_twin.2]; exact Nat.le_refl _⟩⟩
      case round =>
        obtain ⟨q, now, X, aX, nX, cX, aV, nV, cV, hq, rfl, rfl, hBw, hsz, hd, hdt, hdw, hinv⟩ := hrel
        have HD := Lib.hid (And.intro hd (And.intro hdt hdw))
        obtain ⟨d0, d1, df0, df1, dl⟩ := hd.cells
        clear hd hdt hdw
        by_cases hlt : q < l.length
        · obtain ⟨bl, ol, rfl, hcl⟩ := HL.out.strs.at hlt
          obtain ⟨s, hs⟩ : ∃ s, l[q] = s := ⟨_, rfl⟩
          rw [hs] at hcl
          have hclw := look_below hBw hcl
          clear hs
          by_cases h200 : 200 < s.length
          · have d200 : decide ((200 : Int) < (s.length : Int)) = true := by simp; omega
            go_wp2_with fail
            refine (twins_calls _ (HT.out.below hBw)).mono ?_
            rintro e w9 ⟨rfl, hB9⟩
            go_wp2_with fail
            go_ret
            exact ⟨rfl, below2 hBw hB9⟩
          · have d200 : decide ((200 : Int) < (s.length : Int)) = false := by simp; omega
            by_cases hzq : zs.length ≤ q
            · have dz : decide ((zs.length : Int) ≤ (q : Int)) = true := by simp; exact hzq
              have dz2 : decide (zs.length ≤ q) = true := by simp; exact hzq
              go_wp2_with fail
              refine (twins_calls _ (HT.out.below hBw)).mono ?_
              rintro e w9 ⟨rfl, hB9⟩
              go_wp2_with fail
              go_ret
              exact ⟨rfl, below2 hBw hB9⟩
            · have dz : decide ((zs.length : Int) ≤ (q : Int)) = false := by simp; omega
              have dz2 : decide (zs.length ≤ q) = false := by simp; omega
              have hzl : q < zs.length := by omega
              clear hzq
              obtain ⟨bz, oz, rfl, hcz⟩ := HZ.out.at (k := q) hzl
              obtain ⟨z, hz⟩ : ∃ s, zs[q] = s := ⟨_, rfl⟩
              rw [hz] at hcz
              have hczw := look_below hBw hcz
              clear hz
              have RF := Lib.hid (row_facts (s := s) z hinv.out.1 hinv.out.2.2 (by omega) (by omega))
              obtain ⟨X1, hX1⟩ : ∃ x, x = stopBs X [] 0 s z := ⟨_, rfl⟩
              obtain ⟨V1, hV1⟩ : ∃ x, x = stopWs X [] 0 s z := ⟨_, rfl⟩
              obtain ⟨D, hD⟩ : ∃ x, x = stopD X [] 0 s z := ⟨_, rfl⟩
              have HX := Lib.hid (And.intro hX1 (And.intro hV1 hD))
              have RF2 := RF.out
              rw [← hX1, ← hV1, ← hD] at RF2
              have RG := Lib.hid RF2
              clear RF2 RF hX1 hV1 hD
              have CW := Lib.hid (fun (W : World) (hb : Below wr.heap.size wr W) => stop_calls _ _ X [] 0 (by omega) s z W (HD.out.2.1.below hb) (HD.out.2.2.below hb) ((HT.out.below hBw).below hb))
              have HS := Lib.hid (fun (W : World) (hb : Below wr.heap.size wr W) => And.intro (look_below hb d0) (And.intro (look_below hb d1) (And.intro (look_below hb hclw) (look_below hb hczw))))
              have hb1 : Below wr.heap.size wr wr.drew := drew_below _
              have hb2 : Below wr.heap.size wr (wr.alloc (.cells #[.slice none 0 0, .slice none 0 0] 25)).drew := below2 (below_alloc _ _) (drew_below _)
              have hn9 : Bx (wr.alloc (.cells #[.slice none 0 0, .slice none 0 0] 25)).drew wr.heap.size (.slice none 0 0) (.slice none 0 0) := (Bx.new wr _ _).below (drew_below _)
              go_upto_region 10 with fail
              go_cut [11, 12, 13] (fun p dn e wc => ∃ (B : Nat) (a7 : Option Addr) (n7 c7 : Nat) (a8 : Option Addr) (n8 c8 : Nat), p = .pointer (some ⟨B, 0, none⟩) ∧ dn = .bool D ∧ e = .int .i64 0 ∧ Bx wc B (.slice a7 n7 c7) (.slice a8 n8 c8) ∧ Txts wc (.slice a7 n7 c7) X1 ∧ Wrs wc (.slice a8 n8 c8) V1 ∧ Below wr.heap.size wr wc)
              case first =>
                go_region_held3 (fun w' => w'.cell? ⟨w1.heap.size, 0, none⟩ = some (.slice aX nX cX) ∧ w'.cell? ⟨w1.heap.size, 1, none⟩ = some (.slice aV nV cV) ∧ w'.cell? ⟨bl, ol + q, none⟩ = some (.string ⟨s.toArray⟩) ∧ w'.cell? ⟨bz, oz + q, none⟩ = some (.int .i64 z)) (first | exact HS.out _ hb1 | exact HS.out _ hb2 | exact HS.out _ hbx7 | exact HS.out _ (below2 hbx7 (below_alloc _ _)) | exact HS.out _ ((hbx7.setCell (Nat.le_refl _) _).setCell (Nat.le_refl _) _) | exact HS.out _ (below2 hb1 (below_alloc _ _))) (first | (go_at_call 11; (first | ((with_reducible refine (CW.out _ hb1).mono ?_); rintro e w7 ⟨vb7, vw7, he, ho7, hB7⟩; have hbx7 := below2 hb1 hB7) | ((with_reducible refine (CW.out _ hb2).mono ?_); rintro e w7 ⟨vb7, vw7, he, ho7, hB7⟩; have hbx7 := below2 hb2 hB7; have hx9 := hn9.below hB7; have g0 := hx9.cells.1; have g1 := hx9.cells.2.1; have g2 := hx9.cells.2.2.1; have g3 := hx9.cells.2.2.2.1)); rw [RG.out.1, ← HX.out.2.2] at he; subst he; rw [← HX.out.1, ← HX.out.2.1] at ho7; obtain ⟨ab7, nb7, cb7, aw7, nw7, cw7, rfl, rfl, hnb7, hnw7⟩ := ho7.forms; clear hnb7 hnw7))
                all_goals
                  go_wp2_with fail
                  go_meet
                  case rel =>
                    first
                      | exact ⟨w7.heap.size, _, _, _, _, _, _, rfl, rfl, rfl, Bx.new w7 _ _, (OwnD.below ho7 (below_alloc _ _)).texts, (OwnD.below ho7 (below_alloc _ _)).wrs, below2 hbx7 (below_alloc _ _)⟩
                      | exact ⟨wr.heap.size, _, _, _, _, _, _, rfl, rfl, rfl, bx_set hx9 _ _, (own_sets ho7 (by simp) _ _).texts, (own_sets ho7 (by simp) _ _).wrs, (hbx7.setCell (Nat.le_refl _) _).setCell (Nat.le_refl _) _⟩
              case rest =>
                obtain ⟨B, a7, n7, c7, a8, n8, c8, rfl, rfl, rfl, hx, hxt, hxw, hBc⟩ := hcut
                have hBwc := below2 hBw hBc
                have HXX := Lib.hid (And.intro hx (And.intro hxt hxw))
                have hHD := Lib.hid (HD.out.1.below hBc)
                obtain ⟨x0, x1, _, _, xl⟩ := hx.cells
                clear hx hxt hxw d0 d1 df0 df1 dl CW HS hb1 hb2 hn9 hclw hczw
                go_upto_if 73 with (fail)
                go_cut [14] (fun t wk => ∃ (ak : Option Addr) (ck : Nat) (ks : List Bool), t = .slice ak ks.length ck ∧ Bools wk (.slice ak ks.length ck) ks ∧ Below wc.heap.size wc wk)
                case first =>
                  by_cases hgq : q < G.length
                  · have dg : decide ((q : Int) < (G.length : Int)) = true := by simp; exact hgq
                    have dg2 : decide (q < G.length) = true := by simp; exact hgq
                    obtain ⟨bg, og, rfl, hcg, hbg⟩ := (HG.out.1.below hBwc).at hgq
                    have hlen := HG.out.2 _ (List.getElem_mem hgq)
                    obtain ⟨⟨gv, ks⟩, hgk⟩ : ∃ y, G[q] = y := ⟨_, rfl⟩
                    rw [hgk] at hcg hbg hlen
                    replace hbg : Bools wc gv ks := hbg
                    replace hlen : ks.length ≤ reachBytes := hlen
                    replace hcg : wc.cell? ⟨bg, og + q, none⟩ = some gv := hcg
                    obtain ⟨ar, cr, rfl⟩ := hbg.form
                    have HBG := Lib.hid (And.intro hbg hlen)
                    clear hgk hbg hlen
                    go_wp2_with (at_builtin; refine wpList_append_nil rfl (.tmp 74) (.tmp 78) 34 rfl wc.heap.size 4 iK (.bool false) 1 1 Tryd.underlying34 hiK hk0 hk1 hk2 rfl (by decide) rfl ar ks.length cr (ks.map Value.bool) rfl HBG.out.1 (by intro u hu; obtain ⟨b, _, rfl⟩ := List.mem_map.1 hu; rfl) (by have := HBG.out.2; unfold reachBytes at this; unfold maxLen; omega) (by have := HBG.out.2; unfold reachBytes at this; omega) (Nat.le_refl _) ?_; intro a3 c3 w3 ho3 hB3)
                    go_meet
                    case rel => exact ⟨_, _, ks, rfl, Rw.own ho3, hB3⟩
                  · have dg : decide ((q : Int) < (G.length : Int)) = false := by simp; omega
                    have dg2 : decide (q < G.length) = false := by simp; omega
                    go_wp2_with fail
                    go_meet
                    case rel => exact ⟨none, 0, [], rfl, Bools.nil _, Below.refl _ _⟩
                case rest =>
                  obtain ⟨ak, ck, ks, rfl, hks, hBk⟩ := hcut
                  have hBwk := below2 hBwc hBk
                  have hx2 := HXX.out.1.below hBk
                  have KC := Lib.hid (crash_calls _ _ _ X1 V1 ks _ (HXX.out.2.1.below hBk) (HXX.out.2.2.below hBk) hks)
                  obtain ⟨y0, y1, _, _, yl⟩ := hx2.cells
                  obtain ⟨c1, c4⟩ := RG.out.2.2 ks
                  obtain ⟨Y, hY⟩ : ∃ y, y = crashBs X1 V1 ks := ⟨_, rfl⟩
                  rw [← hY] at c1 c4
                  have HY := Lib.hid hY
                  have C1 := Lib.hid c1
                  have C4 := Lib.hid c4
                  clear hks hx2 hY c1 c4 x0 x1 xl
                  go_wp2_with fail
                  refine KC.out.mono ?_
                  rintro e w5 ⟨vb5, vw5, he, ho5, hB5⟩
                  rw [RG.out.2.1] at he
                  subst he
                  rw [← HY.out] at ho5
                  have hBw5 := below2 hBwk hB5
                  obtain ⟨ab5, nb5, cb5, aw5, nw5, cw5, rfl, rfl, hnb5, hnw5⟩ := ho5.forms
                  have HO5 := Lib.hid (OwnD.below ho5 (below_alloc w5 (.cells #[.slice ab5 nb5 cb5, .slice aw5 nw5 cw5] 25)))
                  have KG := Lib.hid (tget_calls _ _ Y [] 0 (by omega) _ HO5.out.texts HO5.out.wrs (HT.out.below (below2 hBw5 (below_alloc w5 (.cells #[.slice ab5 nb5 cb5, .slice aw5 nw5 cw5] 25)))))
                  have hd5 := Lib.hid (((hHD.out.below hBk).below hB5).below (below_alloc w5 (.cells #[.slice ab5 nb5 cb5, .slice aw5 nw5 cw5] 25)))
                  clear ho5 hnb5 hnw5 KC y0 y1 yl
                  obtain ⟨n0, hn0⟩ : ∃ n, n = numO (newestC X [] 0) := ⟨_, rfl⟩
                  have HN0 := Lib.hid hn0
                  clear hn0
                  rcases C4.out with hA | ⟨hD, hA⟩
                  · have HA := Lib.hid hA
                    clear hA
                    go_wp2_with fail
                    refine KG.out.mono ?_
                    rintro e w6 ⟨he, hB6⟩
                    rw [C1.out, HA.out, show txtO (some (numO (newestC X [] 0) + 1, s)) = s from rfl, show ((numO (some (numO (newestC X [] 0) + 1, s)) : Nat) : Int) = ((numO (newestC X [] 0) : Nat) : Int) + 1 from rfl, ← HN0.out] at he
                    subst he
                    have hBw6 := below3 hBw5 (below_alloc w5 (.cells #[.slice ab5 nb5 cb5, .slice aw5 nw5 cw5] 25)) hB6
                    have hcl6 := look_below hBw6 hcl
                    have hz6 := (Bx.new w5 (.slice ab5 nb5 cb5) (.slice aw5 nw5 cw5)).below hB6
                    have hd6 := hd5.out.below hB6
                    have ho6 := Lib.hid (OwnD.below HO5.out hB6)
                    obtain ⟨e0, e1, _, _, el⟩ := hz6.cells
                    obtain ⟨r0, r1, rf0, rf1, rl⟩ := hd6.cells
                    go_wp2_with fail
                    go_roundw
                    case rel =>
                      have p1 := own_sets2 ho6.out hd6 (.slice ab5 nb5 cb5) (.slice aw5 nw5 cw5)
                      exact ⟨q + 1, s, Y, _, _, _, _, _, _, by omega, rfl, by go_num, (hBw6.setCell (p := ⟨w1.heap.size, 0, none⟩) (by have := hB1.size; simp; omega) _).setCell (p := ⟨w1.heap.size, 1, none⟩) (by have := hB1.size; simp; omega) _, by simpa using rl, bx_set hd6 _ _, p1.texts, p1.wrs, Lib.hid ⟨C1.out, by rw [HA.out]; rfl, by rw [HA.out]; show numO (newestC X [] 0) + 1 ≤ q + 1; have := hinv.out.2.2; omega⟩⟩
                    case measure => simp [intOf]; omega
                  · have HA := Lib.hid hA
                    clear hA
                    subst hD
                    by_cases hns : now = s
                    · have hnsb : (now == s) = true := by simp [hns]
                      clear hns
                      go_wp2_with fail
                      refine KG.out.mono ?_
                      rintro e w6 ⟨he, hB6⟩
                      rw [C1.out, HA.out, hinv.out.2.1, ← HN0.out] at he
                      subst he
                      have hBw6 := below3 hBw5 (below_alloc w5 (.cells #[.slice ab5 nb5 cb5, .slice aw5 nw5 cw5] 25)) hB6
                      have hcl6 := look_below hBw6 hcl
                      have hz6 := (Bx.new w5 (.slice ab5 nb5 cb5) (.slice aw5 nw5 cw5)).below hB6
                      have hd6 := hd5.out.below hB6
                      have ho6 := Lib.hid (OwnD.below HO5.out hB6)
                      obtain ⟨e0, e1, _, _, el⟩ := hz6.cells
                      obtain ⟨r0, r1, rf0, rf1, rl⟩ := hd6.cells
                      go_wp2_with fail
                      go_roundw
                      case rel =>
                        have p1 := own_sets2 ho6.out hd6 (.slice ab5 nb5 cb5) (.slice aw5 nw5 cw5)
                        exact ⟨q + 1, now, Y, _, _, _, _, _, _, by omega, rfl, by go_num, (hBw6.setCell (p := ⟨w1.heap.size, 0, none⟩) (by have := hB1.size; simp; omega) _).setCell (p := ⟨w1.heap.size, 1, none⟩) (by have := hB1.size; simp; omega) _, by simpa using rl, bx_set hd6 _ _, p1.texts, p1.wrs, Lib.hid ⟨C1.out, by rw [HA.out]; exact hinv.out.2.1, by rw [HA.out]; have := hinv.out.2.2; omega⟩⟩
                      case measure => simp [intOf]; omega
                    · have hnsb : (now == s) = false := by simp [hns]
                      clear hns
                      go_wp2_with fail
                      refine KG.out.mono ?_
                      rintro e w6 ⟨he, hB6⟩
                      rw [C1.out, HA.out, hinv.out.2.1, ← HN0.out] at he
                      subst he
                      have hBw6 := below3 hBw5 (below_alloc w5 (.cells #[.slice ab5 nb5 cb5, .slice aw5 nw5 cw5] 25)) hB6
                      have hcl6 := look_below hBw6 hcl
                      have hz6 := (Bx.new w5 (.slice ab5 nb5 cb5) (.slice aw5 nw5 cw5)).below hB6
                      have hd6 := hd5.out.below hB6
                      have ho6 := Lib.hid (OwnD.below HO5.out hB6)
                      obtain ⟨e0, e1, _, _, el⟩ := hz6.cells
                      obtain ⟨r0, r1, rf0, rf1, rl⟩ := hd6.cells
                      go_wp2_with fail
                      go_roundw
                      case rel =>
                        have p1 := own_sets2 ho6.out hd6 (.slice ab5 nb5 cb5) (.slice aw5 nw5 cw5)
                        exact ⟨q + 1, now, Y, _, _, _, _, _, _, by omega, rfl, by go_num, (hBw6.setCell (p := ⟨w1.heap.size, 0, none⟩) (by have := hB1.size; simp; omega) _).setCell (p := ⟨w1.heap.size, 1, none⟩) (by have := hB1.size; simp; omega) _, by simpa using rl, bx_set hd6 _ _, p1.texts, p1.wrs, Lib.hid ⟨C1.out, by rw [HA.out]; exact hinv.out.2.1, by rw [HA.out]; have := hinv.out.2.2; omega⟩⟩
                      case measure => simp [intOf]; omega
        · obtain rfl : q = l.length := by omega
          clear d0 d1 df0 df1 dl
          go_wp2_with fail
          refine (twins_calls _ (HT.out.below hBw)).mono ?_
          rintro e w9 ⟨rfl, hB9⟩
          go_wp2_with fail
          go_ret
          exact ⟨rfl, below2 hBw hB9⟩

end Go.Proofs.YtabciahegdaeoaaDoor
