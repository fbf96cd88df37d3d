/-
  The walk of SlotRow.
-/
import Derived.Test.YtdbidfbjfongbaaDoorZSlotCrashW
import Derived.Test.YtdbidfbjfongbaaDoorPks06
import Derived.Test.YtdbidfbjfongbaaDoorPkbase
namespace Go.Proofs.YtdbidfbjfongbaaDoor
open Go.RowKit

theorem own_set_t {w : World} {base B : Nat} {v p q : Value} {l : List (List UInt8)} (h : OwnT6 w base v l) (hx : Bx w B p q) (a b : Value) : OwnT6 ((w.setCell ⟨B, 0, none⟩ a).setCell ⟨B, 1, none⟩ b) base v l := by
  have k1 : OwnT6 (w.setCell ⟨B, 0, none⟩ a) base v l := ownsRow_setCell_other h (by simpa using hx.not_row h (by decide)) _
  have hx1 : Bx (w.setCell ⟨B, 0, none⟩ a) B a q := by
    unfold Bx at hx ⊢
    exact heap_setCell_same w B 0 _ _ a hx
  exact ownsRow_setCell_other k1 (by simpa using hx1.not_row k1 (by decide)) _
theorem openP_len {X : List (List UInt8)} {ws : List Wr} (h : openE X ws = 0) : (openP X ws).length ≤ 200 := by
  have := (open_table h).2.2.2
  have h2 := (open_ok h).2.2.1
  unfold openP
  rw [pagesL_len]
  omega

set_option maxRecDepth 100000 in
set_option maxHeartbeats 16000000 in
theorem slotRow_walk (n : Int) (vs : Value) (S : List Sp) (w0 : World) (hS : Steps w0 vs S) (hSl : ∀ x ∈ S, x.1.2.length ≤ maxLen ∧ x.2.2.2.length ≤ maxLen) (hT : TabOk w0) :
    Calls Tryd.prog 5 #[.int .i64 n, vs] w0 fun e w' => e = .returned (.bool true) ∧ Below w0.heap.size w0 w' := by
  obtain ⟨aS, cS, rfl⟩ := hS.form
  have HS := Lib.hid (And.intro hS hSl)
  have HT := Lib.hid hT
  clear hS hSl hT
  by_cases hE : fmtE n = 0
  · obtain ⟨hn3, hn200, hfb⟩ := fmt_ok hE
    have HE := Lib.hid (And.intro hE hfb)
    clear hE hfb
    by_cases h12 : 12 < n
    · have d12 : decide ((12 : Int) < n) = true := by simp; omega
      go_enter Tryd.func5, Tryd.ntmps5
      go_wp2_with fail
      refine (format_calls n _).mono ?_
      rintro e w1 ⟨vb1, vw1, he, ho1, hB1⟩
      rw [HE.out.1] at he
      subst he
      obtain ⟨ab1, nb1, cb1, aw1, nw1, cw1, rfl, rfl, hnb1, hnw1⟩ := ho1.forms
      clear hnb1 hnw1
      have HO := Lib.hid ho1
      clear ho1
      go_wp2_with fail
      refine (shelved_calls _ (HT.out.below (below2 hB1 (below_alloc _ _)))).mono ?_
      rintro e w9 ⟨rfl, hB9⟩
      go_wp2_with fail
      go_ret
      exact ⟨rfl, below2 (below2 hB1 (below_alloc _ _)) hB9⟩
    · have d12 : decide ((12 : Int) < n) = false := by simp; omega
      by_cases h13 : 12 < S.length
      · have d13 : decide ((12 : Int) < (S.length : Int)) = true := by simp; omega
        go_enter Tryd.func5, Tryd.ntmps5
        go_wp2_with fail
        refine (format_calls n _).mono ?_
        rintro e w1 ⟨vb1, vw1, he, ho1, hB1⟩
        rw [HE.out.1] at he
        subst he
        obtain ⟨ab1, nb1, cb1, aw1, nw1, cw1, rfl, rfl, hnb1, hnw1⟩ := ho1.forms
        clear hnb1 hnw1
        have HO := Lib.hid ho1
        clear ho1
        go_wp2_with fail
        refine (shelved_calls _ (HT.out.below (below2 hB1 (below_alloc _ _)))).mono ?_
        rintro e w9 ⟨rfl, hB9⟩
        go_wp2_with fail
        go_ret
        exact ⟨rfl, below2 (below2 hB1 (below_alloc _ _)) hB9⟩
      · have d13 : decide ((12 : Int) < (S.length : Int)) = false := by simp; omega
        obtain ⟨z1, _, z3, _⟩ := new_shelf (n := n.toNat) (by omega) (by omega)
        have HZ := Lib.hid (And.intro z1 z3)
        clear z1 z3
        go_enter Tryd.func5, Tryd.ntmps5
        go_wp2_with fail
        refine (format_calls n _).mono ?_
        rintro e w1 ⟨vb1, vw1, he, ho1, hB1⟩
        rw [HE.out.1] at he
        subst he
        obtain ⟨ab1, nb1, cb1, aw1, nw1, cw1, rfl, rfl, hnb1, hnw1⟩ := ho1.forms
        clear hnb1 hnw1
        have HO := Lib.hid ho1
        clear ho1
        go_wp2_with fail
        go_loopw [7, 8] (fun u7 u8 wr => ∃ (q : Nat) (P X : List (List UInt8)) (aP : Option Addr) (cP : Nat) (aX : Option Addr) (nX cX : Nat) (aV : Option Addr) (nV cV : Nat), q ≤ S.length ∧ u7 = .slice aP P.length cP ∧ u8 = .int .i64 q ∧ Below w0.heap.size w0 wr ∧ w1.heap.size < wr.heap.size
            ∧ Bx wr w1.heap.size (.slice aX nX cX) (.slice aV nV cV) ∧ Txts wr (.slice aX nX cX) X ∧ Wrs wr (.slice aV nV cV) [] ∧ Txts wr (.slice aP P.length cP) P ∧ P.length ≤ 200 ∧ Hid (openE X [] = 0 ∧ openP X [] = P)) (fun _ u8 _ => S.length - (intOf u8).toNat)
        case atStart =>
          have hb := below_alloc w1 (.cells #[.slice ab1 nb1 cb1, .slice aw1 nw1 cw1] 25)
          have ho := OwnD.below HO.out hb
          rw [HE.out.2] at ho
          exact ⟨0, [], List.replicate n.toNat [], _, _, _, _, _, _, _, _, by omega, rfl, rfl, below2 hB1 hb, by simp, Bx.new w1 _ _, ho.texts, ho.wrs, Txts.nil _, by simp, Lib.hid HZ.out⟩
        case round =>
          obtain ⟨q, P, X, aP, cP, aX, nX, cX, aV, nV, cV, hq, rfl, rfl, hBw, hsz, hd, hdt, hdw, hP, hPl, hinv⟩ := hrel
          obtain ⟨d0, d1, df0, df1, dl⟩ := hd.cells
          have hB1s := hB1.size
          by_cases hlt : q < S.length
          · obtain ⟨bl, ol, rfl, s0, s1, s2, hTx, hKx⟩ := (HS.out.1.below hBw).at hlt
            have hbl := World.block_lt_of_cell? wr _ s0
            have hSl := HS.out.2 _ (List.getElem_mem hlt)
            obtain ⟨⟨⟨vT, T⟩, z, ⟨vK, K⟩⟩, hs⟩ : ∃ s, S[q] = s := ⟨_, rfl⟩
            rw [hs] at s0 s1 s2 hTx hKx hSl
            simp only at s0 s1 s2 hTx hKx hSl
            clear hs
            obtain ⟨aT, cT, rfl⟩ := hTx.strs.form
            obtain ⟨aK, cK, rfl⟩ := hKx.form
            obtain ⟨hTl, hKl⟩ := hSl
            unfold maxLen at hTl hKl
            have hBa := below_alloc wr (.cells #[.slice aT T.length cT, .int .i64 z, .slice aK K.length cK] 44)
            have hst := Cx.new wr 44 [.slice aT T.length cT, .int .i64 z, .slice aK K.length cK]
            have hxX := hd.below hBa
            have htX := hdt.below hBa
            have hvX := hdw.below hBa
            have hPa := hP.below hBa
            have hTa := hTx.below hBa
            have hKa := hKx.below hBa
            have hBB := below2 hBw hBa
            obtain ⟨Wa, hWa⟩ : ∃ W, wr.alloc (.cells #[.slice aT T.length cT, .int .i64 z, .slice aK K.length cK] 44) = W := ⟨_, rfl⟩
            obtain ⟨Bs, hBs⟩ : ∃ B, wr.heap.size = B := ⟨_, rfl⟩
            have hst' : Cx Wa Bs 44 [.slice aT T.length cT, .int .i64 z, .slice aK K.length cK] := by rw [← hWa, ← hBs]; exact hst
            rw [hWa] at hxX htX hvX hPa hTa hKa hBB hBa
            have hszB : w1.heap.size < Bs := by omega
            clear hst hTx hKx hd hdt hdw hP
            have HWa := Lib.hid hWa
            have HBs := Lib.hid hBs
            clear hWa hBs
            obtain ⟨t0, t1, t2, tf0, tf1, tf2, tl⟩ := hst'.three
            obtain ⟨x0, x1, xf0, xf1, xl⟩ := hxX.cells
            by_cases h1 : 12 < T.length
            · have d1' : decide ((12 : Int) < (T.length : Int)) = true := by simp; omega
              go_wp2_with fail
              rw [HWa.out, HBs.out]
              refine (shelved_calls _ (HT.out.below hBB)).mono ?_
              rintro e w9 ⟨rfl, hB9⟩
              go_wp2_with fail
              go_ret
              exact ⟨rfl, below2 hBB hB9⟩
            · have d1' : decide ((12 : Int) < (T.length : Int)) = false := by simp; omega
              by_cases h2 : 100 < K.length
              · have d2' : decide ((100 : Int) < (K.length : Int)) = true := by simp; omega
                go_wp2_with fail
                rw [HWa.out, HBs.out]
                refine (shelved_calls _ (HT.out.below hBB)).mono ?_
                rintro e w9 ⟨rfl, hB9⟩
                go_wp2_with fail
                go_ret
                exact ⟨rfl, below2 hBB hB9⟩
              · have d2' : decide ((100 : Int) < (K.length : Int)) = false := by simp; omega
                cases hsh : shortB T with
                | false =>
                  have HSH := Lib.hid hsh
                  clear hsh
                  go_wp2_with fail
                  rw [HWa.out, HBs.out]
                  refine (short_calls _ T _ hTa.strs (by omega)).mono ?_
                  rintro e w2 ⟨rfl, rfl⟩
                  rw [HSH.out]
                  go_wp2_with fail
                  refine (shelved_calls _ (HT.out.below hBB)).mono ?_
                  rintro e w9 ⟨rfl, hB9⟩
                  go_wp2_with fail
                  go_ret
                  exact ⟨rfl, below2 hBB hB9⟩
                | true =>
                  have HSH := Lib.hid hsh
                  have hT := HT.out.below hBB
                  clear hsh
                  by_cases hz : (saveR X [] T z).1 = 0
                  · obtain ⟨D, Xs, V, c, q1, _, q3, q4, _, q5, q6⟩ := save_crash2 hz K
                    have hcl := openP_len q5
                    rw [hinv.out.2] at q6
                    obtain ⟨N', hN'⟩ : ∃ n, openN c [] = n := ⟨_, rfl⟩
                    have hN := Lib.hid hN'
                    clear hz
                    rcases q6 with ⟨q6, _⟩ | ⟨rfl, q6, _⟩
                    · rw [q6] at hcl
                      have H := Lib.hid (And.intro q1 (And.intro q3 (And.intro q4 (And.intro q5 q6))))
                      clear q1 q3 q4 q5 q6 hN'
                      go_wp2_with fail
                      rw [HWa.out, HBs.out]
                      refine (short_calls _ T _ hTa.strs (by omega)).mono ?_
                      rintro e w2 ⟨rfl, rfl⟩
                      rw [HSH.out]
                      clear x0 x1 xf0 xf1 xl
                      have cX0 := hxX.cells.1
                      have cX1 := hxX.cells.2.1
                      have lX := hxX.cells.2.2.2.2
                      go_wp2_with fail
                      refine (save_calls _ _ _ _ _ T z _ htX hvX hTa hT (by omega)).mono ?_
                      rintro e w11 ⟨vb11, vw11, he, ho11, hB11⟩
                      rw [H.out.1] at he
                      subst he
                      have hC11 := hB11
                      replace hxX := hxX.below hC11
                      replace htX := htX.below hC11
                      replace hvX := hvX.below hC11
                      replace hT := hT.below hC11
                      replace hPa := hPa.below hC11
                      replace hTa := hTa.below hC11
                      replace hKa := hKa.below hC11
                      replace hst' := hst'.below hC11
                      replace cX0 := hxX.cells.1
                      replace cX1 := hxX.cells.2.1
                      replace lX := hxX.cells.2.2.2.2
                      replace hBB := below2 hBB hC11
                      obtain ⟨ab11, nb11, cb11, aw11, nw11, cw11, rfl, rfl, hnb11, hnw11⟩ := ho11.forms
                      have ht11 := ho11.texts
                      have hv11 := ho11.wrs
                      have N11 := Lib.hid (And.intro hnb11 hnw11)
                      clear hnb11 hnw11
                      clear t0 t1 t2 tf0 tf1 tf2 tl
                      obtain ⟨t0, t1, t2, tf0, tf1, tf2, tl⟩ := hst'.three
                      rw [H.out.1] at ht11 hv11
                      go_wp2_with fail
                      refine (crash_calls _ _ _ _ _ K _ (ht11.below (below_alloc _ _)) (hv11.below (below_alloc _ _)) (hKa.below (below_alloc _ _))).mono ?_
                      rintro e w12 ⟨vb12, vw12, he, ho12, hB12⟩
                      rw [H.out.2.1] at he
                      subst he
                      have hC12 := below2 (below_alloc _ _) hB12
                      replace hxX := hxX.below hC12
                      replace htX := htX.below hC12
                      replace hvX := hvX.below hC12
                      have hx11 := (Bx.new w11 _ _).below hB12
                      replace ht11 := ht11.below hC12
                      replace hv11 := hv11.below hC12
                      replace hT := hT.below hC12
                      replace hPa := hPa.below hC12
                      replace hTa := hTa.below hC12
                      replace hKa := hKa.below hC12
                      replace hst' := hst'.below hC12
                      replace cX0 := hxX.cells.1
                      replace cX1 := hxX.cells.2.1
                      replace lX := hxX.cells.2.2.2.2
                      have c110 := hx11.cells.1
                      have c111 := hx11.cells.2.1
                      have l11 := hx11.cells.2.2.2.2
                      replace hBB := below2 hBB hC12
                      obtain ⟨ab12, nb12, cb12, aw12, nw12, cw12, rfl, rfl, hnb12, hnw12⟩ := ho12.forms
                      have ht12 := ho12.texts
                      have hv12 := ho12.wrs
                      have N12 := Lib.hid (And.intro hnb12 hnw12)
                      clear hnb12 hnw12
                      clear t0 t1 t2 tf0 tf1 tf2 tl
                      obtain ⟨t0, t1, t2, tf0, tf1, tf2, tl⟩ := hst'.three
                      rw [H.out.2.2.1] at ht12 ho12
                      go_wp2_with fail
                      refine (load_calls _ _ _ _ _ (ht12.below (below_alloc _ _)) (hv12.below (below_alloc _ _)) (hT.below (below_alloc _ _))).mono ?_
                      rintro e w13 ⟨vp13, he, ho13, hB13⟩
                      rw [H.out.2.2.2.1] at he
                      rw [hN.out] at he
                      rw [H.out.2.2.2.2] at ho13
                      subst he
                      have hC13 := below2 (below_alloc _ _) hB13
                      replace hxX := hxX.below hC13
                      replace htX := htX.below hC13
                      replace hvX := hvX.below hC13
                      replace hx11 := hx11.below hC13
                      replace ht11 := ht11.below hC13
                      replace hv11 := hv11.below hC13
                      have hx12 := (Bx.new w12 _ _).below hB13
                      replace ht12 := ht12.below hC13
                      replace hv12 := hv12.below hC13
                      replace hT := hT.below hC13
                      replace hPa := hPa.below hC13
                      replace hTa := hTa.below hC13
                      replace hKa := hKa.below hC13
                      replace hst' := hst'.below hC13
                      replace ho12 := ho12.below hC13
                      replace cX0 := hxX.cells.1
                      replace cX1 := hxX.cells.2.1
                      replace lX := hxX.cells.2.2.2.2
                      replace c110 := hx11.cells.1
                      replace c111 := hx11.cells.2.1
                      replace l11 := hx11.cells.2.2.2.2
                      have c120 := hx12.cells.1
                      have c121 := hx12.cells.2.1
                      have l12 := hx12.cells.2.2.2.2
                      replace hBB := below2 hBB hC13
                      obtain ⟨ap13, cp13, rfl⟩ := ho13.txts.strs.form
                      clear t0 t1 t2 tf0 tf1 tf2 tl
                      obtain ⟨t0, t1, t2, tf0, tf1, tf2, tl⟩ := hst'.three
                      go_wp2_with fail
                      refine (texts_calls _ _ _ _ _ ho13.txts.strs hTa.strs (by omega)).mono ?_
                      rintro e w14 ⟨he, hB14⟩
                      rw [show decide (T = T) = true by simp] at he
                      subst he
                      have hC14 := hB14
                      replace hxX := hxX.below hC14
                      replace htX := htX.below hC14
                      replace hvX := hvX.below hC14
                      replace hx11 := hx11.below hC14
                      replace ht11 := ht11.below hC14
                      replace hv11 := hv11.below hC14
                      replace hx12 := hx12.below hC14
                      replace ht12 := ht12.below hC14
                      replace hv12 := hv12.below hC14
                      replace hT := hT.below hC14
                      replace hPa := hPa.below hC14
                      replace hTa := hTa.below hC14
                      replace hKa := hKa.below hC14
                      replace hst' := hst'.below hC14
                      replace ho12 := ho12.below hC14
                      replace ho13 := ho13.below hC14
                      replace cX0 := hxX.cells.1
                      replace cX1 := hxX.cells.2.1
                      replace lX := hxX.cells.2.2.2.2
                      replace c110 := hx11.cells.1
                      replace c111 := hx11.cells.2.1
                      replace l11 := hx11.cells.2.2.2.2
                      replace c120 := hx12.cells.1
                      replace c121 := hx12.cells.2.1
                      replace l12 := hx12.cells.2.2.2.2
                      replace hBB := below2 hBB hC14
                      clear t0 t1 t2 tf0 tf1 tf2 tl
                      obtain ⟨t0, t1, t2, tf0, tf1, tf2, tl⟩ := hst'.three
                      obtain ⟨k0, k1, kf0, kf1, kl⟩ := hxX.cells
                      clear cX0 cX1
                      go_wp2_with fail
                      go_roundw
                      case rel =>
                        have p1 := own_sets2 ho12 hxX (.slice ab12 nb12 cb12) (.slice aw12 nw12 cw12)
                        exact ⟨q + 1, T, c, _, _, _, _, _, _, _, _, by omega, rfl, by go_num, (hBB.setCell (p := ⟨w1.heap.size, 0, none⟩) (by have := hB1.size; simp; omega) _).setCell (p := ⟨w1.heap.size, 1, none⟩) (by have := hB1.size; simp; omega) _, by simpa using kl, bx_set hxX _ _, p1.texts, p1.wrs, (own_set_t ho13 hxX _ _).txts, by omega, Lib.hid ⟨H.out.2.2.2.1, H.out.2.2.2.2⟩⟩
                      case measure => simp [intOf]; omega
                    · rw [q6] at hcl
                      have H := Lib.hid (And.intro q1 (And.intro q3 (And.intro q4 (And.intro q5 q6))))
                      clear q1 q3 q4 q5 q6 hN'
                      by_cases hPT : P = T
                      · have HPT := Lib.hid (show decide (P = T) = true by simp [hPT])
                        clear hPT
                        go_wp2_with fail
                        rw [HWa.out, HBs.out]
                        refine (short_calls _ T _ hTa.strs (by omega)).mono ?_
                        rintro e w2 ⟨rfl, rfl⟩
                        rw [HSH.out]
                        clear x0 x1 xf0 xf1 xl
                        have cX0 := hxX.cells.1
                        have cX1 := hxX.cells.2.1
                        have lX := hxX.cells.2.2.2.2
                        go_wp2_with fail
                        refine (save_calls _ _ _ _ _ T z _ htX hvX hTa hT (by omega)).mono ?_
                        rintro e w11 ⟨vb11, vw11, he, ho11, hB11⟩
                        rw [H.out.1] at he
                        subst he
                        have hC11 := hB11
                        replace hxX := hxX.below hC11
                        replace htX := htX.below hC11
                        replace hvX := hvX.below hC11
                        replace hT := hT.below hC11
                        replace hPa := hPa.below hC11
                        replace hTa := hTa.below hC11
                        replace hKa := hKa.below hC11
                        replace hst' := hst'.below hC11
                        replace cX0 := hxX.cells.1
                        replace cX1 := hxX.cells.2.1
                        replace lX := hxX.cells.2.2.2.2
                        replace hBB := below2 hBB hC11
                        obtain ⟨ab11, nb11, cb11, aw11, nw11, cw11, rfl, rfl, hnb11, hnw11⟩ := ho11.forms
                        have ht11 := ho11.texts
                        have hv11 := ho11.wrs
                        have N11 := Lib.hid (And.intro hnb11 hnw11)
                        clear hnb11 hnw11
                        clear t0 t1 t2 tf0 tf1 tf2 tl
                        obtain ⟨t0, t1, t2, tf0, tf1, tf2, tl⟩ := hst'.three
                        rw [H.out.1] at ht11 hv11
                        go_wp2_with fail
                        refine (crash_calls _ _ _ _ _ K _ (ht11.below (below_alloc _ _)) (hv11.below (below_alloc _ _)) (hKa.below (below_alloc _ _))).mono ?_
                        rintro e w12 ⟨vb12, vw12, he, ho12, hB12⟩
                        rw [H.out.2.1] at he
                        subst he
                        have hC12 := below2 (below_alloc _ _) hB12
                        replace hxX := hxX.below hC12
                        replace htX := htX.below hC12
                        replace hvX := hvX.below hC12
                        have hx11 := (Bx.new w11 _ _).below hB12
                        replace ht11 := ht11.below hC12
                        replace hv11 := hv11.below hC12
                        replace hT := hT.below hC12
                        replace hPa := hPa.below hC12
                        replace hTa := hTa.below hC12
                        replace hKa := hKa.below hC12
                        replace hst' := hst'.below hC12
                        replace cX0 := hxX.cells.1
                        replace cX1 := hxX.cells.2.1
                        replace lX := hxX.cells.2.2.2.2
                        have c110 := hx11.cells.1
                        have c111 := hx11.cells.2.1
                        have l11 := hx11.cells.2.2.2.2
                        replace hBB := below2 hBB hC12
                        obtain ⟨ab12, nb12, cb12, aw12, nw12, cw12, rfl, rfl, hnb12, hnw12⟩ := ho12.forms
                        have ht12 := ho12.texts
                        have hv12 := ho12.wrs
                        have N12 := Lib.hid (And.intro hnb12 hnw12)
                        clear hnb12 hnw12
                        clear t0 t1 t2 tf0 tf1 tf2 tl
                        obtain ⟨t0, t1, t2, tf0, tf1, tf2, tl⟩ := hst'.three
                        rw [H.out.2.2.1] at ht12 ho12
                        go_wp2_with fail
                        refine (load_calls _ _ _ _ _ (ht12.below (below_alloc _ _)) (hv12.below (below_alloc _ _)) (hT.below (below_alloc _ _))).mono ?_
                        rintro e w13 ⟨vp13, he, ho13, hB13⟩
                        rw [H.out.2.2.2.1] at he
                        rw [hN.out] at he
                        rw [H.out.2.2.2.2] at ho13
                        subst he
                        have hC13 := below2 (below_alloc _ _) hB13
                        replace hxX := hxX.below hC13
                        replace htX := htX.below hC13
                        replace hvX := hvX.below hC13
                        replace hx11 := hx11.below hC13
                        replace ht11 := ht11.below hC13
                        replace hv11 := hv11.below hC13
                        have hx12 := (Bx.new w12 _ _).below hB13
                        replace ht12 := ht12.below hC13
                        replace hv12 := hv12.below hC13
                        replace hT := hT.below hC13
                        replace hPa := hPa.below hC13
                        replace hTa := hTa.below hC13
                        replace hKa := hKa.below hC13
                        replace hst' := hst'.below hC13
                        replace ho12 := ho12.below hC13
                        replace cX0 := hxX.cells.1
                        replace cX1 := hxX.cells.2.1
                        replace lX := hxX.cells.2.2.2.2
                        replace c110 := hx11.cells.1
                        replace c111 := hx11.cells.2.1
                        replace l11 := hx11.cells.2.2.2.2
                        have c120 := hx12.cells.1
                        have c121 := hx12.cells.2.1
                        have l12 := hx12.cells.2.2.2.2
                        replace hBB := below2 hBB hC13
                        obtain ⟨ap13, cp13, rfl⟩ := ho13.txts.strs.form
                        clear t0 t1 t2 tf0 tf1 tf2 tl
                        obtain ⟨t0, t1, t2, tf0, tf1, tf2, tl⟩ := hst'.three
                        go_wp2_with fail
                        refine (texts_calls _ _ _ _ _ ho13.txts.strs hTa.strs (by omega)).mono ?_
                        rintro e w14 ⟨he, hB14⟩
                        rw [HPT.out] at he
                        subst he
                        have hC14 := hB14
                        replace hxX := hxX.below hC14
                        replace htX := htX.below hC14
                        replace hvX := hvX.below hC14
                        replace hx11 := hx11.below hC14
                        replace ht11 := ht11.below hC14
                        replace hv11 := hv11.below hC14
                        replace hx12 := hx12.below hC14
                        replace ht12 := ht12.below hC14
                        replace hv12 := hv12.below hC14
                        replace hT := hT.below hC14
                        replace hPa := hPa.below hC14
                        replace hTa := hTa.below hC14
                        replace hKa := hKa.below hC14
                        replace hst' := hst'.below hC14
                        replace ho12 := ho12.below hC14
                        replace ho13 := ho13.below hC14
                        replace cX0 := hxX.cells.1
                        replace cX1 := hxX.cells.2.1
                        replace lX := hxX.cells.2.2.2.2
                        replace c110 := hx11.cells.1
                        replace c111 := hx11.cells.2.1
                        replace l11 := hx11.cells.2.2.2.2
                        replace c120 := hx12.cells.1
                        replace c121 := hx12.cells.2.1
                        replace l12 := hx12.cells.2.2.2.2
                        replace hBB := below2 hBB hC14
                        clear t0 t1 t2 tf0 tf1 tf2 tl
                        obtain ⟨t0, t1, t2, tf0, tf1, tf2, tl⟩ := hst'.three
                        obtain ⟨k0, k1, kf0, kf1, kl⟩ := hxX.cells
                        clear cX0 cX1
                        go_wp2_with fail
                        go_roundw
                        case rel =>
                          have p1 := own_sets2 ho12 hxX (.slice ab12 nb12 cb12) (.slice aw12 nw12 cw12)
                          exact ⟨q + 1, P, c, _, _, _, _, _, _, _, _, by omega, rfl, by go_num, (hBB.setCell (p := ⟨w1.heap.size, 0, none⟩) (by have := hB1.size; simp; omega) _).setCell (p := ⟨w1.heap.size, 1, none⟩) (by have := hB1.size; simp; omega) _, by simpa using kl, bx_set hxX _ _, p1.texts, p1.wrs, (own_set_t ho13 hxX _ _).txts, by omega, Lib.hid ⟨H.out.2.2.2.1, H.out.2.2.2.2⟩⟩
                        case measure => simp [intOf]; omega
                      · have HPT := Lib.hid (show decide (P = T) = false by simp [hPT])
                        clear hPT
                        go_wp2_with fail
                        rw [HWa.out, HBs.out]
                        refine (short_calls _ T _ hTa.strs (by omega)).mono ?_
                        rintro e w2 ⟨rfl, rfl⟩
                        rw [HSH.out]
                        clear x0 x1 xf0 xf1 xl
                        have cX0 := hxX.cells.1
                        have cX1 := hxX.cells.2.1
                        have lX := hxX.cells.2.2.2.2
                        go_wp2_with fail
                        refine (save_calls _ _ _ _ _ T z _ htX hvX hTa hT (by omega)).mono ?_
                        rintro e w11 ⟨vb11, vw11, he, ho11, hB11⟩
                        rw [H.out.1] at he
                        subst he
                        have hC11 := hB11
                        replace hxX := hxX.below hC11
                        replace htX := htX.below hC11
                        replace hvX := hvX.below hC11
                        replace hT := hT.below hC11
                        replace hPa := hPa.below hC11
                        replace hTa := hTa.below hC11
                        replace hKa := hKa.below hC11
                        replace hst' := hst'.below hC11
                        replace cX0 := hxX.cells.1
                        replace cX1 := hxX.cells.2.1
                        replace lX := hxX.cells.2.2.2.2
                        replace hBB := below2 hBB hC11
                        obtain ⟨ab11, nb11, cb11, aw11, nw11, cw11, rfl, rfl, hnb11, hnw11⟩ := ho11.forms
                        have ht11 := ho11.texts
                        have hv11 := ho11.wrs
                        have N11 := Lib.hid (And.intro hnb11 hnw11)
                        clear hnb11 hnw11
                        clear t0 t1 t2 tf0 tf1 tf2 tl
                        obtain ⟨t0, t1, t2, tf0, tf1, tf2, tl⟩ := hst'.three
                        rw [H.out.1] at ht11 hv11
                        go_wp2_with fail
                        refine (crash_calls _ _ _ _ _ K _ (ht11.below (below_alloc _ _)) (hv11.below (below_alloc _ _)) (hKa.below (below_alloc _ _))).mono ?_
                        rintro e w12 ⟨vb12, vw12, he, ho12, hB12⟩
                        rw [H.out.2.1] at he
                        subst he
                        have hC12 := below2 (below_alloc _ _) hB12
                        replace hxX := hxX.below hC12
                        replace htX := htX.below hC12
                        replace hvX := hvX.below hC12
                        have hx11 := (Bx.new w11 _ _).below hB12
                        replace ht11 := ht11.below hC12
                        replace hv11 := hv11.below hC12
                        replace hT := hT.below hC12
                        replace hPa := hPa.below hC12
                        replace hTa := hTa.below hC12
                        replace hKa := hKa.below hC12
                        replace hst' := hst'.below hC12
                        replace cX0 := hxX.cells.1
                        replace cX1 := hxX.cells.2.1
                        replace lX := hxX.cells.2.2.2.2
                        have c110 := hx11.cells.1
                        have c111 := hx11.cells.2.1
                        have l11 := hx11.cells.2.2.2.2
                        replace hBB := below2 hBB hC12
                        obtain ⟨ab12, nb12, cb12, aw12, nw12, cw12, rfl, rfl, hnb12, hnw12⟩ := ho12.forms
                        have ht12 := ho12.texts
                        have hv12 := ho12.wrs
                        have N12 := Lib.hid (And.intro hnb12 hnw12)
                        clear hnb12 hnw12
                        clear t0 t1 t2 tf0 tf1 tf2 tl
                        obtain ⟨t0, t1, t2, tf0, tf1, tf2, tl⟩ := hst'.three
                        rw [H.out.2.2.1] at ht12 ho12
                        go_wp2_with fail
                        refine (load_calls _ _ _ _ _ (ht12.below (below_alloc _ _)) (hv12.below (below_alloc _ _)) (hT.below (below_alloc _ _))).mono ?_
                        rintro e w13 ⟨vp13, he, ho13, hB13⟩
                        rw [H.out.2.2.2.1] at he
                        rw [hN.out] at he
                        rw [H.out.2.2.2.2] at ho13
                        subst he
                        have hC13 := below2 (below_alloc _ _) hB13
                        replace hxX := hxX.below hC13
                        replace htX := htX.below hC13
                        replace hvX := hvX.below hC13
                        replace hx11 := hx11.below hC13
                        replace ht11 := ht11.below hC13
                        replace hv11 := hv11.below hC13
                        have hx12 := (Bx.new w12 _ _).below hB13
                        replace ht12 := ht12.below hC13
                        replace hv12 := hv12.below hC13
                        replace hT := hT.below hC13
                        replace hPa := hPa.below hC13
                        replace hTa := hTa.below hC13
                        replace hKa := hKa.below hC13
                        replace hst' := hst'.below hC13
                        replace ho12 := ho12.below hC13
                        replace cX0 := hxX.cells.1
                        replace cX1 := hxX.cells.2.1
                        replace lX := hxX.cells.2.2.2.2
                        replace c110 := hx11.cells.1
                        replace c111 := hx11.cells.2.1
                        replace l11 := hx11.cells.2.2.2.2
                        have c120 := hx12.cells.1
                        have c121 := hx12.cells.2.1
                        have l12 := hx12.cells.2.2.2.2
                        replace hBB := below2 hBB hC13
                        obtain ⟨ap13, cp13, rfl⟩ := ho13.txts.strs.form
                        clear t0 t1 t2 tf0 tf1 tf2 tl
                        obtain ⟨t0, t1, t2, tf0, tf1, tf2, tl⟩ := hst'.three
                        go_wp2_with fail
                        refine (texts_calls _ _ _ _ _ ho13.txts.strs hTa.strs (by omega)).mono ?_
                        rintro e w14 ⟨he, hB14⟩
                        rw [HPT.out] at he
                        subst he
                        have hC14 := hB14
                        replace hxX := hxX.below hC14
                        replace htX := htX.below hC14
                        replace hvX := hvX.below hC14
                        replace hx11 := hx11.below hC14
                        replace ht11 := ht11.below hC14
                        replace hv11 := hv11.below hC14
                        replace hx12 := hx12.below hC14
                        replace ht12 := ht12.below hC14
                        replace hv12 := hv12.below hC14
                        replace hT := hT.below hC14
                        replace hPa := hPa.below hC14
                        replace hTa := hTa.below hC14
                        replace hKa := hKa.below hC14
                        replace hst' := hst'.below hC14
                        replace ho12 := ho12.below hC14
                        replace ho13 := ho13.below hC14
                        replace cX0 := hxX.cells.1
                        replace cX1 := hxX.cells.2.1
                        replace lX := hxX.cells.2.2.2.2
                        replace c110 := hx11.cells.1
                        replace c111 := hx11.cells.2.1
                        replace l11 := hx11.cells.2.2.2.2
                        replace c120 := hx12.cells.1
                        replace c121 := hx12.cells.2.1
                        replace l12 := hx12.cells.2.2.2.2
                        replace hBB := below2 hBB hC14
                        clear t0 t1 t2 tf0 tf1 tf2 tl
                        obtain ⟨t0, t1, t2, tf0, tf1, tf2, tl⟩ := hst'.three
                        go_wp2_with fail
                        refine (texts_calls _ _ _ _ _ ho13.txts.strs hPa.strs (by omega)).mono ?_
                        rintro e w15 ⟨he, hB15⟩
                        rw [show decide (P = P) = true by simp] at he
                        subst he
                        have hC15 := hB15
                        replace hxX := hxX.below hC15
                        replace htX := htX.below hC15
                        replace hvX := hvX.below hC15
                        replace hx11 := hx11.below hC15
                        replace ht11 := ht11.below hC15
                        replace hv11 := hv11.below hC15
                        replace hx12 := hx12.below hC15
                        replace ht12 := ht12.below hC15
                        replace hv12 := hv12.below hC15
                        replace hT := hT.below hC15
                        replace hPa := hPa.below hC15
                        replace hTa := hTa.below hC15
                        replace hKa := hKa.below hC15
                        replace hst' := hst'.below hC15
                        replace ho12 := ho12.below hC15
                        replace ho13 := ho13.below hC15
                        replace cX0 := hxX.cells.1
                        replace cX1 := hxX.cells.2.1
                        replace lX := hxX.cells.2.2.2.2
                        replace c110 := hx11.cells.1
                        replace c111 := hx11.cells.2.1
                        replace l11 := hx11.cells.2.2.2.2
                        replace c120 := hx12.cells.1
                        replace c121 := hx12.cells.2.1
                        replace l12 := hx12.cells.2.2.2.2
                        replace hBB := below2 hBB hC15
                        obtain ⟨k0, k1, kf0, kf1, kl⟩ := hxX.cells
                        clear cX0 cX1
                        go_wp2_with fail
                        go_roundw
                        case rel =>
                          have p1 := own_sets2 ho12 hxX (.slice ab12 nb12 cb12) (.slice aw12 nw12 cw12)
                          exact ⟨q + 1, P, c, _, _, _, _, _, _, _, _, by omega, rfl, by go_num, (hBB.setCell (p := ⟨w1.heap.size, 0, none⟩) (by have := hB1.size; simp; omega) _).setCell (p := ⟨w1.heap.size, 1, none⟩) (by have := hB1.size; simp; omega) _, by simpa using kl, bx_set hxX _ _, p1.texts, p1.wrs, (own_set_t ho13 hxX _ _).txts, by omega, Lib.hid ⟨H.out.2.2.2.1, H.out.2.2.2.2⟩⟩
                        case measure => simp [intOf]; omega
                  · obtain ⟨c, hc, q1⟩ := save_none2 hz
                    have H := Lib.hid (And.intro q1 trivial)
                    have hcb : (c != 0) = true := by simpa using hc
                    clear q1 hz hc
                    go_wp2_with fail
                    rw [HWa.out, HBs.out]
                    refine (short_calls _ T _ hTa.strs (by omega)).mono ?_
                    rintro e w2 ⟨rfl, rfl⟩
                    rw [HSH.out]
                    clear x0 x1 xf0 xf1 xl
                    have cX0 := hxX.cells.1
                    have cX1 := hxX.cells.2.1
                    have lX := hxX.cells.2.2.2.2
                    go_wp2_with fail
                    refine (save_calls _ _ _ _ _ T z _ htX hvX hTa hT (by omega)).mono ?_
                    rintro e w11 ⟨vb11, vw11, he, ho11, hB11⟩
                    rw [H.out.1] at he
                    subst he
                    have hC11 := hB11
                    replace hxX := hxX.below hC11
                    replace htX := htX.below hC11
                    replace hvX := hvX.below hC11
                    replace hT := hT.below hC11
                    replace hPa := hPa.below hC11
                    replace hTa := hTa.below hC11
                    replace hKa := hKa.below hC11
                    replace hst' := hst'.below hC11
                    replace cX0 := hxX.cells.1
                    replace cX1 := hxX.cells.2.1
                    replace lX := hxX.cells.2.2.2.2
                    replace hBB := below2 hBB hC11
                    obtain ⟨ab11, nb11, cb11, aw11, nw11, cw11, rfl, rfl, hnb11, hnw11⟩ := ho11.forms
                    have ht11 := ho11.texts
                    have hv11 := ho11.wrs
                    have N11 := Lib.hid (And.intro hnb11 hnw11)
                    clear hnb11 hnw11
                    clear t0 t1 t2 tf0 tf1 tf2 tl
                    obtain ⟨t0, t1, t2, tf0, tf1, tf2, tl⟩ := hst'.three
                    rw [H.out.1] at ht11 hv11
                    go_wp2_with fail
                    go_roundw
                    case rel =>
                      exact ⟨q + 1, P, X, _, _, _, _, _, _, _, _, by omega, rfl, by go_num, below2 hBB (below_alloc _ _), by simp; omega, (hxX.below (below_alloc _ _)), (htX.below (below_alloc _ _)), (hvX.below (below_alloc _ _)), (hPa.below (below_alloc _ _)), hPl, hinv⟩
                    case measure => simp [intOf]; omega
          · obtain rfl : q = S.length := by omega
            have hBB := hBw
            have hxX := hd
            have htX := hdt
            have hvX := hdw
            have hPa := hP
            have hT := HT.out.below hBB
            obtain ⟨N', hN'⟩ : ∃ n, openN X [] = n := ⟨_, rfl⟩
            have hN := Lib.hid hN'
            clear hd hdt hdw hP hN'
            go_wp2_with fail
            refine (load_calls _ _ _ _ _ htX hvX hT).mono ?_
            rintro e w11 ⟨vp11, he, ho11, hB11⟩
            rw [hinv.out.1] at he
            rw [hN.out] at he
            rw [hinv.out.2] at ho11
            subst he
            have hC11 := hB11
            replace hxX := hxX.below hC11
            replace htX := htX.below hC11
            replace hvX := hvX.below hC11
            replace hT := hT.below hC11
            replace hPa := hPa.below hC11
            have cX0 := hxX.cells.1
            have cX1 := hxX.cells.2.1
            have lX := hxX.cells.2.2.2.2
            replace hBB := below2 hBB hC11
            obtain ⟨ap11, cp11, rfl⟩ := ho11.txts.strs.form
            go_wp2_with fail
            refine (shelved_calls _ hT).mono ?_
            rintro e w12 ⟨he, hB12⟩
            subst he
            have hC12 := hB12
            replace hxX := hxX.below hC12
            replace htX := htX.below hC12
            replace hvX := hvX.below hC12
            replace hT := hT.below hC12
            replace hPa := hPa.below hC12
            replace ho11 := ho11.below hC12
            replace cX0 := hxX.cells.1
            replace cX1 := hxX.cells.2.1
            replace lX := hxX.cells.2.2.2.2
            replace hBB := below2 hBB hC12
            go_wp2_with fail
            refine (texts_calls _ _ _ _ _ ho11.txts.strs hPa.strs (by omega)).mono ?_
            rintro e w13 ⟨he, hB13⟩
            rw [show decide (P = P) = true by simp] at he
            subst he
            have hC13 := hB13
            replace hxX := hxX.below hC13
            replace htX := htX.below hC13
            replace hvX := hvX.below hC13
            replace hT := hT.below hC13
            replace hPa := hPa.below hC13
            replace ho11 := ho11.below hC13
            replace cX0 := hxX.cells.1
            replace cX1 := hxX.cells.2.1
            replace lX := hxX.cells.2.2.2.2
            replace hBB := below2 hBB hC13
            go_wp2_with fail
            go_ret
            exact ⟨rfl, hBB⟩
  · obtain ⟨c, hc⟩ : ∃ c, fmtE n = c := ⟨_, rfl⟩
    have hcb : (c != 0) = true := by rw [← hc]; simpa using hE
    have HE := Lib.hid hc
    clear hE hc
    go_enter Tryd.func5, Tryd.ntmps5
    go_wp2_with fail
    refine (format_calls n _).mono ?_
    rintro e w1 ⟨vb1, vw1, he, ho1, hB1⟩
    rw [HE.out] at he
    subst he
    obtain ⟨ab1, nb1, cb1, aw1, nw1, cw1, rfl, rfl, hnb1, hnw1⟩ := ho1.forms
    clear hnb1 hnw1
    have HO := Lib.hid ho1
    clear ho1
    go_wp2_with fail
    refine (shelved_calls _ (HT.out.below (below2 hB1 (below_alloc _ _)))).mono ?_
    rintro e w9 ⟨rfl, hB9⟩
    go_wp2_with fail
    go_ret
    exact ⟨rfl, below2 (below2 hB1 (below_alloc _ _)) hB9⟩

end Go.Proofs.YtdbidfbjfongbaaDoor
