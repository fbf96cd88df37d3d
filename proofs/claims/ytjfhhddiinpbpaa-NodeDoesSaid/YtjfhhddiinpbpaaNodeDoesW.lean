/-
  The walk of NodeDoes.
-/
import Derived.Test.YtjfhhddiinpbpaaNdNodes
import Derived.Test.YtjfhhddiinpbpaaNdRefS
namespace Go.Proofs.Ytjfhhddiinpbpaa
open Go.RowKit

theorem own_kept {w w' : World} {base : Nat} {v u : Value} {l : List Pr} (h : OwnP w base v l) (hg : w.grownBy w' u.ownBlock) (ha : Apart v u) : OwnP w' base v l := World.ownsRow.kept h hg ha
theorem below_smudged {w0 w w' : World} {u : Value} {l : List Pr} (hB : Below w0.heap.size w0 w) (ho : OwnP w w0.heap.size u l) (hg : w.grownBy w' u.ownBlock) : Below w0.heap.size w0 w' :=
  hB.grown hg hB.size (fun k e => (World.ownsRow.lt ho k e).1)

set_option maxRecDepth 100000 in
set_option maxHeartbeats 32000000 in
theorem nodeDoes_walk (va : Value) (la : List Pr) (vb : Value) (lb : List Pr) (p : List UInt8) (z : Int) (s : List UInt8) (most : Int) (w : World) (ha : Prs w va la) (hka : la.length ≤ maxLen) (hb : Prs w vb lb) (hkb : lb.length ≤ maxLen) (_ : (Lit.int .i64 most).wf = true) :
    Calls Try.prog 3 #[va, vb, .agg #[.string ⟨p.toArray⟩, .int .i64 z, .string ⟨s.toArray⟩], .int .i64 most] w fun e w' => e = .returned (.bool true) ∧ Below w.heap.size w w' := by
  obtain ⟨aa, ca, rfl⟩ := ha.form
  obtain ⟨ab, cb, rfl⟩ := hb.form
  have hka' : la.length ≤ 9223372036854775807 := by unfold maxLen at hka; exact hka
  have hkb' : lb.length ≤ 9223372036854775807 := by unfold maxLen at hkb; exact hkb
  obtain ⟨W0, hW0, hX0, hB0⟩ : ∃ W0, w.alloc (.cells #[.string ⟨p.toArray⟩, .int .i64 z, .string ⟨s.toArray⟩] 26) = W0 ∧ Cx W0 w.heap.size 26 [.string ⟨p.toArray⟩, .int .i64 z, .string ⟨s.toArray⟩] ∧ Below w.heap.size w W0 := ⟨_, rfl, Cx.new w _ _, below_alloc _ _⟩
  have CA := big_calls _ la W0 (ha.below hB0) hka'
  have CB := big_calls _ lb W0 (hb.below hB0) hkb'
  obtain ⟨W1, hW1, hP1, hB1⟩ : ∃ W1, W0.alloc (.cells #[.string ⟨p.toArray⟩, .int .i64 z, .string ⟨s.toArray⟩] 26) = W1 ∧ Prs W1 (.slice (some ⟨W0.heap.size, 0, none⟩) 1 1) [((p, z), s)] ∧ Below W0.heap.size W0 W1 := ⟨_, rfl, prs_lit W0 [((p, z), s)] _, below_alloc _ _⟩
  have CP := big_calls _ _ _ hP1 (by simp)
  have HL := Lib.hid (ha.below (below2 hB0 hB1))
  have HM := Lib.hid (hb.below (below2 hB0 hB1))
  have HX := Lib.hid (hX0.below hB1)
  have BB0 := Lib.hid hB0
  have BB := Lib.hid (below2 hB0 hB1)
  have HL0 := Lib.hid ha
  obtain ⟨x0, x1, x2, _, _, _, _⟩ := hX0.three
  clear ha hb hka hkb hka' hkb' hX0 hB0 hP1 hB1
  cases hba : bigP la with
  | true =>
    rw [hba] at CA
    have KA := Lib.hid CA
    clear CA CB CP hba
    go_enter Try.func3, Try.ntmps3
    go_wp2_with fail
    refine KA.out.mono ?_
    rintro e w1 ⟨rfl, rfl⟩
    go_wp2_with fail
    go_ret
    exact ⟨rfl, BB0.out⟩
  | false =>
    rw [hba] at CA
    have KA := Lib.hid CA
    have hla := small_facts hba
    clear CA hba
    cases hbb : bigP lb with
    | true =>
      rw [hbb] at CB
      have KB := Lib.hid CB
      clear CB CP hbb
      go_enter Try.func3, Try.ntmps3
      go_wp2_with fail
      refine KA.out.mono ?_
      rintro e w1 ⟨rfl, rfl⟩
      go_wp2_with fail
      refine KB.out.mono ?_
      rintro e w1 ⟨rfl, rfl⟩
      go_wp2_with fail
      go_ret
      exact ⟨rfl, BB0.out⟩
    | false =>
      rw [hbb] at CB
      have KB := Lib.hid CB
      have hlb := small_facts hbb
      clear CB hbb
      cases hbp : bigP [((p, z), s)] with
      | true =>
        rw [hbp] at CP
        have KP := Lib.hid CP
        clear CP hbp
        go_enter Try.func3, Try.ntmps3
        go_wp2_with fail
        refine KA.out.mono ?_
        rintro e w1 ⟨rfl, rfl⟩
        go_wp2_with fail
        refine KB.out.mono ?_
        rintro e w1 ⟨rfl, rfl⟩
        go_wp2_with fail
        refine KP.out.mono ?_
        rintro e w1 ⟨rfl, rfl⟩
        go_wp2_with fail
        go_ret
        exact ⟨rfl, BB.out⟩
      | false =>
        rw [hbp] at CP
        have KP := Lib.hid CP
        clear CP hbp
        obtain ⟨N, hN⟩ : ∃ n, placeN la (p, z) = n := ⟨_, rfl⟩
        obtain ⟨ok, hok⟩ : ∃ b, hereB la (p, z) = b := ⟨_, rfl⟩
        obtain ⟨rb, hrb⟩ : ∃ b, riseB la = b := ⟨_, rfl⟩
        obtain ⟨ev, hev⟩ : ∃ n, levE most = n := ⟨_, rfl⟩
        have HFF := Lib.hid (And.intro hN (And.intro hok (And.intro hrb hev)))
        have hlm : (la ++ lb).length ≤ 160 := by rw [List.length_append]; omega
        have HLM := Lib.hid hlm
        clear hN hok hrb hev hlm
        go_enter Try.func3, Try.ntmps3
        go_wp2_with fail
        refine KA.out.mono ?_
        rintro e w1 ⟨rfl, rfl⟩
        go_wp2_with fail
        refine KB.out.mono ?_
        rintro e w1 ⟨rfl, rfl⟩
        go_wp2_with fail
        refine KP.out.mono ?_
        rintro e w1 ⟨rfl, rfl⟩
        clear x0 x1 x2 hW0 hW1 KA KB KP
        have BBP := Lib.hid BB.out
        obtain ⟨x0, x1, x2, _, _, _, _⟩ := HX.out.three
        go_wp2_with fail
        clear x0 x1 x2
        refine (refOwn_calls _ la _ HL.out (by omega)).mono ?_
        rintro e w2 ⟨aw, nw, cw, rfl, how, hB2⟩
        have HL := Lib.hid (HL.out.below hB2)
        have HM := Lib.hid (HM.out.below hB2)
        have HX := Lib.hid (HX.out.below hB2)
        have BB := Lib.hid (below2 BB.out hB2)
        have OW := Lib.hid (how.weak (b := w.heap.size) (BBP.out.size))
        have BBP := Lib.hid BB.out
        clear hB2 how
        obtain ⟨x0, x1, x2, _, _, _, _⟩ := HX.out.three
        go_wp2_with fail
        clear x0 x1 x2
        refine (find_calls _ la p z _ HL.out (by omega)).mono ?_
        rintro e w3 ⟨rfl, hB3⟩
        rw [HFF.out.1, HFF.out.2.1]
        have HL := Lib.hid (HL.out.below hB3)
        have HM := Lib.hid (HM.out.below hB3)
        have OW := Lib.hid (OW.out.stays hB3)
        have HX := Lib.hid (HX.out.below hB3)
        have BB := Lib.hid (below2 BB.out hB3)
        have BBP := Lib.hid BB.out
        clear hB3 
        obtain ⟨x0, x1, x2, _, _, _, _⟩ := HX.out.three
        go_wp2_with fail
        clear x0 x1 x2
        refine (refFind_calls _ la p z _ OW.out.prs (by omega)).mono ?_
        rintro e w4 ⟨rfl, hB4⟩
        rw [HFF.out.1, HFF.out.2.1]
        have HL := Lib.hid (HL.out.below hB4)
        have HM := Lib.hid (HM.out.below hB4)
        have OW := Lib.hid (OW.out.stays hB4)
        have HX := Lib.hid (HX.out.below hB4)
        have BB := Lib.hid (below2 BB.out hB4)
        have BBP := Lib.hid BB.out
        clear hB4 
        obtain ⟨x0, x1, x2, _, _, _, _⟩ := HX.out.three
        go_wp2_with fail
        clear x0 x1 x2
        refine (putN_calls _ la p z s _ HL.out (by omega)).mono ?_
        rintro e w5 ⟨ac, nc, cc, rfl, hoc, hB5⟩
        have AWC := Lib.hid (apart_later OW.out hoc (Nat.le_refl _)).1
        have HL := Lib.hid (HL.out.below hB5)
        have HM := Lib.hid (HM.out.below hB5)
        have OW := Lib.hid (OW.out.stays hB5)
        have HX := Lib.hid (HX.out.below hB5)
        have BB := Lib.hid (below2 BB.out hB5)
        have OC := Lib.hid (hoc.weak (b := w.heap.size) (BBP.out.size))
        have BBP := Lib.hid BB.out
        clear hB5 hoc
        obtain ⟨x0, x1, x2, _, _, _, _⟩ := HX.out.three
        go_wp2_with fail
        clear x0 x1 x2
        refine (refPut_calls _ la p z s _ OW.out.prs (by omega)).mono ?_
        rintro e w6 ⟨ad, nd, cd, rfl, hod, hB6⟩
        have HL := Lib.hid (HL.out.below hB6)
        have HM := Lib.hid (HM.out.below hB6)
        have OW := Lib.hid (OW.out.stays hB6)
        have OC := Lib.hid (OC.out.stays hB6)
        have HX := Lib.hid (HX.out.below hB6)
        have BB := Lib.hid (below2 BB.out hB6)
        have HD := Lib.hid hod.prs
        have BBP := Lib.hid BB.out
        clear hB6 hod
        obtain ⟨x0, x1, x2, _, _, _, _⟩ := HX.out.three
        go_wp2_with fail
        clear x0 x1 x2
        refine (drop_calls _ la p z _ HL.out (by omega)).mono ?_
        rintro e w7 ⟨ae, ne, ce, rfl, hoe, hB7⟩
        have AWE := Lib.hid (apart_later OW.out hoe (Nat.le_refl _)).1
        have AEC := Lib.hid (apart_later OC.out hoe (Nat.le_refl _)).2
        have HL := Lib.hid (HL.out.below hB7)
        have HM := Lib.hid (HM.out.below hB7)
        have HD := Lib.hid (HD.out.below hB7)
        have OW := Lib.hid (OW.out.stays hB7)
        have OC := Lib.hid (OC.out.stays hB7)
        have HX := Lib.hid (HX.out.below hB7)
        have BB := Lib.hid (below2 BB.out hB7)
        have OE := Lib.hid (hoe.weak (b := w.heap.size) (BBP.out.size))
        have BBP := Lib.hid BB.out
        clear hB7 hoe
        obtain ⟨x0, x1, x2, _, _, _, _⟩ := HX.out.three
        go_wp2_with fail
        clear x0 x1 x2
        refine (refDrop_calls _ la p z _ OW.out.prs (by omega)).mono ?_
        rintro e w8 ⟨af, nf, cf, rfl, hof, hB8⟩
        have HL := Lib.hid (HL.out.below hB8)
        have HM := Lib.hid (HM.out.below hB8)
        have HD := Lib.hid (HD.out.below hB8)
        have OW := Lib.hid (OW.out.stays hB8)
        have OC := Lib.hid (OC.out.stays hB8)
        have OE := Lib.hid (OE.out.stays hB8)
        have HX := Lib.hid (HX.out.below hB8)
        have BB := Lib.hid (below2 BB.out hB8)
        have HF := Lib.hid hof.prs
        have BBP := Lib.hid BB.out
        clear hB8 hof
        obtain ⟨x0, x1, x2, _, _, _, _⟩ := HX.out.three
        go_wp2_with fail
        clear x0 x1 x2
        refine (split_calls _ la _ HL.out (by omega)).mono ?_
        rintro e w9 ⟨ax, nx, cx, ay, ny, cy, rfl, hox, hoy, hxy, hyx, hB9⟩
        have AWX := Lib.hid (apart_later OW.out hox (Nat.le_refl _)).1
        have AXC := Lib.hid (apart_later OC.out hox (Nat.le_refl _)).2
        have AXE := Lib.hid (apart_later OE.out hox (Nat.le_refl _)).2
        have AWY := Lib.hid (apart_later OW.out hoy (Nat.le_refl _)).1
        have AYC := Lib.hid (apart_later OC.out hoy (Nat.le_refl _)).2
        have AYE := Lib.hid (apart_later OE.out hoy (Nat.le_refl _)).2
        have HL := Lib.hid (HL.out.below hB9)
        have HM := Lib.hid (HM.out.below hB9)
        have HD := Lib.hid (HD.out.below hB9)
        have HF := Lib.hid (HF.out.below hB9)
        have OW := Lib.hid (OW.out.stays hB9)
        have OC := Lib.hid (OC.out.stays hB9)
        have OE := Lib.hid (OE.out.stays hB9)
        have HX := Lib.hid (HX.out.below hB9)
        have BB := Lib.hid (below2 BB.out hB9)
        have OX := Lib.hid (hox.weak (b := w.heap.size) (BBP.out.size))
        have OY := Lib.hid (hoy.weak (b := w.heap.size) (BBP.out.size))
        have AYX := Lib.hid hyx
        clear hxy hyx
        have BBP := Lib.hid BB.out
        clear hB9 hox hoy
        obtain ⟨x0, x1, x2, _, _, _, _⟩ := HX.out.three
        go_wp2_with fail
        clear x0 x1 x2
        refine (refSplit_calls _ la _ OW.out.prs (by omega)).mono ?_
        rintro e w10 ⟨az, nz, cz, au, nu, cu, rfl, hoz, hou, _, _, hB10⟩
        have HL := Lib.hid (HL.out.below hB10)
        have HM := Lib.hid (HM.out.below hB10)
        have HD := Lib.hid (HD.out.below hB10)
        have HF := Lib.hid (HF.out.below hB10)
        have OW := Lib.hid (OW.out.stays hB10)
        have OC := Lib.hid (OC.out.stays hB10)
        have OE := Lib.hid (OE.out.stays hB10)
        have OX := Lib.hid (OX.out.stays hB10)
        have OY := Lib.hid (OY.out.stays hB10)
        have HX := Lib.hid (HX.out.below hB10)
        have BB := Lib.hid (below2 BB.out hB10)
        have HZ := Lib.hid hoz.prs
        have HU := Lib.hid hou.prs
        have BBP := Lib.hid BB.out
        clear hB10 hoz hou
        obtain ⟨x0, x1, x2, _, _, _, _⟩ := HX.out.three
        go_wp2_with fail
        clear x0 x1 x2
        refine (level_calls _ _ la lb most _ HL.out HM.out (by omega) (by omega)).mono ?_
        rintro e w11 ⟨ag, ng, cg, ah, nh, ch, rfl, hog, hoh, _, _, hB11⟩
        rw [HFF.out.2.2.2]
        have AWG := Lib.hid (apart_later OW.out hog (Nat.le_refl _)).1
        have AGC := Lib.hid (apart_later OC.out hog (Nat.le_refl _)).2
        have AGE := Lib.hid (apart_later OE.out hog (Nat.le_refl _)).2
        have AGX := Lib.hid (apart_later OX.out hog (Nat.le_refl _)).2
        have AGY := Lib.hid (apart_later OY.out hog (Nat.le_refl _)).2
        have HL := Lib.hid (HL.out.below hB11)
        have HM := Lib.hid (HM.out.below hB11)
        have HD := Lib.hid (HD.out.below hB11)
        have HF := Lib.hid (HF.out.below hB11)
        have HZ := Lib.hid (HZ.out.below hB11)
        have HU := Lib.hid (HU.out.below hB11)
        have OW := Lib.hid (OW.out.stays hB11)
        have OC := Lib.hid (OC.out.stays hB11)
        have OE := Lib.hid (OE.out.stays hB11)
        have OX := Lib.hid (OX.out.stays hB11)
        have OY := Lib.hid (OY.out.stays hB11)
        have HX := Lib.hid (HX.out.below hB11)
        have BB := Lib.hid (below2 BB.out hB11)
        have OG := Lib.hid (hog.weak (b := w.heap.size) (BBP.out.size))
        have HH := Lib.hid hoh.prs
        have BBP := Lib.hid BB.out
        clear hB11 hog hoh
        obtain ⟨x0, x1, x2, _, _, _, _⟩ := HX.out.three
        go_wp2_with fail
        clear x0 x1 x2
        refine (refLevel_calls _ _ la lb most _ OW.out.prs HM.out (by omega) (by omega)).mono ?_
        rintro e w12 ⟨aj, nj, cj, ak, nk, ck, rfl, hoj, hok, _, _, hB12⟩
        rw [HFF.out.2.2.2]
        have HL := Lib.hid (HL.out.below hB12)
        have HM := Lib.hid (HM.out.below hB12)
        have HD := Lib.hid (HD.out.below hB12)
        have HF := Lib.hid (HF.out.below hB12)
        have HZ := Lib.hid (HZ.out.below hB12)
        have HU := Lib.hid (HU.out.below hB12)
        have HH := Lib.hid (HH.out.below hB12)
        have OW := Lib.hid (OW.out.stays hB12)
        have OC := Lib.hid (OC.out.stays hB12)
        have OE := Lib.hid (OE.out.stays hB12)
        have OX := Lib.hid (OX.out.stays hB12)
        have OY := Lib.hid (OY.out.stays hB12)
        have OG := Lib.hid (OG.out.stays hB12)
        have HX := Lib.hid (HX.out.below hB12)
        have BB := Lib.hid (below2 BB.out hB12)
        have HJ := Lib.hid hoj.prs
        have HK := Lib.hid hok.prs
        have BBP := Lib.hid BB.out
        clear hB12 hoj hok
        obtain ⟨x0, x1, x2, _, _, _, _⟩ := HX.out.three
        go_wp2_with fail
        clear x0 x1 x2
        refine (KSame OC.out.prs HD.out (by have := putL_le la ((p, z), s); omega)).mono ?_
        rintro e w13 ⟨rfl, hB13⟩
        have HL := Lib.hid (HL.out.below hB13)
        have HM := Lib.hid (HM.out.below hB13)
        have HD := Lib.hid (HD.out.below hB13)
        have HF := Lib.hid (HF.out.below hB13)
        have HZ := Lib.hid (HZ.out.below hB13)
        have HU := Lib.hid (HU.out.below hB13)
        have HH := Lib.hid (HH.out.below hB13)
        have HJ := Lib.hid (HJ.out.below hB13)
        have HK := Lib.hid (HK.out.below hB13)
        have OW := Lib.hid (OW.out.stays hB13)
        have OC := Lib.hid (OC.out.stays hB13)
        have OE := Lib.hid (OE.out.stays hB13)
        have OX := Lib.hid (OX.out.stays hB13)
        have OY := Lib.hid (OY.out.stays hB13)
        have OG := Lib.hid (OG.out.stays hB13)
        have HX := Lib.hid (HX.out.below hB13)
        have BB := Lib.hid (below2 BB.out hB13)
        have BBP := Lib.hid BB.out
        clear hB13 
        obtain ⟨x0, x1, x2, _, _, _, _⟩ := HX.out.three
        go_wp2_with fail
        clear x0 x1 x2
        refine (KSame OE.out.prs HF.out (by have h := dropL_length la (p, z); split at h <;> omega)).mono ?_
        rintro e w14 ⟨rfl, hB14⟩
        have HL := Lib.hid (HL.out.below hB14)
        have HM := Lib.hid (HM.out.below hB14)
        have HD := Lib.hid (HD.out.below hB14)
        have HF := Lib.hid (HF.out.below hB14)
        have HZ := Lib.hid (HZ.out.below hB14)
        have HU := Lib.hid (HU.out.below hB14)
        have HH := Lib.hid (HH.out.below hB14)
        have HJ := Lib.hid (HJ.out.below hB14)
        have HK := Lib.hid (HK.out.below hB14)
        have OW := Lib.hid (OW.out.stays hB14)
        have OC := Lib.hid (OC.out.stays hB14)
        have OE := Lib.hid (OE.out.stays hB14)
        have OX := Lib.hid (OX.out.stays hB14)
        have OY := Lib.hid (OY.out.stays hB14)
        have OG := Lib.hid (OG.out.stays hB14)
        have HX := Lib.hid (HX.out.below hB14)
        have BB := Lib.hid (below2 BB.out hB14)
        have BBP := Lib.hid BB.out
        clear hB14 
        obtain ⟨x0, x1, x2, _, _, _, _⟩ := HX.out.three
        go_wp2_with fail
        clear x0 x1 x2
        refine (KSame OX.out.prs HZ.out (by simp; omega)).mono ?_
        rintro e w15 ⟨rfl, hB15⟩
        have HL := Lib.hid (HL.out.below hB15)
        have HM := Lib.hid (HM.out.below hB15)
        have HD := Lib.hid (HD.out.below hB15)
        have HF := Lib.hid (HF.out.below hB15)
        have HZ := Lib.hid (HZ.out.below hB15)
        have HU := Lib.hid (HU.out.below hB15)
        have HH := Lib.hid (HH.out.below hB15)
        have HJ := Lib.hid (HJ.out.below hB15)
        have HK := Lib.hid (HK.out.below hB15)
        have OW := Lib.hid (OW.out.stays hB15)
        have OC := Lib.hid (OC.out.stays hB15)
        have OE := Lib.hid (OE.out.stays hB15)
        have OX := Lib.hid (OX.out.stays hB15)
        have OY := Lib.hid (OY.out.stays hB15)
        have OG := Lib.hid (OG.out.stays hB15)
        have HX := Lib.hid (HX.out.below hB15)
        have BB := Lib.hid (below2 BB.out hB15)
        have BBP := Lib.hid BB.out
        clear hB15 
        obtain ⟨x0, x1, x2, _, _, _, _⟩ := HX.out.three
        go_wp2_with fail
        clear x0 x1 x2
        refine (KSame OY.out.prs HU.out (by simp; omega)).mono ?_
        rintro e w16 ⟨rfl, hB16⟩
        have HL := Lib.hid (HL.out.below hB16)
        have HM := Lib.hid (HM.out.below hB16)
        have HD := Lib.hid (HD.out.below hB16)
        have HF := Lib.hid (HF.out.below hB16)
        have HZ := Lib.hid (HZ.out.below hB16)
        have HU := Lib.hid (HU.out.below hB16)
        have HH := Lib.hid (HH.out.below hB16)
        have HJ := Lib.hid (HJ.out.below hB16)
        have HK := Lib.hid (HK.out.below hB16)
        have OW := Lib.hid (OW.out.stays hB16)
        have OC := Lib.hid (OC.out.stays hB16)
        have OE := Lib.hid (OE.out.stays hB16)
        have OX := Lib.hid (OX.out.stays hB16)
        have OY := Lib.hid (OY.out.stays hB16)
        have OG := Lib.hid (OG.out.stays hB16)
        have HX := Lib.hid (HX.out.below hB16)
        have BB := Lib.hid (below2 BB.out hB16)
        have BBP := Lib.hid BB.out
        clear hB16 
        obtain ⟨x0, x1, x2, _, _, _, _⟩ := HX.out.three
        go_wp2_with fail
        clear x0 x1 x2
        refine (KSame OG.out.prs HJ.out (by have := HLM.out; have := levA_le (la ++ lb) most; omega)).mono ?_
        rintro e w17 ⟨rfl, hB17⟩
        have HL := Lib.hid (HL.out.below hB17)
        have HM := Lib.hid (HM.out.below hB17)
        have HD := Lib.hid (HD.out.below hB17)
        have HF := Lib.hid (HF.out.below hB17)
        have HZ := Lib.hid (HZ.out.below hB17)
        have HU := Lib.hid (HU.out.below hB17)
        have HH := Lib.hid (HH.out.below hB17)
        have HJ := Lib.hid (HJ.out.below hB17)
        have HK := Lib.hid (HK.out.below hB17)
        have OW := Lib.hid (OW.out.stays hB17)
        have OC := Lib.hid (OC.out.stays hB17)
        have OE := Lib.hid (OE.out.stays hB17)
        have OX := Lib.hid (OX.out.stays hB17)
        have OY := Lib.hid (OY.out.stays hB17)
        have OG := Lib.hid (OG.out.stays hB17)
        have HX := Lib.hid (HX.out.below hB17)
        have BB := Lib.hid (below2 BB.out hB17)
        have BBP := Lib.hid BB.out
        clear hB17 
        obtain ⟨x0, x1, x2, _, _, _, _⟩ := HX.out.three
        go_wp2_with fail
        clear x0 x1 x2
        refine (KSame HH.out HK.out (by have := HLM.out; have := levB_le (la ++ lb) most; omega)).mono ?_
        rintro e w18 ⟨rfl, hB18⟩
        have HL := Lib.hid (HL.out.below hB18)
        have HM := Lib.hid (HM.out.below hB18)
        have HD := Lib.hid (HD.out.below hB18)
        have HF := Lib.hid (HF.out.below hB18)
        have HZ := Lib.hid (HZ.out.below hB18)
        have HU := Lib.hid (HU.out.below hB18)
        have HH := Lib.hid (HH.out.below hB18)
        have HJ := Lib.hid (HJ.out.below hB18)
        have HK := Lib.hid (HK.out.below hB18)
        have OW := Lib.hid (OW.out.stays hB18)
        have OC := Lib.hid (OC.out.stays hB18)
        have OE := Lib.hid (OE.out.stays hB18)
        have OX := Lib.hid (OX.out.stays hB18)
        have OY := Lib.hid (OY.out.stays hB18)
        have OG := Lib.hid (OG.out.stays hB18)
        have HX := Lib.hid (HX.out.below hB18)
        have BB := Lib.hid (below2 BB.out hB18)
        have BBP := Lib.hid BB.out
        clear hB18 
        obtain ⟨x0, x1, x2, _, _, _, _⟩ := HX.out.three
        go_wp2_with fail
        clear x0 x1 x2
        refine (is_calls _ la _ HL.out (by omega)).mono ?_
        rintro e w19 ⟨rfl, hB19⟩
        rw [HFF.out.2.2.1]
        have HL := Lib.hid (HL.out.below hB19)
        have HM := Lib.hid (HM.out.below hB19)
        have HD := Lib.hid (HD.out.below hB19)
        have HF := Lib.hid (HF.out.below hB19)
        have HZ := Lib.hid (HZ.out.below hB19)
        have HU := Lib.hid (HU.out.below hB19)
        have HH := Lib.hid (HH.out.below hB19)
        have HJ := Lib.hid (HJ.out.below hB19)
        have HK := Lib.hid (HK.out.below hB19)
        have OW := Lib.hid (OW.out.stays hB19)
        have OC := Lib.hid (OC.out.stays hB19)
        have OE := Lib.hid (OE.out.stays hB19)
        have OX := Lib.hid (OX.out.stays hB19)
        have OY := Lib.hid (OY.out.stays hB19)
        have OG := Lib.hid (OG.out.stays hB19)
        have HX := Lib.hid (HX.out.below hB19)
        have BB := Lib.hid (below2 BB.out hB19)
        have BBP := Lib.hid BB.out
        clear hB19 
        obtain ⟨x0, x1, x2, _, _, _, _⟩ := HX.out.three
        go_wp2_with fail
        clear x0 x1 x2
        refine (refIs_calls _ la _ OW.out.prs (by omega)).mono ?_
        rintro e w20 ⟨rfl, hB20⟩
        rw [HFF.out.2.2.1]
        have HL := Lib.hid (HL.out.below hB20)
        have HM := Lib.hid (HM.out.below hB20)
        have HD := Lib.hid (HD.out.below hB20)
        have HF := Lib.hid (HF.out.below hB20)
        have HZ := Lib.hid (HZ.out.below hB20)
        have HU := Lib.hid (HU.out.below hB20)
        have HH := Lib.hid (HH.out.below hB20)
        have HJ := Lib.hid (HJ.out.below hB20)
        have HK := Lib.hid (HK.out.below hB20)
        have OW := Lib.hid (OW.out.stays hB20)
        have OC := Lib.hid (OC.out.stays hB20)
        have OE := Lib.hid (OE.out.stays hB20)
        have OX := Lib.hid (OX.out.stays hB20)
        have OY := Lib.hid (OY.out.stays hB20)
        have OG := Lib.hid (OG.out.stays hB20)
        have HX := Lib.hid (HX.out.below hB20)
        have BB := Lib.hid (below2 BB.out hB20)
        have BBP := Lib.hid BB.out
        clear hB20 
        obtain ⟨x0, x1, x2, _, _, _, _⟩ := HX.out.three
        go_wp2_with fail
        clear x0 x1 x2
        refine (smudge_calls _ _ _ _ OC.out (by have := putL_le la ((p, z), s); omega)).mono ?_
        rintro e w21 ⟨rfl, hg21⟩
        have BB := Lib.hid (below_smudged BB.out OC.out hg21)
        have OW := Lib.hid (own_kept OW.out hg21 AWC.out)
        have OE := Lib.hid (own_kept OE.out hg21 AEC.out)
        have OX := Lib.hid (own_kept OX.out hg21 AXC.out)
        have OY := Lib.hid (own_kept OY.out hg21 AYC.out)
        have OG := Lib.hid (own_kept OG.out hg21 AGC.out)
        clear hg21 OC
        go_wp2_with fail
        refine (smudge_calls _ _ _ _ OE.out (by have h := dropL_length la (p, z); split at h <;> omega)).mono ?_
        rintro e w22 ⟨rfl, hg22⟩
        have BB := Lib.hid (below_smudged BB.out OE.out hg22)
        have OW := Lib.hid (own_kept OW.out hg22 AWE.out)
        have OX := Lib.hid (own_kept OX.out hg22 AXE.out)
        have OY := Lib.hid (own_kept OY.out hg22 AYE.out)
        have OG := Lib.hid (own_kept OG.out hg22 AGE.out)
        clear hg22 OE
        go_wp2_with fail
        refine (smudge_calls _ _ _ _ OX.out (by simp; omega)).mono ?_
        rintro e w23 ⟨rfl, hg23⟩
        have BB := Lib.hid (below_smudged BB.out OX.out hg23)
        have OW := Lib.hid (own_kept OW.out hg23 AWX.out)
        have OY := Lib.hid (own_kept OY.out hg23 AYX.out)
        have OG := Lib.hid (own_kept OG.out hg23 AGX.out)
        clear hg23 OX
        go_wp2_with fail
        refine (smudge_calls _ _ _ _ OY.out (by simp; omega)).mono ?_
        rintro e w24 ⟨rfl, hg24⟩
        have BB := Lib.hid (below_smudged BB.out OY.out hg24)
        have OW := Lib.hid (own_kept OW.out hg24 AWY.out)
        have OG := Lib.hid (own_kept OG.out hg24 AGY.out)
        clear hg24 OY
        go_wp2_with fail
        refine (smudge_calls _ _ _ _ OG.out (by have := HLM.out; have := levA_le (la ++ lb) most; omega)).mono ?_
        rintro e w25 ⟨rfl, hg25⟩
        have BB := Lib.hid (below_smudged BB.out OG.out hg25)
        have OW := Lib.hid (own_kept OW.out hg25 AWG.out)
        clear hg25 OG
        go_wp2_with fail
        refine (nodes_calls _).mono ?_
        rintro e wn ⟨rfl, hBn⟩
        have BB := Lib.hid (below2 BB.out hBn)
        have OW := Lib.hid (OW.out.stays hBn)
        clear hBn
        go_wp2_with fail
        refine (KSame (HL0.out.below BB.out) OW.out.prs (by omega)).mono ?_
        rintro e wz ⟨rfl, hBz⟩
        go_wp2_with fail
        go_ret
        exact ⟨rfl, below2 BB.out hBz⟩

end Go.Proofs.Ytjfhhddiinpbpaa
