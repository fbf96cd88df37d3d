/-
  The walk of ChainDoes.
-/
import Derived.Test.YtinbeapkhmcifaaDoorChLaw
import Derived.Test.YtinbeapkhmcifaaDoorChRefW
import Derived.Test.YtinbeapkhmcifaaDoorOwn
namespace Go.Proofs.YtinbeapkhmcifaaDoor
set_option maxRecDepth 100000
open Go.RowKit

theorem doesCut {s : List UInt8} {n E : Int} {L : List (List UInt8)} (hE : E = cutE s n) (hL : L = cutL s n) (w : World) :
    Calls Tryd.prog 10 #[.string ⟨s.toArray⟩, .int .i64 n] w fun e w' => ∃ v, e = .returned (.tuple #[v, .int .i64 E]) ∧ Strs w' v L ∧ Below w.heap.size w w' := by
  subst hE
  subst hL
  exact (ccut_calls s n w).mono fun e w' ⟨v, h1, h2, h3⟩ => ⟨v, h1, strs_own h2, h3⟩
theorem doesRef {s : List UInt8} {n E : Int} {L : List (List UInt8)} (hE : E = cutE s n) (hL : L = cutL s n) (hs : s.length ≤ 1000) (w : World) :
    Calls Tryd.prog 11 #[.string ⟨s.toArray⟩, .int .i64 n] w fun e w' => ∃ v, e = .returned (.tuple #[v, .int .i64 E]) ∧ Strs w' v L ∧ Below w.heap.size w w' := by
  subst hE
  subst hL
  exact (rcut_calls s n hs w).mono fun e w' ⟨v, h1, h2, h3⟩ => ⟨v, h1, strs_own h2, h3⟩
/-- What Describe answers, in letters. -/
def DescQ (w : World) (Z D F : Int) (S : List Int) (L : List (List UInt8)) (e : Ending) (w' : World) : Prop :=
  ∃ ao cap v, e = .returned (.tuple #[MV Z D (.slice ao S.length cap), v, .int .i64 F]) ∧ Ints w' (.slice ao S.length cap) S ∧ Strs w' v L ∧ Below w.heap.size w w'
theorem descQ {w w' : World} {s : List UInt8} {n d Z D F : Int} {S : List Int} {L : List (List UInt8)} (hZ : Z = descZ s n d) (hD : D = descD s n d) (hF : F = descE s n d) (hS : S = descS s n d) (hL : L = descL s n d) {e : Ending} (h : DescP w s n d e w') : DescQ w Z D F S L e w' := by
  subst hZ
  subst hD
  subst hF
  subst hS
  subst hL
  obtain ⟨u, v, h1, h2, h3, h4⟩ := h
  obtain ⟨ao, cap, rfl⟩ := (ints_own h2).form
  exact ⟨ao, cap, v, h1, ints_own h2, strs_own h3, h4⟩
theorem doesTexts (a b : Value) {L : List (List UInt8)} {W : World} (h1 : Strs W a L) (h2 : Strs W b L) (hl : L.length ≤ 1000000) : Calls Tryd.prog 16 #[a, b] W fun e w' => e = .returned (.bool true) ∧ Below W.heap.size W w' := by
  have k := texts_calls a b L L W h1 h2 (by omega)
  rw [decide_eq_true (rfl : L = L)] at k
  exact k
theorem doesInts (p q : Value) {S : List Int} {W : World} (h1 : Ints W p S) (h2 : Ints W q S) (hl : S.length ≤ 1000000) : Calls Tryd.prog 19 #[p, q] W fun e w' => e = .returned (.bool true) ∧ Below W.heap.size W w' := by
  have k := refInts_calls p q S S W h1 h2 hl
  rw [beq_self_eq_true] at k
  exact k
theorem doesSame (Z D : Int) (p q : Value) {S : List Int} {W : World} (h1 : Ints W p S) (h2 : Ints W q S) (hl : S.length ≤ 1000000) : Calls Tryd.prog 17 #[MV Z D p, MV Z D q] W fun e w' => e = .returned (.bool true) ∧ Below W.heap.size W w' := by
  have k := mSame_calls Z D p S Z D q S W h1 h2 hl
  have e : sameM Z D S Z D S = true := by simp [sameM]
  rw [e] at k
  exact k

/-- How things stand: m's box, the texts, their copy. -/
def DSt (w : World) (z d : Int) (u : Value) (cs : List Int) (v vo : Value) (l : List (List UInt8)) (W : World) : Prop :=
  Below w.heap.size w W ∧ Cx W w.heap.size 24 [.int .i64 z, .int .i64 d, u] ∧ Ints W u cs ∧ Strs W v l ∧ Strs W vo l ∧ TabOk W
theorem DSt.below {w W W' : World} {z d : Int} {u : Value} {cs : List Int} {v vo : Value} {l : List (List UInt8)} (h : DSt w z d u cs v vo l W) (hB : Below W.heap.size W W') : DSt w z d u cs v vo l W' :=
  ⟨below2 h.1 hB, h.2.1.below hB, h.2.2.1.below hB, h.2.2.2.1.below hB, h.2.2.2.2.1.below hB, h.2.2.2.2.2.below hB⟩
/-- Two metas and their chunks. -/
def DMt (g1 g2 : Nat) (Z D : Int) (u1 u2 : Value) (S : List Int) (W : World) : Prop :=
  Cx W g1 24 [.int .i64 Z, .int .i64 D, u1] ∧ Cx W g2 24 [.int .i64 Z, .int .i64 D, u2] ∧ Ints W u1 S ∧ Ints W u2 S
theorem DMt.below {W W' : World} {g1 g2 : Nat} {Z D : Int} {u1 u2 : Value} {S : List Int} (h : DMt g1 g2 Z D u1 u2 S W) (hB : Below W.heap.size W W') : DMt g1 g2 Z D u1 u2 S W' :=
  ⟨h.1.below hB, h.2.1.below hB, h.2.2.1.below hB, h.2.2.2.below hB⟩
def DTw (a b : Value) (L : List (List UInt8)) (W : World) : Prop := Strs W a L ∧ Strs W b L
theorem DTw.below {W W' : World} {a b : Value} {L : List (List UInt8)} (h : DTw a b L W) (hB : Below W.heap.size W W') : DTw a b L W' := ⟨h.1.below hB, h.2.below hB⟩

theorem chainDoes_long (s : List UInt8) (n d z m : Int) (u v : Value) (w : World) (h : 200 < s.length) (hl : s.length ≤ 9223372036854775807) :
    Calls Tryd.prog 3 #[.string ⟨s.toArray⟩, .int .i64 n, .int .i64 d, MV z m u, v] w fun e w' => e = .returned (.bool true) ∧ Below w.heap.size w w' := by
  go_enter Tryd.func3, Tryd.ntmps3
  go_wp2_with fail
  go_ret
  exact ⟨rfl, below_alloc _ _⟩
theorem chainDoes_many (s : List UInt8) (n d z m : Int) (u v : Value) (cs : List Int) (w : World) (h : s.length ≤ 200) (hu : Ints w u cs) (hc : 40 < cs.length) :
    Calls Tryd.prog 3 #[.string ⟨s.toArray⟩, .int .i64 n, .int .i64 d, MV z m u, v] w fun e w' => e = .returned (.bool true) ∧ Below w.heap.size w w' := by
  obtain ⟨ao, cap, rfl⟩ := hu.form
  have hd : decide ((40 : Int) < cs.length) = true := by rw [decide_eq_true_eq]; omega
  clear hu hc
  go_enter Tryd.func3, Tryd.ntmps3
  go_wp2_with fail
  go_ret
  exact ⟨rfl, below_alloc _ _⟩
theorem chainDoes_far (s : List UInt8) (n d z m : Int) (u v : Value) (cs : List Int) (l : List (List UInt8)) (w : World) (h : s.length ≤ 200) (hu : Ints w u cs) (hc : cs.length ≤ 40) (hv : Strs w v l) (hl : l.length ≤ 9223372036854775807) (hf : chFar l = true) :
    Calls Tryd.prog 3 #[.string ⟨s.toArray⟩, .int .i64 n, .int .i64 d, MV z m u, v] w fun e w' => e = .returned (.bool true) ∧ Below w.heap.size w w' := by
  obtain ⟨ao, cap, rfl⟩ := hu.form
  have hd : decide ((40 : Int) < cs.length) = false := by rw [decide_eq_false_iff_not]; omega
  have K := Lib.hid (chFar_calls v l _ (hv.below (below_alloc w (.cells #[.int .i64 z, .int .i64 m, .slice ao cs.length cap] 24))) hl)
  rw [hf] at K
  clear hu hc hv hf
  go_enter Tryd.func3, Tryd.ntmps3
  go_wp2_with fail
  refine K.out.mono ?_
  rintro e w1 ⟨rfl, rfl⟩
  go_wp2_with fail
  go_ret
  exact ⟨rfl, below_alloc _ _⟩

set_option maxHeartbeats 16000000 in
theorem chainDoes_main (s : List UInt8) (n d z m : Int) (u v : Value) (cs : List Int) (l : List (List UInt8)) (w : World) (h : s.length ≤ 200) (hu : Ints w u cs) (hc : cs.length ≤ 40) (hwf : ∀ c ∈ cs, (Lit.int .i64 c).wf = true) (hv : Strs w v l) (hf : chFar l = false) (hT : TabOk w)
    (E : Int) (L : List (List UInt8)) (Z D F : Int) (S : List Int) (M : List (List UInt8)) (T : List UInt8) (G : Int)
    (hE : E = cutE s n) (hL : L = cutL s n) (hZ : Z = descZ s n d) (hD : D = descD s n d) (hF : F = descE s n d) (hS : S = descS s n d) (hM : M = descL s n d) (hTT : T = wholeT z m cs l) (hG : G = wholeE z m cs l) :
    Calls Tryd.prog 3 #[.string ⟨s.toArray⟩, .int .i64 n, .int .i64 d, MV z m u, v] w fun e w' => e = .returned (.bool true) ∧ Below w.heap.size w w' := by
  obtain ⟨hl2, hl30⟩ := far_not hf
  obtain ⟨ao, cap, rfl⟩ := hu.form
  have hd : decide ((40 : Int) < cs.length) = false := by rw [decide_eq_false_iff_not]; omega
  have hm : LenL 1000000 l := fun t ht => by have := hl2 t ht; omega
  have hLl : L.length ≤ 1000000 := by have := cut_few s n; rw [hL]; omega
  have hMl : M.length ≤ 1000000 := by
    have := cut_few s n
    rw [hM, descL]
    split
    · omega
    · simp
  have hSl : S.length ≤ 1000000 := by
    have := cut_few s n
    rw [hS, descS]
    split
    · rw [sums_len]; omega
    · simp
  have hB0 := below_alloc w (.cells #[.int .i64 z, .int .i64 m, .slice ao cs.length cap] 24)
  have KF := Lib.hid (chFar_calls v l _ (hv.below hB0) (by omega))
  rw [hf] at KF
  have KO := Lib.hid (own_calls v l _ (hv.below hB0) (by omega))
  have H0 := Lib.hid (And.intro (hu.below hB0) (And.intro (hv.below hB0) (And.intro (hT.below hB0) (And.intro hB0 (box3 w (.int .i64 z) (.int .i64 m) (.slice ao cs.length cap))))))
  have KC := Lib.hid (doesCut hE hL)
  have KR := Lib.hid (doesRef hE hL (by omega))
  have KD := Lib.hid (fun W (hW : TabOk W) => (cdesc_calls s n d (by omega) W hW).mono fun e w' he => descQ hZ hD hF hS hM he)
  have KE := Lib.hid (fun W => (rdesc_calls s n d (by omega) W).mono fun e w' he => descQ hZ hD hF hS hM he)
  have KW : Hid (∀ (u v : Value) (W : World), Ints W u cs → Strs W v l → TabOk W → Calls Tryd.prog 14 #[MV z m u, v] W fun e w' => e = .returned (.tuple #[.string ⟨T.toArray⟩, .int .i64 G]) ∧ Below W.heap.size W w') :=
    Lib.hid fun u v W h1 h2 h3 => by rw [hTT, hG]; exact cwhole_calls z m u cs v l W h1 (by omega) h2 (by omega) hm h3
  have KV : Hid (∀ (u v : Value) (W : World), Ints W u cs → Strs W v l → Calls Tryd.prog 15 #[MV z m u, v] W fun e w' => e = .returned (.tuple #[.string ⟨T.toArray⟩, .int .i64 G]) ∧ Below W.heap.size W w') :=
    Lib.hid fun u v W h1 h2 => by rw [hTT, hG]; exact rwhole_calls z m u cs v l W h1 (by omega) h2 (by omega) hm
  have HWF := Lib.hid hwf
  clear hE hL hZ hD hF hS hM hTT hG hu hv hf hT hB0 hl2
  go_enter Tryd.func3, Tryd.ntmps3
  go_wp2_with fail
  refine KF.out.mono ?_
  rintro e w0 ⟨rfl, rfl⟩
  go_wp2_with fail
  refine KO.out.mono ?_
  rintro e w1 ⟨vo, rfl, ho, hB1⟩
  have D1 := Lib.hid (show DSt w z m (.slice ao cs.length cap) cs v vo l w1 from ⟨below2 H0.out.2.2.2.1 hB1, H0.out.2.2.2.2.below hB1, H0.out.1.below hB1, H0.out.2.1.below hB1, ho, H0.out.2.2.1.below hB1⟩)
  clear hB1 ho KF KO H0
  go_wp2_with fail
  refine (KC.out _).mono ?_
  rintro e w2 ⟨a, rfl, ha, hB2⟩
  have D2 := Lib.hid (D1.out.below hB2)
  have A2 := Lib.hid ha
  clear hB2 ha D1 KC
  go_wp2_with fail
  refine (KR.out _).mono ?_
  rintro e w3 ⟨b, rfl, hb, hB3⟩
  have D3 := Lib.hid (D2.out.below hB3)
  have A3 := Lib.hid (show DTw a b L w3 from ⟨A2.out.below hB3, hb⟩)
  clear hB3 hb D2 A2 KR
  go_wp2_with fail
  refine (KD.out _ D3.out.2.2.2.2.2).mono ?_
  rintro e w4 ⟨a4, c4, v4, rfl, hi4, ht4, hB4⟩
  have hb4 := below_alloc w4 (.cells #[.int .i64 Z, .int .i64 D, .slice a4 S.length c4] 24)
  have D4 := Lib.hid ((D3.out.below hB4).below hb4)
  have A4 := Lib.hid ((A3.out.below hB4).below hb4)
  have B4 := Lib.hid (And.intro (box3 w4 (.int .i64 Z) (.int .i64 D) (.slice a4 S.length c4)) (And.intro (hi4.below hb4) (ht4.below hb4)))
  clear hB4 hi4 ht4 hb4 D3 A3 KD
  go_wp2_with fail
  refine (KE.out _).mono ?_
  rintro e w5 ⟨a5, c5, v5, rfl, hi5, ht5, hB5⟩
  have hb5 := below_alloc w5 (.cells #[.int .i64 Z, .int .i64 D, .slice a5 S.length c5] 24)
  have D5 := Lib.hid ((D4.out.below hB5).below hb5)
  have A5 := Lib.hid ((A4.out.below hB5).below hb5)
  have B5 := Lib.hid (show DMt w4.heap.size w5.heap.size Z D (.slice a4 S.length c4) (.slice a5 S.length c5) S _ from ⟨(B4.out.1.below hB5).below hb5, box3 w5 (.int .i64 Z) (.int .i64 D) (.slice a5 S.length c5), (B4.out.2.1.below hB5).below hb5, hi5.below hb5⟩)
  have C5 := Lib.hid (show DTw v4 v5 M _ from ⟨(B4.out.2.2.below hB5).below hb5, ht5.below hb5⟩)
  clear hB5 hi5 ht5 hb5 D4 A4 B4 KE
  obtain ⟨m0, m1, m2, _⟩ := D5.out.2.1.three
  go_wp2_with fail
  refine (KW.out _ _ _ D5.out.2.2.1 D5.out.2.2.2.1 D5.out.2.2.2.2.2).mono ?_
  rintro e w6 ⟨rfl, hB6⟩
  have D6 := Lib.hid (D5.out.below hB6)
  have A6 := Lib.hid (A5.out.below hB6)
  have B6 := Lib.hid (B5.out.below hB6)
  have C6 := Lib.hid (C5.out.below hB6)
  clear hB6 D5 A5 B5 C5 m0 m1 m2 KW
  obtain ⟨m0, m1, m2, _⟩ := D6.out.2.1.three
  go_wp2_with fail
  refine (KV.out _ _ _ D6.out.2.2.1 D6.out.2.2.2.2.1).mono ?_
  rintro e w7 ⟨rfl, hB7⟩
  have D7 := Lib.hid (D6.out.below hB7)
  have A7 := Lib.hid (A6.out.below hB7)
  have B7 := Lib.hid (B6.out.below hB7)
  have C7 := Lib.hid (C6.out.below hB7)
  clear hB7 D6 A6 B6 C6 m0 m1 m2 KV
  go_wp2_with fail
  refine (doesTexts a b A7.out.1 A7.out.2 hLl).mono ?_
  rintro e w8 ⟨rfl, hB8⟩
  have D8 := Lib.hid (D7.out.below hB8)
  have B8 := Lib.hid (B7.out.below hB8)
  have C8 := Lib.hid (C7.out.below hB8)
  clear hB8 D7 A7 B7 C7
  obtain ⟨x0, x1, x2, _⟩ := B8.out.1.three
  obtain ⟨y0, y1, y2, _⟩ := B8.out.2.1.three
  go_wp2_with fail
  refine (doesSame Z D _ _ B8.out.2.2.1 B8.out.2.2.2 hSl).mono ?_
  rintro e w9 ⟨rfl, hB9⟩
  have D9 := Lib.hid (D8.out.below hB9)
  have C9 := Lib.hid (C8.out.below hB9)
  clear hB9 D8 B8 C8 x0 x1 x2 y0 y1 y2
  go_wp2_with fail
  refine (doesTexts v4 v5 C9.out.1 C9.out.2 hMl).mono ?_
  rintro e wL ⟨rfl, hBL⟩
  have DL := Lib.hid (D9.out.below hBL)
  clear hBL D9 C9
  have KK := Lib.hid (fun W (hW : Below wL.heap.size wL W) => chKnown_calls W (DL.out.below hW).2.2.2.2.2)
  have KS := Lib.hid (fun W (hW : Below wL.heap.size wL W) => csums_calls v l W (DL.out.below hW).2.2.2.1 (by omega) hm (DL.out.below hW).2.2.2.2.2)
  have KT := Lib.hid (fun W (hW : Below wL.heap.size wL W) => rsums_calls vo l W (DL.out.below hW).2.2.2.2.1 (by omega) hm)
  have KH := Lib.hid (fun W (hW : Below wL.heap.size wL W) => chave_calls z m (.slice ao cs.length cap) cs v l W (DL.out.below hW).2.2.1 (by omega) HWF.out (DL.out.below hW).2.2.2.1 (by omega) hm (DL.out.below hW).2.2.2.2.2)
  have KI := Lib.hid (fun W (hW : Below wL.heap.size wL W) => rhave_calls z m (.slice ao cs.length cap) cs vo l W (DL.out.below hW).2.2.1 (by omega) (DL.out.below hW).2.2.2.2.1 (by omega) hm)
  have KX := Lib.hid (fun W (hW : Below wL.heap.size wL W) => doesTexts v vo (DL.out.below hW).2.2.2.1 (DL.out.below hW).2.2.2.2.1 (by omega))
  have HX : Hid (∀ W, Below wL.heap.size wL W → W.cell? ⟨w.heap.size, 0, none⟩ = some (.int .i64 z) ∧ W.cell? ⟨w.heap.size, 1, none⟩ = some (.int .i64 m) ∧ W.cell? ⟨w.heap.size, 2, none⟩ = some (.slice ao cs.length cap)) := Lib.hid fun W hW => by
    obtain ⟨x0, x1, x2, _⟩ := (DL.out.below hW).2.1.three
    exact ⟨x0, x1, x2⟩
  have hsl : (sumsL l).length ≤ 1000000 := by rw [sums_len]; omega
  have hhl : (haveL l cs cs.length).length ≤ 1000000 := Nat.le_trans (have_le l cs _) (by omega)
  have hbr : Below wL.heap.size wL wL.drew := drew_below _
  go_wp2_with fail
  go_region_held3 (fun W => W.cell? ⟨w.heap.size, 0, none⟩ = some (.int .i64 z) ∧ W.cell? ⟨w.heap.size, 1, none⟩ = some (.int .i64 m) ∧ W.cell? ⟨w.heap.size, 2, none⟩ = some (.slice ao cs.length cap)) (first | exact HX.out _ hbr) (first
    | ((with_reducible refine (KK.out _ hbr).mono ?_); rintro e r1 ⟨rfl, hC1⟩; have hbr := below2 hbr hC1)
    | ((with_reducible refine (KS.out _ hbr).mono ?_); rintro e r2 ⟨p2, rfl, ho2, hC2⟩; have hbr := below2 hbr hC2; have P2 := Lib.hid (ints_own ho2); clear ho2)
    | ((with_reducible refine (KT.out _ hbr).mono ?_); rintro e r3 ⟨p3, rfl, ho3, hC3⟩; have hbr := below2 hbr hC3; have P3 := Lib.hid (And.intro (P2.out.below hC3) (ints_own ho3)); clear ho3)
    | ((with_reducible refine (doesInts p2 p3 P3.out.1 P3.out.2 hsl).mono ?_); rintro e r4 ⟨rfl, hC4⟩; have hbr := below2 hbr hC4)
    | ((with_reducible refine (KH.out _ hbr).mono ?_); rintro e r5 ⟨p5, rfl, ho5, hC5⟩; have hbr := below2 hbr hC5; have P5 := Lib.hid (ints_own ho5); clear ho5)
    | ((with_reducible refine (KI.out _ hbr).mono ?_); rintro e r6 ⟨p6, rfl, ho6, hC6⟩; have hbr := below2 hbr hC6; have P6 := Lib.hid (And.intro (P5.out.below hC6) (ints_own ho6)); clear ho6)
    | ((with_reducible refine (doesInts p5 p6 P6.out.1 P6.out.2 hhl).mono ?_); rintro e r7 ⟨rfl, hC7⟩; have hbr := below2 hbr hC7)
    | ((with_reducible refine (KX.out _ hbr).mono ?_); rintro e r8 ⟨rfl, hC8⟩; have hbr := below2 hbr hC8))
  all_goals
    go_wp2_with fail
    go_ret
    exact ⟨rfl, below2 DL.out.1 hbr⟩

theorem chainDoes_walk (s : List UInt8) (n d z m : Int) (u : Value) (cs : List Int) (v : Value) (l : List (List UInt8)) (w : World) (hl : s.length ≤ 9223372036854775807) (hu : Ints w u cs) (_ : cs.length ≤ maxLen) (hwf : ∀ c ∈ cs, (Lit.int .i64 c).wf = true) (hv : Strs w v l) (hll : l.length ≤ 9223372036854775807) (hT : TabOk w) :
    Calls Tryd.prog 3 #[.string ⟨s.toArray⟩, .int .i64 n, .int .i64 d, MV z m u, v] w fun e w' => e = .returned (.bool true) ∧ Below w.heap.size w w' := by
  by_cases h1 : 200 < s.length
  · exact chainDoes_long s n d z m u v w h1 hl
  by_cases h2 : 40 < cs.length
  · exact chainDoes_many s n d z m u v cs w (by omega) hu h2
  cases hf : chFar l with
  | true => exact chainDoes_far s n d z m u v cs l w (by omega) hu (by omega) hv hll hf
  | false => exact chainDoes_main s n d z m u v cs l w (by omega) hu (by omega) hwf hv hf hT _ _ _ _ _ _ _ _ _ rfl rfl rfl rfl rfl rfl rfl rfl rfl

end Go.Proofs.YtinbeapkhmcifaaDoor
