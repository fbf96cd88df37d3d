/-
  The walk of KeyBack.
-/
import Derived.Test.YtaoiiocgnnjnnaaDoorKeyed
import Derived.Test.YtaoiiocgnnjnnaaDoorShort
namespace Go.Proofs.YtaoiiocgnnjnnaaDoor
open Go.RowKit

theorem getK_none {s : List UInt8} (h : getB s = false) : getK s = ([], 0) ∧ getE s = 30 := by
  unfold getK getE
  rw [h]
  exact ⟨rfl, rfl⟩
theorem getK_some {s : List UInt8} (h : getB s = true) : ∃ q m, getK s = (q, m) ∧ getE s = 0 ∧ keyB (q, m) = true ∧ putT (q, m) = s ∧ putE (q, m) = 0 ∧ q.length ≤ s.length := by
  have e : getE s = 0 := by unfold getE; rw [if_pos h]
  obtain ⟨h1, h2, h3⟩ := get_put e
  refine ⟨(getK s).1, (getK s).2, rfl, e, h1, h3, h2, ?_⟩
  unfold getK
  rw [if_pos h]
  simp [cutK]
theorem put_no {k : Ky} (h : keyB k = false) : putT k = [] ∧ putE k = 1 := by
  unfold putT putE
  rw [h]
  exact ⟨rfl, rfl⟩
theorem put_yes {k : Ky} (h : keyB k = true) : putT k = keyT k ∧ putE k = 0 ∧ getK (keyT k) = k ∧ getE (keyT k) = 0 ∧ (keyT k).length = k.1.length + 5 := by
  unfold putT putE
  rw [if_pos h, if_pos h]
  exact ⟨rfl, rfl, (getK_keyT h).1, (getK_keyT h).2, keyT_length k⟩
theorem get_nil : getK [] = ([], 0) ∧ getE [] = 30 := by decide
theorem put_root : putT ([], 0) = [0, 255, 255, 255, 255] ∧ putE ([], 0) = 0 := by decide

set_option maxRecDepth 100000 in
set_option maxHeartbeats 16000000 in
theorem keyBack_walk (p : List UInt8) (n : Int) (s : List UInt8) (w : World) (hm : Ml w) :
    Calls Tryd.prog 4 #[.agg #[.string ⟨p.toArray⟩, .int .i64 n], .string ⟨s.toArray⟩] w fun e w' => e = .returned (.bool true) ∧ Below w.heap.size w w' := by
  have hB0 := below_alloc2 w (.cells #[.string ⟨p.toArray⟩, .int .i64 n] 23) (.cells #[SV p, SV s] 9)
  have hm0 := hm.below hB0
  have hA := Lib.hid ((Cx.new w 23 [.string ⟨p.toArray⟩, .int .i64 n]).below (below_alloc _ (.cells #[SV p, SV s] 9)))
  have CS := short_calls _ [p, s] _ (strs_new (w.alloc (.cells #[.string ⟨p.toArray⟩, .int .i64 n] 23)) [p, s] 9) (by simp)
  rw [World.size_alloc] at CS
  cases hs : shortB [p, s] with
  | false =>
    rw [hs] at CS
    go_enter Tryd.func4, Tryd.ntmps4
    go_wp2_with fail
    refine CS.mono ?_
    rintro e w1 ⟨rfl, rfl⟩
    go_wp2_with fail
    go_ret
    exact ⟨rfl, hB0⟩
  | true =>
    rw [hs] at CS
    have hl3 : p.length ≤ 300 ∧ s.length ≤ 300 := by simpa [shortB] using hs
    obtain ⟨h3, h4⟩ := hl3
    have C0 := Lib.hid CS
    clear CS hs
    cases hk : keyB (p, n) with
    | false =>
      have PT := Lib.hid (put_no hk).1
      have PE := Lib.hid (put_no hk).2
      have GK := Lib.hid get_nil.1
      have GE := Lib.hid get_nil.2
      have HK := Lib.hid hk
      clear hk
      cases hg : getB s with
      | false =>
        have SK := Lib.hid (getK_none hg).1
        have SE := Lib.hid (getK_none hg).2
        have QT := Lib.hid put_root.1
        have QE := Lib.hid put_root.2
        clear hg
        go_enter Tryd.func4, Tryd.ntmps4
        go_wp2_with fail
        refine C0.out.mono ?_
        rintro e w0 ⟨rfl, rfl⟩
        go_wp2_with fail
        refine (kPut_calls p n (by omega) _ hm0).mono ?_
        rintro e w1 ⟨rfl, hB1⟩
        rw [PT.out, PE.out]
        have hm1 := hm0.below hB1
        go_wp2_with fail
        refine (kGet_calls [] (by decide) _ hm1).mono ?_
        rintro e w2 ⟨rfl, hB2⟩
        rw [GK.out, GE.out]
        have hAb := ((hA.out.below hB1).below hB2).below (below_alloc w2 (.cells #[.string ⟨#[]⟩, .int .i64 0] 23))
        obtain ⟨c0, c1, _⟩ := hAb.two
        have hm2 := (hm1.below hB2).below (below_alloc w2 (.cells #[.string ⟨#[]⟩, .int .i64 0] 23))
        have hC2 := below2 (below3 hB0 hB1 hB2) (below_alloc w2 (.cells #[.string ⟨#[]⟩, .int .i64 0] 23))
        clear hAb
        go_wp2_with fail
        refine (kIs_calls p n (by omega) _ hm2).mono ?_
        rintro e w3 ⟨rfl, hB3⟩
        rw [HK.out]
        have hm3 := hm2.below hB3
        clear c0 c1
        go_wp2_with fail
        refine (kGet_calls s (by omega) _ hm3).mono ?_
        rintro e w4 ⟨rfl, hB4⟩
        rw [SK.out, SE.out]
        have hm4 := (hm3.below hB4).below (below_alloc w4 (.cells #[.string ⟨#[]⟩, .int .i64 0] 23))
        have hQ := Lib.hid (Cx.new w4 23 [.string ⟨#[]⟩, .int .i64 0])
        have hC4 := below2 (below3 hC2 hB3 hB4) (below_alloc w4 (.cells #[.string ⟨#[]⟩, .int .i64 0] 23))
        go_wp2_with fail
        refine (kPut_calls [] 0 (by decide) _ hm4).mono ?_
        rintro e w5 ⟨rfl, hB5⟩
        rw [QT.out, QE.out]
        have hm5 := hm4.below hB5
        go_wp2_with fail
        refine (keyed_calls _ hm5).mono ?_
        rintro e w6 ⟨rfl, hB6⟩
        go_wp2_with fail
        go_ret
        exact ⟨rfl, below3 hC4 hB5 hB6⟩
      | true =>
        obtain ⟨q, m, f1, f2, f3, f4, f5, f6⟩ := getK_some hg
        have SK := Lib.hid f1
        have SE := Lib.hid f2
        have QK := Lib.hid f3
        have QT := Lib.hid f4
        have QE := Lib.hid f5
        have hql : q.length ≤ 300 := by omega
        clear f1 f2 f3 f4 f5 f6 hg
        go_enter Tryd.func4, Tryd.ntmps4
        go_wp2_with fail
        refine C0.out.mono ?_
        rintro e w0 ⟨rfl, rfl⟩
        go_wp2_with fail
        refine (kPut_calls p n (by omega) _ hm0).mono ?_
        rintro e w1 ⟨rfl, hB1⟩
        rw [PT.out, PE.out]
        have hm1 := hm0.below hB1
        go_wp2_with fail
        refine (kGet_calls [] (by decide) _ hm1).mono ?_
        rintro e w2 ⟨rfl, hB2⟩
        rw [GK.out, GE.out]
        have hAb := ((hA.out.below hB1).below hB2).below (below_alloc w2 (.cells #[.string ⟨#[]⟩, .int .i64 0] 23))
        obtain ⟨c0, c1, _⟩ := hAb.two
        have hm2 := (hm1.below hB2).below (below_alloc w2 (.cells #[.string ⟨#[]⟩, .int .i64 0] 23))
        have hC2 := below2 (below3 hB0 hB1 hB2) (below_alloc w2 (.cells #[.string ⟨#[]⟩, .int .i64 0] 23))
        clear hAb
        go_wp2_with fail
        refine (kIs_calls p n (by omega) _ hm2).mono ?_
        rintro e w3 ⟨rfl, hB3⟩
        rw [HK.out]
        have hm3 := hm2.below hB3
        clear c0 c1
        go_wp2_with fail
        refine (kGet_calls s (by omega) _ hm3).mono ?_
        rintro e w4 ⟨rfl, hB4⟩
        rw [SK.out, SE.out]
        have hm4 := (hm3.below hB4).below (below_alloc w4 (.cells #[.string ⟨q.toArray⟩, .int .i64 m] 23))
        have hQ := Lib.hid (Cx.new w4 23 [.string ⟨q.toArray⟩, .int .i64 m])
        have hC4 := below2 (below3 hC2 hB3 hB4) (below_alloc w4 (.cells #[.string ⟨q.toArray⟩, .int .i64 m] 23))
        go_wp2_with fail
        refine (kPut_calls q m (by omega) _ hm4).mono ?_
        rintro e w5 ⟨rfl, hB5⟩
        rw [QT.out, QE.out]
        have hm5 := hm4.below hB5
        go_wp2_with fail
        refine (keyed_calls _ hm5).mono ?_
        rintro e w6 ⟨rfl, hB6⟩
        obtain ⟨d0, d1, _⟩ := (hQ.out.below (below2 hB5 hB6)).two
        go_wp2_with fail
        refine (kIs_calls q m (by omega) _ (hm5.below hB6)).mono ?_
        rintro e w7 ⟨rfl, hB7⟩
        rw [QK.out]
        go_wp2_with fail
        go_ret
        exact ⟨rfl, below2 hC4 (below3 hB5 hB6 hB7)⟩
    | true =>
      obtain ⟨e1, e2, e3, e4, e5⟩ := put_yes hk
      obtain ⟨T, hT⟩ : ∃ T, keyT (p, n) = T := ⟨_, rfl⟩
      rw [hT] at e1 e3 e4 e5
      dsimp only at e5
      have hTl : T.length ≤ 1000000 := by omega
      have PT := Lib.hid e1
      have PE := Lib.hid e2
      have GK := Lib.hid e3
      have GE := Lib.hid e4
      have HK := Lib.hid hk
      clear e1 e2 e3 e4 e5 hT hk
      cases hg : getB s with
      | false =>
        have SK := Lib.hid (getK_none hg).1
        have SE := Lib.hid (getK_none hg).2
        have QT := Lib.hid put_root.1
        have QE := Lib.hid put_root.2
        clear hg
        go_enter Tryd.func4, Tryd.ntmps4
        go_wp2_with fail
        refine C0.out.mono ?_
        rintro e w0 ⟨rfl, rfl⟩
        go_wp2_with fail
        refine (kPut_calls p n (by omega) _ hm0).mono ?_
        rintro e w1 ⟨rfl, hB1⟩
        rw [PT.out, PE.out]
        have hm1 := hm0.below hB1
        go_wp2_with fail
        refine (kGet_calls T (by omega) _ hm1).mono ?_
        rintro e w2 ⟨rfl, hB2⟩
        rw [GK.out, GE.out]
        have hAb := ((hA.out.below hB1).below hB2).below (below_alloc w2 (.cells #[.string ⟨p.toArray⟩, .int .i64 n] 23))
        obtain ⟨c0, c1, _⟩ := hAb.two
        have hm2 := (hm1.below hB2).below (below_alloc w2 (.cells #[.string ⟨p.toArray⟩, .int .i64 n] 23))
        have hC2 := below2 (below3 hB0 hB1 hB2) (below_alloc w2 (.cells #[.string ⟨p.toArray⟩, .int .i64 n] 23))
        clear hAb
        go_wp2_with fail
        refine (kIs_calls p n (by omega) _ hm2).mono ?_
        rintro e w3 ⟨rfl, hB3⟩
        rw [HK.out]
        have hm3 := hm2.below hB3
        clear c0 c1
        go_wp2_with fail
        refine (kGet_calls s (by omega) _ hm3).mono ?_
        rintro e w4 ⟨rfl, hB4⟩
        rw [SK.out, SE.out]
        have hm4 := (hm3.below hB4).below (below_alloc w4 (.cells #[.string ⟨#[]⟩, .int .i64 0] 23))
        have hQ := Lib.hid (Cx.new w4 23 [.string ⟨#[]⟩, .int .i64 0])
        have hC4 := below2 (below3 hC2 hB3 hB4) (below_alloc w4 (.cells #[.string ⟨#[]⟩, .int .i64 0] 23))
        go_wp2_with fail
        refine (kPut_calls [] 0 (by decide) _ hm4).mono ?_
        rintro e w5 ⟨rfl, hB5⟩
        rw [QT.out, QE.out]
        have hm5 := hm4.below hB5
        go_wp2_with fail
        refine (keyed_calls _ hm5).mono ?_
        rintro e w6 ⟨rfl, hB6⟩
        go_wp2_with fail
        go_ret
        exact ⟨rfl, below3 hC4 hB5 hB6⟩
      | true =>
        obtain ⟨q, m, f1, f2, f3, f4, f5, f6⟩ := getK_some hg
        have SK := Lib.hid f1
        have SE := Lib.hid f2
        have QK := Lib.hid f3
        have QT := Lib.hid f4
        have QE := Lib.hid f5
        have hql : q.length ≤ 300 := by omega
        clear f1 f2 f3 f4 f5 f6 hg
        go_enter Tryd.func4, Tryd.ntmps4
        go_wp2_with fail
        refine C0.out.mono ?_
        rintro e w0 ⟨rfl, rfl⟩
        go_wp2_with fail
        refine (kPut_calls p n (by omega) _ hm0).mono ?_
        rintro e w1 ⟨rfl, hB1⟩
        rw [PT.out, PE.out]
        have hm1 := hm0.below hB1
        go_wp2_with fail
        refine (kGet_calls T (by omega) _ hm1).mono ?_
        rintro e w2 ⟨rfl, hB2⟩
        rw [GK.out, GE.out]
        have hAb := ((hA.out.below hB1).below hB2).below (below_alloc w2 (.cells #[.string ⟨p.toArray⟩, .int .i64 n] 23))
        obtain ⟨c0, c1, _⟩ := hAb.two
        have hm2 := (hm1.below hB2).below (below_alloc w2 (.cells #[.string ⟨p.toArray⟩, .int .i64 n] 23))
        have hC2 := below2 (below3 hB0 hB1 hB2) (below_alloc w2 (.cells #[.string ⟨p.toArray⟩, .int .i64 n] 23))
        clear hAb
        go_wp2_with fail
        refine (kIs_calls p n (by omega) _ hm2).mono ?_
        rintro e w3 ⟨rfl, hB3⟩
        rw [HK.out]
        have hm3 := hm2.below hB3
        clear c0 c1
        go_wp2_with fail
        refine (kGet_calls s (by omega) _ hm3).mono ?_
        rintro e w4 ⟨rfl, hB4⟩
        rw [SK.out, SE.out]
        have hm4 := (hm3.below hB4).below (below_alloc w4 (.cells #[.string ⟨q.toArray⟩, .int .i64 m] 23))
        have hQ := Lib.hid (Cx.new w4 23 [.string ⟨q.toArray⟩, .int .i64 m])
        have hC4 := below2 (below3 hC2 hB3 hB4) (below_alloc w4 (.cells #[.string ⟨q.toArray⟩, .int .i64 m] 23))
        go_wp2_with fail
        refine (kPut_calls q m (by omega) _ hm4).mono ?_
        rintro e w5 ⟨rfl, hB5⟩
        rw [QT.out, QE.out]
        have hm5 := hm4.below hB5
        go_wp2_with fail
        refine (keyed_calls _ hm5).mono ?_
        rintro e w6 ⟨rfl, hB6⟩
        obtain ⟨d0, d1, _⟩ := (hQ.out.below (below2 hB5 hB6)).two
        go_wp2_with fail
        refine (kIs_calls q m (by omega) _ (hm5.below hB6)).mono ?_
        rintro e w7 ⟨rfl, hB7⟩
        rw [QK.out]
        go_wp2_with fail
        go_ret
        exact ⟨rfl, below2 hC4 (below3 hB5 hB6 hB7)⟩

end Go.Proofs.YtaoiiocgnnjnnaaDoor
