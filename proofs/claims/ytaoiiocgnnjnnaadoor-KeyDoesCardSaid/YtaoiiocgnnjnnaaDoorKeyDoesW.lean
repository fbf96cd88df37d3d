/-
  The walk of KeyDoes.
-/
import Derived.Test.YtaoiiocgnnjnnaaDoorKeyed
import Derived.Test.YtaoiiocgnnjnnaaDoorKyFirst
import Derived.Test.YtaoiiocgnnjnnaaDoorKyRefF
import Derived.Test.YtaoiiocgnnjnnaaDoorKyRefG
import Derived.Test.YtaoiiocgnnjnnaaDoorKyRefC
import Derived.Test.YtaoiiocgnnjnnaaDoorShort
import Derived.Deep.DeepCutAuto
import Derived.Deep.RegionHeld3
namespace Go.Proofs.YtaoiiocgnnjnnaaDoor
open Go.RowKit

set_option maxRecDepth 100000 in
set_option maxHeartbeats 16000000 in
theorem keyDoes_walk (p q s : List UInt8) (n m at_ : Int) (w : World) (hm : Ml w) :
    Calls Tryd.prog 3 #[.agg #[.string ⟨p.toArray⟩, .int .i64 n], .agg #[.string ⟨q.toArray⟩, .int .i64 m], .string ⟨s.toArray⟩, .int .i64 at_] w fun e w' => e = .returned (.bool true) ∧ Below w.heap.size w w' := by
  have hB0 := below_alloc3 w (.cells #[.string ⟨p.toArray⟩, .int .i64 n] 23) (.cells #[.string ⟨q.toArray⟩, .int .i64 m] 23) (.cells ([p, q, s].map SV).toArray 9)
  have hm0 := hm.below hB0
  have CS := short_calls _ [p, q, s] _ (strs_new ((w.alloc (.cells #[.string ⟨p.toArray⟩, .int .i64 n] 23)).alloc (.cells #[.string ⟨q.toArray⟩, .int .i64 m] 23)) [p, q, s] 9) (by simp)
  rw [World.size_alloc, World.size_alloc] at CS
  cases hs : shortB [p, q, s] with
  | false =>
    rw [hs] at CS
    go_enter Tryd.func3, Tryd.ntmps3
    go_wp2_with fail
    refine CS.mono ?_
    rintro e w1 ⟨rfl, rfl⟩
    go_wp2_with fail
    go_ret
    exact ⟨rfl, hB0⟩
  | true =>
    rw [hs] at CS
    have hl3 : p.length ≤ 300 ∧ q.length ≤ 300 ∧ s.length ≤ 300 := by simpa [shortB] using hs
    obtain ⟨h1, h2, h3⟩ := hl3
    have C0 := Lib.hid CS
    clear CS hs
    have hA0 := (Cx.new w 23 [.string ⟨p.toArray⟩, .int .i64 n]).below (below_alloc2 _ (.cells #[.string ⟨q.toArray⟩, .int .i64 m] 23) (.cells ([p, q, s].map SV).toArray 9))
    have hQ0 := (Cx.new (w.alloc (.cells #[.string ⟨p.toArray⟩, .int .i64 n] 23)) 23 [.string ⟨q.toArray⟩, .int .i64 m]).below (below_alloc _ (.cells ([p, q, s].map SV).toArray 9))
    simp only [World.size_alloc] at hQ0
    have hA := Lib.hid hA0
    have hQ := Lib.hid hQ0
    clear hA0 hQ0
    obtain ⟨x, hx⟩ : ∃ c, putT (p, n) = c := ⟨_, rfl⟩
    have Hx := Lib.hid hx
    clear hx
    obtain ⟨ex, hex⟩ : ∃ c, putE (p, n) = c := ⟨_, rfl⟩
    have Hex := Lib.hid hex
    clear hex
    obtain ⟨gk, hgk⟩ : ∃ c, getK s = c := ⟨_, rfl⟩
    have Hgk := Lib.hid hgk
    clear hgk
    obtain ⟨ge, hge⟩ : ∃ c, getE s = c := ⟨_, rfl⟩
    have Hge := Lib.hid hge
    clear hge
    obtain ⟨fk, hfk⟩ : ∃ c, firstK s at_ = c := ⟨_, rfl⟩
    have Hfk := Lib.hid hfk
    clear hfk
    obtain ⟨fe, hfe⟩ : ∃ c, firstE s at_ = c := ⟨_, rfl⟩
    have Hfe := Lib.hid hfe
    clear hfe
    obtain ⟨g1, g2⟩ := gk
    obtain ⟨f1, f2⟩ := fk
    go_enter Tryd.func3, Tryd.ntmps3
    go_wp2_with fail
    refine C0.out.mono ?_
    rintro e w0 ⟨rfl, rfl⟩
    go_wp2_with fail
    refine (kPut_calls p n (by omega) _ hm0).mono ?_
    rintro e w1 ⟨rfl, hB1⟩
    rw [Hx.out, Hex.out]
    have hC1 := hB1
    have hD1 := hC1
    have hm1 := hm0.below hD1
    obtain ⟨a0, a1, _⟩ := (hA.out.below hD1).two
    go_wp2_with fail
    refine (kRefPut_calls p n (by omega) _).mono ?_
    rintro e w2 ⟨rfl, hB2⟩
    rw [Hx.out, Hex.out]
    have hC2 := below2 hD1 hB2
    have hD2 := hC2
    have hm2 := hm0.below hD2
    clear a0 a1
    go_wp2_with fail
    refine (kGet_calls s (by omega) _ hm2).mono ?_
    rintro e w3 ⟨rfl, hB3⟩
    rw [Hgk.out, Hge.out]
    have hC3 := below2 hD2 hB3
    have hD3 := below2 hC3 (below_alloc w3 (.cells #[.string ⟨g1.toArray⟩, .int .i64 g2] 23))
    have hG1 := Lib.hid (Cx.new w3 23 [.string ⟨g1.toArray⟩, .int .i64 g2])
    have hm3 := hm0.below hD3
    go_wp2_with fail
    refine (kRefGet_calls s (by omega) _).mono ?_
    rintro e w4 ⟨rfl, hB4⟩
    rw [Hgk.out, Hge.out]
    have hC4 := below2 hD3 hB4
    have hD4 := below2 hC4 (below_alloc w4 (.cells #[.string ⟨g1.toArray⟩, .int .i64 g2] 23))
    have hG2 := Lib.hid (Cx.new w4 23 [.string ⟨g1.toArray⟩, .int .i64 g2])
    have hm4 := hm0.below hD4
    go_wp2_with fail
    refine (kFirst_calls s at_ (by omega) _ hm4).mono ?_
    rintro e w5 ⟨rfl, hB5⟩
    rw [Hfk.out, Hfe.out]
    have hC5 := below2 hD4 hB5
    have hD5 := below2 hC5 (below_alloc w5 (.cells #[.string ⟨f1.toArray⟩, .int .i64 f2] 23))
    have hF1 := Lib.hid (Cx.new w5 23 [.string ⟨f1.toArray⟩, .int .i64 f2])
    have hm5 := hm0.below hD5
    go_wp2_with fail
    refine (kRefFirst_calls s at_ (by omega) _).mono ?_
    rintro e w6 ⟨rfl, hB6⟩
    rw [Hfk.out, Hfe.out]
    have hC6 := below2 hD5 hB6
    have hD6 := below2 hC6 (below_alloc w6 (.cells #[.string ⟨f1.toArray⟩, .int .i64 f2] 23))
    have hF2 := Lib.hid (Cx.new w6 23 [.string ⟨f1.toArray⟩, .int .i64 f2])
    have hm6 := hm0.below hD6
    go_wp2_with fail
    have kA := hA.out.below hD6
    have kQ := hQ.out.below hD6
    have kG1 := ((((((hG1.out.below hB4).below (below_alloc w4 (.cells #[.string ⟨g1.toArray⟩, .int .i64 g2] 23))).below hB5).below (below_alloc w5 (.cells #[.string ⟨f1.toArray⟩, .int .i64 f2] 23))).below hB6).below (below_alloc w6 (.cells #[.string ⟨f1.toArray⟩, .int .i64 f2] 23)))
    have kG2 := ((((hG2.out.below hB5).below (below_alloc w5 (.cells #[.string ⟨f1.toArray⟩, .int .i64 f2] 23))).below hB6).below (below_alloc w6 (.cells #[.string ⟨f1.toArray⟩, .int .i64 f2] 23)))
    have kF1 := ((hF1.out.below hB6).below (below_alloc w6 (.cells #[.string ⟨f1.toArray⟩, .int .i64 f2] 23)))
    have kF2 := hF2.out
    have hmW := hm6
    have hBW := below2 hB0 hD6
    obtain ⟨W, hW⟩ : ∃ W, W = w6.alloc (.cells #[.string ⟨f1.toArray⟩, .int .i64 f2] 23) := ⟨_, rfl⟩
    rw [← hW] at kA kQ kG1 kG2 kF1 kF2 hmW hBW ⊢
    clear hW
    have HS : Hid (∀ w', Below W.heap.size W w' → w'.cell? ⟨w.heap.size, 0, none⟩ = some (.string ⟨p.toArray⟩) ∧ w'.cell? ⟨w.heap.size, 1, none⟩ = some (.int .i64 n) ∧ w'.cell? ⟨w.heap.size + 1, 0, none⟩ = some (.string ⟨q.toArray⟩) ∧ w'.cell? ⟨w.heap.size + 1, 1, none⟩ = some (.int .i64 m) ∧ w'.cell? ⟨w3.heap.size, 0, none⟩ = some (.string ⟨g1.toArray⟩) ∧ w'.cell? ⟨w3.heap.size, 1, none⟩ = some (.int .i64 g2) ∧ w'.cell? ⟨w4.heap.size, 0, none⟩ = some (.string ⟨g1.toArray⟩) ∧ w'.cell? ⟨w4.heap.size, 1, none⟩ = some (.int .i64 g2) ∧ w'.cell? ⟨w5.heap.size, 0, none⟩ = some (.string ⟨f1.toArray⟩) ∧ w'.cell? ⟨w5.heap.size, 1, none⟩ = some (.int .i64 f2) ∧ w'.cell? ⟨w6.heap.size, 0, none⟩ = some (.string ⟨f1.toArray⟩) ∧ w'.cell? ⟨w6.heap.size, 1, none⟩ = some (.int .i64 f2)) := Lib.hid (fun w' hb => ⟨(kA.below hb).two.1, (kA.below hb).two.2.1, (kQ.below hb).two.1, (kQ.below hb).two.2.1, (kG1.below hb).two.1, (kG1.below hb).two.2.1, (kG2.below hb).two.1, (kG2.below hb).two.2.1, (kF1.below hb).two.1, (kF1.below hb).two.2.1, (kF2.below hb).two.1, (kF2.below hb).two.2.1⟩)
    obtain ⟨kb, hkb⟩ : ∃ c, keyB (p, n) = c := ⟨_, rfl⟩
    obtain ⟨lt, hlt⟩ : ∃ c, aheadK (p, n) (q, m) = c := ⟨_, rfl⟩
    obtain ⟨cm, hcm⟩ : ∃ c, cmpK (p, n) (q, m) = c := ⟨_, rfl⟩
    have hll := lessK_ahead (p, n) (q, m)
    rw [hlt] at hll
    have CK := Lib.hid (fun (V : World) (hb : Below W.heap.size W V) => keyed_calls V (hmW.below hb))
    have CI := Lib.hid (fun (V : World) (hb : Below W.heap.size W V) => kIs_calls p n (by omega) V (hmW.below hb))
    rw [hkb] at CI
    have CJ := Lib.hid (fun (V : World) (_ : Below W.heap.size W V) => kRefIs_calls p n (by omega) V)
    rw [hkb] at CJ
    have CL := Lib.hid (fun (V : World) (_ : Below W.heap.size W V) => kLess_calls p q n m V)
    rw [hll] at CL
    have CM := Lib.hid (fun (V : World) (_ : Below W.heap.size W V) => kRefLess_calls p q n m V)
    rw [hlt] at CM
    have CC := Lib.hid (fun (V : World) (_ : Below W.heap.size W V) => kCompare_calls p q n m V)
    rw [hcm] at CC
    have CD := Lib.hid (fun (V : World) (_ : Below W.heap.size W V) => kRefCompare_calls p q n m V)
    rw [hcm] at CD
    clear hlt hll hcm hkb kA kQ kG1 kG2 kF1 kF2 hmW hm0 hm1 hm2 hm3 hm4 hm5 hm6 hB0 hB1 hB2 hB3 hB4 hB5 hB6 hC1 hC2 hC3 hC4 hC5 hC6 hD1 hD2 hD3 hD4 hD5 hD6 hA hQ hG1 hG2 hF1 hF2
    have hbr : Below W.heap.size W W.drew := drew_below _
    go_cut [8] (fun b wc => b = .bool true ∧ Below W.heap.size W wc)
    case first =>
      go_region_held3 (fun w' => w'.cell? ⟨w.heap.size, 0, none⟩ = some (.string ⟨p.toArray⟩) ∧ w'.cell? ⟨w.heap.size, 1, none⟩ = some (.int .i64 n) ∧ w'.cell? ⟨w.heap.size + 1, 0, none⟩ = some (.string ⟨q.toArray⟩) ∧ w'.cell? ⟨w.heap.size + 1, 1, none⟩ = some (.int .i64 m) ∧ w'.cell? ⟨w3.heap.size, 0, none⟩ = some (.string ⟨g1.toArray⟩) ∧ w'.cell? ⟨w3.heap.size, 1, none⟩ = some (.int .i64 g2) ∧ w'.cell? ⟨w4.heap.size, 0, none⟩ = some (.string ⟨g1.toArray⟩) ∧ w'.cell? ⟨w4.heap.size, 1, none⟩ = some (.int .i64 g2) ∧ w'.cell? ⟨w5.heap.size, 0, none⟩ = some (.string ⟨f1.toArray⟩) ∧ w'.cell? ⟨w5.heap.size, 1, none⟩ = some (.int .i64 f2) ∧ w'.cell? ⟨w6.heap.size, 0, none⟩ = some (.string ⟨f1.toArray⟩) ∧ w'.cell? ⟨w6.heap.size, 1, none⟩ = some (.int .i64 f2)) (first | exact HS.out _ hbr) (first | (go_at_call 15; ((with_reducible refine (CK.out _ hbr).mono ?_); rintro e wx ⟨he, hBx⟩; subst he; have hbr := below2 hbr hBx)) | (go_at_call 16; ((with_reducible refine (CI.out _ hbr).mono ?_); rintro e wx ⟨he, hBx⟩; subst he; have hbr := below2 hbr hBx)) | (go_at_call 17; ((with_reducible refine (CJ.out _ hbr).mono ?_); rintro e wx ⟨he, hBx⟩; subst he; have hbr := below2 hbr hBx)) | (go_at_call 18; ((with_reducible refine (CL.out _ hbr).mono ?_); rintro e wx ⟨he, hBx⟩; subst he; have hbr := below2 hbr hBx)) | (go_at_call 19; ((with_reducible refine (CM.out _ hbr).mono ?_); rintro e wx ⟨he, hBx⟩; subst he; have hbr := below2 hbr hBx)) | (go_at_call 20; ((with_reducible refine (CC.out _ hbr).mono ?_); rintro e wx ⟨he, hBx⟩; subst he; have hbr := below2 hbr hBx)) | (go_at_call 21; ((with_reducible refine (CD.out _ hbr).mono ?_); rintro e wx ⟨he, hBx⟩; subst he; have hbr := below2 hbr hBx)))
      go_wp2_with fail
      go_meet
      case rel => exact ⟨rfl, hbr⟩
    case rest =>
      obtain ⟨rfl, hcw⟩ := hcut
      go_wp2_with fail
      go_ret
      exact ⟨rfl, below2 hBW hcw⟩

end Go.Proofs.YtaoiiocgnnjnnaaDoor
