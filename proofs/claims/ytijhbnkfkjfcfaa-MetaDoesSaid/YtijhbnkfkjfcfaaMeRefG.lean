/-
  The document's own Get of metas.
-/
import Derived.Test.YtijhbnkfkjfcfaaMeRefN
import Derived.Test.YtijhbnkfkjfcfaaMeRefI
import Derived.Test.YtijhbnkfkjfcfaaMeGet
import Derived.Test.YtijhbnkfkjfcfaaIntsFrom
import Derived.Test.YtijhbnkfkjfcfaaNilApp
namespace Go.Proofs.Ytijhbnkfkjfcfaa
set_option maxRecDepth 100000
open Go.RowKit

set_option maxHeartbeats 4000000 in
theorem rGet_calls (s : List UInt8) (hs : s.length ≤ 1000) (w : World) :
    Calls Try.prog 12 #[.string ⟨s.toArray⟩] w fun e w' => ∃ v, e = .returned (.tuple #[MV (gotM s).1 (gotM s).2.1 v, .int .i64 (gotE s)]) ∧ OwnI w' w.heap.size v (gotM s).2.2 ∧ Below w.heap.size w w' := by
  have HX := Lib.hid (Cx.new w 24 [.int .i64 0, .int .i64 0, .slice none 0 0])
  have KN := Lib.hid (fun W => rNums_calls s (by omega) W)
  have HE : ∀ m, getM s = some m → gotM s = m ∧ gotE s = 0 := fun m h => ⟨by simp [gotM, h], by simp [gotE, h]⟩
  have HE0 : getM s = none → gotM s = (0, 0, []) ∧ gotE s = 30 := fun h => ⟨by simp [gotM, h], by simp [gotE, h]⟩
  obtain ⟨gm, hgm⟩ : ∃ x, gotM s = x := ⟨_, rfl⟩
  obtain ⟨ge, hge⟩ : ∃ x, gotE s = x := ⟨_, rfl⟩
  rw [hgm] at HE HE0 ⊢
  rw [hge] at HE HE0 ⊢
  have HE := Lib.hid HE
  have HE0 := Lib.hid HE0
  clear hgm hge
  go_enter Try.func12, Try.ntmps12
  go_wp2_with fail
  refine (KN.out _).mono ?_
  rintro e w1 ⟨hB1, ⟨ns, v, hsn, hok, rfl, hown⟩ | ⟨hno, rfl⟩⟩
  · have HX1 := Lib.hid (HX.out.below hB1)
    have hcnt := nums_count ns
    rw [← hsn] at hcnt
    have hB := below2 (below_alloc w _) hB1
    obtain ⟨ao, cap, rfl⟩ := (ints_own hown).form
    by_cases h3 : ns.length < 3
    · obtain ⟨h1, h2⟩ := HE0.out (by rw [hsn]; exact getM_few hok h3)
      subst h1
      subst h2
      have hd : decide ((ns.length : Int) < 3) = true := by rw [decide_eq_true_eq]; omega
      have HO := Lib.hid hown
      have HB := Lib.hid hB
      obtain ⟨c0, c1, c2, f0, f1, f2, hlt⟩ := HX1.out.three
      clear hsn hok hown hB hcnt
      go_wp2_with fail
      obtain ⟨x0, x1, x2, _⟩ := (HX1.out.sets3 (.int .i64 0) (.int .i64 0) (.slice none 0 0)).three
      exact ret_meta2 rfl rfl w.heap.size _ _ _ _ rfl rfl x0 x1 x2 ⟨_, rfl, World.ownsRow_nil _ _ _ _, below_sets3 HB.out (Nat.le_refl _) _ _ _⟩
    · have hd : decide ((ns.length : Int) < 3) = false := by rw [decide_eq_false_iff_not]; omega
      match ns, hsn, hok, hown, hcnt, h3, hd with
      | [], _, _, _, _, h3, _ => simp at h3
      | [_], _, _, _, _, h3, _ => simp at h3
      | [_, _], _, _, _, _, h3, _ => simp at h3
      | z :: d :: n :: cs, hsn, hok, hown, hcnt, h3, hd =>
        obtain ⟨k, hk⟩ : ∃ k, (z :: d :: n :: cs).length = k := ⟨_, rfl⟩
        have hkc : k = cs.length + 3 := by rw [← hk]; simp
        obtain ⟨b, off, rfl, hcs⟩ := (ints_own hown).first (by simp)
        obtain ⟨a1, q1, hsl, hI1⟩ := ints_from (ints_own hown) 3 cs.length (by simp) (by simp; omega)
        have d0 := hcs 0 (by simp)
        have d1 := hcs 1 (by simp)
        have d2 := hcs 2 (by simp)
        simp only [List.getElem_cons_zero, List.getElem_cons_succ, Nat.add_zero] at d0 d1 d2
        simp only [List.drop_succ_cons, List.drop_zero] at hI1
        rw [hk] at hsl hd ⊢
        have hsl2 : ∀ W, (Instr.slice 22 (.slice (some ⟨b, off, none⟩) k cap) (some (.int .i64 3)) none none).run Try.prog W = .ok (.slice a1 cs.length q1) W := hsl
        clear hsl
        have hk3 : 3 ≤ k := by omega
        have hk1 : k ≤ 1000 := by omega
        obtain ⟨c0, c1, c2, f0, f1, f2, hlt⟩ := HX1.out.three
        have HB := Lib.hid hB
        by_cases hn : n = cs.length
        · subst hn
          have hcmp : ((cs.length : Int) != (k : Int) - 3) = false := by rw [bne_eq_false_iff_eq]; omega
          have HG : Hid (getM s = if metaB z d cs then some (z, d, cs) else none) := Lib.hid (by rw [hsn]; exact getM_all hok)
          have HI1 := Lib.hid hI1
          have hc1 : cs.length ≤ 1000 := by omega
          clear hsn hok hown hB hcnt hkc hk h3 hcs hI1
          have hk0 : 0 < k := by omega
          have hk2 : 1 < k := by omega
          have y0 := look_below ((below_alloc w1 (.cells #[.int .i64 0, .int .i64 0, .slice none 0 0] 24)).drew) d0
          have y1 := look_below ((below_alloc w1 (.cells #[.int .i64 0, .int .i64 0, .slice none 0 0] 24)).drew) d1
          have z0 := look_below (drew_below w1) d0
          have z1 := look_below (drew_below w1) d1
          go_wp2_with fail
          go_region
          clear y0 y1 z0 z1 hk0 hk2
          have hM0 := Cx.new w1 24 [.int .i64 z, .int .i64 d, .slice none 0 0]
          have hBM : Below w1.heap.size w1 (w1.alloc (.cells #[.int .i64 z, .int .i64 d, .slice none 0 0] 24)).drew := (below_alloc _ _).drew
          have hM : Cx (w1.alloc (.cells #[.int .i64 z, .int .i64 d, .slice none 0 0] 24)).drew w1.heap.size 24 [.int .i64 z, .int .i64 d, .slice none 0 0] := hM0.below (drew_below _)
          have hZ : w1.heap.size < (w1.alloc (.cells #[.int .i64 z, .int .i64 d, .slice none 0 0] 24)).drew.heap.size := hM.lt
          have hR := HI1.out.below (hBM.trans ((drew_below _).mono hBM.size))
          generalize (w1.alloc (.cells #[.int .i64 z, .int .i64 d, .slice none 0 0] 24)).drew = W2 at *
          have hB3 := hBM.trans ((drew_below W2).mono hBM.size)
          have hM3 := hM.below (drew_below W2)
          obtain ⟨e0, e1, e2, g0, g1, g2, _⟩ := hM3.three
          have hZ3 : w1.heap.size < W2.drew.heap.size := hZ
          have HR := Lib.hid hR
          have HM3 := Lib.hid hM3
          have HB3 := Lib.hid hB3
          clear hM0 hBM hM hZ hR hB3 hM3
          obtain ⟨i0, hi, hz0, hz1, hz2⟩ := info_parts int_info
          go_wp2_with fail
          go_region_law (first
            | (refine step_append_nil rfl (.tmp 37) (.tmp 39) 22 rfl (w1.heap.size + 1) 3 i0 (.int .i64 0) 1 8 Try.underlying22 hi hz0 hz1 hz2 rfl Nat.one_pos rfl a1 cs.length q1 (cs.map (Value.int .i64)) rfl HR.out (ints_one cs) hc1 (by decide) hZ3 ?_; intro a5 c5 w5 ho5 hB5; obtain ⟨r0, r1, r2, s0, s1, s2, _⟩ := (HM3.out.below hB5).three))
          have hb5 : Below w1.heap.size w1 w5 := HB3.out.trans (hB5.mono HB3.out.size)
          have hGlt : w.heap.size < w1.heap.size := HX1.out.lt
          have hX6 := (HX1.out.below hb5).other (Nat.ne_of_lt hGlt) (j := 2) (.slice a5 cs.length c5)
          have ho6 := own_above ho5 (Nat.lt_succ_self w1.heap.size) 2 (.slice a5 cs.length c5)
          have hB6 : Below w.heap.size w (w5.setCell ⟨w1.heap.size, 2, none⟩ (.slice a5 cs.length c5)) := (below2 HB.out hb5).setCell (p := ⟨w1.heap.size, 2, none⟩) (Nat.le_of_lt hGlt) _
          have HX6 := Lib.hid hX6
          have HO6 := Lib.hid ho6
          have HB6 := Lib.hid hB6
          have hM6 := ((HM3.out.below hB5).set 2 (.slice a5 cs.length c5))
          have HM6 := Lib.hid hM6
          have hI6 := ints_own ho6
          have HI6 := Lib.hid hI6
          clear hX6 ho6 hB6 hM6 hI6 hb5 ho5 hB5 e0 e1 e2 g0 g1 g2
          go_wp2_with fail
          refine (rIs_calls z d _ cs _ HI6.out (by omega)).mono ?_
          rintro e w7 ⟨rfl, hB7⟩
          have HX7 := Lib.hid (HX6.out.below hB7)
          have HO7 := Lib.hid (own_stays HO6.out hB7)
          have HB7 := Lib.hid (below2 HB6.out hB7)
          have HM7 := Lib.hid (HM6.out.below hB7)
          clear r0 r1 r2 s0 s1 s2
          obtain ⟨r0, r1, r2, s0, s1, s2, _⟩ := HM7.out.three
          obtain ⟨c0, c1, c2, f0, f1, f2, hlt⟩ := HX7.out.three
          cases hm : metaB z d cs with
          | true =>
            obtain ⟨h1, h2⟩ := HE.out (z, d, cs) (by rw [HG.out, hm]; rfl)
            subst h1
            subst h2
            have HZ := Lib.hid hGlt
            clear hm hGlt
            go_wp2_with fail
            obtain ⟨x0, x1, x2, _⟩ := (HX7.out.sets3 (.int .i64 z) (.int .i64 d) (.slice a5 cs.length c5)).three
            refine ret_meta2 rfl rfl w.heap.size _ _ _ _ rfl rfl x0 x1 x2 ⟨_, rfl, ?_, below_sets3 HB7.out (Nat.le_refl _) _ _ _⟩
            have hl := Nat.lt_trans HZ.out (Nat.lt_succ_self w1.heap.size)
            exact own_weak (own_above (own_above (own_above HO7.out hl 0 _) hl 1 _) hl 2 _) (Nat.le_of_lt hl)
          | false =>
            obtain ⟨h1, h2⟩ := HE0.out (by rw [HG.out, hm]; rfl)
            subst h1
            subst h2
            clear hm hGlt
            go_wp2_with fail
            obtain ⟨x0, x1, x2, _⟩ := (HX7.out.sets3 (.int .i64 0) (.int .i64 0) (.slice none 0 0)).three
            exact ret_meta2 rfl rfl w.heap.size _ _ _ _ rfl rfl x0 x1 x2 ⟨_, rfl, World.ownsRow_nil _ _ _ _, below_sets3 HB7.out (Nat.le_refl _) _ _ _⟩
        · have hcmp : (n != (k : Int) - 3) = true := by rw [bne_iff_ne]; omega
          obtain ⟨h1, h2⟩ := HE0.out (by rw [hsn]; exact getM_other hok hn)
          subst h1
          subst h2
          clear hsn hok hown hB hcnt hkc hk h3 hcs hI1 hn
          go_wp2_with fail
          obtain ⟨x0, x1, x2, _⟩ := (HX1.out.sets3 (.int .i64 0) (.int .i64 0) (.slice none 0 0)).three
          exact ret_meta2 rfl rfl w.heap.size _ _ _ _ rfl rfl x0 x1 x2 ⟨_, rfl, World.ownsRow_nil _ _ _ _, below_sets3 HB.out (Nat.le_refl _) _ _ _⟩
  · obtain ⟨h1, h2⟩ := HE0.out (getM_noNums hno)
    subst h1
    subst h2
    have HX1 := Lib.hid (HX.out.below hB1)
    have HB := Lib.hid (below2 (below_alloc w _) hB1)
    obtain ⟨c0, c1, c2, f0, f1, f2, hlt⟩ := HX1.out.three
    go_wp2_with fail
    obtain ⟨x0, x1, x2, _⟩ := (HX1.out.sets3 (.int .i64 0) (.int .i64 0) (.slice none 0 0)).three
    exact ret_meta2 rfl rfl w.heap.size _ _ _ _ rfl rfl x0 x1 x2 ⟨_, rfl, World.ownsRow_nil _ _ _ _, below_sets3 HB.out (Nat.le_refl _) _ _ _⟩

end Go.Proofs.Ytijhbnkfkjfcfaa
