/-
  tree: over (a branch of a row), leafOf.
-/
import Derived.Test.YtgbicdbmmjleoaaTrConcat
import Derived.Test.YtgbicdbmmjleoaaTrMeth
namespace Go.Proofs.Ytgbicdbmmjleoaa
open Go.RowKit

theorem leafOf_calls (v : Value) (w : World) : Calls Try.prog 48 #[v] w fun e w' => e = .returned (.iface 66 v) ∧ w' = w := by
  go_enter Try.func48, Try.ntmps48
  go_wp2_with fail
  go_ret
  exact ⟨rfl, rfl⟩

theorem Cx.four {w : World} {b : Nat} {t : TypeId} {v0 v1 v2 v3 : Value} (h : Cx w b t [v0, v1, v2, v3]) : w.cell? ⟨b, 0, none⟩ = some v0 ∧ w.cell? ⟨b, 1, none⟩ = some v1 ∧ w.cell? ⟨b, 2, none⟩ = some v2 ∧ w.cell? ⟨b, 3, none⟩ = some v3 ∧ w.frozen? ⟨b, 3, none⟩ = false ∧ b < w.heap.size :=
  ⟨h.cell rfl, h.cell rfl, h.cell rfl, h.cell rfl, h.frozen _, h.lt⟩
theorem allC_first {S : List Ch} {x : Pr} {r : List Pr} (h0 : 0 < S.length) (h : (S[0]'h0).2.1 = x :: r) : (allC S).head? = some x := by
  cases S with
  | nil => simp at h0
  | cons c r' =>
    rw [allC_cons]
    simp at h
    rw [h]
    rfl

set_option maxHeartbeats 4000000 in
set_option maxRecDepth 100000 in
theorem over_one (d : Nat) (rv : Value) (c : Ch) (w : World) (h : VRow d w rv [c]) :
    Calls Try.prog 39 #[rv] w fun e w' => e = .returned c.1 ∧ w' = w := by
  obtain ⟨ao, cap, rfl⟩ := h.form
  obtain ⟨b, off, rfl, c0, hx⟩ := h.at (k := 0) (by simp)
  rw [Nat.add_zero] at c0
  simp only [List.getElem_cons_zero] at c0 hx
  obtain ⟨v0, hv0⟩ : ∃ v, c.1 = v := ⟨_, rfl⟩
  rw [hv0] at c0 hx ⊢
  obtain ⟨T, u, rfl⟩ := hx.iface
  clear h hx hv0
  simp only [List.length_singleton]
  go_enter Try.func39, Try.ntmps39
  go_wp2_with fail
  go_ret
  exact ⟨rfl, rfl⟩

set_option maxHeartbeats 4000000 in
set_option maxRecDepth 100000 in
theorem over_calls (d : Nat) (rv : Value) (S : List Ch) (w : World) (h : VRow d w rv S) (hw : Wide S) (h1 : 2 ≤ S.length) (hm : (allC S).length ≤ 1000000) :
    Calls Try.prog 39 #[rv] w fun e w' => ∃ v, e = .returned v ∧ Vx (d + 1) w' v (allC S) S.length ∧ Below w.heap.size w w' := by
  obtain ⟨ao, cap, rfl⟩ := h.form
  have hcn := h.count hw
  obtain ⟨b, off, rfl, c0, hx⟩ := h.at (k := 0) (by omega)
  rw [Nat.add_zero] at c0
  obtain ⟨x, r, hxr⟩ := hx.first (by have := hw _ (List.getElem_mem (show 0 < S.length by omega)); omega)
  have hfst := allC_first (by omega) hxr
  obtain ⟨v0, hv0⟩ : ∃ v, S[0].1 = v := ⟨_, rfl⟩
  rw [hv0] at c0 hx
  obtain ⟨T, u, rfl⟩ := hx.iface
  obtain ⟨s, hs⟩ : ∃ s, S.length = s := ⟨_, rfl⟩
  have hs2 : 2 ≤ s := by omega
  rw [hxr] at hx
  obtain ⟨f, hmf, hc, hf⟩ := hx.least
  unfold Enters at hc
  have KF := Lib.hid (hf _ (Below.refl _ _))
  have HR := Lib.hid (And.intro h (And.intro hw hfst))
  obtain ⟨⟨p, m⟩, t⟩ := x
  have hne : decide ((s : Int) = 1) = false := by rw [decide_eq_false_iff_not]; omega
  rw [hs] at hcn ⊢
  have HSL := Lib.hid hs
  clear h hw hx hxr hfst hv0 hf
  rw [hs] at HR
  clear hs
  go_enter Try.func39, Try.ntmps39
  go_wp2_with fail
  refine KF.out.mono ?_
  rintro e w1 ⟨rfl, hB1⟩
  have c0' := look_below hB1 c0
  have hB2 := hB1.alloc hB1.size (.cells #[.slice (some ⟨b, off, none⟩) s cap, .string ⟨p.toArray⟩, .int .i64 m, .int .i64 0] 70)
  have HC := Lib.hid (Cx.new w1 70 [.slice (some ⟨b, off, none⟩) s cap, .string ⟨p.toArray⟩, .int .i64 m, .int .i64 0])
  go_wp2_with fail
  go_loopw [21] (fun i wr => ∃ k : Nat, k ≤ s ∧ i = .int .i64 k ∧ Cx wr w1.heap.size 70 [.slice (some ⟨b, off, none⟩) s cap, .string ⟨p.toArray⟩, .int .i64 m, .int .i64 (allC (S.take k)).length] ∧ Below w.heap.size w wr) (fun i _ => s - (intOf i).toNat)
  case atStart => exact ⟨0, Nat.zero_le _, rfl, HC.out, hB2⟩
  case round =>
    obtain ⟨k, hk, rfl, hC, hB⟩ := hrel
    by_cases hlt : k < s
    · have hlt2 : k < S.length := by rw [HSL.out]; exact hlt
      obtain ⟨b', off', he, ck, hx⟩ := (HR.out.1.below hB).at hlt2
      cases he
      have hl := congrArg List.length (allC_succ hlt2)
      have hl2 := allC_le S (k + 1)
      rw [List.length_append] at hl
      obtain ⟨vk, hvk⟩ : ∃ v, S[k].1 = v := ⟨_, rfl⟩
      obtain ⟨L, hL⟩ : ∃ L, S[k].2.1 = L := ⟨_, rfl⟩
      obtain ⟨t1, ht1⟩ : ∃ t, (allC (S.take k)).length = t := ⟨_, rfl⟩
      obtain ⟨t2, ht2⟩ : ∃ t, (allC (S.take (k + 1))).length = t := ⟨_, rfl⟩
      obtain ⟨t3, ht3⟩ : ∃ t, L.length = t := ⟨_, rfl⟩
      rw [hvk] at ck hx
      rw [hL] at hx hl
      rw [ht2, ht1, ht3] at hl
      rw [ht2] at hl2
      rw [ht1] at hC
      obtain ⟨T', u', rfl⟩ := hx.iface
      obtain ⟨f', hmf', hc', hf'⟩ := hx.size
      unfold Enters at hc'
      rw [ht3] at hf'
      have KS := Lib.hid hf'
      have HT := Lib.hid ht2
      have hb : t1 + t3 ≤ 1000000 := by omega
      have HL := Lib.hid hl
      obtain ⟨d0, d1, d2, d3, d4, d5⟩ := hC.four
      have HK := Lib.hid hC
      clear hl hl2 hx hf' hvk hL ht1 ht2 ht3 hC
      go_wp2_with fail
      go_region_with (first | ((with_reducible refine (KS.out _ (by first | exact Below.refl _ _ | exact drew_below _)).mono ?_); rintro e w3 ⟨rfl, rfl⟩))
      all_goals
        go_wp2_with fail
        go_roundw
        case rel =>
          refine ⟨k + 1, by omega, by go_num, ?_, hB.drew.setCell hB1.size _⟩
          rw [HT.out, HL.out]
          exact (HK.out.below (drew_below _)).set 3 _
        case measure => simp [intOf]; omega
    · obtain rfl : k = s := by omega
      have HK := Lib.hid (And.intro hC hB)
      clear hC
      go_wp2_with fail
      go_ret
      obtain ⟨hC, hB⟩ := HK.out
      have e := HSL.out
      rw [List.take_of_length_le (by omega)] at hC
      obtain ⟨d0, d1, d2, d3, d4, d5⟩ := hC.four
      obtain ⟨hV, hW, hf⟩ := HR.out
      have := Vx.shut (d := d) (by omega) hf d0 d1 d2 d3 (hV.below hB) hW
      exact ⟨_, rfl, by rw [← e]; exact this, hB⟩

end Go.Proofs.Ytgbicdbmmjleoaa
