/-
  tree: lookup, Get.
-/
import Derived.Test.YtgbicdbmmjleoaaTrSpot
import Derived.Test.YtgbicdbmmjleoaaTrAs
namespace Go.Proofs.Ytgbicdbmmjleoaa
open Go.RowKit

theorem getS_here {l : List Pr} {k : Ky} (h : hereB l k = true) : getS l k = (l[placeN l k]'(hereB_lt h)).2 := by
  unfold getS
  rw [if_pos h, List.getElem?_eq_getElem (hereB_lt h)]
  rfl
theorem getS_not {l : List Pr} {k : Ky} (h : hereB l k = false) : getS l k = [] := by
  unfold getS
  rw [if_neg (by simp [h])]

set_option maxHeartbeats 4000000 in
theorem lookup_calls (p : List UInt8) (m : Int) : ∀ (d : Nat) (v : Value) (l : List Pr) (n : Nat) (w : World), Vx d w v l n → Rises l → l.length ≤ 100000 →
    Calls Try.prog 27 #[v, .agg #[.string ⟨p.toArray⟩, .int .i64 m]] w fun e w' => e = .returned (.tuple #[.string ⟨(getS l (p, m)).toArray⟩, .bool (hereB l (p, m))]) ∧ Below w.heap.size w w'
  | 0, v, l, n, w, ⟨_, u, hv, hp⟩, hr, hm => by
    subst hv
    obtain ⟨ao, cap, rfl⟩ := hp.form
    have ha := asLeaf (.slice ao l.length cap)
    have hB0 := below_alloc w (.cells #[.string ⟨p.toArray⟩, .int .i64 m] 24)
    have KF := find_calls _ l p m _ (hp.below hB0) (by omega)
    cases hh : hereB l (p, m) with
    | true =>
      have hlt := hereB_lt hh
      have HG := Lib.hid (getS_here hh)
      obtain ⟨i, hi⟩ : ∃ i, placeN l (p, m) = i := ⟨_, rfl⟩
      simp only [hi] at HG
      rw [hi] at hlt
      rw [hh, hi] at KF
      have K := Lib.hid KF
      obtain ⟨b, off, rfl, _, _, c2⟩ := hp.at hlt
      obtain ⟨t, ht⟩ : ∃ t, l[i].2 = t := ⟨_, rfl⟩
      rw [ht] at HG c2
      clear KF hh hi hp hr ht
      go_enter Try.func27, Try.ntmps27
      go_wp2_with fail
      refine K.out.mono ?_
      rintro e w1 ⟨rfl, hB1⟩
      have c2' := look_below (below2 hB0 hB1) c2
      go_wp2_with fail
      go_ret2
      exact ⟨by rw [HG.out]; rfl, below2 hB0 hB1⟩
    | false =>
      have HG := Lib.hid (getS_not hh)
      rw [hh] at KF
      have K := Lib.hid KF
      clear KF hh hp hr
      go_enter Try.func27, Try.ntmps27
      go_wp2_with fail
      refine K.out.mono ?_
      rintro e w1 ⟨rfl, hB1⟩
      go_wp2_with fail
      go_ret2
      exact ⟨by rw [HG.out]; rfl, below2 hB0 hB1⟩
  | d + 1, v, l, n, w, hV, hr, hm => by
    obtain ⟨g, ao, cap, S, x, rfl, rfl, h2, rfl, _, c0, _, _, _, hR, hS⟩ := hV.open
    have hcn := hR.count hS
    have ha := asLeafNot (.pointer (some ⟨g, 0, none⟩))
    have hb := asBranch (.pointer (some ⟨g, 0, none⟩))
    have hB0 := below_alloc w (.cells #[.string ⟨p.toArray⟩, .int .i64 m] 24)
    obtain ⟨k0, k1, _⟩ := (kbox_new w p m).two
    obtain ⟨b, off, rfl, hcs⟩ := hR.vals h2
    obtain ⟨F, hF⟩ : ∃ F : Nat → Value, ∀ k (h : k < S.length), S[k].1 = F k := ⟨fun k => (S[k]?.map (·.1)).getD undef, fun k h => by simp [List.getElem?_eq_getElem h]⟩
    have hcs' : ∀ k, k < S.length → w.cell? ⟨b, off + k, none⟩ = some (F k) := fun k h => by rw [hcs k h, hF k h]
    have KP := Lib.hid (fun W (hB : Below w.heap.size w W) => spot_calls d S p m g (some ⟨b, off, none⟩) cap W (look_below hB c0) (hR.below hB) hS h2 (by omega) hr)
    have KL : Hid (∀ i, Spot S (p, m) i → ∀ W, Below w.heap.size w W → Calls Try.prog 27 #[F i, .agg #[.string ⟨p.toArray⟩, .int .i64 m]] W fun e w' => e = .returned (.tuple #[.string ⟨(getS (allC S) (p, m)).toArray⟩, .bool (hereB (allC S) (p, m))]) ∧ Below W.heap.size W w') :=
      Lib.hid (fun i hi W hB => by
        obtain ⟨hlt, ha, hc⟩ := hi
        have hp := allC_parts hlt
        rw [hp, parts_get ha hc, parts_here ha hc, ← hF i hlt]
        exact lookup_calls p m d _ _ _ W ((hR.2 _ (List.getElem_mem hlt)).below hB) (by
          rw [hp] at hr
          exact (hr.sublist (List.sublist_append_right _ _)).sublist (List.sublist_append_left _ _)) (by have := allC_mem_le (List.getElem_mem hlt); omega))
    have HS : Hid (∀ W, Below (w.alloc (.cells #[.string ⟨p.toArray⟩, .int .i64 m] 24)).heap.size (w.alloc (.cells #[.string ⟨p.toArray⟩, .int .i64 m] 24)) W → W.cell? ⟨w.heap.size, 0, none⟩ = some (.string ⟨p.toArray⟩) ∧ W.cell? ⟨w.heap.size, 1, none⟩ = some (.int .i64 m) ∧ W.cell? ⟨g, 0, none⟩ = some (.slice (some ⟨b, off, none⟩) S.length cap) ∧ ∀ k, k < S.length → W.cell? ⟨b, off + k, none⟩ = some (F k)) :=
      Lib.hid (fun W hB => ⟨look_below hB k0, look_below hB k1, look_below (below2 hB0 hB) c0, fun k h => look_below (below2 hB0 hB) (hcs' k h)⟩)
    have hbr : Below (w.alloc (.cells #[.string ⟨p.toArray⟩, .int .i64 m] 24)).heap.size (w.alloc (.cells #[.string ⟨p.toArray⟩, .int .i64 m] 24)) (w.alloc (.cells #[.string ⟨p.toArray⟩, .int .i64 m] 24)).drew := drew_below _
    clear hcs hcs' hF hR hS hr hV c0 k0 k1
    go_enter Try.func27, Try.ntmps27
    go_wp2_with fail
    go_region_held3 (fun w' => w'.cell? ⟨w.heap.size, 0, none⟩ = some (.string ⟨p.toArray⟩) ∧ w'.cell? ⟨w.heap.size, 1, none⟩ = some (.int .i64 m) ∧ w'.cell? ⟨g, 0, none⟩ = some (.slice (some ⟨b, off, none⟩) S.length cap) ∧ ∀ k, k < S.length → w'.cell? ⟨b, off + k, none⟩ = some (F k)) (first | exact HS.out _ hbr) (first | (go_at_call 38; ((with_reducible refine (KP.out _ (below2 hB0 hbr)).mono ?_); rintro e w2 ⟨⟨i, rfl, hi⟩, hB2⟩; have hbr := below2 hbr hB2; have hlt := hi.1; have HI := Lib.hid hi; clear hi)) | (go_at_call 27; ((with_reducible refine (KL.out _ HI.out _ (below2 hB0 hbr)).mono ?_); rintro e w1 ⟨rfl, hB1⟩; have hbr := below2 hbr hB1)))
    go_wp2_with fail
    go_ret2
    exact ⟨rfl, below2 hB0 hbr⟩

end Go.Proofs.Ytgbicdbmmjleoaa
