/-
  tree: edited.
-/
import Derived.Test.YtgbicdbmmjleoaaTrWith
import Derived.Test.YtgbicdbmmjleoaaTrSpot
namespace Go.Proofs.Ytgbicdbmmjleoaa
open Go.RowKit

theorem with_calls (d : Nat) (g : Nat) (ao : Option Addr) (cap i : Nat) (S T : List Ch) (nv : Value) (w : World) (cg : w.cell? ⟨g, 0, none⟩ = some (.slice ao S.length cap)) (hR : VRow d w (.slice ao S.length cap) S) (hS : Wide S)
    (hT : VRow d w nv T) (hN : News 3 T) (h2 : 2 ≤ S.length) (hi : i < S.length) (hm : S.length ≤ 100000) (hm2 : (allC T).length + (allC S).length ≤ 1000000) :
    Calls Try.prog 50 #[.pointer (some ⟨g, 0, none⟩), .int .i64 i, nv] w fun e w' => ∃ u R, e = .returned u ∧ VRow d w' u R ∧ Withs S T i R ∧ Below w.heap.size w w' := by
  by_cases h4 : 4 ≤ (T[0]'hN.some).2.2
  · exact with_same_calls d g ao cap i S T nv w cg hR hS hT (hN.wide fun _ => h4) ⟨hN.some, hN.most⟩ hi hm
  · obtain ⟨c, rfl, h3⟩ := hN.alone hN.some (by omega)
    rw [allC_one] at hm2
    have h4' : c.2.2 < 4 := by simpa using h4
    cases i with
    | zero => exact with_front_calls d g ao cap S c nv w cg hR hS hT h3 h4' h2 hm hm2
    | succ j =>
      rw [show ((j + 1 : Nat) : Int) = (j : Int) + 1 by omega]
      exact with_behind_calls d g ao cap j S c nv w cg hR hS hT h3 h4' hi hm hm2

/-- What cut makes of what with made. -/
theorem cut_with_calls (d : Nat) (i : Nat) (S T R : List Ch) (v : Value) (w : World) (h : VRow d w v R) (hw : Withs S T i R) (hm : (allC R).length ≤ 1000000) :
    Calls Try.prog 49 #[v, .func (.func 39) #[] #[]] w fun e w' => ∃ u Z d', e = .returned u ∧ VRow d' w' u Z ∧ allC Z = allC R ∧ News (S.length - 1) Z ∧ (3 ≤ S.length → d' = d + 1) ∧ Below w.heap.size w w' := by
  obtain ⟨h1, _, h3, h4⟩ := hw
  by_cases h2 : 2 ≤ R.length
  · refine (cutV_calls d v R w h h1 h2 hm).mono ?_
    rintro e w' ⟨u, Z, rfl, hv, hZ, hN, hB⟩
    exact ⟨u, Z, d + 1, rfl, hv, hZ, hN.less (by omega), fun _ => rfl, hB⟩
  · obtain ⟨c, rfl⟩ := List.length_eq_one_iff.1 (show R.length = 1 by omega)
    refine (cutV_one d v c w h).mono ?_
    rintro e w' ⟨u, rfl, hv, hB⟩
    have hc := h1 c (by simp)
    simp only [List.length_singleton] at h3
    exact ⟨u, [c], d, rfl, hv, rfl, .inl ⟨c, rfl, by omega⟩, fun _ => by omega, hB⟩

/-- The closure edits pairs so. -/
def Edits (f : FuncId) (x : Value) (s : Option (List UInt8)) (k : Ky) (w : World) : Prop :=
  ∀ W u l, Below w.heap.size w W → Prs W u l → l.length ≤ 100000 → Calls Try.prog f #[u, x] W fun e w' => ∃ u', e = .returned u' ∧ Prs w' u' (editL s k l) ∧ Below W.heap.size W w'
theorem Edits.below {f : FuncId} {x : Value} {s : Option (List UInt8)} {k : Ky} {w w' : World} (h : Edits f x s k w) (hB : Below w.heap.size w w') : Edits f x s k w' := fun W u l hW => h W u l (below2 hB hW)
set_option maxHeartbeats 8000000 in
set_option maxRecDepth 100000 in
theorem edited_calls (f : FuncId) (hc : Enters f) (x : Value) (s : Option (List UInt8)) (p : List UInt8) (m : Int) : ∀ (d : Nat) (v : Value) (l : List Pr) (n : Nat) (w : World), Vx d w v l n → Rises l → l.length ≤ 99999 → Edits f x s (p, m) w →
    Calls Try.prog 40 #[v, .agg #[.string ⟨p.toArray⟩, .int .i64 m], .func (.func f) #[] #[x]] w fun e w' => ∃ u Z d', e = .returned u ∧ VRow d' w' u Z ∧ allC Z = editL s (p, m) l ∧ News (n - 1) Z ∧ (3 ≤ n → d' = d) ∧ Below w.heap.size w w'
  | 0, v, l, n, w, ⟨hn, u, hv, hp⟩, hr, hm, hE => by
    subst hv hn
    have ha := asLeaf u
    unfold Enters at hc
    have hB0 := below_alloc w (.cells #[.string ⟨p.toArray⟩, .int .i64 m] 24)
    have KE := Lib.hid (hE _ _ _ hB0 (hp.below hB0) (by omega))
    have hl := edit_length s (p, m) l
    have KK := Lib.hid (fun u W (h : Prs W u (editL s (p, m) l)) => cutP_calls u _ W h (by omega))
    have HL := Lib.hid (show l.length - 1 ≤ (editL s (p, m) l).length by omega)
    obtain ⟨a1, n1, c1, rfl⟩ := hp.any
    clear hp hr hm hE hl
    go_enter Try.func40, Try.ntmps40
    go_wp2_with fail
    refine KE.out.mono ?_
    rintro e w1 ⟨u1, rfl, hu1, hB1⟩
    have HU := Lib.hid hu1
    clear hu1
    obtain ⟨a2, n2, c2, rfl⟩ := HU.out.any
    go_wp2_with fail
    refine (KK.out _ _ HU.out).mono ?_
    rintro e w2 ⟨u2, Z, rfl, hv, hZ, hN, hB2⟩
    have HF := Lib.hid (And.intro hv (And.intro hZ hN))
    clear hv hZ hN
    obtain ⟨a3, n3, c3, rfl⟩ := HF.out.1.any
    go_wp2_with fail
    go_ret
    obtain ⟨hv, hZ, hN⟩ := HF.out
    exact ⟨_, Z, 0, rfl, hv, hZ, hN.less HL.out, fun _ => rfl, below2 (below2 hB0 hB1) hB2⟩
  | d + 1, v, l, n, w, hV, hr, hm, hE => by
    obtain ⟨g, ao, cap, S, x0, rfl, rfl, h2, rfl, _, c0, _, _, _, hR, hS⟩ := hV.open
    have hcn := hR.count hS
    have ha := asLeafNot (.pointer (some ⟨g, 0, none⟩))
    have hb := asBranch (.pointer (some ⟨g, 0, none⟩))
    have hB0 := below_alloc w (.cells #[.string ⟨p.toArray⟩, .int .i64 m] 24)
    obtain ⟨k0, k1, _⟩ := (kbox_new w p m).two
    obtain ⟨b, off, rfl, hcs⟩ := hR.vals h2
    obtain ⟨F, hF⟩ : ∃ F : Nat → Value, ∀ k (h : k < S.length), S[k].1 = F k := ⟨fun k => (S[k]?.map (·.1)).getD undef, fun k h => by simp [List.getElem?_eq_getElem h]⟩
    have hcs' : ∀ k, k < S.length → w.cell? ⟨b, off + k, none⟩ = some (F k) := fun k h => by rw [hcs k h, hF k h]
    have KP := Lib.hid (fun W (hB : Below w.heap.size w W) => spot_calls d S p m g (some ⟨b, off, none⟩) cap W (look_below hB c0) (hR.below hB) hS h2 (by omega) hr)
    have KE : Hid (∀ i (hi : Spot S (p, m) i), ∀ W, Below w.heap.size w W → Calls Try.prog 40 #[F i, .agg #[.string ⟨p.toArray⟩, .int .i64 m], .func (.func f) #[] #[x]] W fun e w' => ∃ u T, e = .returned u ∧ VRow d w' u T ∧ (allC T = editL s (p, m) (S[i]'hi.1).2.1 ∧ News 3 T) ∧ Below W.heap.size W w') :=
      Lib.hid (fun i hi W hB => by
        obtain ⟨hlt, ha, hc'⟩ := hi
        have hp := allC_parts hlt
        rw [← hF i hlt]
        have h4 := hS _ (List.getElem_mem hlt)
        refine (edited_calls f hc x s p m d _ _ _ W ((hR.2 _ (List.getElem_mem hlt)).below hB) (by
          rw [hp] at hr
          exact (hr.sublist (List.sublist_append_right _ _)).sublist (List.sublist_append_left _ _)) (by have := allC_mem_le (List.getElem_mem hlt); omega) (hE.below hB)).mono ?_
        rintro e w' ⟨u, Z, d', rfl, hv, hZ, hN, hd, hB'⟩
        obtain rfl := hd (by omega)
        exact ⟨u, Z, rfl, hv, ⟨hZ, hN.less (by omega)⟩, hB'⟩)
    have KW := Lib.hid (fun i T u W (hi : Spot S (p, m) i) (hB : Below w.heap.size w W) (hT : VRow d W u T) (hN : allC T = editL s (p, m) (S[i]'hi.1).2.1 ∧ News 3 T) => with_calls d g (some ⟨b, off, none⟩) cap i S T u W (look_below hB c0) (hR.below hB) hS hT hN.2 h2 hi.1 (by omega) (by
        have h1 := edit_length s (p, m) (S[i]'hi.1).2.1
        have := allC_mem_le (List.getElem_mem hi.1)
        rw [hN.1]
        omega))
    have HE := Lib.hid (fun i T R (hi : Spot S (p, m) i) (hN : allC T = editL s (p, m) (S[i]'hi.1).2.1 ∧ News 3 T) (hW : Withs S T i R) => show allC R = editL s (p, m) (allC S) by
        rw [hW.2.1, hN.1, hi.parts, parts_edit s hi.2.1 hi.2.2])
    have KC := Lib.hid (fun i T R u W (hi : Spot S (p, m) i) (hN : allC T = editL s (p, m) (S[i]'hi.1).2.1 ∧ News 3 T) (hW : Withs S T i R) (hv : VRow d W u R) => cut_with_calls d i S T R u W hv hW (by
        rw [HE.out i T R hi hN hW]
        have := edit_length s (p, m) (allC S)
        omega))
    have HS : Hid (∀ W, Below (w.alloc (.cells #[.string ⟨p.toArray⟩, .int .i64 m] 24)).heap.size (w.alloc (.cells #[.string ⟨p.toArray⟩, .int .i64 m] 24)) W → W.cell? ⟨w.heap.size, 0, none⟩ = some (.string ⟨p.toArray⟩) ∧ W.cell? ⟨w.heap.size, 1, none⟩ = some (.int .i64 m) ∧ W.cell? ⟨g, 0, none⟩ = some (.slice (some ⟨b, off, none⟩) S.length cap) ∧ ∀ k, k < S.length → W.cell? ⟨b, off + k, none⟩ = some (F k)) :=
      Lib.hid (fun W hB => ⟨look_below hB k0, look_below hB k1, look_below (below2 hB0 hB) c0, fun k h => look_below (below2 hB0 hB) (hcs' k h)⟩)
    unfold Enters at hc
    clear hcs hcs' hF hR hS hr hV c0 hE hm hcn h2
    go_enter Try.func40, Try.ntmps40
    go_wp2_with fail
    refine (KP.out _ hB0).mono ?_
    rintro e w1 ⟨⟨i, rfl, hi⟩, hB1⟩
    have hlt := hi.1
    have HI := Lib.hid hi
    clear hi
    have hbr := hB1.drew
    go_wp2_with fail
    go_region_held3 (fun w' => w'.cell? ⟨w.heap.size, 0, none⟩ = some (.string ⟨p.toArray⟩) ∧ w'.cell? ⟨w.heap.size, 1, none⟩ = some (.int .i64 m) ∧ w'.cell? ⟨g, 0, none⟩ = some (.slice (some ⟨b, off, none⟩) S.length cap) ∧ ∀ k, k < S.length → w'.cell? ⟨b, off + k, none⟩ = some (F k)) (first | exact HS.out _ hbr) (first
      | ((with_reducible refine (KE.out _ HI.out _ (below2 hB0 hbr)).mono ?_); rintro e w2 ⟨u2, T, rfl, hT, hN, hB2⟩; have hbr := below2 hbr hB2; have HT := Lib.hid (And.intro hT hN); clear hT hN; obtain ⟨a2, n2, c2, rfl⟩ := HT.out.1.any)
      | ((with_reducible refine (KW.out _ T _ _ HI.out (below2 hB0 hbr) HT.out.1 HT.out.2).mono ?_); rintro e w3 ⟨u3, R, rfl, hR, hW, hB3⟩; have hbr := below2 hbr hB3; have HR := Lib.hid (And.intro hR hW); clear hR hW; obtain ⟨a3, n3, c3, rfl⟩ := HR.out.1.any)
      | ((with_reducible refine (KC.out _ T R _ _ HI.out HT.out.2 HR.out.2 HR.out.1).mono ?_); rintro e w4 ⟨u4, Z, d', rfl, hv, hZ, hN4, hd, hB4⟩; have hbr := below2 hbr hB4; have HZ := Lib.hid (And.intro hv (And.intro hZ (And.intro hN4 hd))); clear hv hZ hN4 hd; obtain ⟨a4, n4, c4, rfl⟩ := HZ.out.1.any))
    go_wp2_with fail
    go_ret
    obtain ⟨hv, hZ, hN4, hd⟩ := HZ.out
    exact ⟨_, Z, d', rfl, hv, by rw [hZ, HE.out i T R HI.out HT.out.2 HR.out.2], hN4, hd, below2 hB0 hbr⟩

end Go.Proofs.Ytgbicdbmmjleoaa
