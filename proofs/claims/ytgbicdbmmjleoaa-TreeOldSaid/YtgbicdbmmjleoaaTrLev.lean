/-
  tree: levelled.
-/
import Derived.Test.YtgbicdbmmjleoaaTrCut
import Derived.Test.YtgbicdbmmjleoaaTrAs
import Derived.Test.YtgbicdbmmjleoaaNdApart
namespace Go.Proofs.Ytgbicdbmmjleoaa
open Go.RowKit

/-- Rows of vertices that are laid as they stand. -/
theorem vrws_lit (d : Nat) (w : World) (R : List (Value × List Ch)) (t : TypeId) (h : ∀ x ∈ R, VRow d w x.1 x.2) : VRws d (w.alloc (.cells (R.map (·.1)).toArray t)) (.slice (some ⟨w.heap.size, 0, none⟩) R.length R.length) R := by
  refine ⟨⟨by simp, _, _, rfl, Nat.le_refl _, .inr ⟨_, 0, rfl, fun j hj => ?_⟩⟩, fun x hx => (h x hx).below (below_alloc w _)⟩
  rw [Nat.zero_add, World.cell?_alloc_new]
  simp only [List.getElem?_toArray, List.getElem?_eq_getElem hj]
theorem vrws_two {d : Nat} {w : World} {v1 v2 : Value} {S1 S2 : List Ch} (t : TypeId) (h1 : VRow d w v1 S1) (h2 : VRow d w v2 S2) : VRws d (w.alloc (.cells #[v1, v2] t)) (.slice (some ⟨w.heap.size, 0, none⟩) 2 2) [(v1, S1), (v2, S2)] :=
  vrws_lit d w [(v1, S1), (v2, S2)] t (fun c hc => by
    simp only [List.mem_cons, List.not_mem_nil, or_false] at hc
    rcases hc with rfl | rfl
    · exact h1
    · exact h2)
theorem vrws_three {d : Nat} {w : World} {v1 v2 v3 : Value} {S1 S2 S3 : List Ch} (t : TypeId) (h1 : VRow d w v1 S1) (h2 : VRow d w v2 S2) (h3 : VRow d w v3 S3) : VRws d (w.alloc (.cells #[v1, v2, v3] t)) (.slice (some ⟨w.heap.size, 0, none⟩) 3 3) [(v1, S1), (v2, S2), (v3, S3)] :=
  vrws_lit d w [(v1, S1), (v2, S2), (v3, S3)] t (fun c hc => by
    simp only [List.mem_cons, List.not_mem_nil, or_false] at hc
    rcases hc with rfl | rfl | rfl
    · exact h1
    · exact h2
    · exact h3)
theorem rws_pair {w : World} {v1 v2 : Value} {L1 L2 : List Pr} (t : TypeId) (h1 : Prs w v1 L1) (h2 : Prs w v2 L2) : Rws (w.alloc (.cells #[v1, v2] t)) (.slice (some ⟨w.heap.size, 0, none⟩) 2 2) [(v1, L1), (v2, L2)] :=
  rws_lit w [(v1, L1), (v2, L2)] t (fun x hx => by
    simp only [List.mem_cons, List.not_mem_nil, or_false] at hx
    rcases hx with rfl | rfl
    · exact h1
    · exact h2)
theorem wide_append {A B : List Ch} (ha : Wide A) (hb : Wide B) : Wide (A ++ B) := fun c hc => by
  rcases List.mem_append.1 hc with h | h
  · exact ha c h
  · exact hb c h

set_option maxHeartbeats 4000000 in
set_option maxRecDepth 100000 in
theorem levelled_calls : ∀ (d : Nat) (a b : Value) (la lb : List Pr) (na nb : Nat) (w : World), Vx d w a la na → Vx d w b lb nb → (la ++ lb).length ≤ 1000000 →
    Calls Try.prog 55 #[a, b] w fun e w' => ∃ u S, e = .returned u ∧ VRow d w' u S ∧ allC S = la ++ lb ∧ News (na + nb) S ∧ Below w.heap.size w w'
  | 0, a, b, la, lb, na, nb, w, ⟨hna, ua, ha, hpa⟩, ⟨hnb, ub, hb, hpb⟩, hm => by
    subst ha hb
    have h1 := asLeaf ua
    have h2 := asLeaf1 ub
    have hR := rws_pair 66 hpa hpb
    have hall : allP [(ua, la), (ub, lb)] = la ++ lb := by simp [allP]
    have KC := Lib.hid (concatL_calls _ _ _ hR (by simp) (by rw [hall]; exact hm))
    rw [hall] at KC
    have KK := Lib.hid (fun u W (h : Prs W u (la ++ lb)) => cutP_calls u (la ++ lb) W h hm)
    have HN := Lib.hid (show na + nb ≤ (la ++ lb).length by rw [List.length_append]; omega)
    obtain ⟨a1, c1, rfl⟩ := hpa.form
    obtain ⟨a2, c2, rfl⟩ := hpb.form
    clear hpa hpb hna hnb hR hall hm
    go_enter Try.func55, Try.ntmps55
    go_wp2_with fail
    refine KC.out.mono ?_
    rintro e w1 ⟨u, rfl, hu, hB1⟩
    go_wp2_with fail
    refine (KK.out u w1 hu).mono ?_
    rintro e w2 ⟨v, S, rfl, hv, hS, hN, hB2⟩
    have HF := Lib.hid (And.intro hv (And.intro hS hN))
    clear hv hS hN
    obtain ⟨av, cv, rfl⟩ := HF.out.1.form
    go_wp2_with fail
    go_ret
    obtain ⟨hv, hS, hN⟩ := HF.out
    exact ⟨_, S, rfl, hv, hS, hN.less HN.out, below2 (below2 (below_alloc _ _) hB1) hB2⟩
  | d + 1, a, b, la, lb, na, nb, w, hVa, hVb, hm => by
    obtain ⟨ga, aoa, capa, Sa, xa, rfl, rfl, h2a, rfl, _, ca, _, _, _, hRa, hSa⟩ := hVa.open
    obtain ⟨gb, aob, capb, Sb, xb, rfl, rfl, h2b, rfl, _, cb, _, _, _, hRb, hSb⟩ := hVb.open
    have ha := asLeafNot (.pointer (some ⟨ga, 0, none⟩))
    have h1 := asBranch (.pointer (some ⟨ga, 0, none⟩))
    have h2 := asBranch1 (.pointer (some ⟨gb, 0, none⟩))
    have HS : Hid (∀ W, Below w.heap.size w W → W.cell? ⟨ga, 0, none⟩ = some (.slice aoa Sa.length capa) ∧ W.cell? ⟨gb, 0, none⟩ = some (.slice aob Sb.length capb)) := Lib.hid (fun W hB => ⟨look_below hB ca, look_below hB cb⟩)
    have hB0 : Below w.heap.size w (w.alloc (.cells #[.slice aoa Sa.length capa, .slice aob Sb.length capb] 68)).drew := first_below w _
    have hV : VRws d (w.alloc (.cells #[.slice aoa Sa.length capa, .slice aob Sb.length capb] 68)).drew (.slice (some ⟨w.heap.size, 0, none⟩) 2 2) [(.slice aoa Sa.length capa, Sa), (.slice aob Sb.length capb, Sb)] := by
      have := vrws_two 68 hRa hRb
      exact ⟨this.1.below (drew_below _), fun x hx => (this.2 x hx).below (drew_below _)⟩
    have hfl : [(Value.slice aoa Sa.length capa, Sa), (Value.slice aob Sb.length capb, Sb)].flatMap (·.2) = Sa ++ Sb := by simp
    have hall : allC (Sa ++ Sb) = allC Sa ++ allC Sb := allC_append _ _
    have hcn := hRa.count hSa
    have hcm := hRb.count hSb
    rw [List.length_append] at hm
    have KC := Lib.hid (concatV_calls d _ _ _ hV (by simp) (by rw [hfl, List.length_append]; omega))
    rw [hfl] at KC
    have KK := Lib.hid (fun u W (h : VRow d W u (Sa ++ Sb)) => cutV_calls d u (Sa ++ Sb) W h (wide_append hSa hSb) (by rw [List.length_append]; omega) (by rw [hall, List.length_append]; omega))
    have HE := Lib.hid (And.intro hall (show (Sa ++ Sb).length = Sa.length + Sb.length from List.length_append))
    have hbr : Below w.heap.size w w.drew := drew_below _
    clear hVa hVb hRa hRb hSa hSb hV hfl hall hm hcn hcm ca cb
    go_enter Try.func55, Try.ntmps55
    go_wp2_with fail
    go_region_held3 (fun w' => w'.cell? ⟨ga, 0, none⟩ = some (.slice aoa Sa.length capa) ∧ w'.cell? ⟨gb, 0, none⟩ = some (.slice aob Sb.length capb)) (first | exact HS.out _ hbr | exact HS.out _ hB0) (first
      | ((with_reducible refine KC.out.mono ?_); rintro e w1 ⟨u, rfl, hu, hB1⟩; have hbr := below2 hB0 hB1)
      | ((with_reducible refine (KK.out _ _ hu).mono ?_); rintro e w2 ⟨v, S, rfl, hv, hS, hN, hB2⟩; have hbr := below2 hbr hB2; have HF := Lib.hid (And.intro hv (And.intro hS hN)); clear hv hS hN; obtain ⟨av, cv, rfl⟩ := HF.out.1.form))
    go_wp2_with fail
    go_ret
    obtain ⟨hv, hS, hN⟩ := HF.out
    obtain ⟨e1, e2⟩ := HE.out
    exact ⟨_, S, rfl, hv, by rw [hS, e1], by rw [← e2]; exact hN, hbr⟩

end Go.Proofs.Ytgbicdbmmjleoaa
