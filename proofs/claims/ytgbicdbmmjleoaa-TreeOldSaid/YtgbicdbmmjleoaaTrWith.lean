/-
  tree: with (a branch's row with other vertices at a place).
-/
import Derived.Test.YtgbicdbmmjleoaaTrLev
namespace Go.Proofs.Ytgbicdbmmjleoaa
open Go.RowKit

theorem VRow.drew {d : Nat} {w : World} {v : Value} {S : List Ch} (h : VRow d w v S) : VRow d w.drew v S := h.below (drew_below _)
theorem VRws.drew {d : Nat} {w : World} {v : Value} {R : List (Value × List Ch)} (h : VRws d w v R) : VRws d w.drew v R := ⟨h.1.below (drew_below _), fun x hx => (h.2 x hx).drew⟩
theorem vrow_wide_take {S : List Ch} (h : Wide S) (n : Nat) : Wide (S.take n) := fun c hc => h c (List.mem_of_mem_take hc)
theorem vrow_wide_drop {S : List Ch} (h : Wide S) (n : Nat) : Wide (S.drop n) := fun c hc => h c (List.mem_of_mem_drop hc)
theorem vrow_slots {d : Nat} {w : World} {v : Value} {S : List Ch} (h : VRow d w v S) (h0 : 1 ≤ S.length) : ∃ b off cap, v = .slice (some ⟨b, off, none⟩) S.length cap ∧ ∀ k (hk : k < S.length), w.cell? ⟨b, off + k, none⟩ = some S[k].1 := by
  obtain ⟨ao, cap, rfl⟩ := h.form
  obtain ⟨b, off, e, _⟩ := h.at (k := 0) (by omega)
  subst e
  refine ⟨b, off, cap, rfl, fun k hk => ?_⟩
  obtain ⟨b', off', e', c, _⟩ := h.at hk
  cases e'
  exact c
theorem VRow.any {d : Nat} {w : World} {v : Value} {S : List Ch} (h : VRow d w v S) : ∃ ao n cap, v = .slice ao n cap := by
  obtain ⟨ao, cap, e⟩ := h.form
  exact ⟨ao, _, cap, e⟩
/-- What with makes of a row. -/
def Withs (S T : List Ch) (i : Nat) (R : List Ch) : Prop := Wide R ∧ allC R = allC (S.take i) ++ (allC T ++ allC (S.drop (i + 1))) ∧ S.length ≤ R.length + 1 ∧ 1 ≤ R.length
theorem News.wide {N : Nat} {T : List Ch} (h : News N T) (h0 : ∀ (h : 0 < T.length), 4 ≤ (T[0]'h).2.2) : Wide T := by
  intro c hc
  rcases h with ⟨x, rfl, _⟩ | ⟨x, y, rfl, h1, h2⟩
  · simp only [List.mem_singleton] at hc
    subst hc
    exact h0 (by simp)
  · simp only [List.mem_cons, List.not_mem_nil, or_false] at hc
    rcases hc with rfl | rfl
    · exact h1
    · exact h2
theorem News.some {N : Nat} {T : List Ch} (h : News N T) : 1 ≤ T.length := by
  rcases h with ⟨x, rfl, _⟩ | ⟨x, y, rfl, _⟩ <;> simp
theorem News.most {N : Nat} {T : List Ch} (h : News N T) : T.length ≤ 2 := by
  rcases h with ⟨x, rfl, _⟩ | ⟨x, y, rfl, _⟩ <;> simp
theorem News.alone {N : Nat} {T : List Ch} (h : News N T) (h0 : 0 < T.length) (h1 : (T[0]'h0).2.2 < 4) : ∃ c, T = [c] ∧ N ≤ c.2.2 := by
  rcases h with h | ⟨x, y, rfl, h2, _⟩
  · exact h
  · simp at h1
    omega
theorem withs_same {S T : List Ch} {i : Nat} (hS : Wide S) (hT : Wide T) (h1 : 1 ≤ T.length) (hi : i < S.length) : Withs S T i (S.take i ++ (T ++ S.drop (i + 1))) := by
  refine ⟨wide_append (vrow_wide_take hS _) (wide_append hT (vrow_wide_drop hS _)), by rw [allC_append, allC_append], ?_, ?_⟩ <;>
    simp only [List.length_append, List.length_take, List.length_drop] <;> omega
theorem withs_front {S L : List Ch} {c : Ch} (hS : Wide S) (h2 : 2 ≤ S.length) (hL : allC L = c.2.1 ++ (S[1]'(by omega)).2.1) (hw : Wide L) (h1 : 1 ≤ L.length) : Withs S [c] 0 (L ++ S.drop 2) := by
  refine ⟨wide_append hw (vrow_wide_drop hS _), ?_, ?_, ?_⟩
  · rw [allC_append, hL, allC_one, List.take_zero, allC_nil, List.nil_append, List.append_assoc]
    congr 1
    rw [← List.getElem_cons_drop (show 0 + 1 < S.length by omega), allC_cons]
  · simp only [List.length_append, List.length_drop]; omega
  · simp only [List.length_append]; omega
theorem withs_behind {S L : List Ch} {c : Ch} {j : Nat} (hS : Wide S) (hj : j + 1 < S.length) (hL : allC L = (S[j]'(by omega)).2.1 ++ c.2.1) (hw : Wide L) (h1 : 1 ≤ L.length) : Withs S [c] (j + 1) (S.take j ++ (L ++ S.drop (j + 1 + 1))) := by
  refine ⟨wide_append (vrow_wide_take hS _) (wide_append hw (vrow_wide_drop hS _)), ?_, ?_, ?_⟩
  · rw [allC_append, allC_append, hL, allC_one, allC_succ (show j < S.length by omega)]
    simp only [List.append_assoc]
  · simp only [List.length_append, List.length_take, List.length_drop]; omega
  · simp only [List.length_append, List.length_take, List.length_drop]; omega
/-- Two neighbours, of which one is as wide as another one and the other one nearly. -/
theorem news_wide {N : Nat} {L : List Ch} (h : News N L) (hN : 4 ≤ N) : Wide L := h.wide fun h0 => by
  rcases h with ⟨x, rfl, h⟩ | ⟨x, y, rfl, h, _⟩
  · simpa using Nat.le_trans hN h
  · simpa using h

set_option maxHeartbeats 4000000 in
set_option maxRecDepth 100000 in
theorem with_same_calls (d : Nat) (g : Nat) (ao : Option Addr) (cap i : Nat) (S T : List Ch) (nv : Value) (w : World) (cg : w.cell? ⟨g, 0, none⟩ = some (.slice ao S.length cap)) (hR : VRow d w (.slice ao S.length cap) S) (hS : Wide S)
    (hT : VRow d w nv T) (hTw : Wide T) (hT2 : 1 ≤ T.length ∧ T.length ≤ 2) (hi : i < S.length) (hm : S.length ≤ 100000) :
    Calls Try.prog 50 #[.pointer (some ⟨g, 0, none⟩), .int .i64 i, nv] w fun e w' => ∃ u R, e = .returned u ∧ VRow d w' u R ∧ Withs S T i R ∧ Below w.heap.size w w' := by
  obtain ⟨b, off, capT, rfl, hcT⟩ := vrow_slots hT hT2.1
  have hvx := hT.2 _ (List.getElem_mem (show 0 < T.length by omega))
  have hw4 := hTw _ (List.getElem_mem (show 0 < T.length by omega))
  have c0 := hcT 0 (by omega)
  rw [Nat.add_zero] at c0
  obtain ⟨v0, hv0⟩ : ∃ v, T[0].1 = v := ⟨_, rfl⟩
  obtain ⟨n0, hn0⟩ : ∃ v, T[0].2.2 = v := ⟨_, rfl⟩
  rw [hv0] at c0 hvx
  rw [hn0] at hw4 hvx
  obtain ⟨T0, u0, rfl⟩ := hvx.iface
  obtain ⟨f, hmf, hc, hf⟩ := hvx.width
  unfold Enters at hc
  have KW := Lib.hid (hf _ (Below.refl _ _))
  obtain ⟨n, hn⟩ : ∃ n, S.length = n := ⟨_, rfl⟩
  obtain ⟨tn, htn⟩ : ∃ n, T.length = n := ⟨_, rfl⟩
  have HW := Lib.hid (withs_same (i := i) hS hTw hT2.1 hi)
  rw [hn] at hR hi hm cg
  obtain ⟨r, hr⟩ : ∃ r, i + 1 + r = n := ⟨n - (i + 1), by omega⟩
  obtain ⟨a1, c1, hr1, hp1⟩ := vrow_to hR i (by omega)
  obtain ⟨a2, c2, hr2, hp2⟩ := vrow_from hR (i + 1) r hr
  rw [show (((i + 1 : Nat)) : Int) = (i : Int) + 1 by omega] at hr2
  have hV : VRws d (w.alloc (.cells #[.slice a1 i c1, .slice (some ⟨b, off, none⟩) T.length capT, .slice a2 r c2] 68)).drew (.slice (some ⟨w.heap.size, 0, none⟩) 3 3) [(.slice a1 i c1, S.take i), (.slice (some ⟨b, off, none⟩) T.length capT, T), (.slice a2 r c2, S.drop (i + 1))] := (vrws_three _ hp1 hT hp2).drew
  have hfl : [((.slice a1 i c1 : Value), S.take i), (.slice (some ⟨b, off, none⟩) T.length capT, T), (.slice a2 r c2, S.drop (i + 1))].flatMap (·.2) = S.take i ++ (T ++ S.drop (i + 1)) := by simp
  have KC := Lib.hid (concatV_calls d _ _ _ hV (by simp) (by rw [hfl]; simp only [List.length_append, List.length_take, List.length_drop]; omega))
  rw [hfl] at KC
  clear hcT
  rw [htn] at KC hT2 ⊢
  have HS : Hid (∀ W, Below w.heap.size w W → W.cell? ⟨g, 0, none⟩ = some (.slice ao n cap)) := Lib.hid (fun W hB => look_below hB cg)
  have hB0 : Below w.heap.size w (w.alloc (.cells #[.slice a1 i c1, .slice (some ⟨b, off, none⟩) tn capT, .slice a2 r c2] 68)).drew := first_below w _
  have hbr : Below w.heap.size w w.drew := drew_below _
  have hge : decide ((4 : Int) ≤ (n0 : Int)) = true := by rw [decide_eq_true_eq]; omega
  have hi1 : IntKind.i64.wrap ((i : Int) + 1) = (i : Int) + 1 := by rw [IntKind.wrap_i64]; omega
  clear hV hfl hp1 hp2 hR hT hTw hS hvx hv0 hn0 hn htn hf cg
  go_enter Try.func50, Try.ntmps50
  go_wp2_with fail
  refine KW.out.mono ?_
  rintro e w1 ⟨rfl, rfl⟩
  go_wp2_with fail
  go_region_held3 (fun w' => w'.cell? ⟨g, 0, none⟩ = some (.slice ao n cap)) (first | exact HS.out _ hbr | exact HS.out _ hB0) (first
    | ((with_reducible refine KC.out.mono ?_); rintro e w1 ⟨u, rfl, hu, hB1⟩; have hbr := below2 hB0 hB1; have HU := Lib.hid hu; clear hu; obtain ⟨au, nu, cu, rfl⟩ := HU.out.any))
  go_wp2_with fail
  go_ret
  exact ⟨_, _, rfl, HU.out, HW.out, hbr⟩

set_option maxHeartbeats 4000000 in
set_option maxRecDepth 100000 in
theorem with_front_calls (d : Nat) (g : Nat) (ao : Option Addr) (cap : Nat) (S : List Ch) (c : Ch) (nv : Value) (w : World) (cg : w.cell? ⟨g, 0, none⟩ = some (.slice ao S.length cap)) (hR : VRow d w (.slice ao S.length cap) S) (hS : Wide S)
    (hT : VRow d w nv [c]) (hc3 : 3 ≤ c.2.2) (hc4 : c.2.2 < 4) (h2 : 2 ≤ S.length) (hm : S.length ≤ 100000) (hm2 : c.2.1.length + (allC S).length ≤ 1000000) :
    Calls Try.prog 50 #[.pointer (some ⟨g, 0, none⟩), .int .i64 0, nv] w fun e w' => ∃ u R, e = .returned u ∧ VRow d w' u R ∧ Withs S [c] 0 R ∧ Below w.heap.size w w' := by
  obtain ⟨b, off, capT, rfl, hcT⟩ := vrow_slots hT (by simp)
  simp only [List.length_singleton] at hT hcT ⊢
  have hvx := hT.2 c (by simp)
  have c0 := hcT 0 (by simp)
  rw [Nat.add_zero, List.getElem_cons_zero] at c0
  obtain ⟨v0, l0, n0⟩ := c
  dsimp only at c0 hvx hc3 hc4 hm2
  obtain ⟨T0, u0, rfl⟩ := hvx.iface
  obtain ⟨f, hmf, hc, hf⟩ := hvx.width
  unfold Enters at hc
  have KW := Lib.hid (hf _ (Below.refl _ _))
  obtain ⟨b1, off1, capS, hsl, hcS⟩ := vrow_slots hR (by omega)
  cases hsl
  have c1 := hcS 1 (by omega)
  have hv1 := hR.2 _ (List.getElem_mem (show 1 < S.length by omega))
  have hw1 := hS _ (List.getElem_mem (show 1 < S.length by omega))
  have hle := allC_mem_le (List.getElem_mem (show 1 < S.length by omega))
  have HW := Lib.hid (fun L hL hw h1 => withs_front (S := S) (L := L) (c := (.iface T0 u0, l0, n0)) hS h2 hL hw h1)
  dsimp only at HW
  obtain ⟨x1, hx1⟩ : ∃ v, S[1].1 = v := ⟨_, rfl⟩
  obtain ⟨l1, hl1⟩ : ∃ v, S[1].2.1 = v := ⟨_, rfl⟩
  obtain ⟨n1, hn1⟩ : ∃ v, S[1].2.2 = v := ⟨_, rfl⟩
  rw [hx1] at c1 hv1
  rw [hl1] at hle hv1 HW
  rw [hn1] at hw1 hv1
  obtain ⟨T1, u1, rfl⟩ := hv1.iface
  have KL := Lib.hid (fun W (hW : Below w.heap.size w W) => levelled_calls d _ _ _ _ _ _ W (hvx.below hW) (hv1.below hW) (by rw [List.length_append]; omega))
  obtain ⟨n, hn⟩ : ∃ n, S.length = n := ⟨_, rfl⟩
  rw [hn] at hR h2 hm cg
  obtain ⟨r, hr⟩ : ∃ r, 2 + r = n := ⟨n - 2, by omega⟩
  obtain ⟨a2, c2, hr2, hp2⟩ := vrow_from hR 2 r hr
  rw [show (((2 : Nat)) : Int) = 2 from rfl] at hr2
  have KC := Lib.hid (fun (W : World) (a : Option Addr) (m c : Nat) (L : List Ch) (hW : Below w.heap.size w W) (hL : VRow d W (.slice a m c) L) (hl : L.length ≤ 2) => by
    have hfl : [((.slice a m c : Value), L), (.slice a2 r c2, S.drop 2)].flatMap (·.2) = L ++ S.drop 2 := by simp
    have := concatV_calls d _ _ _ (vrws_two 68 hL (hp2.below hW)) (by simp) (by rw [hfl]; simp only [List.length_append, List.length_drop]; omega)
    rw [hfl] at this
    exact this)
  have HN := Lib.hid (show 4 ≤ n0 + n1 by omega)
  have HS : Hid (∀ W, Below w.heap.size w W → W.cell? ⟨g, 0, none⟩ = some (.slice (some ⟨b1, off1, none⟩) n cap) ∧ W.cell? ⟨b, off, none⟩ = some (.iface T0 u0) ∧ W.cell? ⟨b1, off1 + 1, none⟩ = some (.iface T1 u1)) := Lib.hid (fun W hB => ⟨look_below hB cg, look_below hB c0, look_below hB c1⟩)
  have hbr : Below w.heap.size w w.drew := drew_below _
  have hge : decide ((4 : Int) ≤ (n0 : Int)) = false := by rw [decide_eq_false_iff_not]; omega
  have h1n : (1 : Int) < (n : Int) := by omega
  have h1m : 1 < n := by omega
  clear hp2 hR hT hS hvx hn hf cg hcT hcS c1 hv1 hx1 hl1 hn1 hw1 hle
  go_enter Try.func50, Try.ntmps50
  go_wp2_with fail
  refine KW.out.mono ?_
  rintro e w1 ⟨rfl, rfl⟩
  go_wp2_with fail
  go_region_held3 (fun w' => w'.cell? ⟨g, 0, none⟩ = some (.slice (some ⟨b1, off1, none⟩) n cap) ∧ w'.cell? ⟨b, off, none⟩ = some (.iface T0 u0) ∧ w'.cell? ⟨b1, off1 + 1, none⟩ = some (.iface T1 u1)) (first | exact HS.out _ hbr | exact HS.out _ (hbr.alloc hbr.size _)) (first
    | ((with_reducible refine (KL.out _ hbr).mono ?_); rintro e w1 ⟨u, L, rfl, hu, hL, hN, hB1⟩; have hbr := below2 hbr hB1; have HU := Lib.hid (And.intro hu (And.intro hL hN)); clear hu hL hN; obtain ⟨au, nu, cu, rfl⟩ := HU.out.1.any)
    | ((with_reducible refine (KC.out _ _ _ _ _ hbr HU.out.1 HU.out.2.2.most).mono ?_); rintro e w1 ⟨u, rfl, hu, hB1⟩; have hbr := below2 (hbr.alloc hbr.size _) hB1; have HU2 := Lib.hid hu; clear hu; obtain ⟨au, nu, cu, rfl⟩ := HU2.out.any))
  go_wp2_with fail
  go_ret
  exact ⟨_, _, rfl, HU2.out, HW.out _ HU.out.2.1 (news_wide HU.out.2.2 HN.out) HU.out.2.2.some, hbr⟩

set_option maxHeartbeats 4000000 in
set_option maxRecDepth 100000 in
theorem with_behind_calls (d : Nat) (g : Nat) (ao : Option Addr) (cap j : Nat) (S : List Ch) (c : Ch) (nv : Value) (w : World) (cg : w.cell? ⟨g, 0, none⟩ = some (.slice ao S.length cap)) (hR : VRow d w (.slice ao S.length cap) S) (hS : Wide S)
    (hT : VRow d w nv [c]) (hc3 : 3 ≤ c.2.2) (hc4 : c.2.2 < 4) (hj : j + 1 < S.length) (hm : S.length ≤ 100000) (hm2 : c.2.1.length + (allC S).length ≤ 1000000) :
    Calls Try.prog 50 #[.pointer (some ⟨g, 0, none⟩), .int .i64 ((j : Int) + 1), nv] w fun e w' => ∃ u R, e = .returned u ∧ VRow d w' u R ∧ Withs S [c] (j + 1) R ∧ Below w.heap.size w w' := by
  obtain ⟨b, off, capT, rfl, hcT⟩ := vrow_slots hT (by simp)
  simp only [List.length_singleton] at hT hcT ⊢
  have hvx := hT.2 c (by simp)
  have c0 := hcT 0 (by simp)
  rw [Nat.add_zero, List.getElem_cons_zero] at c0
  obtain ⟨v0, l0, n0⟩ := c
  dsimp only at c0 hvx hc3 hc4 hm2
  obtain ⟨T0, u0, rfl⟩ := hvx.iface
  obtain ⟨f, hmf, hc, hf⟩ := hvx.width
  unfold Enters at hc
  have KW := Lib.hid (hf _ (Below.refl _ _))
  obtain ⟨b1, off1, capS, hsl, hcS⟩ := vrow_slots hR (by omega)
  cases hsl
  have c1 := hcS j (by omega)
  have hv1 := hR.2 _ (List.getElem_mem (show j < S.length by omega))
  have hw1 := hS _ (List.getElem_mem (show j < S.length by omega))
  have hle := allC_mem_le (List.getElem_mem (show j < S.length by omega))
  have HW := Lib.hid (fun L hL hw h1 => withs_behind (S := S) (L := L) (c := (.iface T0 u0, l0, n0)) hS hj hL hw h1)
  dsimp only at HW
  obtain ⟨x1, hx1⟩ : ∃ v, S[j].1 = v := ⟨_, rfl⟩
  obtain ⟨l1, hl1⟩ : ∃ v, S[j].2.1 = v := ⟨_, rfl⟩
  obtain ⟨n1, hn1⟩ : ∃ v, S[j].2.2 = v := ⟨_, rfl⟩
  rw [hx1] at c1 hv1
  rw [hl1] at hle hv1 HW
  rw [hn1] at hw1 hv1
  obtain ⟨T1, u1, rfl⟩ := hv1.iface
  have KL := Lib.hid (fun W (hW : Below w.heap.size w W) => levelled_calls d _ _ _ _ _ _ W (hv1.below hW) (hvx.below hW) (by rw [List.length_append]; omega))
  obtain ⟨n, hn⟩ : ∃ n, S.length = n := ⟨_, rfl⟩
  rw [hn] at hR hj hm cg
  obtain ⟨r, hr⟩ : ∃ r, j + 1 + 1 + r = n := ⟨n - (j + 1 + 1), by omega⟩
  obtain ⟨a1, k1, hr1, hp1⟩ := vrow_to hR j (by omega)
  obtain ⟨a2, c2, hr2, hp2⟩ := vrow_from hR (j + 1 + 1) r hr
  rw [show (((j + 1 + 1 : Nat)) : Int) = (j : Int) + 1 + 1 by omega] at hr2
  have KC := Lib.hid (fun (W : World) (a : Option Addr) (m c : Nat) (L : List Ch) (hW : Below w.heap.size w W) (hL : VRow d W (.slice a m c) L) (hl : L.length ≤ 2) => by
    have hfl : [((.slice a1 j k1 : Value), S.take j), (.slice a m c, L), (.slice a2 r c2, S.drop (j + 1 + 1))].flatMap (·.2) = S.take j ++ (L ++ S.drop (j + 1 + 1)) := by simp
    have := concatV_calls d _ _ _ (vrws_three 68 (hp1.below hW) hL (hp2.below hW)) (by simp) (by rw [hfl]; simp only [List.length_append, List.length_take, List.length_drop]; omega)
    rw [hfl] at this
    exact this)
  have HN := Lib.hid (show 4 ≤ n1 + n0 by omega)
  have HS : Hid (∀ W, Below w.heap.size w W → W.cell? ⟨g, 0, none⟩ = some (.slice (some ⟨b1, off1, none⟩) n cap) ∧ W.cell? ⟨b, off, none⟩ = some (.iface T0 u0) ∧ W.cell? ⟨b1, off1 + j, none⟩ = some (.iface T1 u1)) := Lib.hid (fun W hB => ⟨look_below hB cg, look_below hB c0, look_below hB c1⟩)
  have hbr : Below w.heap.size w w.drew := drew_below _
  have hge : decide ((4 : Int) ≤ (n0 : Int)) = false := by rw [decide_eq_false_iff_not]; omega
  have h1n : (j : Int) < (n : Int) := by omega
  have h1m : j < n := by omega
  have hz : decide ((j : Int) + 1 = 0) = false := by rw [decide_eq_false_iff_not]; omega
  have hz2 : ((j : Int) + 1 == 0) = false := by rw [beq_eq_false_iff_ne]; omega
  have hi1 : IntKind.i64.wrap ((j : Int) + 1 + 1) = (j : Int) + 1 + 1 := by rw [IntKind.wrap_i64]; omega
  have hi0 : IntKind.i64.wrap ((j : Int) + 1 - 1) = (j : Int) := by rw [IntKind.wrap_i64]; omega
  have hi2 : IntKind.i64.wrap (j : Int) = (j : Int) := by rw [IntKind.wrap_i64]; omega
  clear hp1 hp2 hR hT hS hvx hn hf cg hcT hcS c1 hv1 hx1 hl1 hn1 hw1 hle
  go_enter Try.func50, Try.ntmps50
  go_wp2_with fail
  refine KW.out.mono ?_
  rintro e w1 ⟨rfl, rfl⟩
  go_wp2_with fail
  go_region_held3 (fun w' => w'.cell? ⟨g, 0, none⟩ = some (.slice (some ⟨b1, off1, none⟩) n cap) ∧ w'.cell? ⟨b, off, none⟩ = some (.iface T0 u0) ∧ w'.cell? ⟨b1, off1 + j, none⟩ = some (.iface T1 u1)) (first | exact HS.out _ hbr | exact HS.out _ (hbr.alloc hbr.size _)) (first
    | ((with_reducible refine (KL.out _ hbr).mono ?_); rintro e w1 ⟨u, L, rfl, hu, hL, hN, hB1⟩; have hbr := below2 hbr hB1; have HU := Lib.hid (And.intro hu (And.intro hL hN)); clear hu hL hN; obtain ⟨au, nu, cu, rfl⟩ := HU.out.1.any)
    | ((with_reducible refine (KC.out _ _ _ _ _ hbr HU.out.1 HU.out.2.2.most).mono ?_); rintro e w1 ⟨u, rfl, hu, hB1⟩; have hbr := below2 (hbr.alloc hbr.size _) hB1; have HU2 := Lib.hid hu; clear hu; obtain ⟨au, nu, cu, rfl⟩ := HU2.out.any))
  go_wp2_with fail
  go_ret
  exact ⟨_, _, rfl, HU2.out, HW.out _ HU.out.2.1 (news_wide HU.out.2.2 HN.out) HU.out.2.2.some, hbr⟩

end Go.Proofs.Ytgbicdbmmjleoaa
