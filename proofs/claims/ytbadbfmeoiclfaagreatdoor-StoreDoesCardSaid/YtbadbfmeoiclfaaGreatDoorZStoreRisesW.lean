/-
  StoreRises: the walk.
-/
import Derived.Test.YtbadbfmeoiclfaaGreatDoorPks15b
namespace Go.Proofs.YtbadbfmeoiclfaaGreatDoor
set_option maxRecDepth 100000
open Go.RowKit

theorem tookK_snoc {K : List Lv} {x : Lv} (h : TookK (K ++ [x])) : TookK K ∧ layB (pairsK K) x.1.1 (chs x.2) = true ∧ lastI (pairsK (K ++ [x])) = x.1.1 := by
  unfold TookK at h
  rw [lds_snoc] at h
  refine ⟨h.1, h.2, ?_⟩
  unfold pairsK
  rw [lds_snoc]
  exact layR_last h
theorem tookK_front : ∀ (B A : List Lv), TookK (A ++ B) → TookK A
  | [], A, h => by rwa [List.append_nil] at h
  | b :: B, A, h => by
    rw [← List.singleton_append, ← List.append_assoc] at h
    exact (tookK_snoc (tookK_front B (A ++ [b]) h)).1
theorem tookK_take {K : List Lv} (h : TookK K) (k : Nat) : TookK (K.take k) := by
  rw [← List.take_append_drop k K] at h
  exact tookK_front _ _ h
/-- Each time is behind what was laid ahead of it. -/
theorem tookK_at {K : List Lv} (h : TookK K) {k : Nat} (hk : k < K.length) : lastI (pairsK (K.take k)) < K[k].1.1 ∧ lastI (pairsK (K.take (k + 1))) = K[k].1.1 := by
  have h1 := tookK_take h (k + 1)
  have e : K.take (k + 1) = K.take k ++ [K[k]] := by rw [List.take_append_getElem]
  rw [e] at h1 ⊢
  obtain ⟨_, h2, h3⟩ := tookK_snoc h1
  exact ⟨(layB_iff.1 h2).2.2.2, h3⟩
theorem lastS_took {K : List Lv} (h : TookK K) : lastSo (pairsK K) = lastI (pairsK K) := by
  unfold lastSo
  rw [(pairsK_st h).2]
  rfl
theorem Lds.one (w : World) (u : Value) (C : List Cv) (t : TypeId) (h : Cgs w u C) : Lds (w.alloc (.cells #[.int .i64 0, u] t)) (.slice (some ⟨w.heap.size, 0, none⟩) 1 1) [((0, u), C)] := by
  refine ⟨⟨rfl, _, _, rfl, Nat.le_refl _, .inr ⟨_, 0, rfl, fun j hj => ?_⟩⟩, fun x hx => ?_⟩
  · rw [Nat.zero_add, World.cell?_alloc_new]
    simp [lcells, lcell] at hj ⊢
  · obtain rfl := List.mem_singleton.1 hx
    exact h.below (below_alloc _ _)
/-- What may be asked of a batch. -/
def FitC (C : List Cv) : Prop := C.length ≤ 9223372036854775807 ∧ ∀ c ∈ chs C, c.1.length ≤ 9223372036854775807 ∧ c.2.2.2.2.length ≤ 9223372036854775807
theorem FitC.one {C : List Cv} (h : FitC C) (u : Value) : FitL [((0, u), C)] := ⟨by simp, fun x hx => by obtain rfl := List.mem_singleton.1 hx; exact h⟩
theorem treeV_none (w : World) : TreeV w (.pointer none) [] := ⟨List.Pairwise.nil, .inl ⟨rfl, rfl⟩⟩

set_option maxHeartbeats 8000000 in
theorem storeRises_walk (v : Value) (S : List Lv) (n : Int) (u : Value) (C : List Cv) (w : World) (h : Lds w v S) (hf : FitL S) (hC : Cgs w u C) (hfC : FitC C) (hml : Ml w) :
    Calls Tryz.prog 7 #[v, .int .i64 n, u] w fun e w' => e = .returned (.bool true) ∧ Below w.heap.size w w' := by
  obtain ⟨av, cv, rfl⟩ := h.form
  obtain ⟨au, cu, rfl⟩ := hC.form
  obtain ⟨nC, hnC⟩ : ∃ k, C.length = k := ⟨_, rfl⟩
  have KB := Lib.hid (refL_calls _ S w h hf)
  have KB2 := Lib.hid (refL_calls _ _ _ (Lds.one w _ C 27 hC) (hfC.one _))
  cases hb : bigL S with
  | true =>
    rw [hb] at KB
    rw [hnC]
    clear h hf hC hfC hb KB2 hnC
    go_enter Tryz.func7, Tryz.ntmps7
    go_wp2_with fail
    refine KB.out.mono ?_
    rintro e w1 ⟨rfl, rfl⟩
    go_wp2_with fail
    go_ret
    exact ⟨rfl, Below.refl _ _⟩
  | false =>
    obtain ⟨hS20, hSs⟩ := bigL_small hb
    rw [hb] at KB
    cases hb2 : bigL [((0, Value.slice au C.length cu), C)] with
    | true =>
      rw [hb2] at KB2
      rw [hnC] at KB2 ⊢
      have HB := Lib.hid (below_alloc w (.cells #[.int .i64 0, .slice au nC cu] 27))
      clear h hf hC hfC hb hb2 hnC hSs
      go_enter Tryz.func7, Tryz.ntmps7
      go_wp2_with fail
      refine KB.out.mono ?_
      rintro e w1 ⟨rfl, rfl⟩
      go_wp2_with fail
      refine KB2.out.mono ?_
      rintro e w1 ⟨rfl, rfl⟩
      go_wp2_with fail
      go_ret
      exact ⟨rfl, HB.out⟩
    | false =>
      obtain ⟨_, hCs⟩ := bigL_small hb2
      obtain ⟨hCs1, hCs2⟩ := hCs _ (List.mem_singleton.2 rfl)
      dsimp only at hCs1 hCs2
      rw [hb2] at KB2
      rw [hnC] at KB2 ⊢
      have hBa := below_alloc w (.cells #[.int .i64 0, .slice au nC cu] 27)
      have HB := Lib.hid hBa
      have KD := Lib.hid (soLaid_calls _ S _ (h.below hBa) hS20 hSs (hml.below hBa))
      have HK := Lib.hid (took_all S)
      obtain ⟨K, hK⟩ : ∃ K, tookS S = K := ⟨_, rfl⟩
      rw [hK] at KD HK
      have HQ := Lib.hid (And.intro hC (And.intro hml (And.intro hCs1 (And.intro hCs2 hnC))))
      clear h hf hC hfC hb hb2 hnC hSs hCs hCs1 hCs2 hml hK hBa
      go_enter Tryz.func7, Tryz.ntmps7
      go_wp2_with fail
      refine KB.out.mono ?_
      rintro e w1 ⟨rfl, rfl⟩
      go_wp2_with fail
      refine KB2.out.mono ?_
      rintro e w1 ⟨rfl, rfl⟩
      go_wp2_with fail
      refine KD.out.mono ?_
      rintro e w2 ⟨t, r, rfl, ht, hr, hB2⟩
      obtain ⟨tp, rfl⟩ := ht.val
      obtain ⟨ar, cr, rfl⟩ := hr.form
      have HT := Lib.hid (And.intro ht (And.intro hr.lds (below2 HB.out hB2)))
      clear ht hr hB2
      go_wp2_with fail
      have hK20 : K.length ≤ 20 := by have := HK.out.2.1; omega
      go_loop [9, 10] (fun x i => ∃ k : Nat, i = .int .i64 k ∧ k ≤ K.length ∧ x = .int .i64 (lastI (pairsK (K.take k)))) (fun _ i => K.length - (intOf i).toNat)
      case atStart => exact ⟨0, rfl, Nat.zero_le _, rfl⟩
      case round =>
        obtain ⟨k, rfl, hk, rfl⟩ := hrel
        by_cases hlt : k < K.length
        · have hd : decide ((k : Int) < (K.length : Int)) = true := by rw [decide_eq_true_eq]; omega
          obtain ⟨b, off, rfl, ⟨c0, c1⟩, _⟩ := HT.out.2.1.at hlt
          obtain ⟨h1, h2⟩ := tookK_at HK.out.1 hlt
          obtain ⟨m, hm⟩ : ∃ m, K[k].1.1 = m := ⟨_, rfl⟩
          obtain ⟨m0, hm0⟩ : ∃ m, lastI (pairsK (K.take k)) = m := ⟨_, rfl⟩
          rw [hm] at c0 h1 h2
          rw [hm0] at h1 ⊢
          have hd2 : decide (m ≤ m0) = false := decide_eq_false (by omega)
          have H2 := Lib.hid h2
          clear c1 hm hm0 h1 h2
          go_wp2_with fail
          go_round
          case rel => exact ⟨k + 1, by go_num, by omega, by rw [H2.out]⟩
          case measure => simp [intOf]; omega
        · obtain rfl : k = K.length := by omega
          have hd : decide ((K.length : Int) < (K.length : Int)) = false := by simp
          rw [List.take_of_length_le (Nat.le_refl _)]
          have hM := HQ.out.2.1.below HT.out.2.2
          have hst := pairsK_sto HK.out.1 (by have := HK.out.2.1; omega) HT.out.1 hM
          have hls := lastS_took HK.out.1
          have hps := pairsK_st HK.out.1
          have hlen := pairsK_len HK.out.1
          obtain ⟨U, hU⟩ : ∃ U, pairsK K = U := ⟨_, rfl⟩
          rw [hU] at hst hls hps hlen ⊢
          obtain ⟨m, hm⟩ : ∃ m, lastI U = m := ⟨_, rfl⟩
          have KS := Lib.hid (fun W hm => stored_calls W hm)
          by_cases hly : layB U n (chs C) = true
          · have KL := Lib.hid (lay_ok hst n _ C (HQ.out.1.below HT.out.2.2) HQ.out.2.2.1 hps.2 hly)
            obtain ⟨l1, l2, l3, l4⟩ := layB_iff.1 hly
            obtain ⟨b1, b2, b3, b4⟩ := isB_iff.1 l3
            have hT2 : TookK (K ++ [((n, .slice au C.length cu), C)]) := by
              unfold TookK
              rw [lds_snoc]
              exact ⟨HK.out.1, by rw [← hU] at hly; exact hly⟩
            have hp2 : pairsK (K ++ [((n, .slice au C.length cu), C)]) = layP U n (chs C) := by rw [pairsK_snoc, hU]
            have g1 : lastSo (layP U n (chs C)) = n := by
              rw [← hp2, lastS_took hT2, (tookK_snoc hT2).2.2]
            have g2 := lay_length (chs C) n hps.1 (sort_unlike b4) (till_last l4)
            have hC20 : C.length ≤ 20 := by simpa using b2
            rw [List.length_map, HQ.out.2.2.2.2] at g2
            have KU := Lib.hid (fun tv W (ht : TreeV W tv (layP U n (chs C))) (hm : Ml W) => soLast_calls (pairsK_sto hT2 (by simp; omega) (hp2 ▸ ht) hm))
            rw [hp2, g1] at KU
            have KT := Lib.hid (fun W (hB : Below w2.heap.size w2 W) => soLast_calls (hst.below hB))
            rw [hls, hm] at KT
            rw [HQ.out.2.2.2.2] at KL
            rw [hm] at l4 ⊢
            have hd3 : decide (m < n) = true := decide_eq_true l4
            have KN := Lib.hid (fun W (hB : Below w2.heap.size w2 W) => tlen_calls _ U W (hst.1.below hB))
            obtain ⟨q, hq⟩ : ∃ q, U.length = q := ⟨_, rfl⟩
            rw [hq] at KN g2 hlen
            have hlq : q ≤ 400 := by omega
            have hnq : nC ≤ 20 := by have := HQ.out.2.2.2.2; omega
            have HG := Lib.hid g2
            have hd4 : ((q : Int) + (nC : Int) == (q : Int) + (nC : Int)) = true := by simp
            clear hst hls hps hlen hly l1 l2 l3 b1 b2 b3 b4 hT2 hp2 g1 g2 hC20 hU hm hq
            go_wp2_with fail
            refine KL.out.mono ?_
            rintro e w3 ⟨u3, rfl, hu3, hB3⟩
            obtain ⟨p3, rfl⟩ := hu3.val
            have HU3 := Lib.hid (And.intro hu3 hB3)
            clear hu3 hB3
            go_wp2_with fail
            refine (KS.out _ (HQ.out.2.1.below (below2 HT.out.2.2 HU3.out.2))).mono ?_
            rintro e w4 ⟨rfl, hB4⟩
            have HU4 := Lib.hid (And.intro (HU3.out.1.below hB4) (below2 HU3.out.2 hB4))
            clear hB4
            go_wp2_with fail
            refine (KT.out _ HU4.out.2).mono ?_
            rintro e w5 ⟨rfl, hB5⟩
            have HU5 := Lib.hid (And.intro (HU4.out.1.below hB5) (below2 HU4.out.2 hB5))
            clear hB5
            go_wp2_with fail
            refine (KU.out _ _ HU5.out.1 (HQ.out.2.1.below (below2 HT.out.2.2 HU5.out.2))).mono ?_
            rintro e w6 ⟨rfl, hB6⟩
            have HU6 := Lib.hid (And.intro (HU5.out.1.below hB6) (below2 HU5.out.2 hB6))
            clear hB6
            go_wp2_with fail
            refine (tlen_calls _ _ _ HU6.out.1).mono ?_
            rintro e w7 ⟨rfl, rfl⟩
            rw [HG.out]
            go_wp2_with fail
            refine (KN.out _ HU6.out.2).mono ?_
            rintro e w8 ⟨rfl, rfl⟩
            go_wp2_with fail
            go_ret
            exact ⟨by simp, below2 HT.out.2.2 HU6.out.2⟩
          · have hly2 : (isSt U && layB U n (chs C)) = false := by
              cases h : layB U n (chs C) with
              | false => simp
              | true => exact absurd h hly
            have KL := Lib.hid (lay_no hst n _ C (HQ.out.1.below HT.out.2.2) (by have := HQ.out.2.2.2.1; omega) HQ.out.2.2.1 hly2)
            have KT := Lib.hid (fun W (hB : Below w2.heap.size w2 W) => soLast_calls (hst.below hB))
            rw [hls, hm] at KT
            rw [HQ.out.2.2.2.2] at KL
            rw [hm]
            clear hst hls hps hlen hly hly2 hU hm
            go_wp2_with fail
            refine KL.out.mono ?_
            rintro e w3 ⟨rfl, hB3⟩
            have HB3 := Lib.hid hB3
            clear hB3
            go_wp2_with fail
            refine (KS.out _ (HQ.out.2.1.below (below2 HT.out.2.2 HB3.out))).mono ?_
            rintro e w4 ⟨rfl, hB4⟩
            have HB4 := Lib.hid (below2 HB3.out hB4)
            clear hB4
            go_wp2_with fail
            refine (tlen_calls _ _ _ (treeV_none w4)).mono ?_
            rintro e w5 ⟨rfl, rfl⟩
            go_wp2_with fail
            refine (KT.out _ HB4.out).mono ?_
            rintro e w6 ⟨rfl, hB6⟩
            go_wp2_with fail
            go_ret
            exact ⟨by simp, below2 HT.out.2.2 (below2 HB4.out hB6)⟩

end Go.Proofs.YtbadbfmeoiclfaaGreatDoor
