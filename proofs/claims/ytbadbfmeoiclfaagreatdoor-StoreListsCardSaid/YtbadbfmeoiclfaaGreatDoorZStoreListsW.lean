/-
  StoreLists: the walk. Written by gen/solists.py.
-/
import Derived.Test.YtbadbfmeoiclfaaGreatDoorZStoreModelW
namespace Go.Proofs.YtbadbfmeoiclfaaGreatDoor
set_option maxRecDepth 100000
open Go.RowKit

theorem told_at {U : List Pr} (h : Rises U) {p : List UInt8} {n : Int} {e : En} (ht : told (asOf U p n) = some e) : e.1 = p ∧ e.2.1 ≤ n := by
  cases ha : asOf U p n with
  | none => rw [ha] at ht; cases ht
  | some x =>
    rw [ha] at ht
    obtain ⟨_, h2, h3, _⟩ := (asOf_iff h).1 ha
    unfold told at ht
    dsimp only at ht
    split at ht
    · cases ht
    · cases ht
      exact ⟨h2, h3⟩
theorem under_path {d p : List UInt8} (h : underOf d p = true) : isP p = true := by
  unfold underOf at h
  unfold isP
  cases h1 : namesOf d with
  | none => rw [h1] at h; cases h
  | some a =>
    cases h2 : namesOf p with
    | none => rw [h1, h2] at h; cases h
    | some b => rfl
/-- What List tells, AsOf tells. -/
theorem list_at {K : List Lv} (h : TookK K) {d : List UInt8} {n : Int} (h0 : 0 ≤ n) {e : En} (he : e ∈ listL (pairsK K) d n) :
    refE e.1 n = 0 ∧ asL (pairsK K) e.1 n = some e ∧ e.2.1 ≤ n ∧ e.2.2.2.2.length ≤ 1000000 ∧ e.1.length ≤ 1000000 := by
  obtain ⟨h1, h2⟩ := (mem_list (pairsK_st h).1).1 he
  have h3 : refE e.1 n = 0 := ref_zero.2 ⟨under_path h1, h0⟩
  refine ⟨h3, by rw [asL, if_pos h3, h2], (told_at (pairsK_st h).1 h2).2, list_chunks h he, ?_⟩
  have := under_len h1
  omega
theorem list_in {K : List Lv} (h : TookK K) {d p : List UInt8} {n : Int} (hp : refE p n = 0) :
    ((listL (pairsK K) d n).any (fun e => e.1 == p) = true → (asL (pairsK K) p n).isSome = true) ∧ (d = [] → (asL (pairsK K) p n).isSome = (listL (pairsK K) d n).any (fun e => e.1 == p)) := by
  have hU := (pairsK_st h).1
  have e1 : asL (pairsK K) p n = told (asOf (pairsK K) p n) := by rw [asL, if_pos hp]
  have h1 : (listL (pairsK K) d n).any (fun e => e.1 == p) = true → (asL (pairsK K) p n).isSome = true := by
    intro ha
    obtain ⟨e, he, hq⟩ := List.any_eq_true.1 ha
    obtain ⟨_, h2⟩ := (mem_list hU).1 he
    rw [show e.1 = p by simpa using hq] at h2
    rw [e1, h2]
    rfl
  refine ⟨h1, fun hd => ?_⟩
  subst hd
  cases hs : (asL (pairsK K) p n).isSome with
  | false =>
    cases ha : (listL (pairsK K) [] n).any (fun e => e.1 == p) with
    | false => rfl
    | true => rw [h1 ha] at hs; cases hs
  | true =>
    obtain ⟨e, he⟩ := Option.isSome_iff_exists.1 hs
    rw [e1] at he
    have hq := (told_at hU he).1
    refine (List.any_eq_true.2 ⟨e, (mem_list hU).2 ⟨?_, by rw [hq]; exact he⟩, by simpa using hq⟩).symm
    rw [hq, under_root]
    exact (ref_zero.1 hp).1
theorem len_mono {α β : Type} (f : α → Option β) (p q : α → Bool) (h : ∀ x, p x = true → q x = true) : ∀ P : List α, ((P.filter p).filterMap f).length ≤ ((P.filter q).filterMap f).length
  | [] => by simp
  | x :: P => by
    have ih := len_mono f p q h P
    cases hp : p x with
    | true =>
      rw [List.filter_cons_of_pos hp, List.filter_cons_of_pos (h x hp)]
      cases hf : f x with
      | none => rw [List.filterMap_cons_none hf, List.filterMap_cons_none hf]; exact ih
      | some y => rw [List.filterMap_cons_some hf, List.filterMap_cons_some hf]; simpa using ih
    | false =>
      rw [List.filter_cons_of_neg (by simp [hp])]
      cases hq : q x with
      | false => rw [List.filter_cons_of_neg (by simp [hq])]; exact ih
      | true =>
        rw [List.filter_cons_of_pos hq]
        cases hf : f x with
        | none => rw [List.filterMap_cons_none hf]; exact ih
        | some y => rw [List.filterMap_cons_some hf, List.length_cons]; omega
theorem list_more (U : List Pr) (d : List UInt8) (n : Int) : (listL U d n).length ≤ (listL U [] n).length := by
  unfold listL
  exact len_mono _ _ _ (fun x hx => by rw [under_root]; exact under_path hx) _
theorem rise_at {S : List Ev} (h : RiseE (ens S)) {j : Nat} (hj : j + 1 < S.length) : Op.bytesLess S[j].1.1 S[j + 1].1.1 = true := by
  have := List.pairwise_iff_getElem.1 h j (j + 1) (by simp; omega) (by simpa using hj) (by omega)
  simpa using this
theorem any_next {S : List Ev} {k : Nat} (hk : k < S.length) (f : Ev → Bool) : (S.take (k + 1)).any f = ((S.take k).any f || f S[k]) := by
  rw [← List.take_append_getElem hk, List.any_append]
  simp

set_option maxHeartbeats 8000000 in
theorem storeLists_walk (v : Value) (S : List Lv) (d p : List UInt8) (m : Int) (w : World) (h : Lds w v S) (hf : FitL S) (hd : d.length ≤ 9223372036854775807) (hp : p.length ≤ 9223372036854775807) (hml : Ml w) :
    Calls Tryz.prog 6 #[v, .string ⟨d.toArray⟩, .string ⟨p.toArray⟩, .int .i64 m] w fun e w' => e = .returned (.bool true) ∧ Below w.heap.size w w' := by
  obtain ⟨av, cv, rfl⟩ := h.form
  have KB := Lib.hid (refL_calls _ S w h hf)
  by_cases hfar : (bigL S = true ∨ (bigL S = false ∧ 300 < d.length)) ∨ (bigL S = false ∧ ¬ 300 < d.length ∧ 300 < p.length)
  · obtain ⟨bb, hb⟩ : ∃ x, bigL S = x := ⟨_, rfl⟩
    obtain ⟨b1, hb1⟩ : ∃ x, decide ((300 : Int) < (d.length : Int)) = x := ⟨_, rfl⟩
    obtain ⟨b2, hb2⟩ : ∃ x, decide ((300 : Int) < (p.length : Int)) = x := ⟨_, rfl⟩
    have hcase : bb = true ∨ (bb = false ∧ b1 = true) ∨ (bb = false ∧ b1 = false ∧ b2 = true) := by
      rcases hfar with (h1 | ⟨h1, h2⟩) | ⟨h1, h2, h3⟩
      · exact .inl (hb ▸ h1)
      · exact .inr (.inl ⟨hb ▸ h1, by rw [← hb1, decide_eq_true_eq]; omega⟩)
      · exact .inr (.inr ⟨hb ▸ h1, by rw [← hb1, decide_eq_false_iff_not]; omega, by rw [← hb2, decide_eq_true_eq]; omega⟩)
    rw [hb] at KB
    clear h hf hml hfar hb
    rcases hcase with rfl | ⟨rfl, rfl⟩ | ⟨rfl, rfl, rfl⟩
    all_goals
      go_enter Tryz.func6, Tryz.ntmps6
      go_wp2_with fail
      refine KB.out.mono ?_
      rintro e w1 ⟨rfl, rfl⟩
      go_wp2_with fail
      go_ret
      exact ⟨rfl, Below.refl _ _⟩
  · rw [not_or, not_or] at hfar
    have hb : bigL S = false := by simpa using hfar.1.1
    have hd3 : ¬ 300 < d.length := fun e => hfar.1.2 ⟨hb, e⟩
    have hp3 : ¬ 300 < p.length := fun e => hfar.2 ⟨hb, hd3, e⟩
    have hdd : decide ((300 : Int) < (d.length : Int)) = false := by rw [decide_eq_false_iff_not]; omega
    have hpp : decide ((300 : Int) < (p.length : Int)) = false := by rw [decide_eq_false_iff_not]; omega
    obtain ⟨hS20, hSs⟩ := bigL_small hb
    rw [hb] at KB
    have KD := Lib.hid (soLaid_calls _ S w h hS20 hSs hml)
    have HK := Lib.hid (took_all S)
    obtain ⟨K, hK⟩ : ∃ K, tookS S = K := ⟨_, rfl⟩
    rw [hK] at KD HK
    have hK20 : K.length ≤ 20 := by have := HK.out.2.1; omega
    have HST := Lib.hid (fun (W : World) tv (ht : TreeV W tv (pairsK K)) (hm : Ml W) => pairsK_sto HK.out.1 (by omega) ht hm)
    have hsK := Lib.hid (pairsK_st HK.out.1).2
    have KI := Lib.hid (fun (W : World) tv (hs : Sto W tv (pairsK K)) => list_calls hs hsK.out d m (by omega))
    have KI0 := Lib.hid (fun (W : World) tv (hs : Sto W tv (pairsK K)) => list_calls hs hsK.out [] m (by simp))
    have KA := Lib.hid (fun (W : World) tv (hs : Sto W tv (pairsK K)) q (hq : q.length ≤ 1000000) => asOf_calls hs hsK.out q m hq)
    have KS := Lib.hid (fun W hm => stored_calls W hm)
    have HQ := Lib.hid hml
    have HP := Lib.hid (show p.length ≤ 1000000 by omega)
    by_cases h0 : refE d m = 0
    · obtain ⟨hid, hm0⟩ := ref_zero.1 h0
      have hroot : refE [] m = 0 := ref_zero.2 ⟨rfl, hm0⟩
      rw [h0, if_pos rfl] at KI
      rw [hroot, if_pos rfl] at KI0
      obtain ⟨L, hL⟩ : ∃ L, listL (pairsK K) d m = L := ⟨_, rfl⟩
      have HLA := Lib.hid (fun e (he : e ∈ L) => list_at HK.out.1 hm0 (d := d) (e := e) (hL ▸ he))
      have HLR := Lib.hid (show RiseE L from hL ▸ list_rise (pairsK_st HK.out.1).1 d m)
      have HLM := Lib.hid (show L.length ≤ (listL (pairsK K) [] m).length from hL ▸ list_more (pairsK K) d m)
      have HLN := Lib.hid (show L.length ≤ 400 by have h1 := listL_len (pairsK K) d m; have h2 := pairsK_len HK.out.1; rw [hL] at h1; omega)
      have HLI := Lib.hid (fun (hp : refE p m = 0) => list_in HK.out.1 (d := d) hp)
      rw [hL] at KI HLI
      clear h hf hb hSs hml hK hfar hd3 hp3 h0 hid hm0 hroot hL
      go_enter Tryz.func6, Tryz.ntmps6
      go_wp2_with fail
      refine KB.out.mono ?_
      rintro e w1 ⟨rfl, rfl⟩
      go_wp2_with fail
      refine KD.out.mono ?_
      rintro e w2 ⟨t, r, rfl, ht, hr, hB2⟩
      obtain ⟨tp, rfl⟩ := ht.val
      obtain ⟨ar, cr, rfl⟩ := hr.form
      have HT := Lib.hid (And.intro (HST.out _ _ ht (HQ.out.below hB2)) hB2)
      clear ht hr hB2
      go_wp2_with fail
      refine (KI.out _ _ HT.out.1).mono ?_
      rintro e w3 ⟨v3, S3, rfl, ho3, he3, hB3⟩
      obtain ⟨a3, c3, rfl⟩ := ho3.form
      obtain ⟨n3, hn3⟩ : ∃ n, S3.length = n := ⟨_, rfl⟩
      have h3e := ho3.ents
      rw [hn3] at h3e ⊢
      have H3 := Lib.hid (And.intro h3e (And.intro he3 (And.intro hn3 hB3)))
      have HT3 := Lib.hid (And.intro (HT.out.1.below hB3) (below2 HT.out.2 hB3))
      clear ho3 he3 hB3 h3e
      have hn3' : n3 ≤ 400 := by
        have h1 := HLN.out
        rw [← H3.out.2.1, List.length_map, H3.out.2.2.1] at h1
        exact h1
      go_wp2_with fail
      go_loopw [13, 14] (fun x i wr => ∃ (inb : Bool) (k : Nat), x = .bool inb ∧ i = .int .i64 k ∧ k ≤ n3 ∧ Hid ((S3.take k).any (fun x => x.1.1 == p) = inb) ∧ Hid (Below w3.heap.size w3 wr)) (fun _ i _ => n3 - (intOf i).toNat)
      case atStart => exact ⟨false, 0, rfl, rfl, Nat.zero_le _, Lib.hid (by simp), Lib.hid (Below.refl _ _)⟩
      case round =>
        obtain ⟨inb, k, rfl, rfl, hk, hin, hB⟩ := hrel
        by_cases hlt : k < n3
        · have hlt3 : k < S3.length := by omega
          have hd1 : decide ((k : Int) < (n3 : Int)) = true := by rw [decide_eq_true_eq]; omega
          obtain ⟨b, off, rfl, ⟨x0, x1, x2, x3, x4⟩, hI⟩ := (H3.out.1.below hB.out).at hlt3
          have hla := HLA.out _ (by rw [← H3.out.2.1]; exact List.mem_map_of_mem (List.getElem_mem hlt3))
          have hgo := any_next hlt3 (fun x => x.1.1 == p)
          have hri := fun (j : Nat) (hj : j + 1 < S3.length) => rise_at (by rw [H3.out.2.1]; exact HLR.out) hj
          obtain ⟨⟨⟨q, n, z, dd, cs⟩, vv⟩, hx⟩ : ∃ x, S3[k] = x := ⟨_, rfl⟩
          rw [hx] at x0 x1 x2 x3 x4 hI hla hgo
          dsimp only at x0 x1 x2 x3 x4 hI hla hgo
          obtain ⟨s1, s3, rfl⟩ := hI.form
          obtain ⟨ln, hln⟩ : ∃ n, cs.length = n := ⟨_, rfl⟩
          rw [hln] at x4 hI
          obtain ⟨l1, l2, l3, l4, l5⟩ := hla
          have hKA := KA.out _ _ (HT3.out.1.below hB.out) q l5
          rw [l1, l2] at hKA
          dsimp only [enD, Option.getD, Option.isSome, EV] at hKA
          have KAq := Lib.hid hKA
          have hdm : decide (m < n) = false := by rw [decide_eq_false_iff_not]; omega
          have HX := Lib.hid (And.intro hI (And.intro hln (And.intro l4 (And.intro hx hri))))
          have HCA : Hid (∀ W, Below wr.heap.size wr W → (W.cell? ⟨b, off + k * 5, none⟩ = some (.string ⟨q.toArray⟩) ∧ W.cell? ⟨b, off + k * 5 + 1, none⟩ = some (.int .i64 n) ∧ W.cell? ⟨b, off + k * 5 + 2, none⟩ = some (.int .i64 z) ∧ W.cell? ⟨b, off + k * 5 + 3, none⟩ = some (.int .i64 dd) ∧ W.cell? ⟨b, off + k * 5 + 4, none⟩ = some (.slice s1 ln s3))) := Lib.hid (fun W hW => ⟨look_below hW x0, look_below hW x1, look_below hW x2, look_below hW x3, look_below hW x4⟩)
          have HGO := Lib.hid hgo
          clear hI hln l1 l2 l3 l4 l5 hx hri hKA hgo
          go_wp2_with fail
          refine KAq.out.mono ?_
          rintro e w4 ⟨v4, rfl, hI4, hB4⟩
          obtain ⟨a4, c4, rfl⟩ := (ints_own hI4).form
          obtain ⟨W0, hW0⟩ : ∃ W0, W0 = w4.alloc (.cells #[.string ⟨q.toArray⟩, .int .i64 n, .int .i64 z, .int .i64 dd, .slice a4 cs.length c4] 41) := ⟨_, rfl⟩
          have hI4' := ints_own hI4
          rw [HX.out.2.1] at hI4' hW0 ⊢
          have hBa : Below w4.heap.size w4 W0 := hW0 ▸ below_alloc _ _
          have HW := Lib.hid (fun W (hW : Below W0.heap.size W0 W) => below2 hB4 (below2 hBa hW))
          have HC : Hid (∀ W, Below W0.heap.size W0 W → (W.cell? ⟨w4.heap.size, 0, none⟩ = some (.string ⟨q.toArray⟩) ∧ W.cell? ⟨w4.heap.size, 1, none⟩ = some (.int .i64 n) ∧ W.cell? ⟨w4.heap.size, 2, none⟩ = some (.int .i64 z) ∧ W.cell? ⟨w4.heap.size, 3, none⟩ = some (.int .i64 dd) ∧ W.cell? ⟨w4.heap.size, 4, none⟩ = some (.slice a4 ln c4)) ∧ (W.cell? ⟨b, off + k * 5, none⟩ = some (.string ⟨q.toArray⟩) ∧ W.cell? ⟨b, off + k * 5 + 1, none⟩ = some (.int .i64 n) ∧ W.cell? ⟨b, off + k * 5 + 2, none⟩ = some (.int .i64 z) ∧ W.cell? ⟨b, off + k * 5 + 3, none⟩ = some (.int .i64 dd) ∧ W.cell? ⟨b, off + k * 5 + 4, none⟩ = some (.slice s1 ln s3))) := Lib.hid (fun W hW => ⟨((hW0 ▸ Cx.new w4 41 [.string ⟨q.toArray⟩, .int .i64 n, .int .i64 z, .int .i64 dd, .slice a4 ln c4] : Cx W0 w4.heap.size _ _).below hW).five, HCA.out _ (below2 hB4 (below2 hBa hW))⟩)
          have KE := Lib.hid (fun W (hW : Below W0.heap.size W0 W) => sameEntry_calls (q, n, z, dd, cs) (q, n, z, dd, cs) (.slice a4 ln c4) (.slice s1 ln s3) W (hI4'.below (below2 hBa hW)) (HX.out.1.below (below2 hB4 (below2 hBa hW))) HX.out.2.2.1)
          rw [show sameE (q, n, z, dd, cs) (q, n, z, dd, cs) = true from sameE_iff.2 rfl] at KE
          dsimp only [EV] at KE
          have hbr : Below W0.heap.size W0 (w4.alloc (.cells #[.string ⟨q.toArray⟩, .int .i64 n, .int .i64 z, .int .i64 dd, .slice a4 ln c4] 41)).drew := hW0 ▸ drew_below _
          have HBR := Lib.hid hbr
          clear hI4 hI4' hB4 hBa hW0
          by_cases hk0 : k = 0
          · have hd0 : decide ((0 : Int) < (k : Int)) = false := by rw [decide_eq_false_iff_not]; omega
            have hd0' : decide (0 < k) = false := by rw [decide_eq_false_iff_not]; omega
            clear hk0
            go_wp2_with fail
            all_goals
              refine wp_region_held_drew (S := (fun W => (W.cell? ⟨w4.heap.size, 0, none⟩ = some (.string ⟨q.toArray⟩) ∧ W.cell? ⟨w4.heap.size, 1, none⟩ = some (.int .i64 n) ∧ W.cell? ⟨w4.heap.size, 2, none⟩ = some (.int .i64 z) ∧ W.cell? ⟨w4.heap.size, 3, none⟩ = some (.int .i64 dd) ∧ W.cell? ⟨w4.heap.size, 4, none⟩ = some (.slice a4 ln c4)) ∧ (W.cell? ⟨b, off + k * 5, none⟩ = some (.string ⟨q.toArray⟩) ∧ W.cell? ⟨b, off + k * 5 + 1, none⟩ = some (.int .i64 n) ∧ W.cell? ⟨b, off + k * 5 + 2, none⟩ = some (.int .i64 z) ∧ W.cell? ⟨b, off + k * 5 + 3, none⟩ = some (.int .i64 dd) ∧ W.cell? ⟨b, off + k * 5 + 4, none⟩ = some (.slice s1 ln s3)))) (by kernel_rfl) (HC.out _ hbr) (fun hHeld => ?_)
              refine wpAnyH_take (i := 0) (oi := ⟨_, _, _, _, _, _⟩) (v := ?_) rfl (by kernel_rfl) (by kernel_rfl) (by kernel_rfl) (fun _ _ _ h => h) (Or.inl ⟨by rfl, ?_⟩) hHeld ?_
              rotate_left
              · (intro w hSw; (try dsimp only at hSw); go_simp; try with_reducible rfl)
              try simp only [Act.put, List.setIfInBounds_toArray, List.set_cons_zero, List.set_cons_succ]
              refine wpAnyH_take (i := 1) (oi := ⟨_, _, _, _, _, _⟩) (v := ?_) rfl (by kernel_rfl) (by kernel_rfl) (by kernel_rfl) (fun _ _ _ h => h) (Or.inl ⟨by rfl, ?_⟩) hHeld ?_
              rotate_left
              · (intro w hSw; (try dsimp only at hSw); go_simp; try with_reducible rfl)
              try simp only [Act.put, List.setIfInBounds_toArray, List.set_cons_zero, List.set_cons_succ]
              refine wpAnyH_take (i := 2) (oi := ⟨_, _, _, _, _, _⟩) (v := ?_) rfl (by kernel_rfl) (by kernel_rfl) (by kernel_rfl) (fun _ _ _ h => h) (Or.inl ⟨by rfl, ?_⟩) hHeld ?_
              rotate_left
              · (intro w hSw; (try dsimp only at hSw); go_simp; try with_reducible rfl)
              try simp only [Act.put, List.setIfInBounds_toArray, List.set_cons_zero, List.set_cons_succ]
              refine wpAnyH_take (i := 3) (oi := ⟨_, _, _, _, _, _⟩) (v := ?_) rfl (by kernel_rfl) (by kernel_rfl) (by kernel_rfl) (fun _ _ _ h => h) (Or.inl ⟨by rfl, ?_⟩) hHeld ?_
              rotate_left
              · (intro w hSw; (try dsimp only at hSw); go_simp; try with_reducible rfl)
              try simp only [Act.put, List.setIfInBounds_toArray, List.set_cons_zero, List.set_cons_succ]
              refine wpAnyH_take (i := 4) (oi := ⟨_, _, _, _, _, _⟩) (v := ?_) rfl (by kernel_rfl) (by kernel_rfl) (by kernel_rfl) (fun _ _ _ h => h) (Or.inl ⟨by rfl, ?_⟩) hHeld ?_
              rotate_left
              · (intro w hSw; (try dsimp only at hSw); go_simp; try with_reducible rfl)
              try simp only [Act.put, List.setIfInBounds_toArray, List.set_cons_zero, List.set_cons_succ]
              refine wpAnyH_take (i := 5) (oi := ⟨_, _, _, _, _, _⟩) (v := ?_) rfl (by kernel_rfl) (by kernel_rfl) (by kernel_rfl) (fun _ _ _ h => h) (Or.inl ⟨by rfl, ?_⟩) hHeld ?_
              rotate_left
              · (intro w hSw; (try dsimp only at hSw); go_simp; try with_reducible rfl)
              try simp only [Act.put, List.setIfInBounds_toArray, List.set_cons_zero, List.set_cons_succ]
              refine wpAnyH_take (i := 6) (oi := ⟨_, _, _, _, _, _⟩) (v := ?_) rfl (by kernel_rfl) (by kernel_rfl) (by kernel_rfl) (fun _ _ _ h => h) (Or.inl ⟨by rfl, ?_⟩) hHeld ?_
              rotate_left
              · (intro w hSw; (try dsimp only at hSw); go_simp; try with_reducible rfl)
              try simp only [Act.put, List.setIfInBounds_toArray, List.set_cons_zero, List.set_cons_succ]
              refine wpAnyH_take (i := 7) (oi := ⟨_, _, _, _, _, _⟩) (v := ?_) rfl (by kernel_rfl) (by kernel_rfl) (by kernel_rfl) (fun _ _ _ h => h) (Or.inl ⟨by rfl, ?_⟩) hHeld ?_
              rotate_left
              · (intro w hSw; (try dsimp only at hSw); go_simp; try with_reducible rfl)
              try simp only [Act.put, List.setIfInBounds_toArray, List.set_cons_zero, List.set_cons_succ]
              refine wpAnyH_take (i := 8) (oi := ⟨_, _, _, _, _, _⟩) (v := ?_) rfl (by kernel_rfl) (by kernel_rfl) (by kernel_rfl) (fun _ _ _ h => h) (Or.inl ⟨by rfl, ?_⟩) hHeld ?_
              rotate_left
              · (intro w hSw; (try dsimp only at hSw); go_simp; try with_reducible rfl)
              try simp only [Act.put, List.setIfInBounds_toArray, List.set_cons_zero, List.set_cons_succ]
              refine wpAnyH_take (i := 9) (oi := ⟨_, _, _, _, _, _⟩) (v := ?_) rfl (by kernel_rfl) (by kernel_rfl) (by kernel_rfl) (fun _ _ _ h => h) (Or.inl ⟨by rfl, ?_⟩) hHeld ?_
              rotate_left
              · (intro w hSw; (try dsimp only at hSw); go_simp; try with_reducible rfl)
              try simp only [Act.put, List.setIfInBounds_toArray, List.set_cons_zero, List.set_cons_succ]
              refine wpAnyH_take (i := 10) (oi := ⟨_, _, _, _, _, _⟩) (v := ?_) rfl (by kernel_rfl) (by kernel_rfl) (by kernel_rfl) (fun _ _ _ h => h) (Or.inl ⟨by rfl, ?_⟩) hHeld ?_
              rotate_left
              · (intro w hSw; (try dsimp only at hSw); go_simp; try with_reducible rfl)
              try simp only [Act.put, List.setIfInBounds_toArray, List.set_cons_zero, List.set_cons_succ]
              refine wpAnyH_take (i := 11) (oi := ⟨_, _, _, _, _, _⟩) (v := ?_) rfl (by kernel_rfl) (by kernel_rfl) (by kernel_rfl) (fun _ _ _ h => h) (Or.inl ⟨by rfl, ?_⟩) hHeld ?_
              rotate_left
              · (intro w hSw; (try dsimp only at hSw); go_simp; try with_reducible rfl)
              try simp only [Act.put, List.setIfInBounds_toArray, List.set_cons_zero, List.set_cons_succ]
              refine wpAnyH_ready (rs := [12]) (by kernel_rfl) (by simp) ?_
              refine AllReadyH.cons (o := ⟨_, _, _, _, _, _⟩) rfl (fun K hK => ?_) AllReadyH.nil
              go_simp
              (refine (KE.out _ hbr).mono ?_; rintro e w5 ⟨rfl, hB5⟩; replace hbr := below2 hbr hB5)
              refine hK.out _ _ (HC.out _ hbr) (fun hHeld => ?_)
              clear hK K
              try simp only [Act.put, List.setIfInBounds_toArray, List.set_cons_zero, List.set_cons_succ]
              refine wpAnyH_take (i := 13) (oi := ⟨_, _, _, _, _, _⟩) (v := ?_) rfl (by kernel_rfl) (by kernel_rfl) (by kernel_rfl) (fun _ _ _ h => h) (Or.inl ⟨by rfl, ?_⟩) hHeld ?_
              rotate_left
              · (intro w hSw; (try dsimp only at hSw); go_simp; try with_reducible rfl)
              try simp only [Act.put, List.setIfInBounds_toArray, List.set_cons_zero, List.set_cons_succ]
              refine wpAnyH_take (i := 14) (oi := ⟨_, _, _, _, _, _⟩) (v := ?_) rfl (by kernel_rfl) (by kernel_rfl) (by kernel_rfl) (fun _ _ _ h => h) (Or.inl ⟨by rfl, ?_⟩) hHeld ?_
              rotate_left
              · (intro w hSw; (try dsimp only at hSw); go_simp; try with_reducible rfl)
              try simp only [Act.put, List.setIfInBounds_toArray, List.set_cons_zero, List.set_cons_succ]
              refine wpAnyH_take (i := 15) (oi := ⟨_, _, _, _, _, _⟩) (v := ?_) rfl (by kernel_rfl) (by kernel_rfl) (by kernel_rfl) (fun _ _ _ h => h) (Or.inl ⟨by rfl, ?_⟩) hHeld ?_
              rotate_left
              · (intro w hSw; (try dsimp only at hSw); go_simp; try with_reducible rfl)
              try simp only [Act.put, List.setIfInBounds_toArray, List.set_cons_zero, List.set_cons_succ]
              refine wpAnyH_take (i := 16) (oi := ⟨_, _, _, _, _, _⟩) (v := ?_) rfl (by kernel_rfl) (by kernel_rfl) (by kernel_rfl) (fun _ _ _ h => h) (Or.inl ⟨by rfl, ?_⟩) hHeld ?_
              rotate_left
              · (intro w hSw; (try dsimp only at hSw); go_simp; try with_reducible rfl)
              try simp only [Act.put, List.setIfInBounds_toArray, List.set_cons_zero, List.set_cons_succ]
              refine wpAnyH_take (i := 17) (oi := ⟨_, _, _, _, _, _⟩) (v := ?_) rfl (by kernel_rfl) (by kernel_rfl) (by kernel_rfl) (fun _ _ _ h => h) (Or.inl ⟨by rfl, ?_⟩) hHeld ?_
              rotate_left
              · (intro w hSw; (try dsimp only at hSw); go_simp; try with_reducible rfl)
              try simp only [Act.put, List.setIfInBounds_toArray, List.set_cons_zero, List.set_cons_succ]
              refine wpAnyH_take (i := 18) (oi := ⟨_, _, _, _, _, _⟩) (v := ?_) rfl (by kernel_rfl) (by kernel_rfl) (by kernel_rfl) (fun _ _ _ h => h) (Or.inl ⟨by rfl, ?_⟩) hHeld ?_
              rotate_left
              · (intro w hSw; (try dsimp only at hSw); go_simp; try with_reducible rfl)
              try simp only [Act.put, List.setIfInBounds_toArray, List.set_cons_zero, List.set_cons_succ]
              refine wpAnyH_take (i := 19) (oi := ⟨_, _, _, _, _, _⟩) (v := undef) rfl (by kernel_rfl) (by kernel_rfl) (by kernel_rfl) (fun _ _ _ h => h) (Or.inr ⟨by rfl, rfl⟩) hHeld ?_
              try simp only [Act.put, List.setIfInBounds_toArray, List.set_cons_zero, List.set_cons_succ]
              refine wpAnyH_take (i := 20) (oi := ⟨_, _, _, _, _, _⟩) (v := undef) rfl (by kernel_rfl) (by kernel_rfl) (by kernel_rfl) (fun _ _ _ h => h) (Or.inr ⟨by rfl, rfl⟩) hHeld ?_
              try simp only [Act.put, List.setIfInBounds_toArray, List.set_cons_zero, List.set_cons_succ]
              refine wpAnyH_take (i := 21) (oi := ⟨_, _, _, _, _, _⟩) (v := undef) rfl (by kernel_rfl) (by kernel_rfl) (by kernel_rfl) (fun _ _ _ h => h) (Or.inr ⟨by rfl, rfl⟩) hHeld ?_
              try simp only [Act.put, List.setIfInBounds_toArray, List.set_cons_zero, List.set_cons_succ]
              refine wpAnyH_take (i := 22) (oi := ⟨_, _, _, _, _, _⟩) (v := undef) rfl (by kernel_rfl) (by kernel_rfl) (by kernel_rfl) (fun _ _ _ h => h) (Or.inr ⟨by rfl, rfl⟩) hHeld ?_
              try simp only [Act.put, List.setIfInBounds_toArray, List.set_cons_zero, List.set_cons_succ]
              refine wpAnyH_take (i := 23) (oi := ⟨_, _, _, _, _, _⟩) (v := undef) rfl (by kernel_rfl) (by kernel_rfl) (by kernel_rfl) (fun _ _ _ h => h) (Or.inr ⟨by rfl, rfl⟩) hHeld ?_
              try simp only [Act.put, List.setIfInBounds_toArray, List.set_cons_zero, List.set_cons_succ]
              refine wpAnyH_take (i := 24) (oi := ⟨_, _, _, _, _, _⟩) (v := undef) rfl (by kernel_rfl) (by kernel_rfl) (by kernel_rfl) (fun _ _ _ h => h) (Or.inr ⟨by rfl, rfl⟩) hHeld ?_
              try simp only [Act.put, List.setIfInBounds_toArray, List.set_cons_zero, List.set_cons_succ]
              refine wpAnyH_take (i := 25) (oi := ⟨_, _, _, _, _, _⟩) (v := undef) rfl (by kernel_rfl) (by kernel_rfl) (by kernel_rfl) (fun _ _ _ h => h) (Or.inr ⟨by rfl, rfl⟩) hHeld ?_
              try simp only [Act.put, List.setIfInBounds_toArray, List.set_cons_zero, List.set_cons_succ]
              refine wpAnyH_take (i := 26) (oi := ⟨_, _, _, _, _, _⟩) (v := undef) rfl (by kernel_rfl) (by kernel_rfl) (by kernel_rfl) (fun _ _ _ h => h) (Or.inr ⟨by rfl, rfl⟩) hHeld ?_
              try simp only [Act.put, List.setIfInBounds_toArray, List.set_cons_zero, List.set_cons_succ]
              refine wpAnyH_take (i := 27) (oi := ⟨_, _, _, _, _, _⟩) (v := undef) rfl (by kernel_rfl) (by kernel_rfl) (by kernel_rfl) (fun _ _ _ h => h) (Or.inr ⟨by rfl, rfl⟩) hHeld ?_
              try simp only [Act.put, List.setIfInBounds_toArray, List.set_cons_zero, List.set_cons_succ]
              refine wpAnyH_take (i := 28) (oi := ⟨_, _, _, _, _, _⟩) (v := undef) rfl (by kernel_rfl) (by kernel_rfl) (by kernel_rfl) (fun _ _ _ h => h) (Or.inr ⟨by rfl, rfl⟩) hHeld ?_
              try simp only [Act.put, List.setIfInBounds_toArray, List.set_cons_zero, List.set_cons_succ]
              refine wpAnyH_take (i := 29) (oi := ⟨_, _, _, _, _, _⟩) (v := undef) rfl (by kernel_rfl) (by kernel_rfl) (by kernel_rfl) (fun _ _ _ h => h) (Or.inr ⟨by rfl, rfl⟩) hHeld ?_
              try simp only [Act.put, List.setIfInBounds_toArray, List.set_cons_zero, List.set_cons_succ]
              refine wpAnyH_take (i := 30) (oi := ⟨_, _, _, _, _, _⟩) (v := undef) rfl (by kernel_rfl) (by kernel_rfl) (by kernel_rfl) (fun _ _ _ h => h) (Or.inr ⟨by rfl, rfl⟩) hHeld ?_
              try simp only [Act.put, List.setIfInBounds_toArray, List.set_cons_zero, List.set_cons_succ]
              refine wpAnyH_take (i := 31) (oi := ⟨_, _, _, _, _, _⟩) (v := ?_) rfl (by kernel_rfl) (by kernel_rfl) (by kernel_rfl) (fun _ _ _ h => h) (Or.inl ⟨by rfl, ?_⟩) hHeld ?_
              rotate_left
              · (intro w hSw; (try dsimp only at hSw); go_simp; try with_reducible rfl)
              try simp only [Act.put, List.setIfInBounds_toArray, List.set_cons_zero, List.set_cons_succ]
              refine wpAnyH_take (i := 32) (oi := ⟨_, _, _, _, _, _⟩) (v := ?_) rfl (by kernel_rfl) (by kernel_rfl) (by kernel_rfl) (fun _ _ _ h => h) (Or.inl ⟨by rfl, ?_⟩) hHeld ?_
              rotate_left
              · (intro w hSw; (try dsimp only at hSw); go_simp; try with_reducible rfl)
              try simp only [Act.put, List.setIfInBounds_toArray, List.set_cons_zero, List.set_cons_succ]
              refine wpAnyH_take (i := 33) (oi := ⟨_, _, _, _, _, _⟩) (v := ?_) rfl (by kernel_rfl) (by kernel_rfl) (by kernel_rfl) (fun _ _ _ h => h) (Or.inl ⟨by rfl, ?_⟩) hHeld ?_
              rotate_left
              · (intro w hSw; (try dsimp only at hSw); go_simp; try with_reducible rfl)
              try simp only [Act.put, List.setIfInBounds_toArray, List.set_cons_zero, List.set_cons_succ]
              refine wpAnyH_take (i := 34) (oi := ⟨_, _, _, _, _, _⟩) (v := ?_) rfl (by kernel_rfl) (by kernel_rfl) (by kernel_rfl) (fun _ _ _ h => h) (Or.inl ⟨by rfl, ?_⟩) hHeld ?_
              rotate_left
              · (intro w hSw; (try dsimp only at hSw); go_simp; try with_reducible rfl)
              try simp only [Act.put, List.setIfInBounds_toArray, List.set_cons_zero, List.set_cons_succ]
              refine wpAnyH_take (i := 35) (oi := ⟨_, _, _, _, _, _⟩) (v := ?_) rfl (by kernel_rfl) (by kernel_rfl) (by kernel_rfl) (fun _ _ _ h => h) (Or.inl ⟨by rfl, ?_⟩) hHeld ?_
              rotate_left
              · (intro w hSw; (try dsimp only at hSw); go_simp; try with_reducible rfl)
              try simp only [Act.put, List.setIfInBounds_toArray, List.set_cons_zero, List.set_cons_succ]
              refine wpAnyH_take (i := 36) (oi := ⟨_, _, _, _, _, _⟩) (v := ?_) rfl (by kernel_rfl) (by kernel_rfl) (by kernel_rfl) (fun _ _ _ h => h) (Or.inl ⟨by rfl, ?_⟩) hHeld ?_
              rotate_left
              · (intro w hSw; (try dsimp only at hSw); go_simp; try with_reducible rfl)
              try simp only [Act.put, List.setIfInBounds_toArray, List.set_cons_zero, List.set_cons_succ]
              refine wpAnyH_take (i := 37) (oi := ⟨_, _, _, _, _, _⟩) (v := ?_) rfl (by kernel_rfl) (by kernel_rfl) (by kernel_rfl) (fun _ _ _ h => h) (Or.inl ⟨by rfl, ?_⟩) hHeld ?_
              rotate_left
              · (intro w hSw; (try dsimp only at hSw); go_simp; try with_reducible rfl)
              try simp only [Act.put, List.setIfInBounds_toArray, List.set_cons_zero, List.set_cons_succ]
              refine wpAnyH_take (i := 38) (oi := ⟨_, _, _, _, _, _⟩) (v := ?_) rfl (by kernel_rfl) (by kernel_rfl) (by kernel_rfl) (fun _ _ _ h => h) (Or.inl ⟨by rfl, ?_⟩) hHeld ?_
              rotate_left
              · (intro w hSw; (try dsimp only at hSw); go_simp; try with_reducible rfl)
              try simp only [Act.put, List.setIfInBounds_toArray, List.set_cons_zero, List.set_cons_succ]
              refine wpAnyH_take (i := 39) (oi := ⟨_, _, _, _, _, _⟩) (v := ?_) rfl (by kernel_rfl) (by kernel_rfl) (by kernel_rfl) (fun _ _ _ h => h) (Or.inl ⟨by rfl, ?_⟩) hHeld ?_
              rotate_left
              · (intro w hSw; (try dsimp only at hSw); go_simp; try with_reducible rfl)
              try simp only [Act.put, List.setIfInBounds_toArray, List.set_cons_zero, List.set_cons_succ]
              refine wpAnyH_take (i := 40) (oi := ⟨_, _, _, _, _, _⟩) (v := ?_) rfl (by kernel_rfl) (by kernel_rfl) (by kernel_rfl) (fun _ _ _ h => h) (Or.inl ⟨by rfl, ?_⟩) hHeld ?_
              rotate_left
              · (intro w hSw; (try dsimp only at hSw); go_simp; try with_reducible rfl)
              try simp only [Act.put, List.setIfInBounds_toArray, List.set_cons_zero, List.set_cons_succ]
              refine wpAnyH_take (i := 41) (oi := ⟨_, _, _, _, _, _⟩) (v := ?_) rfl (by kernel_rfl) (by kernel_rfl) (by kernel_rfl) (fun _ _ _ h => h) (Or.inl ⟨by rfl, ?_⟩) hHeld ?_
              rotate_left
              · (intro w hSw; (try dsimp only at hSw); go_simp; try with_reducible rfl)
              try simp only [Act.put, List.setIfInBounds_toArray, List.set_cons_zero, List.set_cons_succ]
              refine wpAnyH_done (by kernel_rfl) ?_ _
              obtain ⟨_, y0, y1, y2, y3, y4⟩ := HC.out _ hbr
              have HB5 := Lib.hid (below2 hB.out (HW.out _ hbr))
              clear hbr
              cases inb with
              | true =>
                have HG := Lib.hid (show (S3.take (k + 1)).any (fun x => x.1.1 == p) = true by rw [HGO.out, hin.out, Bool.true_or])
                go_wp2_with fail
                go_roundw
                case rel => exact ⟨true, k + 1, rfl, by go_num, by omega, HG, HB5⟩
                case measure => simp [intOf]; omega
              | false =>
                obtain ⟨bq, hbq⟩ : ∃ x, (q == p) = x := ⟨_, rfl⟩
                have HG := Lib.hid (show (S3.take (k + 1)).any (fun x => x.1.1 == p) = bq by rw [HGO.out, hin.out, Bool.false_or, hbq])
                go_wp2_with fail
                go_roundw
                case rel => exact ⟨bq, k + 1, rfl, by go_num, by omega, HG, HB5⟩
                case measure => simp [intOf]; omega

          · obtain ⟨j, hj⟩ : ∃ j, k = j + 1 := ⟨k - 1, by omega⟩
            have hd0 : decide ((0 : Int) < (k : Int)) = true := by rw [decide_eq_true_eq]; omega
            have hd0' : decide (0 < k) = true := by rw [decide_eq_true_eq]; omega
            have hw1 : IntKind.i64.wrap ((k : Int) - 1) = (j : Int) := by rw [IntWalk.i64_in _ (by omega)]; omega
            have hw2 : IntKind.i64.wrap (j : Int) = (j : Int) := IntWalk.i64_in _ (by omega)
            have hjl : j < S3.length := by omega
            have hj4 : (0 : Int) ≤ (j : Int) := by omega
            have hj5 : (j : Int) < (n3 : Int) := by omega
            obtain ⟨b2, off2, he2, ⟨e0, _, _, _, _⟩, _⟩ := (H3.out.1.below hB.out).at hjl
            cases he2
            have hless : Op.bytesLess S3[j].1.1 q = true := by
              have h1 := HX.out.2.2.2.2 j (by omega)
              have h2 := HX.out.2.2.2.1
              subst hj
              rw [h2] at h1
              exact h1
            obtain ⟨q0, hq0⟩ : ∃ x, S3[j].1.1 = x := ⟨_, rfl⟩
            rw [hq0] at e0 hless
            have HS2 : Hid (∀ W, Below W0.heap.size W0 W → ((W.cell? ⟨w4.heap.size, 0, none⟩ = some (.string ⟨q.toArray⟩) ∧ W.cell? ⟨w4.heap.size, 1, none⟩ = some (.int .i64 n) ∧ W.cell? ⟨w4.heap.size, 2, none⟩ = some (.int .i64 z) ∧ W.cell? ⟨w4.heap.size, 3, none⟩ = some (.int .i64 dd) ∧ W.cell? ⟨w4.heap.size, 4, none⟩ = some (.slice a4 ln c4)) ∧ (W.cell? ⟨b, off + k * 5, none⟩ = some (.string ⟨q.toArray⟩) ∧ W.cell? ⟨b, off + k * 5 + 1, none⟩ = some (.int .i64 n) ∧ W.cell? ⟨b, off + k * 5 + 2, none⟩ = some (.int .i64 z) ∧ W.cell? ⟨b, off + k * 5 + 3, none⟩ = some (.int .i64 dd) ∧ W.cell? ⟨b, off + k * 5 + 4, none⟩ = some (.slice s1 ln s3))) ∧ W.cell? ⟨b, off + j * 5, none⟩ = some (.string ⟨q0.toArray⟩)) := Lib.hid (fun W hW => ⟨HC.out W hW, look_below (HW.out W hW) e0⟩)
            clear hq0 e0 hj hk0
            go_wp2_with fail
            all_goals
              go_region_held3 (fun W => ((W.cell? ⟨w4.heap.size, 0, none⟩ = some (.string ⟨q.toArray⟩) ∧ W.cell? ⟨w4.heap.size, 1, none⟩ = some (.int .i64 n) ∧ W.cell? ⟨w4.heap.size, 2, none⟩ = some (.int .i64 z) ∧ W.cell? ⟨w4.heap.size, 3, none⟩ = some (.int .i64 dd) ∧ W.cell? ⟨w4.heap.size, 4, none⟩ = some (.slice a4 ln c4)) ∧ (W.cell? ⟨b, off + k * 5, none⟩ = some (.string ⟨q.toArray⟩) ∧ W.cell? ⟨b, off + k * 5 + 1, none⟩ = some (.int .i64 n) ∧ W.cell? ⟨b, off + k * 5 + 2, none⟩ = some (.int .i64 z) ∧ W.cell? ⟨b, off + k * 5 + 3, none⟩ = some (.int .i64 dd) ∧ W.cell? ⟨b, off + k * 5 + 4, none⟩ = some (.slice s1 ln s3))) ∧ W.cell? ⟨b, off + j * 5, none⟩ = some (.string ⟨q0.toArray⟩)) (exact HS2.out _ hbr) (first
                | (go_at_call 21; (with_reducible refine (KE.out _ hbr).mono ?_); rintro e w5 ⟨rfl, hB5⟩; have hbr := below2 hbr hB5))
              all_goals
                obtain ⟨_, y0, y1, y2, y3, y4⟩ := HC.out _ hbr
                have HB5 := Lib.hid (below2 hB.out (HW.out _ hbr))
                clear hbr
                cases inb with
                | true =>
                  have HG := Lib.hid (show (S3.take (k + 1)).any (fun x => x.1.1 == p) = true by rw [HGO.out, hin.out, Bool.true_or])
                  go_wp2_with fail
                  go_roundw
                  case rel => exact ⟨true, k + 1, rfl, by go_num, by omega, HG, HB5⟩
                  case measure => simp [intOf]; omega
                | false =>
                  obtain ⟨bq, hbq⟩ : ∃ x, (q == p) = x := ⟨_, rfl⟩
                  have HG := Lib.hid (show (S3.take (k + 1)).any (fun x => x.1.1 == p) = bq by rw [HGO.out, hin.out, Bool.false_or, hbq])
                  go_wp2_with fail
                  go_roundw
                  case rel => exact ⟨bq, k + 1, rfl, by go_num, by omega, HG, HB5⟩
                  case measure => simp [intOf]; omega

        · obtain rfl : k = n3 := by omega
          have hd1 : decide ((k : Int) < (k : Int)) = false := by simp
          have hin2 : L.any (fun e => e.1 == p) = inb := by
            rw [← hin.out, ← H3.out.2.1, List.take_of_length_le (by have := H3.out.2.2.1; omega), List.any_map]
            rfl
          have HIN := Lib.hid hin2
          clear hin2
          go_wp2_with fail
          refine (KI0.out _ _ (HT3.out.1.below hB.out)).mono ?_
          rintro e w4 ⟨v4, S4, rfl, ho4, he4, hB4⟩
          obtain ⟨a4, c4, rfl⟩ := ho4.form
          obtain ⟨n4, hn4⟩ : ∃ n, S4.length = n := ⟨_, rfl⟩
          rw [hn4]
          have hgp : k ≤ n4 := by
            have h1 := HLM.out
            rw [← he4, ← H3.out.2.1, List.length_map, List.length_map, hn4, H3.out.2.2.1] at h1
            exact h1
          have hge : decide ((k : Int) ≤ (n4 : Int)) = true := by rw [decide_eq_true_eq]; omega
          have hge' : decide (k ≤ n4) = true := decide_eq_true hgp
          have HB4 := Lib.hid (below2 hB.out hB4)
          clear ho4 he4 hB4 hn4
          go_wp2_with fail
          refine (KA.out _ _ (HT3.out.1.below HB4.out) p HP.out).mono ?_
          rintro e w5 ⟨v5, rfl, hI5, hB5⟩
          obtain ⟨⟨q, n, z, dd, cs⟩, hD⟩ : ∃ x, enD (asL (pairsK K) p m) = x := ⟨_, rfl⟩
          rw [hD] at hI5 ⊢
          dsimp only [EV] at hI5 ⊢
          obtain ⟨a5, c5, rfl⟩ := (ints_own hI5).form
          have HB5 := Lib.hid (below2 HB4.out (below2 hB5 (below_alloc w5 (.cells #[.string ⟨q.toArray⟩, .int .i64 n, .int .i64 z, .int .i64 dd, .slice a5 cs.length c5] 41))))
          clear hI5 hB5 hD
          obtain ⟨E, hE⟩ : ∃ E, refE p m = E := ⟨_, rfl⟩
          obtain ⟨ok, hok⟩ : ∃ x, (asL (pairsK K) p m).isSome = x := ⟨_, rfl⟩
          have hli := HLI.out
          rw [HIN.out, hE, hok] at hli
          rw [hE, hok]
          have hde : (d == []) = decide (d = []) := by rw [Bool.eq_iff_iff]; simp
          have hdn : (d != []) = !decide (d = []) := by rw [bne, hde]
          obtain ⟨g, hg⟩ : ∃ x, decide (d = []) = x := ⟨_, rfl⟩
          rw [hg] at hde hdn
          have hcase : (E ≠ 0 ∧ g = true) ∨ (E ≠ 0 ∧ g = false) ∨ (E = 0 ∧ ok = true ∧ inb = true ∧ g = true) ∨ (E = 0 ∧ ok = true ∧ inb = true ∧ g = false) ∨ (E = 0 ∧ ok = true ∧ inb = false ∧ g = false) ∨ (E = 0 ∧ ok = false ∧ inb = false ∧ g = true) ∨ (E = 0 ∧ ok = false ∧ inb = false ∧ g = false) := by
            by_cases h0 : E = 0
            · obtain ⟨h1, h2⟩ := hli h0
              cases g with
              | true =>
                have h3 := h2 (of_decide_eq_true hg)
                subst h3
                cases ok <;> simp [h0]
              | false => cases ok <;> cases inb <;> simp [h0] at h1 ⊢
            · cases g <;> simp [h0]
          clear hE hok hli hg
          rcases hcase with ⟨hE, rfl⟩ | ⟨hE, rfl⟩ | ⟨rfl, rfl, rfl, rfl⟩ | ⟨rfl, rfl, rfl, rfl⟩ | ⟨rfl, rfl, rfl, rfl⟩ | ⟨rfl, rfl, rfl, rfl⟩ | ⟨rfl, rfl, rfl, rfl⟩
          · have hE1 : (E == 0) = false := by simpa using hE
            have hE2 : (E != 0) = true := by simpa using hE
            replace hdn : (d != []) = false := hdn
            go_wp2_with fail
            refine (KS.out _ (HQ.out.below (below2 HT3.out.2 HB5.out))).mono ?_
            rintro e w6 ⟨rfl, hB6⟩
            go_wp2_with fail
            go_ret
            exact ⟨rfl, below2 HT3.out.2 (below2 HB5.out hB6)⟩
          · have hE1 : (E == 0) = false := by simpa using hE
            have hE2 : (E != 0) = true := by simpa using hE
            replace hdn : (d != []) = true := hdn
            go_wp2_with fail
            refine (KS.out _ (HQ.out.below (below2 HT3.out.2 HB5.out))).mono ?_
            rintro e w6 ⟨rfl, hB6⟩
            go_wp2_with fail
            go_ret
            exact ⟨rfl, below2 HT3.out.2 (below2 HB5.out hB6)⟩
          · replace hdn : (d != []) = false := hdn
            go_wp2_with fail
            refine (KS.out _ (HQ.out.below (below2 HT3.out.2 HB5.out))).mono ?_
            rintro e w6 ⟨rfl, hB6⟩
            go_wp2_with fail
            go_ret
            exact ⟨rfl, below2 HT3.out.2 (below2 HB5.out hB6)⟩
          · replace hdn : (d != []) = true := hdn
            go_wp2_with fail
            refine (KS.out _ (HQ.out.below (below2 HT3.out.2 HB5.out))).mono ?_
            rintro e w6 ⟨rfl, hB6⟩
            go_wp2_with fail
            go_ret
            exact ⟨rfl, below2 HT3.out.2 (below2 HB5.out hB6)⟩
          · replace hdn : (d != []) = true := hdn
            go_wp2_with fail
            refine (KS.out _ (HQ.out.below (below2 HT3.out.2 HB5.out))).mono ?_
            rintro e w6 ⟨rfl, hB6⟩
            go_wp2_with fail
            go_ret
            exact ⟨rfl, below2 HT3.out.2 (below2 HB5.out hB6)⟩
          · replace hdn : (d != []) = false := hdn
            go_wp2_with fail
            refine (KS.out _ (HQ.out.below (below2 HT3.out.2 HB5.out))).mono ?_
            rintro e w6 ⟨rfl, hB6⟩
            go_wp2_with fail
            go_ret
            exact ⟨rfl, below2 HT3.out.2 (below2 HB5.out hB6)⟩
          · replace hdn : (d != []) = true := hdn
            go_wp2_with fail
            refine (KS.out _ (HQ.out.below (below2 HT3.out.2 HB5.out))).mono ?_
            rintro e w6 ⟨rfl, hB6⟩
            go_wp2_with fail
            go_ret
            exact ⟨rfl, below2 HT3.out.2 (below2 HB5.out hB6)⟩
    · have hE := refE_cases h0
      obtain ⟨E, hE0⟩ : ∃ E, refE d m = E := ⟨_, rfl⟩
      rw [if_neg h0, hE0] at KI
      have hE1 : (E != 0) = true := by rw [← hE0]; simpa using h0
      clear h hf hb hSs hml hK hfar hd3 hp3 h0 hE hE0 KI0 KA
      go_enter Tryz.func6, Tryz.ntmps6
      go_wp2_with fail
      refine KB.out.mono ?_
      rintro e w1 ⟨rfl, rfl⟩
      go_wp2_with fail
      refine KD.out.mono ?_
      rintro e w2 ⟨t, r, rfl, ht, hr, hB2⟩
      obtain ⟨tp, rfl⟩ := ht.val
      obtain ⟨ar, cr, rfl⟩ := hr.form
      have HT := Lib.hid (And.intro (HST.out _ _ ht (HQ.out.below hB2)) hB2)
      clear ht hr hB2
      go_wp2_with fail
      refine (KI.out _ _ HT.out.1).mono ?_
      rintro e w3 ⟨v3, S3, rfl, ho3, he3, hB3⟩
      obtain ⟨a3, c3, rfl⟩ := ho3.form
      obtain rfl : S3 = [] := by simpa using he3
      dsimp only [List.length_nil]
      have H3 := Lib.hid (below2 HT.out.2 hB3)
      clear ho3 he3 hB3
      go_wp2_with fail
      refine (KS.out _ (HQ.out.below H3.out)).mono ?_
      rintro e w4 ⟨rfl, hB4⟩
      go_wp2_with fail
      go_ret
      exact ⟨rfl, below2 H3.out hB4⟩

end Go.Proofs.YtbadbfmeoiclfaaGreatDoor
