/-
  StoreStays: the walk.
-/
import Derived.Test.YtbadbfmeoiclfaaGreatDoorZStoreRisesW
import Derived.Test.YtbadbfmeoiclfaaGreatDoorPks15b
namespace Go.Proofs.YtbadbfmeoiclfaaGreatDoor
set_option maxRecDepth 100000
open Go.RowKit

theorem may_chunks {c : Cg} (h : mayB c = true) : c.2.2.2.2.length ≤ 16 := by
  obtain ⟨_, _, h3, _⟩ := mayB_iff.1 h
  exact (metaB_iff.1 h3).1
theorem listL_len (U : List Pr) (d : List UInt8) (n : Int) : (listL U d n).length ≤ U.length := by
  unfold listL
  exact Nat.le_trans (List.length_filterMap_le _ _) (Nat.le_trans (List.length_filter_le _ _) (paths_len_le U))
theorem took_meta : ∀ {r : List Ld}, TookR r → ∀ x ∈ layR r, (redM x.2).2.2.length ≤ 16
  | [], _, x, hx => by cases hx
  | b :: r, h, x, hx => by
    obtain ⟨h1, _⟩ := layR_facts h.1
    obtain ⟨l1, _, l3, l4⟩ := layB_iff.1 h.2
    obtain ⟨_, _, b3, b4⟩ := isB_iff.1 l3
    rcases (mem_lay_new h1 (sort_unlike b4) (till_last l4) x).1 hx with hx | ⟨c, hc, rfl⟩
    · exact took_meta h.1 x hx
    · dsimp only
      rw [(val_red (b3 c hc)).2.2]
      exact may_chunks (b3 c hc)
theorem told_chunks {K : List Lv} (h : TookK K) {p : List UInt8} {n : Int} {e : En} (ht : told (asOf (pairsK K) p n) = some e) : e.2.2.2.2.length ≤ 16 := by
  cases ha : asOf (pairsK K) p n with
  | none => rw [ha] at ht; cases ht
  | some x =>
    rw [ha] at ht
    unfold told at ht
    dsimp only at ht
    split at ht
    · cases ht
    · cases ht
      exact took_meta h x ((asOf_iff (pairsK_st h).1).1 ha).1
theorem list_chunks {K : List Lv} (h : TookK K) {d : List UInt8} {n : Int} {e : En} (he : e ∈ listL (pairsK K) d n) : e.2.2.2.2.length ≤ 1000000 := by
  have := told_chunks h ((mem_list (pairsK_st h).1).1 he).2
  omega
/-- One more batch, where it is laid behind a time. -/
theorem stay_step {K0 K : List Lv} {m : Int} {d : List UInt8} {x : Lv} (h : TookK K) (hl : listL (pairsK K) d m = listL (pairsK K0) d m) (hi : lastI (pairsK K0) ≤ lastI (pairsK K)) (hx : layB (pairsK K) x.1.1 (chs x.2) = true) (hm : m < x.1.1) :
    TookK (K ++ [x]) ∧ listL (pairsK (K ++ [x])) d m = listL (pairsK K0) d m ∧ lastI (pairsK K0) ≤ lastI (pairsK (K ++ [x])) := by
  have h2 : TookK (K ++ [x]) := by
    unfold TookK
    rw [lds_snoc]
    exact ⟨h, hx⟩
  refine ⟨h2, ?_, ?_⟩
  · rw [pairsK_snoc, list_stays (pairsK_st h).1 hx hm, hl]
  · have h3 := (layB_iff.1 hx).2.2.2
    rw [(tookK_snoc h2).2.2]
    omega

set_option maxHeartbeats 8000000 in
theorem storeStays_walk (v : Value) (S : List Lv) (u : Value) (M : List Lv) (d : List UInt8) (m : Int) (w : World) (h : Lds w v S) (hf : FitL S) (hM : Lds w u M) (hfM : FitL M) (hd : d.length ≤ 9223372036854775807) (hml : Ml w) :
    Calls Tryz.prog 5 #[v, u, .string ⟨d.toArray⟩, .int .i64 m] w fun e w' => e = .returned (.bool true) ∧ Below w.heap.size w w' := by
  obtain ⟨av, cv, rfl⟩ := h.form
  obtain ⟨au, cu, rfl⟩ := hM.form
  have KB := Lib.hid (refL_calls _ S w h hf)
  have KB2 := Lib.hid (refL_calls _ M w hM hfM)
  cases hb : bigL S with
  | true =>
    rw [hb] at KB
    clear h hf hM hfM hb KB2
    go_enter Tryz.func5, Tryz.ntmps5
    go_wp2_with fail
    refine KB.out.mono ?_
    rintro e w1 ⟨rfl, rfl⟩
    go_wp2_with fail
    go_ret
    exact ⟨rfl, Below.refl _ _⟩
  | false =>
    obtain ⟨hS20, hSs⟩ := bigL_small hb
    rw [hb] at KB
    cases hb2 : bigL M with
    | true =>
      rw [hb2] at KB2
      clear h hf hM hfM hb hb2 hSs
      go_enter Tryz.func5, Tryz.ntmps5
      go_wp2_with fail
      refine KB.out.mono ?_
      rintro e w1 ⟨rfl, rfl⟩
      go_wp2_with fail
      refine KB2.out.mono ?_
      rintro e w1 ⟨rfl, rfl⟩
      go_wp2_with fail
      go_ret
      exact ⟨rfl, Below.refl _ _⟩
    | false =>
      obtain ⟨hM20, hMs⟩ := bigL_small hb2
      rw [hb2] at KB2
      by_cases hd3 : 300 < d.length
      · have hdd : decide ((300 : Int) < (d.length : Int)) = true := by rw [decide_eq_true_eq]; omega
        clear h hf hM hfM hb hb2 hSs hMs
        go_enter Tryz.func5, Tryz.ntmps5
        go_wp2_with fail
        refine KB.out.mono ?_
        rintro e w1 ⟨rfl, rfl⟩
        go_wp2_with fail
        refine KB2.out.mono ?_
        rintro e w1 ⟨rfl, rfl⟩
        go_wp2_with fail
        go_ret
        exact ⟨rfl, Below.refl _ _⟩
      · have hdd : decide ((300 : Int) < (d.length : Int)) = false := by rw [decide_eq_false_iff_not]; omega
        have KD := Lib.hid (soLaid_calls _ S w h hS20 hSs hml)
        have HK := Lib.hid (took_all S)
        obtain ⟨K, hK⟩ : ∃ K, tookS S = K := ⟨_, rfl⟩
        rw [hK] at KD HK
        have HQ := Lib.hid (And.intro hM (And.intro hml (And.intro hMs hd3)))
        clear h hf hM hfM hb hb2 hSs hMs hml hK hd3
        go_enter Tryz.func5, Tryz.ntmps5
        go_wp2_with fail
        refine KB.out.mono ?_
        rintro e w1 ⟨rfl, rfl⟩
        go_wp2_with fail
        refine KB2.out.mono ?_
        rintro e w1 ⟨rfl, rfl⟩
        go_wp2_with fail
        refine KD.out.mono ?_
        rintro e w2 ⟨t, r, rfl, ht, hr, hB2⟩
        obtain ⟨tp, rfl⟩ := ht.val
        obtain ⟨ar, cr, rfl⟩ := hr.form
        have HT := Lib.hid (And.intro ht hB2)
        clear ht hr hB2
        have hK20 : K.length ≤ 20 := by have := HK.out.2.1; omega
        go_wp2_with fail
        go_loopw [11, 12] (fun x i wr => ∃ k : Nat, i = .int .i64 k ∧ k ≤ M.length ∧ Below w2.heap.size w2 wr ∧ ∃ K', TreeV wr x (pairsK K') ∧ TookK K' ∧ K'.length ≤ 20 + k ∧ listL (pairsK K') d m = listL (pairsK K) d m ∧ lastI (pairsK K) ≤ lastI (pairsK K')) (fun _ i _ => M.length - (intOf i).toNat)
        case atStart => exact ⟨0, rfl, Nat.zero_le _, Below.refl _ _, K, HT.out.1, HK.out.1, by omega, rfl, Int.le_refl _⟩
        case round =>
          obtain ⟨k, rfl, hk, hB, K', ht, hK1, hKl, hli, hla⟩ := hrel
          obtain ⟨xp, rfl⟩ := ht.val
          have hmr := HQ.out.2.1.below (below2 HT.out.2 hB)
          have hst := pairsK_sto hK1 (by omega) ht hmr
          by_cases hlt : k < M.length
          · have hlt2 : decide ((k : Int) < (M.length : Int)) = true := by rw [decide_eq_true_eq]; omega
            obtain ⟨b, off, rfl, ⟨c0, c1⟩, hC⟩ := (HQ.out.1.below (below2 HT.out.2 hB)).at hlt
            have hsm := HQ.out.2.2.1 _ (List.getElem_mem hlt)
            have hgo := stay_step (x := M[k]) hK1 hli hla
            obtain ⟨⟨⟨n, uu⟩, T⟩, hx⟩ : ∃ x, M[k] = x := ⟨_, rfl⟩
            rw [hx] at c0 c1 hC hsm hgo
            dsimp only at c0 c1 hC hsm hgo
            obtain ⟨s1, s3, rfl⟩ := hC.form
            obtain ⟨s2, hs2⟩ : ∃ n, T.length = n := ⟨_, rfl⟩
            have hbr : Below wr.heap.size wr wr.drew := drew_below _
            have HCELL : Hid (∀ W, Below wr.heap.size wr W → W.cell? ⟨b, off + k * 2, none⟩ = some (.int .i64 n) ∧ W.cell? ⟨b, off + k * 2 + 1, none⟩ = some (.slice s1 s2 s3)) := Lib.hid (fun W hW => ⟨look_below hW c0, hs2 ▸ look_below hW c1⟩)
            rw [hs2] at c1
            have HR := Lib.hid (And.intro ht (And.intro hB (And.intro hK1 (And.intro hKl (And.intro hli hla)))))
            by_cases hly : layB (pairsK K') n (chs T) = true
            · have KL := Lib.hid (fun W (hW : Below wr.heap.size wr W) => lay_ok (hst.below hW) n _ T (hC.below hW) hsm.1 (pairsK_st hK1).2 hly)
              rw [hs2] at KL
              by_cases hmn : m < n
              · have HG := Lib.hid (And.intro (hgo hly hmn) (pairsK_snoc K' ((n, .slice s1 T.length s3), T)))
                have hdm : decide (m < n) = true := decide_eq_true hmn
                clear hC hsm hx hst hmr hs2 hly hmn ht hB hK1 hKl hli hla hgo
                go_wp2_with fail
                go_region_held3 (fun w' => w'.cell? ⟨b, off + k * 2, none⟩ = some (.int .i64 n) ∧ w'.cell? ⟨b, off + k * 2 + 1, none⟩ = some (.slice s1 s2 s3)) (exact HCELL.out _ hbr) (first
                  | (go_at_call 12; (with_reducible refine (KL.out _ hbr).mono ?_); rintro e w3 ⟨u3, rfl, ht3, hB3⟩; obtain ⟨p3, rfl⟩ := ht3.val; have hbr := below2 hbr hB3; have HT3 := Lib.hid ht3; clear ht3))
                all_goals
                  obtain ⟨d0, d1⟩ := HCELL.out _ hbr
                  have HB4 := Lib.hid (below2 HR.out.2.1 hbr)
                  clear hbr
                  go_wp2_with fail
                  go_roundw
                  case rel => exact ⟨k + 1, by go_num, by omega, HB4.out, _, by rw [HG.out.2]; exact HT3.out, HG.out.1.1, by have := HR.out.2.2.2.1; rw [List.length_append, List.length_singleton]; omega, HG.out.1.2.1, HG.out.1.2.2⟩
                  case measure => simp [intOf]; omega
              · have hdm : decide (m < n) = false := decide_eq_false hmn
                clear hC hsm hx hst hmr hs2 hly hmn ht hB hK1 hKl hli hla hgo
                go_wp2_with fail
                go_region_held3 (fun w' => w'.cell? ⟨b, off + k * 2, none⟩ = some (.int .i64 n) ∧ w'.cell? ⟨b, off + k * 2 + 1, none⟩ = some (.slice s1 s2 s3)) (exact HCELL.out _ hbr) (first
                  | (go_at_call 12; (with_reducible refine (KL.out _ hbr).mono ?_); rintro e w3 ⟨u3, rfl, ht3, hB3⟩; obtain ⟨p3, rfl⟩ := ht3.val; have hbr := below2 hbr hB3; clear ht3))
                all_goals
                  obtain ⟨d0, d1⟩ := HCELL.out _ hbr
                  have HB4 := Lib.hid (And.intro (below2 HR.out.2.1 hbr) (HR.out.1.below hbr))
                  clear hbr
                  go_wp2_with fail
                  go_roundw
                  case rel => exact ⟨k + 1, by go_num, by omega, HB4.out.1, _, HB4.out.2, HR.out.2.2.1, by have := HR.out.2.2.2.1; omega, HR.out.2.2.2.2.1, HR.out.2.2.2.2.2⟩
                  case measure => simp [intOf]; omega
            · have hly2 : (isSt (pairsK K') && layB (pairsK K') n (chs T)) = false := by
                cases h : layB (pairsK K') n (chs T) with
                | false => simp
                | true => exact absurd h hly
              have KL := Lib.hid (fun W (hW : Below wr.heap.size wr W) => lay_no (hst.below hW) n _ T (hC.below hW) (by omega) hsm.1 hly2)
              rw [hs2] at KL
              clear hC hsm hx hst hmr hs2 hly hly2 ht hB hK1 hKl hli hla hgo
              go_wp2_with fail
              go_region_held3 (fun w' => w'.cell? ⟨b, off + k * 2, none⟩ = some (.int .i64 n) ∧ w'.cell? ⟨b, off + k * 2 + 1, none⟩ = some (.slice s1 s2 s3)) (exact HCELL.out _ hbr) (first
                | (go_at_call 12; (with_reducible refine (KL.out _ hbr).mono ?_); rintro e w3 ⟨rfl, hB3⟩; have hbr := below2 hbr hB3))
              all_goals
                have HB4 := Lib.hid (And.intro (below2 HR.out.2.1 hbr) (HR.out.1.below hbr))
                clear hbr
                go_wp2_with fail
                go_roundw
                case rel => exact ⟨k + 1, by go_num, by omega, HB4.out.1, _, HB4.out.2, HR.out.2.2.1, by have := HR.out.2.2.2.1; omega, HR.out.2.2.2.2.1, HR.out.2.2.2.2.2⟩
                case measure => simp [intOf]; omega
          · obtain rfl : k = M.length := by omega
            have hlt2 : decide ((M.length : Int) < (M.length : Int)) = false := by simp
            have hstT := pairsK_sto HK.out.1 (by omega) (HT.out.1.below hB) hmr
            have hlT := lastS_took HK.out.1
            have hlU := lastS_took hK1
            have hsU := (pairsK_st hK1).2
            have hsT := (pairsK_st HK.out.1).2
            have hch := fun e => list_chunks HK.out.1 (d := d) (n := m) (e := e)
            have KI1 := Lib.hid (list_calls hstT hsT d m (by have := HQ.out.2.2.2; omega))
            have KI2 := Lib.hid (fun W (hW : Below wr.heap.size wr W) => list_calls (hst.below hW) hsU d m (by have := HQ.out.2.2.2; omega))
            have KT := Lib.hid (fun W (hW : Below wr.heap.size wr W) => soLast_calls (hstT.below hW))
            have KU := Lib.hid (fun W (hW : Below wr.heap.size wr W) => soLast_calls (hst.below hW))
            have KJ := Lib.hid (fun W (hW : Below wr.heap.size wr W) => soIs_calls (hst.below hW))
            have KS := Lib.hid (fun W hm => stored_calls W hm)
            rw [hlT] at KT
            rw [hlU] at KU
            rw [hsU] at KJ
            rw [hli] at KI2
            obtain ⟨L, hL⟩ : ∃ L, (if refE d m = 0 then listL (pairsK K) d m else []) = L := ⟨_, rfl⟩
            have hLc : ∀ e ∈ L, e.2.2.2.2.length ≤ 1000000 := fun e he => by
              rw [← hL] at he
              split at he
              · exact hch e he
              · cases he
            have hLl : L.length ≤ 1000000 := by
              have h1 := listL_len (pairsK K) d m
              have h2 := pairsK_len HK.out.1
              rw [← hL]
              split
              · omega
              · simp
            rw [hL] at KI1 KI2
            obtain ⟨E, hE⟩ : ∃ E, refE d m = E := ⟨_, rfl⟩
            rw [hE] at KI1 KI2
            have hEb : (E == E) = true := by simp
            obtain ⟨n1, hn1⟩ : ∃ n, lastI (pairsK K) = n := ⟨_, rfl⟩
            obtain ⟨n2, hn2⟩ : ∃ n, lastI (pairsK K') = n := ⟨_, rfl⟩
            rw [hn1] at KT hla
            rw [hn2] at KU hla
            have hdl : decide (n1 ≤ n2) = true := decide_eq_true hla
            have HR := Lib.hid (And.intro hB (And.intro hmr (And.intro hLc hLl)))
            clear hB hst hstT hlT hlU hsU hsT hch hli hla hK1 hKl ht hmr hL hLc hLl hE hn1 hn2
            go_wp2_with fail
            refine KI1.out.mono ?_
            rintro e w3 ⟨v3, S3, rfl, ho3, he3, hB3⟩
            obtain ⟨a3, c3, rfl⟩ := ho3.form
            obtain ⟨n3, hn3⟩ : ∃ n, S3.length = n := ⟨_, rfl⟩
            rw [hn3]
            have H3 := Lib.hid (And.intro ho3.ents (And.intro he3 (And.intro hB3 hn3)))
            clear ho3 he3 hB3 hn3
            go_wp2_with fail
            refine (KI2.out _ H3.out.2.2.1).mono ?_
            rintro e w4 ⟨v4, S4, rfl, ho4, he4, hB4⟩
            obtain ⟨a4, c4, rfl⟩ := ho4.form
            obtain ⟨n4, hn4⟩ : ∃ n, S4.length = n := ⟨_, rfl⟩
            rw [hn4]
            have H4 := Lib.hid (And.intro ho4.ents (And.intro he4 (And.intro (below2 H3.out.2.2.1 hB4) (And.intro (H3.out.1.below hB4) hn4))))
            clear ho4 he4 hB4 hn4
            go_wp2_with fail
            refine (KS.out _ (HR.out.2.1.below H4.out.2.2.1)).mono ?_
            rintro e w5 ⟨rfl, hB5⟩
            have H5 := Lib.hid (And.intro (below2 H4.out.2.2.1 hB5) (And.intro (H4.out.1.below hB5) (H4.out.2.2.2.1.below hB5)))
            clear hB5
            go_wp2_with fail
            have KE := sameEs_calls _ _ S3 S4 w5 H5.out.2.2 H5.out.2.1 (fun x hx => HR.out.2.2.1 _ (by rw [← H3.out.2.1]; exact List.mem_map_of_mem hx)) (by have h1 := HR.out.2.2.2; rw [← H3.out.2.1, List.length_map] at h1; exact h1)
            rw [H3.out.2.1, H4.out.2.1, H3.out.2.2.2, H4.out.2.2.2.2] at KE
            refine KE.mono ?_
            rintro e w6 ⟨rfl, hB6⟩
            have H6 := Lib.hid (below2 H5.out.1 hB6)
            have hsm : sameEs L L = true := by unfold sameEs; simp
            rw [hsm]
            clear hB6 KE hsm
            go_wp2_with fail
            refine (KJ.out _ H6.out).mono ?_
            rintro e w7 ⟨rfl, hB7⟩
            have H7 := Lib.hid (below2 H6.out hB7)
            clear hB7
            go_wp2_with fail
            refine (KU.out _ H7.out).mono ?_
            rintro e w8 ⟨rfl, hB8⟩
            have H8 := Lib.hid (below2 H7.out hB8)
            clear hB8
            go_wp2_with fail
            refine (KT.out _ H8.out).mono ?_
            rintro e w9 ⟨rfl, hB9⟩
            go_wp2_with fail
            go_ret
            exact ⟨by simp, below2 HT.out.2 (below2 HR.out.1 (below2 H8.out hB9))⟩

end Go.Proofs.YtbadbfmeoiclfaaGreatDoor
