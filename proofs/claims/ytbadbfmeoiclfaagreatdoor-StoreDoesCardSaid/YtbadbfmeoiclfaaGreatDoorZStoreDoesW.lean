/-
  StoreDoes: the walk.
-/
import Derived.Test.YtbadbfmeoiclfaaGreatDoorPks15c
import Derived.Test.YtbadbfmeoiclfaaGreatDoorPks15d
import Derived.Test.YtbadbfmeoiclfaaGreatDoorPks15b
import Derived.Test.YtbadbfmeoiclfaaGreatDoorPks15a
import Derived.Test.YtbadbfmeoiclfaaGreatDoorPks09
import Derived.Test.YtbadbfmeoiclfaaGreatDoorPks10
import Derived.Test.YtbadbfmeoiclfaaGreatDoorZStoreRisesW
import Derived.Test.YtbadbfmeoiclfaaGreatDoorZStoreStaysW
namespace Go.Proofs.YtbadbfmeoiclfaaGreatDoor
set_option maxRecDepth 100000
open Go.RowKit

theorem bigP_small {l : List Pr} (h : bigP l = false) : l.length ≤ 80 ∧ ∀ x ∈ l, x.1.1.length ≤ 200 ∧ x.2.length ≤ 300 := by
  refine ⟨small_facts h, fun x hx => ?_⟩
  by_cases h1 : x.1.1.length ≤ 200 ∧ x.2.length ≤ 300
  · exact h1
  · obtain ⟨i, hi, rfl⟩ := List.getElem_of_mem hx
    rw [big_one hi (by omega)] at h
    cases h
theorem redM_chunks (s : List UInt8) : (redM s).2.2.length ≤ 16 := by
  unfold redM
  split
  · unfold gotM
    cases hg : getM s.tail with
    | none => simp
    | some x =>
      obtain ⟨z, d, cs⟩ := x
      exact (metaB_iff.1 (laid_getM hg).2).1
  · simp
theorem toldX_chunks {x : Option Pr} {e : En} (h : told x = some e) : e.2.2.2.2.length ≤ 16 := by
  cases x with
  | none => cases h
  | some y =>
    unfold told at h
    dsimp only at h
    split at h
    · cases h
    · cases h
      exact redM_chunks _
theorem asX_chunks (U : List Pr) (p : List UInt8) (n : Int) : (enD (asX U p n)).2.2.2.2.length ≤ 16 := by
  by_cases h : refX U p n = 0
  · rw [asX_told h]
    cases ht : told (asOf U p n) with
    | none => simp [enD]
    | some e => exact toldX_chunks ht
  · rw [asX_no h]
    simp [enD]
theorem listX_facts {U : List Pr} (hr : Rises U) (d : List UInt8) (n : Int) : (listX U d n).length ≤ U.length ∧ ∀ e ∈ listX U d n, e.2.2.2.2.length ≤ 1000000 := by
  unfold listX
  split
  · refine ⟨listL_len U d n, fun e he => ?_⟩
    have := toldX_chunks ((mem_list hr).1 he).2
    omega
  · exact ⟨by simp, fun e he => by cases he⟩
theorem histX_len (U : List Pr) (p : List UInt8) : (histX U p).length ≤ U.length := by
  unfold histX
  split
  · exact List.length_filter_le _ _
  · simp
theorem refLayX_calls (v : Value) (l : List Pr) (n : Int) (c : Value) (S : List Cv) (w : World) (h : Prs w v l) (hn : l.length ≤ 1000) (hs : ∀ x ∈ l, x.1.1.length ≤ 1000000 ∧ x.2.length ≤ 1000) (hS : Cgs w c S) (hl : S.length ≤ 1000000) (hc : SmallC (chs S)) :
    Calls Tryz.prog 13 #[v, .int .i64 n, c] w fun e w' => ∃ a k b, e = .returned (.tuple #[.slice a k b, .int .i64 (if layX l n (chs S) then 0 else 1)]) ∧ (layX l n (chs S) = true → Prs w' (.slice a k b) (layP l n (chs S))) ∧ Below w.heap.size w w' := by
  cases hx : layX l n (chs S) with
  | false =>
    rw [if_neg (by simp)]
    exact (refLay_no v l n c S w h hn hs hS hl hc hx).mono fun e w' he => ⟨_, _, _, he.1, fun hh => (by cases hh), he.2⟩
  | true =>
    rw [if_pos rfl]
    unfold layX at hx
    rw [Bool.and_eq_true] at hx
    refine (refLay_ok v l n c S w h hn hs hS hc hx.1 hx.2).mono fun e w' ⟨u, he, ht, hB⟩ => ?_
    obtain ⟨a, b, rfl⟩ := ht.form
    exact ⟨_, _, _, he, fun _ => ht, hB⟩
theorem refAsX_calls (v : Value) (l : List Pr) (p : List UInt8) (n : Int) (w : World) (h : Prs w v l) (hr : Rises l) (hn : l.length ≤ 1000) (hs : ∀ x ∈ l, x.1.1.length ≤ 1000000 ∧ x.2.length ≤ 1000) (hl : p.length ≤ 1000000) :
    Calls Tryz.prog 15 #[v, .string ⟨p.toArray⟩, .int .i64 n] w fun e w' => ∃ v, e = .returned (.tuple #[EV (enD (asX l p n)) v, .bool (asX l p n).isSome, .int .i64 (refX l p n)]) ∧ OwnI w' w.heap.size v (enD (asX l p n)).2.2.2.2 ∧ Below w.heap.size w w' := refAs_calls v l p n w h hr hn hs hl
theorem layX_facts {U : List Pr} {n : Int} {l : List Cg} (hr : Rises U) (ht : TimesK U) (h : layX U n l = true) : Timed (layP U n l) ∧ (layP U n l).length ≤ U.length + 20 := by
  unfold layX at h
  rw [Bool.and_eq_true, layB_iff] at h
  obtain ⟨_, h1, h2, h3, _⟩ := h
  obtain ⟨_, b2, _, b4⟩ := isB_iff.1 h3
  refine ⟨fun x hx => ?_, ?_⟩
  · rcases (mem_lay l n hr (sort_unlike b4) x).1 hx with ⟨hx, _⟩ | ⟨c, _, rfl⟩
    · exact (ht x hx).2
    · dsimp only
      omega
  · have := layP_len l U n
    omega
theorem ents_of {S T : List Ev} {L : List En} (h1 : ens S = L) (h2 : ens T = L) : sameEs (ens S) (ens T) = true := by
  unfold sameEs
  rw [h1, h2]
  simp
theorem ents_len {S : List Ev} {L : List En} (h : ens S = L) : S.length = L.length := by
  rw [← h]; simp
theorem ents_chunks {S : List Ev} {L : List En} (h : ens S = L) (hL : ∀ e ∈ L, e.2.2.2.2.length ≤ 1000000) : ∀ x ∈ S, x.1.2.2.2.2.length ≤ 1000000 := fun _ hx => hL _ (h ▸ List.mem_map_of_mem hx)

set_option maxHeartbeats 32000000 in
theorem storeDoes_walk (v : Value) (l : List Pr) (n : Int) (c : Value) (C : List Cv) (p : List UInt8) (m : Int) (w : World) (h : Prs w v l) (hnl : l.length ≤ 9223372036854775807) (hti : TimesK l) (hC : Cgs w c C) (hfC : FitC C) (hpl : p.length ≤ 9223372036854775807) (hml : Ml w) :
    Calls Tryz.prog 3 #[v, .int .i64 n, c, .string ⟨p.toArray⟩, .int .i64 m] w fun e w' => e = .returned (.bool true) ∧ Below w.heap.size w w' := by
  obtain ⟨av, cv, rfl⟩ := h.form
  obtain ⟨ac, cc, rfl⟩ := hC.form
  obtain ⟨nC, hnC⟩ : ∃ k, C.length = k := ⟨_, rfl⟩
  have KB := Lib.hid (big_calls _ l w h hnl)
  have KB2 := Lib.hid (refL_calls _ _ _ (Lds.one w _ C 27 hC) (hfC.one _))
  cases hb : bigP l with
  | true =>
    rw [hb] at KB
    rw [hnC]
    clear h hti hC hfC hb KB2 hnC
    go_enter Tryz.func3, Tryz.ntmps3
    go_wp2_with fail
    refine KB.out.mono ?_
    rintro e w1 ⟨rfl, rfl⟩
    go_wp2_with fail
    go_ret
    exact ⟨rfl, Below.refl _ _⟩
  | false =>
    obtain ⟨hl80, hls⟩ := bigP_small hb
    rw [hb] at KB
    have hBa := below_alloc w (.cells #[.int .i64 0, .slice ac nC cc] 27)
    cases hb2 : bigL [((0, Value.slice ac C.length cc), C)] with
    | true =>
      rw [hb2] at KB2
      rw [hnC] at KB2 ⊢
      have HB := Lib.hid hBa
      clear h hti hC hfC hb hb2 hnC hls hBa
      go_enter Tryz.func3, Tryz.ntmps3
      go_wp2_with fail
      refine KB.out.mono ?_
      rintro e w1 ⟨rfl, rfl⟩
      go_wp2_with fail
      refine KB2.out.mono ?_
      rintro e w1 ⟨rfl, rfl⟩
      go_wp2_with fail
      go_ret
      exact ⟨rfl, HB.out⟩
    | false =>
      obtain ⟨_, hCs⟩ := bigL_small hb2
      obtain ⟨hCs1, hCs2⟩ := hCs _ (List.mem_singleton.2 rfl)
      dsimp only at hCs1 hCs2
      rw [hb2] at KB2
      rw [hnC] at KB2 ⊢
      by_cases hp3 : 300 < p.length
      · have hdd : decide ((300 : Int) < (p.length : Int)) = true := by rw [decide_eq_true_eq]; omega
        have HB := Lib.hid hBa
        clear h hti hC hfC hb hb2 hnC hls hBa hCs hCs1 hCs2
        go_enter Tryz.func3, Tryz.ntmps3
        go_wp2_with fail
        refine KB.out.mono ?_
        rintro e w1 ⟨rfl, rfl⟩
        go_wp2_with fail
        refine KB2.out.mono ?_
        rintro e w1 ⟨rfl, rfl⟩
        go_wp2_with fail
        go_ret
        exact ⟨rfl, HB.out⟩
      · have hdd : decide ((300 : Int) < (p.length : Int)) = false := by rw [decide_eq_false_iff_not]; omega
        have KM := Lib.hid (soMade_calls _ l _ (h.below hBa) (by omega))
        obtain ⟨hUr, hUl, hUm⟩ := made_facts l
        obtain ⟨U, hU⟩ : ∃ U, madeL l = U := ⟨_, rfl⟩
        rw [hU] at KM hUr hUl hUm
        have hUt : TimesK U := fun x hx => hti x (hUm x hx)
        have hUs : ∀ x ∈ U, x.1.1.length ≤ 1000000 ∧ x.2.length ≤ 1000 := fun x hx => by have := hls x (hUm x hx); omega
        have HST : Hid (∀ W tv, TreeV W tv U → Ml W → Sto W tv U) := Lib.hid (fun W tv ht hm => ⟨ht, hUt, by omega, fun x hx => by have := hls x (hUm x hx); omega, fun x hx => by have := hls x (hUm x hx); omega, hm⟩)
        have HUt := Lib.hid (fun x hx => (hUt x hx).2 : Timed U)
        have HQ := Lib.hid (And.intro (hC.below hBa) (hml.below hBa))
        have HB := Lib.hid hBa
        have HP := Lib.hid (show p.length ≤ 1000000 by omega)
        have HF := Lib.hid (And.intro hUr (And.intro hUt (And.intro hUs (And.intro hCs1 (And.intro hCs2 hnC)))))
        obtain ⟨nU, hnU⟩ : ∃ k, U.length = k := ⟨_, rfl⟩
        have hnU80 : nU ≤ 80 := by omega
        have HNU := Lib.hid hnU
        clear h hti hC hfC hb hb2 hnC hls hBa hCs hCs1 hCs2 hUr hUl hUm hUt hUs hU hml hp3
        go_enter Tryz.func3, Tryz.ntmps3
        go_wp2_with fail
        refine KB.out.mono ?_
        rintro e w1 ⟨rfl, rfl⟩
        go_wp2_with fail
        refine KB2.out.mono ?_
        rintro e w1 ⟨rfl, rfl⟩
        go_wp2_with fail
        refine KM.out.mono ?_
        rintro e w2 ⟨t, rfl, ht, hB2⟩
        obtain ⟨tp, rfl⟩ := ht.val
        have HT := Lib.hid (And.intro ht hB2)
        clear ht hB2
        go_wp2_with fail
        refine (all_calls _ U _ HT.out.1 (by have := HNU.out; omega) HUt.out).mono ?_
        rintro e w3 ⟨a, rfl, ha, hB3⟩
        obtain ⟨am, cm, rfl⟩ := ha.form
        have hB23 := below2 HT.out.2 hB3
        have hST := HST.out _ _ (HT.out.1.below hB3) (HQ.out.2.below hB23)
        have hPR := ha.prs
        rw [HNU.out] at hPR ⊢
        have hCG := HQ.out.1.below hB23
        have hUn : U.length ≤ 1000 := by have := HNU.out; omega
        have hCn : C.length ≤ 1000000 := by have := HF.out.2.2.2.2.1; omega
        have KA := Lib.hid (fun W (hB : Below w3.heap.size w3 W) => all_calls _ U W (hST.below hB).1 (by omega) HUt.out)
        have KI := Lib.hid (fun W (hB : Below w3.heap.size w3 W) => soIs_calls (hST.below hB))
        have KRI := Lib.hid (fun W (hB : Below w3.heap.size w3 W) => refSt_calls _ U W (hPR.below hB) hUn HF.out.2.2.1)
        have KL := Lib.hid (fun W (hB : Below w3.heap.size w3 W) => soLast_calls (hST.below hB))
        have KRL := Lib.hid (fun W (hB : Below w3.heap.size w3 W) => refLastSo_calls _ U W (hPR.below hB) hUn HF.out.2.2.1)
        have KY := Lib.hid (fun W (hB : Below w3.heap.size w3 W) => layX_calls (hST.below hB) n _ C (hCG.below hB) hCn HF.out.2.2.2.1)
        have KRY := Lib.hid (fun W (hB : Below w3.heap.size w3 W) => refLayX_calls _ U n _ C W (hPR.below hB) hUn HF.out.2.2.1 (hCG.below hB) hCn HF.out.2.2.2.1)
        have KO := Lib.hid (fun W (hB : Below w3.heap.size w3 W) => asOfX_calls (hST.below hB) p m HP.out)
        have KRO := Lib.hid (fun W (hB : Below w3.heap.size w3 W) => refAsX_calls _ U p m W (hPR.below hB) HF.out.1 hUn HF.out.2.2.1 HP.out)
        have KS := Lib.hid (fun W (hB : Below w3.heap.size w3 W) => listX_calls (hST.below hB) p m HP.out)
        have KRS := Lib.hid (fun W (hB : Below w3.heap.size w3 W) => refList_calls _ U p m W (hPR.below hB) HF.out.1 hUn HF.out.2.2.1 HP.out)
        have KH := Lib.hid (fun W (hB : Below w3.heap.size w3 W) => histX_calls (hST.below hB) p HP.out)
        have KRH := Lib.hid (fun W (hB : Below w3.heap.size w3 W) => refHist_calls _ U p W (hPR.below hB) hUn HF.out.2.2.1 HP.out)
        have KT := Lib.hid (fun W (hB : Below w3.heap.size w3 W) => stored_calls W (hST.below hB).2.2.2.2.2)
        have HPR := Lib.hid hPR
        have HB0 := Lib.hid (below2 HB.out hB23)
        have hch := asX_chunks U p m
        have hlx := listX_facts HF.out.1 p m
        have hhx := histX_len U p
        have hly := fun h => layX_facts HF.out.1 HF.out.2.1 (n := n) (l := chs C) h
        rw [HF.out.2.2.2.2.2] at KY KRY
        obtain ⟨⟨q, tm, z, dd, cs⟩, hD⟩ : ∃ x, enD (asX U p m) = x := ⟨_, rfl⟩
        obtain ⟨bo, hbo⟩ : ∃ x, (asX U p m).isSome = x := ⟨_, rfl⟩
        obtain ⟨E, hE⟩ : ∃ x, refX U p m = x := ⟨_, rfl⟩
        obtain ⟨E0, hE0⟩ : ∃ x, refX U p 0 = x := ⟨_, rfl⟩
        obtain ⟨bs, hbs⟩ : ∃ x, isSt U = x := ⟨_, rfl⟩
        obtain ⟨ls, hls⟩ : ∃ x, lastSo U = x := ⟨_, rfl⟩
        obtain ⟨L, hL⟩ : ∃ x, listX U p m = x := ⟨_, rfl⟩
        obtain ⟨D, hDh⟩ : ∃ x, histX U p = x := ⟨_, rfl⟩
        rw [hD] at KO KRO hch
        rw [hbo, hE] at KO KRO
        rw [hE, hL] at KS KRS
        rw [hE0, hDh] at KH KRH
        rw [hbs] at KI KRI
        rw [hls] at KL KRL
        rw [hL] at hlx
        rw [hDh] at hhx
        dsimp only [EV] at KO KRO hch
        have HX := Lib.hid (And.intro (show cs.length ≤ 1000000 by omega) (And.intro hlx (show D.length ≤ 100000 by omega)))
        have eb : (bo == bo) = true := by simp
        have eE : (E == E) = true := by simp
        have eE0 : (E0 == E0) = true := by simp
        have es : (bs == bs) = true := by simp
        have el : (ls == ls) = true := by simp
        obtain ⟨V, hV⟩ : ∃ V, layP U n (chs C) = V := ⟨_, rfl⟩
        rw [hV] at KY KRY hly
        obtain ⟨nX, hnX⟩ : ∃ k, cs.length = k := ⟨_, rfl⟩
        have HNX := Lib.hid hnX
        clear hST hPR hCG hUn hCn hB3 hB23 ha hch hlx hhx hD hbo hE hE0 hbs hls hL hDh hV hnX hnU
        cases hlx : layX U n (chs C) with
        | false =>
          rw [hlx] at KY KRY
          rw [if_neg (by simp)] at KY KRY
          clear hly hlx
          have HBt := Lib.hid (Below.refl w3.heap.size w3)
          go_wp2_with fail
          refine (KY.out _ HBt.out).mono ?_
          rintro e w4 ⟨up, rfl, hu, hB⟩
          replace HBt := Lib.hid (below2 HBt.out hB)
          clear hB hu
          go_wp2_with fail
          refine (KRY.out _ HBt.out).mono ?_
          rintro e w5 ⟨va, vn, vc, rfl, hv, hB⟩
          replace HBt := Lib.hid (below2 HBt.out hB)
          clear hB hv
          go_wp2_with fail
          refine (KO.out _ HBt.out).mono ?_
          rintro e w6 ⟨u, rfl, hI, hB⟩
          obtain ⟨ax, cx, rfl⟩ := (ints_own hI).form
          rw [HNX.out] at hI ⊢
          have hba := below_alloc w6 (.cells #[.string ⟨q.toArray⟩, .int .i64 tm, .int .i64 z, .int .i64 dd, .slice ax nX cx] 41)
          replace hB := below2 hB hba
          replace HBt := Lib.hid (below2 HBt.out hB)
          have Ix := Lib.hid ((ints_own hI).below hba)
          have Bx := Lib.hid (Cx.new w6 41 [.string ⟨q.toArray⟩, .int .i64 tm, .int .i64 z, .int .i64 dd, .slice ax nX cx])
          clear hB hI hba
          go_wp2_with fail
          refine (KRO.out _ HBt.out).mono ?_
          rintro e w7 ⟨u, rfl, hI, hB⟩
          obtain ⟨ay, cy, rfl⟩ := (ints_own hI).form
          rw [HNX.out] at hI ⊢
          have hba := below_alloc w7 (.cells #[.string ⟨q.toArray⟩, .int .i64 tm, .int .i64 z, .int .i64 dd, .slice ay nX cy] 41)
          replace hB := below2 hB hba
          replace Ix := Lib.hid (Ix.out.below hB)
          replace Bx := Lib.hid (Bx.out.below hB)
          replace HBt := Lib.hid (below2 HBt.out hB)
          have Iy := Lib.hid ((ints_own hI).below hba)
          have By := Lib.hid (Cx.new w7 41 [.string ⟨q.toArray⟩, .int .i64 tm, .int .i64 z, .int .i64 dd, .slice ay nX cy])
          clear hB hI hba
          go_wp2_with fail
          refine (KS.out _ HBt.out).mono ?_
          rintro e w8 ⟨u, Sa, rfl, hS, hSe, hB⟩
          obtain ⟨aa, ca, rfl⟩ := hS.form
          replace Ix := Lib.hid (Ix.out.below hB)
          replace Bx := Lib.hid (Bx.out.below hB)
          replace Iy := Lib.hid (Iy.out.below hB)
          replace By := Lib.hid (By.out.below hB)
          replace HBt := Lib.hid (below2 HBt.out hB)
          have Na := Lib.hid (ents_len hSe)
          rw [Na.out] at hS ⊢
          have La := Lib.hid hS.ents
          have Qa := Lib.hid hSe
          clear hB hS hSe
          go_wp2_with fail
          refine (KRS.out _ HBt.out).mono ?_
          rintro e w9 ⟨u, Sb, rfl, hS, hSe, hB⟩
          obtain ⟨ab, cb, rfl⟩ := hS.form
          replace Ix := Lib.hid (Ix.out.below hB)
          replace Bx := Lib.hid (Bx.out.below hB)
          replace Iy := Lib.hid (Iy.out.below hB)
          replace By := Lib.hid (By.out.below hB)
          replace La := Lib.hid (La.out.below hB)
          replace HBt := Lib.hid (below2 HBt.out hB)
          have Nb := Lib.hid (ents_len hSe)
          rw [Nb.out] at hS ⊢
          have Lb := Lib.hid hS.ents
          have Qb := Lib.hid hSe
          clear hB hS hSe
          go_wp2_with fail
          refine (KH.out _ HBt.out).mono ?_
          rintro e w10 ⟨u, rfl, hd, hB⟩
          obtain ⟨ad, cd, rfl⟩ := hd.form
          replace Ix := Lib.hid (Ix.out.below hB)
          replace Bx := Lib.hid (Bx.out.below hB)
          replace Iy := Lib.hid (Iy.out.below hB)
          replace By := Lib.hid (By.out.below hB)
          replace La := Lib.hid (La.out.below hB)
          replace Lb := Lib.hid (Lb.out.below hB)
          replace HBt := Lib.hid (below2 HBt.out hB)
          have Dd := Lib.hid hd.prs
          clear hB hd
          go_wp2_with fail
          refine (KRH.out _ HBt.out).mono ?_
          rintro e w11 ⟨u, rfl, hd, hB⟩
          obtain ⟨ak, ck, rfl⟩ := hd.form
          replace Ix := Lib.hid (Ix.out.below hB)
          replace Bx := Lib.hid (Bx.out.below hB)
          replace Iy := Lib.hid (Iy.out.below hB)
          replace By := Lib.hid (By.out.below hB)
          replace La := Lib.hid (La.out.below hB)
          replace Lb := Lib.hid (Lb.out.below hB)
          replace Dd := Lib.hid (Dd.out.below hB)
          replace HBt := Lib.hid (below2 HBt.out hB)
          have Dk := Lib.hid hd.prs
          clear hB hd
          obtain ⟨⟨x0, x1, x2, x3, x4⟩, _, _⟩ := Bx.out.five2
          obtain ⟨⟨y0, y1, y2, y3, y4⟩, _, _⟩ := By.out.five2
          go_wp2_with fail
          have KE := Lib.hid (sameEntry_calls (q, tm, z, dd, cs) (q, tm, z, dd, cs) _ _ _ Ix.out Iy.out HX.out.1)
          rw [sameE_iff.2 rfl] at KE
          dsimp only [EV] at KE
          refine KE.out.mono ?_
          rintro e w14 ⟨rfl, hB⟩
          clear x0 x1 x2 x3 x4 y0 y1 y2 y3 y4 KE
          replace Ix := Lib.hid (Ix.out.below hB)
          replace Bx := Lib.hid (Bx.out.below hB)
          replace Iy := Lib.hid (Iy.out.below hB)
          replace By := Lib.hid (By.out.below hB)
          replace La := Lib.hid (La.out.below hB)
          replace Lb := Lib.hid (Lb.out.below hB)
          replace Dd := Lib.hid (Dd.out.below hB)
          replace Dk := Lib.hid (Dk.out.below hB)
          replace HBt := Lib.hid (below2 HBt.out hB)
          clear hB
          go_wp2_with fail
          have KE := Lib.hid (sameEs_calls _ _ Sa Sb _ La.out Lb.out (ents_chunks Qa.out HX.out.2.1.2) (by have := Na.out; have := HX.out.2.1.1; have := HNU.out; omega))
          rw [ents_of Qa.out Qb.out] at KE
          refine KE.out.mono ?_
          rintro e w15 ⟨rfl, hB⟩
          clear KE
          replace Ix := Lib.hid (Ix.out.below hB)
          replace Bx := Lib.hid (Bx.out.below hB)
          replace Iy := Lib.hid (Iy.out.below hB)
          replace By := Lib.hid (By.out.below hB)
          replace La := Lib.hid (La.out.below hB)
          replace Lb := Lib.hid (Lb.out.below hB)
          replace Dd := Lib.hid (Dd.out.below hB)
          replace Dk := Lib.hid (Dk.out.below hB)
          replace HBt := Lib.hid (below2 HBt.out hB)
          clear hB
          go_wp2_with fail
          refine (same_calls _ _ D D _ Dd.out Dk.out HX.out.2.2).mono ?_
          rintro e w16 ⟨rfl, hB⟩
          rw [decide_eq_true (rfl : D = D)]
          replace Ix := Lib.hid (Ix.out.below hB)
          replace Bx := Lib.hid (Bx.out.below hB)
          replace Iy := Lib.hid (Iy.out.below hB)
          replace By := Lib.hid (By.out.below hB)
          replace La := Lib.hid (La.out.below hB)
          replace Lb := Lib.hid (Lb.out.below hB)
          replace Dd := Lib.hid (Dd.out.below hB)
          replace Dk := Lib.hid (Dk.out.below hB)
          replace HBt := Lib.hid (below2 HBt.out hB)
          clear hB
          go_wp2_with fail
          refine (KT.out _ HBt.out).mono ?_
          rintro e w17 ⟨rfl, hB⟩
          replace HBt := Lib.hid (below2 HBt.out hB)
          clear hB
          go_wp2_with fail
          refine (KI.out _ HBt.out).mono ?_
          rintro e w18 ⟨rfl, hB⟩
          replace HBt := Lib.hid (below2 HBt.out hB)
          clear hB
          go_wp2_with fail
          refine (KRI.out _ HBt.out).mono ?_
          rintro e w19 ⟨rfl, hB⟩
          replace HBt := Lib.hid (below2 HBt.out hB)
          clear hB
          go_wp2_with fail
          refine (KL.out _ HBt.out).mono ?_
          rintro e w20 ⟨rfl, hB⟩
          replace HBt := Lib.hid (below2 HBt.out hB)
          clear hB
          go_wp2_with fail
          refine (KRL.out _ HBt.out).mono ?_
          rintro e w21 ⟨rfl, hB⟩
          replace HBt := Lib.hid (below2 HBt.out hB)
          clear hB
          go_wp2_with fail
          refine (KA.out _ HBt.out).mono ?_
          rintro e w22 ⟨u, rfl, hd, hB⟩
          obtain ⟨au2, cu2, rfl⟩ := hd.form
          replace HBt := Lib.hid (below2 HBt.out hB)
          have DU := Lib.hid hd.prs
          clear hB hd
          go_wp2_with fail
          refine (same_calls _ _ U U _ DU.out (HPR.out.below HBt.out) (by have := HNU.out; omega)).mono ?_
          rintro e w23 ⟨rfl, hB⟩
          rw [decide_eq_true (rfl : U = U)]
          replace HBt := Lib.hid (below2 HBt.out hB)
          clear hB
          go_wp2_with fail
          go_ret
          exact ⟨rfl, below2 HB0.out HBt.out⟩
        | true =>
          rw [hlx] at KY KRY
          rw [if_pos rfl] at KY KRY
          replace hly := hly hlx
          clear hlx
          have HBt := Lib.hid (Below.refl w3.heap.size w3)
          go_wp2_with fail
          refine (KY.out _ HBt.out).mono ?_
          rintro e w4 ⟨up, rfl, hu, hB⟩
          have VT := Lib.hid (hu (by trivial))
          replace HBt := Lib.hid (below2 HBt.out hB)
          clear hB hu
          go_wp2_with fail
          refine (KRY.out _ HBt.out).mono ?_
          rintro e w5 ⟨va, vn, vc, rfl, hv, hB⟩
          replace VT := Lib.hid (VT.out.below hB)
          replace HBt := Lib.hid (below2 HBt.out hB)
          have VP := Lib.hid (hv (by trivial))
          clear hB hv
          go_wp2_with fail
          refine (KO.out _ HBt.out).mono ?_
          rintro e w6 ⟨u, rfl, hI, hB⟩
          obtain ⟨ax, cx, rfl⟩ := (ints_own hI).form
          rw [HNX.out] at hI ⊢
          have hba := below_alloc w6 (.cells #[.string ⟨q.toArray⟩, .int .i64 tm, .int .i64 z, .int .i64 dd, .slice ax nX cx] 41)
          replace hB := below2 hB hba
          replace VT := Lib.hid (VT.out.below hB)
          replace VP := Lib.hid (VP.out.below hB)
          replace HBt := Lib.hid (below2 HBt.out hB)
          have Ix := Lib.hid ((ints_own hI).below hba)
          have Bx := Lib.hid (Cx.new w6 41 [.string ⟨q.toArray⟩, .int .i64 tm, .int .i64 z, .int .i64 dd, .slice ax nX cx])
          clear hB hI hba
          go_wp2_with fail
          refine (KRO.out _ HBt.out).mono ?_
          rintro e w7 ⟨u, rfl, hI, hB⟩
          obtain ⟨ay, cy, rfl⟩ := (ints_own hI).form
          rw [HNX.out] at hI ⊢
          have hba := below_alloc w7 (.cells #[.string ⟨q.toArray⟩, .int .i64 tm, .int .i64 z, .int .i64 dd, .slice ay nX cy] 41)
          replace hB := below2 hB hba
          replace VT := Lib.hid (VT.out.below hB)
          replace VP := Lib.hid (VP.out.below hB)
          replace Ix := Lib.hid (Ix.out.below hB)
          replace Bx := Lib.hid (Bx.out.below hB)
          replace HBt := Lib.hid (below2 HBt.out hB)
          have Iy := Lib.hid ((ints_own hI).below hba)
          have By := Lib.hid (Cx.new w7 41 [.string ⟨q.toArray⟩, .int .i64 tm, .int .i64 z, .int .i64 dd, .slice ay nX cy])
          clear hB hI hba
          go_wp2_with fail
          refine (KS.out _ HBt.out).mono ?_
          rintro e w8 ⟨u, Sa, rfl, hS, hSe, hB⟩
          obtain ⟨aa, ca, rfl⟩ := hS.form
          replace VT := Lib.hid (VT.out.below hB)
          replace VP := Lib.hid (VP.out.below hB)
          replace Ix := Lib.hid (Ix.out.below hB)
          replace Bx := Lib.hid (Bx.out.below hB)
          replace Iy := Lib.hid (Iy.out.below hB)
          replace By := Lib.hid (By.out.below hB)
          replace HBt := Lib.hid (below2 HBt.out hB)
          have Na := Lib.hid (ents_len hSe)
          rw [Na.out] at hS ⊢
          have La := Lib.hid hS.ents
          have Qa := Lib.hid hSe
          clear hB hS hSe
          go_wp2_with fail
          refine (KRS.out _ HBt.out).mono ?_
          rintro e w9 ⟨u, Sb, rfl, hS, hSe, hB⟩
          obtain ⟨ab, cb, rfl⟩ := hS.form
          replace VT := Lib.hid (VT.out.below hB)
          replace VP := Lib.hid (VP.out.below hB)
          replace Ix := Lib.hid (Ix.out.below hB)
          replace Bx := Lib.hid (Bx.out.below hB)
          replace Iy := Lib.hid (Iy.out.below hB)
          replace By := Lib.hid (By.out.below hB)
          replace La := Lib.hid (La.out.below hB)
          replace HBt := Lib.hid (below2 HBt.out hB)
          have Nb := Lib.hid (ents_len hSe)
          rw [Nb.out] at hS ⊢
          have Lb := Lib.hid hS.ents
          have Qb := Lib.hid hSe
          clear hB hS hSe
          go_wp2_with fail
          refine (KH.out _ HBt.out).mono ?_
          rintro e w10 ⟨u, rfl, hd, hB⟩
          obtain ⟨ad, cd, rfl⟩ := hd.form
          replace VT := Lib.hid (VT.out.below hB)
          replace VP := Lib.hid (VP.out.below hB)
          replace Ix := Lib.hid (Ix.out.below hB)
          replace Bx := Lib.hid (Bx.out.below hB)
          replace Iy := Lib.hid (Iy.out.below hB)
          replace By := Lib.hid (By.out.below hB)
          replace La := Lib.hid (La.out.below hB)
          replace Lb := Lib.hid (Lb.out.below hB)
          replace HBt := Lib.hid (below2 HBt.out hB)
          have Dd := Lib.hid hd.prs
          clear hB hd
          go_wp2_with fail
          refine (KRH.out _ HBt.out).mono ?_
          rintro e w11 ⟨u, rfl, hd, hB⟩
          obtain ⟨ak, ck, rfl⟩ := hd.form
          replace VT := Lib.hid (VT.out.below hB)
          replace VP := Lib.hid (VP.out.below hB)
          replace Ix := Lib.hid (Ix.out.below hB)
          replace Bx := Lib.hid (Bx.out.below hB)
          replace Iy := Lib.hid (Iy.out.below hB)
          replace By := Lib.hid (By.out.below hB)
          replace La := Lib.hid (La.out.below hB)
          replace Lb := Lib.hid (Lb.out.below hB)
          replace Dd := Lib.hid (Dd.out.below hB)
          replace HBt := Lib.hid (below2 HBt.out hB)
          have Dk := Lib.hid hd.prs
          clear hB hd
          go_wp2_with fail
          refine (all_calls _ V _ VT.out (by have := hly.2; have := HNU.out; omega) hly.1).mono ?_
          rintro e w12 ⟨u, rfl, hd, hB⟩
          obtain ⟨au, cu, rfl⟩ := hd.form
          replace VT := Lib.hid (VT.out.below hB)
          replace VP := Lib.hid (VP.out.below hB)
          replace Ix := Lib.hid (Ix.out.below hB)
          replace Bx := Lib.hid (Bx.out.below hB)
          replace Iy := Lib.hid (Iy.out.below hB)
          replace By := Lib.hid (By.out.below hB)
          replace La := Lib.hid (La.out.below hB)
          replace Lb := Lib.hid (Lb.out.below hB)
          replace Dd := Lib.hid (Dd.out.below hB)
          replace Dk := Lib.hid (Dk.out.below hB)
          replace HBt := Lib.hid (below2 HBt.out hB)
          have DV := Lib.hid hd.prs
          clear hB hd
          go_wp2_with fail
          refine (same_calls _ _ V V _ DV.out VP.out (by have := hly.2; have := HNU.out; omega)).mono ?_
          rintro e w13 ⟨rfl, hB⟩
          rw [decide_eq_true (rfl : V = V)]
          replace VT := Lib.hid (VT.out.below hB)
          replace VP := Lib.hid (VP.out.below hB)
          replace Ix := Lib.hid (Ix.out.below hB)
          replace Bx := Lib.hid (Bx.out.below hB)
          replace Iy := Lib.hid (Iy.out.below hB)
          replace By := Lib.hid (By.out.below hB)
          replace La := Lib.hid (La.out.below hB)
          replace Lb := Lib.hid (Lb.out.below hB)
          replace Dd := Lib.hid (Dd.out.below hB)
          replace Dk := Lib.hid (Dk.out.below hB)
          replace DV := Lib.hid (DV.out.below hB)
          replace HBt := Lib.hid (below2 HBt.out hB)
          clear hB
          obtain ⟨⟨x0, x1, x2, x3, x4⟩, _, _⟩ := Bx.out.five2
          obtain ⟨⟨y0, y1, y2, y3, y4⟩, _, _⟩ := By.out.five2
          go_wp2_with fail
          have KE := Lib.hid (sameEntry_calls (q, tm, z, dd, cs) (q, tm, z, dd, cs) _ _ _ Ix.out Iy.out HX.out.1)
          rw [sameE_iff.2 rfl] at KE
          dsimp only [EV] at KE
          refine KE.out.mono ?_
          rintro e w14 ⟨rfl, hB⟩
          clear x0 x1 x2 x3 x4 y0 y1 y2 y3 y4 KE
          replace VT := Lib.hid (VT.out.below hB)
          replace VP := Lib.hid (VP.out.below hB)
          replace Ix := Lib.hid (Ix.out.below hB)
          replace Bx := Lib.hid (Bx.out.below hB)
          replace Iy := Lib.hid (Iy.out.below hB)
          replace By := Lib.hid (By.out.below hB)
          replace La := Lib.hid (La.out.below hB)
          replace Lb := Lib.hid (Lb.out.below hB)
          replace Dd := Lib.hid (Dd.out.below hB)
          replace Dk := Lib.hid (Dk.out.below hB)
          replace DV := Lib.hid (DV.out.below hB)
          replace HBt := Lib.hid (below2 HBt.out hB)
          clear hB
          go_wp2_with fail
          have KE := Lib.hid (sameEs_calls _ _ Sa Sb _ La.out Lb.out (ents_chunks Qa.out HX.out.2.1.2) (by have := Na.out; have := HX.out.2.1.1; have := HNU.out; omega))
          rw [ents_of Qa.out Qb.out] at KE
          refine KE.out.mono ?_
          rintro e w15 ⟨rfl, hB⟩
          clear KE
          replace VT := Lib.hid (VT.out.below hB)
          replace VP := Lib.hid (VP.out.below hB)
          replace Ix := Lib.hid (Ix.out.below hB)
          replace Bx := Lib.hid (Bx.out.below hB)
          replace Iy := Lib.hid (Iy.out.below hB)
          replace By := Lib.hid (By.out.below hB)
          replace La := Lib.hid (La.out.below hB)
          replace Lb := Lib.hid (Lb.out.below hB)
          replace Dd := Lib.hid (Dd.out.below hB)
          replace Dk := Lib.hid (Dk.out.below hB)
          replace DV := Lib.hid (DV.out.below hB)
          replace HBt := Lib.hid (below2 HBt.out hB)
          clear hB
          go_wp2_with fail
          refine (same_calls _ _ D D _ Dd.out Dk.out HX.out.2.2).mono ?_
          rintro e w16 ⟨rfl, hB⟩
          rw [decide_eq_true (rfl : D = D)]
          replace VT := Lib.hid (VT.out.below hB)
          replace VP := Lib.hid (VP.out.below hB)
          replace Ix := Lib.hid (Ix.out.below hB)
          replace Bx := Lib.hid (Bx.out.below hB)
          replace Iy := Lib.hid (Iy.out.below hB)
          replace By := Lib.hid (By.out.below hB)
          replace La := Lib.hid (La.out.below hB)
          replace Lb := Lib.hid (Lb.out.below hB)
          replace Dd := Lib.hid (Dd.out.below hB)
          replace Dk := Lib.hid (Dk.out.below hB)
          replace DV := Lib.hid (DV.out.below hB)
          replace HBt := Lib.hid (below2 HBt.out hB)
          clear hB
          go_wp2_with fail
          refine (KT.out _ HBt.out).mono ?_
          rintro e w17 ⟨rfl, hB⟩
          replace HBt := Lib.hid (below2 HBt.out hB)
          clear hB
          go_wp2_with fail
          refine (KI.out _ HBt.out).mono ?_
          rintro e w18 ⟨rfl, hB⟩
          replace HBt := Lib.hid (below2 HBt.out hB)
          clear hB
          go_wp2_with fail
          refine (KRI.out _ HBt.out).mono ?_
          rintro e w19 ⟨rfl, hB⟩
          replace HBt := Lib.hid (below2 HBt.out hB)
          clear hB
          go_wp2_with fail
          refine (KL.out _ HBt.out).mono ?_
          rintro e w20 ⟨rfl, hB⟩
          replace HBt := Lib.hid (below2 HBt.out hB)
          clear hB
          go_wp2_with fail
          refine (KRL.out _ HBt.out).mono ?_
          rintro e w21 ⟨rfl, hB⟩
          replace HBt := Lib.hid (below2 HBt.out hB)
          clear hB
          go_wp2_with fail
          refine (KA.out _ HBt.out).mono ?_
          rintro e w22 ⟨u, rfl, hd, hB⟩
          obtain ⟨au2, cu2, rfl⟩ := hd.form
          replace HBt := Lib.hid (below2 HBt.out hB)
          have DU := Lib.hid hd.prs
          clear hB hd
          go_wp2_with fail
          refine (same_calls _ _ U U _ DU.out (HPR.out.below HBt.out) (by have := HNU.out; omega)).mono ?_
          rintro e w23 ⟨rfl, hB⟩
          rw [decide_eq_true (rfl : U = U)]
          replace HBt := Lib.hid (below2 HBt.out hB)
          clear hB
          go_wp2_with fail
          go_ret
          exact ⟨rfl, below2 HB0.out HBt.out⟩

end Go.Proofs.YtbadbfmeoiclfaaGreatDoor
