/-
  tree: gather.
-/
import Derived.Test.YtgbicdbmmjleoaaTrKeep
import Derived.Test.YtgbicdbmmjleoaaTrSlice
import Derived.Test.YtgbicdbmmjleoaaTrTail
import Derived.Test.YtgbicdbmmjleoaaTrLook
namespace Go.Proofs.Ytgbicdbmmjleoaa
open Go.RowKit

theorem KBox.keep {w w' : World} {g : Nat} {k : Ky} (h : KBox w g k) (hk : KeepN w w') : KBox w' g k := by
  unfold KBox at h ⊢
  exact Cx.keep h hk (by decide)

set_option maxHeartbeats 8000000 in
set_option maxRecDepth 100000 in
theorem gather_leaf (p : List UInt8) (m : Int) (N : Nat) (v a : Value) (l A : List Pr) (w0 w : World) (hp : Prs w0 v l) (hB : Below w0.heap.size w0 w) (ho : OwnP w w0.heap.size a A) (hA : A.length ≤ N) (hN : N ≤ 100000) (hm : l.length ≤ 100000) :
    Calls Try.prog 30 #[a, .iface 66 v, .agg #[.string ⟨p.toArray⟩, .int .i64 m], .int .i64 N] w fun e w' => ∃ u, e = .returned u ∧ OwnP w' w0.heap.size u (A ++ (tailL l (p, m)).take (N - A.length)) ∧ Below w0.heap.size w0 w' ∧ KeepN w w' := by
  obtain ⟨ao, cap, rfl⟩ := hp.form
  obtain ⟨aa, ca, rfl⟩ := ho.form
  have hB0 := below_alloc w (.cells #[.string ⟨p.toArray⟩, .int .i64 m] 24)
  obtain ⟨k0, k1, _⟩ := (kbox_new w p m).two
  have KF := Lib.hid (find_calls _ l p m _ ((hp.below hB).below hB0) (by omega))
  have hil := placeN_le l (p, m)
  obtain ⟨i, hi⟩ : ∃ i, placeN l (p, m) = i := ⟨_, rfl⟩
  obtain ⟨t, ht⟩ : ∃ t, A.length = t := ⟨_, rfl⟩
  obtain ⟨n, hn⟩ : ∃ n, l.length = n := ⟨_, rfl⟩
  have hTL : tailL l (p, m) = l.drop i := by unfold tailL; rw [hi]
  obtain ⟨r, hr⟩ : ∃ r, min n (i + N - t) = r := ⟨_, rfl⟩
  obtain ⟨q, hq⟩ : ∃ q, i + q = r := ⟨r - i, by omega⟩
  rw [hi] at hil KF
  rw [hn] at hp hil hm KF ⊢
  rw [ht] at hA ho ⊢
  obtain ⟨a1, c1, hr1, hp1⟩ := leaf_range hp i r q (by omega) hq
  have htk : (l.drop i).take q = (tailL l (p, m)).take (N - t) := by
    rw [hTL]
    rcases Nat.lt_or_ge (N - t) (n - i) with h | h
    · congr 1
      omega
    · rw [List.take_of_length_le (by rw [List.length_drop]; omega), List.take_of_length_le (by rw [List.length_drop]; omega)]
  rw [htk] at hp1
  have hmin : min (n : Int) ((i : Int) + (N : Int) - (t : Int)) = (r : Int) := by omega
  have HP := Lib.hid (And.intro hp1 ho)
  obtain ⟨U, hU⟩ : ∃ U, A ++ (tailL l (p, m)).take (N - t) = U := ⟨_, rfl⟩
  have hq2 : q = ((tailL l (p, m)).take (N - t)).length := hp1.len.symm
  have HU := Lib.hid (And.intro hU (show U.length = t + q by rw [← hU, List.length_append, ht, ← hq2]))
  rw [hU]
  have hb1 : t + q ≤ 1000000 := by omega
  have ha := asLeaf (.slice ao n cap)
  clear hp1 ho hp htk hTL hi ht hn hr hU hq2
  go_enter Try.func30, Try.ntmps30
  go_wp2_with fail
  refine KF.out.mono ?_
  rintro e w1 ⟨rfl, hB1⟩
  have hB2 := below2 hB0 hB1
  go_wp2_with (at_builtin; refine wpList_append_keep rfl _ _ 28 66 Try.underlying28 leaf_slice2 rfl w0.heap.size _ A rfl (HP.out.2.stays hB2) _ q _ _ rfl (HP.out.1.below (below2 hB hB2)) U HU.out.1 (t + q) HU.out.2 hb1 w0 (below2 hB hB2) (Nat.le_refl _) ?_; intro a3 c3 w3 ho3 hB3 hk3 _)
  go_ret
  obtain ⟨e1, e2⟩ := HU.out
  exact ⟨_, rfl, ho3, hB3, (KeepN.below hB2).trans hk3⟩

/-- What is gathered of the first k vertices. -/
def gatherTo (S : List Ch) (k : Ky) (A : List Pr) (N i : Nat) : List Pr := A ++ (tailL (allC (S.take i)) k).take (N - A.length)
theorem gatherTo_start {S : List Ch} {k : Ky} {i : Nat} (h : Spot S k i) (A : List Pr) (N : Nat) : gatherTo S k A N i = A := by
  unfold gatherTo
  rw [tail_full h.2.1]
  simp
theorem gatherTo_le {S : List Ch} {k : Ky} {A : List Pr} {N : Nat} (hA : A.length ≤ N) (i : Nat) : (gatherTo S k A N i).length ≤ N := gather_le _ _ hA
theorem gatherTo_succ {S : List Ch} {k : Ky} {A : List Pr} {N i : Nat} (hr : Rises (allC S)) (hi : i < S.length) : gatherTo S k A N i ++ (tailL S[i].2.1 k).take (N - (gatherTo S k A N i).length) = gatherTo S k A N (i + 1) := by
  have h1 : Rises (allC (S.take i) ++ S[i].2.1) := by
    rw [← allC_succ hi]
    rw [← List.take_append_drop (i + 1) S, allC_append] at hr
    exact hr.sublist (List.sublist_append_left _ _)
  unfold gatherTo
  rw [gather_more, allC_succ hi, tail_append h1]
theorem gatherTo_end (S : List Ch) (k : Ky) (A : List Pr) (N : Nat) : gatherTo S k A N S.length = A ++ (tailL (allC S) k).take (N - A.length) := by
  unfold gatherTo
  rw [List.take_length]
theorem gatherTo_full {S : List Ch} {k : Ky} {A : List Pr} {N i : Nat} (hr : Rises (allC S)) (hA : A.length ≤ N) (h : N ≤ (gatherTo S k A N i).length) : gatherTo S k A N i = A ++ (tailL (allC S) k).take (N - A.length) := by
  have e : allC S = allC (S.take i) ++ allC (S.drop i) := by rw [← allC_append, List.take_append_drop]
  rw [e] at hr ⊢
  rw [tail_append hr]
  exact gather_full h hA _

set_option maxHeartbeats 8000000 in
set_option maxRecDepth 100000 in
theorem gather_calls (p : List UInt8) (m : Int) (N : Nat) (hN : N ≤ 100000) : ∀ (d : Nat) (v a : Value) (l A : List Pr) (n : Nat) (w0 w : World), Vx d w0 v l n → Rises l → Below w0.heap.size w0 w → OwnP w w0.heap.size a A → A.length ≤ N → l.length ≤ 100000 →
    Calls Try.prog 30 #[a, v, .agg #[.string ⟨p.toArray⟩, .int .i64 m], .int .i64 N] w fun e w' => ∃ u, e = .returned u ∧ OwnP w' w0.heap.size u (A ++ (tailL l (p, m)).take (N - A.length)) ∧ Below w0.heap.size w0 w' ∧ KeepN w w'
  | 0, v, a, l, A, n, w0, w, ⟨_, u, hv, hp⟩, hr, hB, ho, hA, hm => by
    subst hv
    exact gather_leaf p m N u a l A w0 w hp hB ho hA hN hm
  | d + 1, v, a, l, A, n, w0, w, hV, hr, hB, ho, hA, hm => by
    obtain ⟨g, ao, cap, S, x0, rfl, rfl, h2, rfl, _, c0, _, _, _, hR, hS⟩ := hV.open
    have hcn := hR.count hS
    have ha := asLeafNot (.pointer (some ⟨g, 0, none⟩))
    have hb := asBranch (.pointer (some ⟨g, 0, none⟩))
    have hB0 := below_alloc w (.cells #[.string ⟨p.toArray⟩, .int .i64 m] 24)
    have hkb := kbox_new w p m
    obtain ⟨k0, k1, _⟩ := hkb.two
    obtain ⟨b, off, rfl, hcs⟩ := hR.vals h2
    obtain ⟨F, hF⟩ : ∃ F : Nat → Value, ∀ k (h : k < S.length), S[k].1 = F k := ⟨fun k => (S[k]?.map (·.1)).getD undef, fun k h => by simp [List.getElem?_eq_getElem h]⟩
    have hcs' : ∀ k, k < S.length → w0.cell? ⟨b, off + k, none⟩ = some (F k) := fun k h => by rw [hcs k h, hF k h]
    have KP := Lib.hid (fun W (hB : Below w0.heap.size w0 W) => spot_calls d S p m g (some ⟨b, off, none⟩) cap W (look_below hB c0) (hR.below hB) hS h2 (by omega) hr)
    have KE : Hid (∀ i (hi : i < S.length) W u, Below w0.heap.size w0 W → OwnP W w0.heap.size u (gatherTo S (p, m) A N i) → Calls Try.prog 30 #[u, F i, .agg #[.string ⟨p.toArray⟩, .int .i64 m], .int .i64 N] W fun e w' => ∃ u', e = .returned u' ∧ OwnP w' w0.heap.size u' (gatherTo S (p, m) A N (i + 1)) ∧ Below w0.heap.size w0 w' ∧ KeepN W w') :=
      Lib.hid (fun i hi W u hB hu => by
        have hp := allC_parts hi
        rw [← hF i hi, ← gatherTo_succ hr hi]
        exact gather_calls p m N hN d _ u _ _ _ w0 W (hR.2 _ (List.getElem_mem hi)) (by
          rw [hp] at hr
          exact (hr.sublist (List.sublist_append_right _ _)).sublist (List.sublist_append_left _ _)) hB hu (gatherTo_le hA i) (by have := allC_mem_le (List.getElem_mem hi); omega))
    have HS : Hid (∀ W, Below w0.heap.size w0 W → KBox W w.heap.size (p, m) → W.cell? ⟨w.heap.size, 0, none⟩ = some (.string ⟨p.toArray⟩) ∧ W.cell? ⟨w.heap.size, 1, none⟩ = some (.int .i64 m) ∧ W.cell? ⟨g, 0, none⟩ = some (.slice (some ⟨b, off, none⟩) S.length cap) ∧ ∀ k, k < S.length → W.cell? ⟨b, off + k, none⟩ = some (F k)) :=
      Lib.hid (fun W hB hk => ⟨hk.two.1, hk.two.2.1, look_below hB c0, fun k h => look_below hB (hcs' k h)⟩)
    have HG := Lib.hid (And.intro hr hA)
    have HB := Lib.hid (And.intro hB ho)
    have HK := Lib.hid hkb
    obtain ⟨aa, ca, rfl⟩ := ho.form
    obtain ⟨t, ht⟩ : ∃ t, A.length = t := ⟨_, rfl⟩
    have HT := Lib.hid ht
    rw [ht] at HB hA ⊢
    have hsm : S.length ≤ 100000 := by omega
    obtain ⟨s, hs⟩ : ∃ s, S.length = s := ⟨_, rfl⟩
    have HSL := Lib.hid hs
    have c0' := look_below hB c0
    rw [hs] at HS c0' hsm
    clear hcs hcs' hF hR hS hr hV c0 hm hcn h2 hA hkb hB ho ht hs
    go_enter Try.func30, Try.ntmps30
    go_wp2_with fail
    refine (KP.out _ (below2 HB.out.1 hB0)).mono ?_
    rintro e w1 ⟨⟨i0, rfl, hi⟩, hB1⟩
    have hi0 := hi.1
    have HI := Lib.hid hi
    clear hi
    go_wp2_with fail
    go_loopw [0, 13] (fun lv i wr => ∃ k : Nat, i = .int .i64 k ∧ k ≤ s ∧ (∃ ao n cap, lv = .slice ao n cap ∧ OwnP wr w0.heap.size (.slice ao n cap) (gatherTo S (p, m) A N k)) ∧ Below w0.heap.size w0 wr ∧ KeepN w wr ∧ KBox wr w.heap.size (p, m)) (fun _ i _ => s - (intOf i).toNat)
    case atStart =>
      have h1 := below2 hB0 hB1
      refine ⟨i0, rfl, by rw [← HSL.out]; omega, ⟨aa, t, ca, rfl, ?_⟩, below2 HB.out.1 h1, KeepN.below h1, HK.out.below hB1⟩
      rw [gatherTo_start HI.out]
      exact HB.out.2.stays h1
    case round =>
      obtain ⟨k, rfl, hk, ⟨al, nl, cl, rfl, hol⟩, hBl, hkl, hkb⟩ := hrel
      have hln := hol.prs.len
      have hle := gatherTo_le (S := S) (k := (p, m)) (A := A) (N := N) HG.out.2 k
      rw [hln] at hle
      obtain ⟨k0r, k1r, cgr, _⟩ := HS.out wr hBl hkb
      by_cases hlt : k < s
      · by_cases hlN : nl < N
        · have hks : k < S.length := by rw [HSL.out]; exact hlt
          have KE1 := Lib.hid (fun W u => KE.out k hks W u)
          have HO := Lib.hid (hol.stays (drew_below wr))
          have HB2 := Lib.hid (And.intro hBl hkl)
          have hbr : Below w0.heap.size w0 wr.drew := hBl.drew
          have hkr : KBox wr.drew w.heap.size (p, m) := hkb.below (drew_below _)
          clear hol hBl hkl hkb hln hle hks
          go_wp2_with fail
          go_region_held3 (fun w' => w'.cell? ⟨w.heap.size, 0, none⟩ = some (.string ⟨p.toArray⟩) ∧ w'.cell? ⟨w.heap.size, 1, none⟩ = some (.int .i64 m) ∧ w'.cell? ⟨g, 0, none⟩ = some (.slice (some ⟨b, off, none⟩) s cap) ∧ ∀ k, k < s → w'.cell? ⟨b, off + k, none⟩ = some (F k)) (first | exact HS.out _ hbr hkr) (first
            | ((with_reducible refine (KE1.out _ _ hbr HO.out).mono ?_); rintro e w2 ⟨u2, rfl, hu2, hB2, hk2⟩; have hbr := hB2; have hkr := hkr.keep hk2; have HU := Lib.hid (And.intro hu2 hk2); clear hu2 hk2; obtain ⟨a2, n2, c2, rfl⟩ := HU.out.1.prs.any))
          go_wp2_with fail
          go_roundw
          case rel => exact ⟨k + 1, by go_num, by omega, ⟨a2, n2, c2, rfl, HU.out.1⟩, hbr, (HB2.out.2.trans (KeepN.below (drew_below _))).trans HU.out.2, hkr⟩
          case measure => simp [intOf]; omega
        · have HO := Lib.hid (And.intro hol (And.intro hBl hkl))
          have hNl : N ≤ nl := by omega
          have HE := Lib.hid (show gatherTo S (p, m) A N k = A ++ (tailL (allC S) (p, m)).take (N - t) by
            rw [← HT.out]
            exact gatherTo_full HG.out.1 HG.out.2 (by omega))
          clear hol hBl hkl hkb hln
          go_wp2_with fail
          go_ret
          exact ⟨_, rfl, by rw [← HE.out]; exact HO.out.1, HO.out.2.1, HO.out.2.2⟩
      · obtain rfl : s = k := by omega
        have HO := Lib.hid (And.intro hol (And.intro hBl hkl))
        have HE := Lib.hid (show gatherTo S (p, m) A N s = A ++ (tailL (allC S) (p, m)).take (N - t) by
          rw [← HT.out, ← HSL.out]
          exact gatherTo_end S (p, m) A N)
        clear hol hBl hkl hkb hln hle
        go_wp2_with fail
        go_ret
        exact ⟨_, rfl, by rw [← HE.out]; exact HO.out.1, HO.out.2.1, HO.out.2.2⟩

end Go.Proofs.Ytgbicdbmmjleoaa
