/-
  The document's own From.
-/
import Derived.Test.YtgbicdbmmjleoaaTrRef
namespace Go.Proofs.Ytgbicdbmmjleoaa
open Go.RowKit

/-- What is told of the first i pairs. -/
def fromTo (l : List Pr) (k : Ky) (n : Int) (i : Nat) : List Pr := (tailL (l.take i) k).take n.toNat
theorem fromTo_len (l : List Pr) (k : Ky) (n : Int) : fromTo l k n l.length = fromL l k n := by
  unfold fromTo fromL
  rw [List.take_length]
theorem fromTo_le (l : List Pr) (k : Ky) (n : Int) (i : Nat) : (fromTo l k n i).length ≤ l.length := by
  unfold fromTo tailL
  simp only [List.length_take, List.length_drop]
  omega
theorem fromTo_full {l : List Pr} (hr : Rises l) {k : Ky} {n : Int} {i : Nat} (h : n ≤ ((fromTo l k n i).length : Int)) : fromTo l k n i = fromL l k n := by
  have e : l = l.take i ++ l.drop i := (List.take_append_drop i l).symm
  rw [e] at hr
  unfold fromTo at h ⊢
  unfold fromL
  rw [show tailL l k = tailL (l.take i) k ++ tailL (l.drop i) k by rw [← tail_append hr, List.take_append_drop]]
  rw [List.length_take] at h
  rw [List.take_append_of_le_length (by omega)]
theorem tail_one (x : Pr) (k : Ky) : tailL [x] k = if lessK x.1 k = true then [] else [x] := by
  unfold tailL placeN
  split
  · simp
  · simp
theorem fromTo_skip {l : List Pr} (hr : Rises l) {k : Ky} {n : Int} {i : Nat} (hi : i < l.length) (h : lessK l[i].1 k = true) : fromTo l k n (i + 1) = fromTo l k n i := by
  have h1 : Rises (l.take i ++ [l[i]]) := by
    rw [← List.take_succ_eq_append_getElem hi]
    exact hr.sublist (List.take_sublist _ _)
  unfold fromTo
  rw [List.take_succ_eq_append_getElem hi, tail_append h1, tail_one, if_pos h, List.append_nil]
theorem fromTo_take {l : List Pr} (hr : Rises l) {k : Ky} {n : Int} {i : Nat} (hi : i < l.length) (h : lessK l[i].1 k = false) (hn : ((fromTo l k n i).length : Int) < n) : fromTo l k n i ++ [l[i]] = fromTo l k n (i + 1) := by
  have h1 : Rises (l.take i ++ [l[i]]) := by
    rw [← List.take_succ_eq_append_getElem hi]
    exact hr.sublist (List.take_sublist _ _)
  unfold fromTo at hn ⊢
  rw [List.length_take] at hn
  rw [List.take_succ_eq_append_getElem hi, tail_append h1, tail_one, if_neg (by simp [h]), List.take_of_length_le (l := tailL (l.take i) k) (by omega), List.take_of_length_le (l := tailL (l.take i) k ++ [l[i]]) (by rw [List.length_append, List.length_singleton]; omega)]

set_option maxHeartbeats 4000000 in
theorem refFrom_calls (v : Value) (l : List Pr) (p : List UInt8) (m n : Int) (w : World) (hs : Prs w v l) (hr : Rises l) (hm : l.length ≤ 100000) :
    Calls Try.prog 19 #[v, .agg #[.string ⟨p.toArray⟩, .int .i64 m], .int .i64 n] w fun e w' => ∃ u, e = .returned u ∧ Prs w' u (fromL l (p, m) n) ∧ Below w.heap.size w w' := by
  obtain ⟨ao, cap, rfl⟩ := hs.form
  obtain ⟨w0, hw0⟩ : ∃ w0, w.alloc (.cells #[.string ⟨p.toArray⟩, .int .i64 m] 24) = w0 := ⟨_, rfl⟩
  have hB0 : Below w.heap.size w w0 := hw0 ▸ below_alloc w (.cells #[.string ⟨p.toArray⟩, .int .i64 m] 24)
  have hkb : KBox w0 w.heap.size (p, m) := hw0 ▸ kbox_new w p m
  have HK := Lib.hid (And.intro (hs.below hB0) (And.intro hkb hB0))
  have HR := Lib.hid hr
  have KL := Lib.hid (fun (x : Pr) W => kRefLessK_calls x.1.1 p x.1.2 m W)
  obtain ⟨s, hsl⟩ : ∃ s, l.length = s := ⟨_, rfl⟩
  have HSL := Lib.hid hsl
  rw [hsl] at hm ⊢
  rw [hsl] at HK
  clear hs hr hkb hsl hB0
  go_enter Try.func19, Try.ntmps19
  go_wp2_with fail
  go_loopw [7, 8] (fun r i wr => ∃ k : Nat, i = .int .i64 k ∧ k ≤ s ∧ (∃ ao cap, r = .slice ao (fromTo l (p, m) n k).length cap ∧ OwnP wr w0.heap.size (.slice ao (fromTo l (p, m) n k).length cap) (fromTo l (p, m) n k)) ∧ Below w0.heap.size w0 wr) (fun _ i _ => s - (intOf i).toNat)
  case atStart => exact ⟨0, rfl, Nat.zero_le _, ⟨none, 0, by simp [fromTo, tailL], by simpa [fromTo, tailL] using OwnP.nil w0 w0.heap.size⟩, Below.refl _ _⟩
  case round =>
    obtain ⟨k, rfl, hk, ⟨al, cl, rfl, hol⟩, hBl⟩ := hrel
    have hft := fromTo_le l (p, m) n k
    obtain ⟨T, hT⟩ : ∃ T, fromTo l (p, m) n k = T := ⟨_, rfl⟩
    obtain ⟨tn, htn⟩ : ∃ t, T.length = t := ⟨_, rfl⟩
    rw [hT, htn, HSL.out] at hft
    rw [hT, htn] at hol
    rw [hT, htn]
    have HT := Lib.hid (And.intro hT htn)
    by_cases hlt : k < s
    · by_cases hln : (tn : Int) < n
      · have hks : k < l.length := by rw [HSL.out]; exact hlt
        obtain ⟨b, off, rfl, c0, c1, c2⟩ := (HK.out.1.below hBl).at hks
        have hC := fromTo_take (k := (p, m)) (n := n) HR.out hks
        have hD := fromTo_skip (k := (p, m)) (n := n) HR.out hks
        obtain ⟨x, hx⟩ : ∃ x, l[k] = x := ⟨_, rfl⟩
        rw [hx] at c0 c1 c2 hC hD
        have KX := KL.out x
        cases hle : lessK x.1 (p, m) with
        | true =>
          have HD := Lib.hid (show fromTo l (p, m) n (k + 1) = T by rw [hD hle]; exact hT)
          obtain ⟨⟨q, z⟩, t⟩ := x
          dsimp only at hle KX c0 c1 c2
          rw [hle] at KX
          have KX2 := Lib.hid KX
          have hbr := hBl.drew
          have HS : Hid (∀ W, Below wr.heap.size wr W → W.cell? ⟨w.heap.size, 0, none⟩ = some (.string ⟨p.toArray⟩) ∧ W.cell? ⟨w.heap.size, 1, none⟩ = some (.int .i64 m) ∧ W.cell? ⟨b, off + k * 3, none⟩ = some (.string ⟨q.toArray⟩) ∧ W.cell? ⟨b, off + k * 3 + 1, none⟩ = some (.int .i64 z)) := by
            obtain ⟨e0, e1, _⟩ := (HK.out.2.1.below hBl).two
            exact Lib.hid (fun W hB => ⟨look_below hB e0, look_below hB e1, look_below hB c0, look_below hB c1⟩)
          have HO := Lib.hid hol
          have HB := Lib.hid hBl
          have hbr : Below wr.heap.size wr wr.drew := drew_below _
          clear hC hD hx hle KX hT htn hol c0 c1 c2 hBl
          go_wp2_with fail
          go_region_held3 (fun w' => w'.cell? ⟨w.heap.size, 0, none⟩ = some (.string ⟨p.toArray⟩) ∧ w'.cell? ⟨w.heap.size, 1, none⟩ = some (.int .i64 m) ∧ w'.cell? ⟨b, off + k * 3, none⟩ = some (.string ⟨q.toArray⟩) ∧ w'.cell? ⟨b, off + k * 3 + 1, none⟩ = some (.int .i64 z)) (first | exact HS.out _ hbr) (first
            | ((with_reducible refine (KX2.out _).mono ?_); rintro e w2 ⟨rfl, hB2⟩; have hbr := below2 hbr hB2))
          go_wp2_with fail
          go_roundw
          case rel =>
            refine ⟨k + 1, by go_num, by omega, ⟨al, cl, ?_, ?_⟩, below2 HB.out hbr⟩
            · rw [HD.out, HT.out.2]
            · rw [HD.out, HT.out.2]
              exact HO.out.stays hbr
          case measure => simp [intOf]; omega
        | false =>
          have HC := Lib.hid (show T ++ [x] = fromTo l (p, m) n (k + 1) by
            have h := hC hle (by rw [hT, htn]; exact hln)
            rwa [hT] at h)
          obtain ⟨⟨q, z⟩, t⟩ := x
          dsimp only at hle KX c0 c1 c2
          rw [hle] at KX
          have KX2 := Lib.hid KX
          have HS : Hid (∀ W, Below wr.heap.size wr W → W.cell? ⟨w.heap.size, 0, none⟩ = some (.string ⟨p.toArray⟩) ∧ W.cell? ⟨w.heap.size, 1, none⟩ = some (.int .i64 m) ∧ W.cell? ⟨b, off + k * 3, none⟩ = some (.string ⟨q.toArray⟩) ∧ W.cell? ⟨b, off + k * 3 + 1, none⟩ = some (.int .i64 z)) := by
            obtain ⟨e0, e1, _⟩ := (HK.out.2.1.below hBl).two
            exact Lib.hid (fun W hB => ⟨look_below hB e0, look_below hB e1, look_below hB c0, look_below hB c1⟩)
          have HO := Lib.hid hol
          have HB := Lib.hid hBl
          have hbr : Below wr.heap.size wr wr.drew := drew_below _
          clear hC hD hx hle KX hT htn hol hBl
          go_wp2_with fail
          go_region_held3 (fun w' => w'.cell? ⟨w.heap.size, 0, none⟩ = some (.string ⟨p.toArray⟩) ∧ w'.cell? ⟨w.heap.size, 1, none⟩ = some (.int .i64 m) ∧ w'.cell? ⟨b, off + k * 3, none⟩ = some (.string ⟨q.toArray⟩) ∧ w'.cell? ⟨b, off + k * 3 + 1, none⟩ = some (.int .i64 z)) (first | exact HS.out _ hbr) (first
            | ((with_reducible refine (KX2.out _).mono ?_); rintro e w2 ⟨rfl, hB2⟩; have hbr := below2 hbr hB2))
          have d0 := look_below hbr c0
          have d1 := look_below hbr c1
          have d2 := look_below hbr c2
          have hB3 := below2 HB.out hbr
          have hB4 := hB3.alloc hB3.size (.cells #[.string ⟨q.toArray⟩, .int .i64 z, .string ⟨t.toArray⟩] 31)
          have HP := Lib.hid (prs_lit w2 [((q, z), t)] 31)
          have HO2 := Lib.hid (show OwnP (w2.alloc (.cells #[.string ⟨q.toArray⟩, .int .i64 z, .string ⟨t.toArray⟩] 31)) w0.heap.size (.slice al tn cl) T from HO.out.stays (below2 hbr (below_alloc _ _)))
          have HU := Lib.hid (show (fromTo l (p, m) n (k + 1)).length = tn + 1 by rw [← HC.out, List.length_append, HT.out.2]; rfl)
          clear c0 c1 c2
          go_wp2_with (at_builtin; refine wpList_append_prs rfl _ _ rfl w0.heap.size _ T rfl HO2.out _ 1 _ _ rfl HP.out (fromTo l (p, m) n (k + 1)) HC.out (tn + 1) HU.out (by omega) w0 hB4 (Nat.le_refl _) ?_; intro a3 c3 w3 ho3 hB5)
          have HO3 := Lib.hid ho3
          clear ho3
          go_roundw
          case rel => exact ⟨k + 1, by go_num, by omega, ⟨a3, c3, by rw [HU.out], by rw [HU.out]; exact HO3.out⟩, hB5⟩
          case measure => simp [intOf]; omega
      · have HO := Lib.hid (And.intro hol hBl)
        have HE := Lib.hid (show T = fromL l (p, m) n by
          rw [← hT]
          exact fromTo_full HR.out (by rw [hT, htn]; omega))
        have hln2 : decide ((tn : Int) < n) = false := by rw [decide_eq_false_iff_not]; exact hln
        clear hol hBl hT htn
        go_wp2_with fail
        go_ret
        exact ⟨_, rfl, by rw [← HE.out]; exact HO.out.1.prs, below2 HK.out.2.2 HO.out.2⟩
    · obtain rfl : s = k := by omega
      have HO := Lib.hid (And.intro hol hBl)
      have HE := Lib.hid (show T = fromL l (p, m) n by
        rw [← hT, ← HSL.out]
        exact fromTo_len l (p, m) n)
      clear hol hBl hT htn
      go_wp2_with fail
      go_ret
      exact ⟨_, rfl, by rw [← HE.out]; exact HO.out.1.prs, below2 HK.out.2.2 HO.out.2⟩

end Go.Proofs.Ytgbicdbmmjleoaa
