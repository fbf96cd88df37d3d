/-
  BatchOrder, walked.
-/
import Derived.Test.YtmbnmmnoahddcaaDoorPks14
import Derived.Deep.QuietTactic
import Derived.BigQuiet
namespace Go.Proofs.YtmbnmmnoahddcaaDoor
set_option maxRecDepth 100000
set_option linter.unusedVariables false
open Go.RowKit

/-- A row of changes of the call's own: the row alone. -/
def RowO (w : World) (base : Nat) (v : Value) (S : List Cv) : Prop := w.ownsRow base 37 5 v S.length (ccells S)
theorem RowO.nil (w : World) (base : Nat) : RowO w base (.slice none 0 0) [] := World.ownsRow_nil _ _ _ _
theorem RowO.stays {w w' : World} {base : Nat} {v : Value} {S : List Cv} (h : RowO w base v S) (hb : Below w.heap.size w w') : RowO w' base v S := own_stays h hb
theorem RowO.form {w : World} {base : Nat} {v : Value} {S : List Cv} (h : RowO w base v S) : ∃ ao n cap, v = .slice ao n cap := own_form h
theorem RowO.cgs {w : World} {base : Nat} {v : Value} {S : List Cv} (h : RowO w base v S) (hx : ∀ x ∈ S, Ints w x.2 x.1.2.2.2.2) : Cgs w v S := ⟨Rw.own h, hx⟩
theorem app_row {w : World} {ops : Array Oper} {rest : List Oper} {o : Oper} {a : Act} {Q : Exit → Act → World → Prop} (hgd : o.guard = none) (s x : Operand)
    (ho : o.op = .call { callee := .builtin .append, args := #[s, x], argTypes := #[22, 22] })
    (base : Nat) (v : Value) (S : List Cv) (hs : a.eval s = v) (hown : RowO w base v S) (p : List UInt8) (g : Bool) (z d : Int) (u : Value) (cs : List Int) (hc : ∀ y ∈ ccell ((p, g, z, d, cs), u), y.oneCell' = true) (hx : a.eval x = .slice (some ⟨w.heap.size, 0, none⟩) 1 1)
    (hn : S.length ≤ 100000) (hbase : base ≤ w.heap.size)
    (h : ∀ v' w', RowO w' base v' (S ++ [((p, g, z, d, cs), u)]) → (∀ w0, Below base w0 w → Below base w0 w') → wpList Tryd.prog ops Q rest (a.put o.dst v') w') :
    wpList Tryd.prog ops Q (o :: rest) a (w.alloc (.cells #[.string ⟨p.toArray⟩, .bool g, .int .i64 z, .int .i64 d, u] 37)) := by
  obtain ⟨i0, hi, hz0, hz1, hz2⟩ := info_parts infoC
  unfold RowO at hown
  refine wpList_append_own_at (P := Tryd.prog) (w.alloc (.cells #[.string ⟨p.toArray⟩, .bool g, .int .i64 z, .int .i64 d, u] 37)) hgd s x 22 ho base 37 i0 _ 5 64 Tryd.underlying22 hi hz0 hz1 hz2 rfl (by decide) v S.length (ccells S) hs (hown.alloc _) ⟨w.heap.size, 0, none⟩ 1 1 (ccell ((p, g, z, d, cs), u)) hx rfl (news_litC w (ccell ((p, g, z, d, cs), u)) _) hc (by unfold maxLen; omega) (by omega) (by rw [World.size_alloc]; omega) ?_
  intro v' w' h2 h3 _ _
  refine h v' w' ?_ (fun w0 hB => (hB.alloc hbase _).grown h3 (by rw [World.size_alloc]; omega) fun j e => (hown.lt j e).1)
  unfold RowO
  rw [List.length_append, ccells_snoc]
  exact h2

/-- From the m-th change on, no path stands twice. -/
def unlTo (l : List Cg) (m : Nat) : Prop := ∀ (i j : Nat) (hi : i < l.length) (hj : j < i), m ≤ i → l[j].1 ≠ l[i].1
def notTo (l : List Cg) (m k : Nat) : Prop := ∀ (hm : m < l.length) (j : Nat) (hj : j < m), j < k → l[j].1 ≠ l[m].1
theorem unlTo_all (l : List Cg) : unlTo l l.length := fun i j hi hj h => absurd h (by omega)
theorem unlTo_next {l : List Cg} {m : Nat} (h : unlTo l (m + 1)) (hk : notTo l m m) : unlTo l m := by
  intro i j hi hj hm
  by_cases he : i = m
  · subst he
    exact hk hi j hj hj
  · exact h i j hi hj (by omega)
theorem unlTo_zero {l : List Cg} (h : unlTo l 0) : UnlikeC l := List.pairwise_iff_getElem.2 fun i j hi hj hij => h j i hj hij (Nat.zero_le _)
theorem notTo_zero (l : List Cg) (m : Nat) : notTo l m 0 := fun _ j _ h => absurd h (Nat.not_lt_zero _)
theorem notTo_next {l : List Cg} {m k : Nat} (h : notTo l m k) (hk : k < m) (hm : m < l.length) (hne : l[k].1 ≠ l[m].1) : notTo l m (k + 1) := by
  intro hm' j hj hjk
  by_cases he : j = k
  · subst he
    exact hne
  · exact h hm' j hj (by omega)
theorem order_norm {l : List Cg} (h : UnlikeC l) : normE l.reverse = normE l ∧ normL l.reverse = normL l ∧ normE (l ++ l.reverse) = normE l ∧ normL (l ++ l.reverse) = normL l := by
  unfold normE normL
  rw [norm_back h, norm_both h, baPuts_back h, puts_both h]
  exact ⟨rfl, rfl, rfl, rfl⟩

set_option maxHeartbeats 16000000 in
theorem batchOrder_walk (v : Value) (L : List Cv) (W : World) (hL : Cgs W v L) (hk : L.length ≤ maxLen) (hw : ∀ c ∈ chs L, c.1.length ≤ maxLen ∧ c.2.2.2.2.length ≤ maxLen) (hm : Ml W) :
    Calls Tryd.prog 4 #[v] W fun e w' => e = .returned (.bool true) ∧ Below W.heap.size W w' := by
  have KB := Lib.hid (big_calls v L W hL (Nat.le_trans hk (by decide)) (fun c hc => ⟨Nat.le_trans (hw c hc).1 (by decide), Nat.le_trans (hw c hc).2 (by decide)⟩))
  obtain ⟨ao, cap, rfl⟩ := hL.form
  have HL := Lib.hid hL
  have HM := Lib.hid hm
  clear hL hm hk hw
  cases hb : bigC (chs L) with
  | true =>
    rw [hb] at KB
    go_enter Tryd.func4, Tryd.ntmps4
    go_wp2_with fail
    refine KB.out.mono ?_
    rintro e w0 ⟨rfl, rfl⟩
    go_wp2_with fail
    go_ret
    exact ⟨rfl, Below.refl _ _⟩
  | false =>
  have HSm := Lib.hid (bigC_small hb)
  rw [hb] at KB
  have hT : L.length ≤ 50 := by have := HSm.out.2; rw [List.length_map] at this; exact this
  obtain ⟨n, hn⟩ : ∃ n, n = L.length := ⟨_, rfl⟩
  have HN := Lib.hid hn
  rw [← hn] at hT KB ⊢
  clear hn
  go_enter Tryd.func4, Tryd.ntmps4
  go_wp2_with fail
  refine KB.out.mono ?_
  rintro e w0 ⟨rfl, rfl⟩
  go_wp2_with fail
  go_loopw [3, 4] (fun b i wr => ∃ (m : Nat) (z : Int), i = .int .i64 z ∧ z = (m : Int) - 1 ∧ m ≤ n ∧ RowO wr W.heap.size b ((L.drop m).reverse) ∧ Hid (unlTo (chs L) m) ∧ Hid (Below W.heap.size W wr)) (fun _ i _ => (intOf i + 1).toNat)
  case atStart => exact ⟨n, _, rfl, rfl, Nat.le_refl _, by rw [HN.out, List.drop_length]; exact RowO.nil _ _, Lib.hid (by have := unlTo_all (chs L); rwa [List.length_map, ← HN.out] at this), Lib.hid (Below.refl _ _)⟩
  case round =>
    obtain ⟨m, z, rfl, hz, hmn, hrow, hun, hB⟩ := hrel
    rcases m with _ | m
    · obtain rfl : z = -1 := by omega
      have HU := Lib.hid (unlTo_zero hun.out)
      have hcg := hrow.cgs (fun x hx => (HL.out.below hB.out).2 x (by simpa using hx))
      rw [List.drop_zero] at hcg hrow
      have HF := Lib.hid (order_norm HU.out)
      clear hun hz hmn
      have K1 := Lib.hid (baNorm_cv _ L wr (HL.out.below hB.out) (by rw [← HN.out]; omega) HSm.out.1 (HM.out.below hB.out))
      obtain ⟨ab, nb, cb, rfl⟩ := hrow.form
      have HRB := Lib.hid hcg
      clear hrow hcg
      rw [HN.out]
      go_wp2_with fail
      refine K1.out.mono ?_
      rintro e w1 ⟨v1, S1, rfl, ho1, hc1, hB1⟩
      have HO1 := Lib.hid ho1
      have HC1 := Lib.hid hc1
      have HB1 := Lib.hid (below2 hB.out hB1)
      have HRB1 := Lib.hid (HRB.out.below hB1)
      obtain ⟨a1, n1, c1, rfl⟩ := own_form ho1.1
      have K2 := baNorm_cv _ L.reverse w1 HRB1.out (by rw [List.length_reverse, ← HN.out]; omega) (fun c hc => HSm.out.1 c (by simpa using hc)) (HM.out.below HB1.out)
      rw [show chs L.reverse = (chs L).reverse by simp, HF.out.1, HF.out.2.1] at K2
      have K2 := Lib.hid K2
      clear ho1 hc1 hB1
      go_wp2_with fail
      refine K2.out.mono ?_
      rintro e w2 ⟨v2, S2, rfl, ho2, hc2, hB2⟩
      have HO1 := Lib.hid (HO1.out.stays hB2)
      have HO2 := Lib.hid ho2
      have HC2 := Lib.hid hc2
      have HB2 := Lib.hid (below2 HB1.out hB2)
      have HRB2 := Lib.hid (HRB1.out.below hB2)
      obtain ⟨a2, n2, c2, rfl⟩ := own_form ho2.1
      have K3 := baJoin_cv _ _ L L.reverse w2 (HL.out.below HB2.out) HRB2.out (by rw [← HN.out]; omega) (by rw [List.length_reverse, ← HN.out]; omega) HSm.out.1 (fun c hc => HSm.out.1 c (by simpa using hc)) (HM.out.below HB2.out)
      rw [show chs L.reverse = (chs L).reverse by simp, HF.out.2.2.1, HF.out.2.2.2] at K3
      have K3 := Lib.hid K3
      clear ho2 hc2 hB2
      go_wp2_with fail
      refine K3.out.mono ?_
      rintro e w3 ⟨v3, S3, rfl, ho3, hc3, hB3⟩
      have HO1 := Lib.hid (HO1.out.stays hB3)
      have HO2 := Lib.hid (HO2.out.stays hB3)
      have HO3 := Lib.hid ho3
      have HC3 := Lib.hid hc3
      have HB3 := Lib.hid (below2 HB2.out hB3)
      obtain ⟨a3, n3, c3, rfl⟩ := own_form ho3.1
      have K4 := Lib.hid (baLaid_calls w3 (HM.out.below HB3.out))
      clear ho3 hc3 hB3
      go_wp2_with fail
      refine K4.out.mono ?_
      rintro e w4 ⟨rfl, hB4⟩
      have HO1 := Lib.hid (HO1.out.stays hB4)
      have HO2 := Lib.hid (HO2.out.stays hB4)
      have HO3 := Lib.hid (HO3.out.stays hB4)
      have HB4 := Lib.hid (below2 HB3.out hB4)
      have K5 := bSame_calls _ _ _ _ w4 HO1.out.cgs HO2.out.cgs (by have := (norm_few (chs L)).2; rw [← HC1.out, List.length_map] at this; omega) (by rw [HC1.out]; exact (norm_few (chs L)).1)
      rw [HC1.out, HC2.out, beq_self_eq_true] at K5
      have K5 := Lib.hid K5
      clear hB4
      go_wp2_with fail
      refine K5.out.mono ?_
      rintro e w5 ⟨rfl, hB5⟩
      have HO1 := Lib.hid (HO1.out.stays hB5)
      have HO3 := Lib.hid (HO3.out.stays hB5)
      have HB5 := Lib.hid (below2 HB4.out hB5)
      have K6 := bSame_calls _ _ _ _ w5 HO3.out.cgs HO1.out.cgs (by have := (norm_few (chs L)).2; rw [← HC3.out, List.length_map] at this; omega) (by rw [HC3.out]; exact (norm_few (chs L)).1)
      rw [HC3.out, HC1.out, beq_self_eq_true] at K6
      have K6 := Lib.hid K6
      clear hB5
      go_wp2_with fail
      refine K6.out.mono ?_
      rintro e w6 ⟨rfl, hB6⟩
      go_wp2_with fail
      go_ret
      exact ⟨by simp, below2 HB5.out hB6⟩
    · obtain rfl : z = (m : Int) := by omega
      have hmL : m < L.length := by rw [← HN.out]; omega
      have hmC : m < (chs L).length := by rw [List.length_map]; exact hmL
      obtain ⟨⟨⟨q, g, z, d, cs⟩, u⟩, hx⟩ : ∃ x, L[m] = x := ⟨_, rfl⟩
      have HX := Lib.hid hx
      have hdrop : (L.drop m).reverse = (L.drop (m + 1)).reverse ++ [L[m]] := by
        rw [List.drop_eq_getElem_cons hmL, List.reverse_cons]
      rw [hx] at hdrop
      have HD := Lib.hid hdrop
      have hm1 : (0 : Int) ≤ (m : Int) := by omega
      have hm2 : (m : Int) < (n : Int) := by omega
      clear hx hdrop hz
      have HRW := Lib.hid hrow
      have hml : ((L.drop (m + 1)).reverse).length ≤ 100000 := by
        rw [List.length_reverse, List.length_drop, ← HN.out]
        omega
      have HML := Lib.hid hml
      clear hrow hml hmn
      obtain ⟨S', hS'⟩ : ∃ S', S' = (L.drop (m + 1)).reverse := ⟨_, rfl⟩
      rw [← hS'] at HRW HML HD
      clear hS'
      go_wp2_with fail
      go_loopw [5] (fun i w2 => ∃ k : Nat, i = .int .i64 k ∧ k ≤ m ∧ Hid (notTo (chs L) m k) ∧ Hid (Below wr.heap.size wr w2)) (fun i _ => m - (intOf i).toNat)
      case atStart => exact ⟨0, rfl, Nat.zero_le _, Lib.hid (notTo_zero _ _), Lib.hid (Below.refl _ _)⟩
      case round =>
        obtain ⟨k, rfl, hkm, hnt, hB2⟩ := hrel
        by_cases hlt : k < m
        · have hkL : k < L.length := by omega
          obtain ⟨b, off, rfl, ⟨c0, c1, c2, c3, c4⟩, hI⟩ := (HL.out.below (below2 hB.out hB2.out)).at hkL
          obtain ⟨b', off', hbb, ⟨e0, e1, e2, e3, e4⟩, hJ⟩ := (HL.out.below (below2 hB.out hB2.out)).at hmL
          cases hbb
          clear c1 c2 c3 c4 hI e1 e2 e3 e4 hJ
          have hgo := fun h => notTo_next hnt.out hlt hmC h
          have hkC : k < (chs L).length := by rw [List.length_map]; exact hkL
          simp only [List.getElem_map] at hgo
          obtain ⟨p, hp⟩ : ∃ p, L[k].1.1 = p := ⟨_, rfl⟩
          obtain ⟨p', hp'⟩ : ∃ p, L[m].1.1 = p := ⟨_, rfl⟩
          rw [hp] at c0
          rw [hp'] at e0
          rw [hp, hp'] at hgo
          have HGO := Lib.hid hgo
          have hk1 : (0 : Int) ≤ (k : Int) := by omega
          have hk2 : (k : Int) < (n : Int) := by omega
          clear hp hp' hgo hkL hkC
          by_cases hq : p = p'
          · have hqe : (p == p') = true := by simpa using hq
            have K4 := Lib.hid (fun w3 (hw3 : Below wr.heap.size wr w3) => baLaid_calls w3 (HM.out.below (below3 hB.out hB2.out hw3)))
            clear hq HGO
            go_wp2_with fail
            go_quiet (fail)
            go_wp2_with fail
            refine (K4.out _ (drewn_below _ _)).mono ?_
            rintro e w4 ⟨rfl, hB4⟩
            go_wp2_with fail
            go_ret
            exact ⟨rfl, below3 (below2 hB.out hB2.out) (drewn_below _ _) hB4⟩
          · have hqe : (p == p') = false := by simpa using hq
            have HGO := Lib.hid (HGO.out hq)
            clear hq
            go_wp2_with fail
            go_quiet (fail)
            go_wp2_with fail
            go_roundw
            case rel => exact ⟨k + 1, by go_num, by omega, HGO, Lib.hid (below2 hB2.out (drewn_below _ _))⟩
            case measure => simp [intOf]; omega
        · obtain rfl : k = m := by omega
          obtain ⟨b, off, hao, ⟨c0, c1, c2, c3, c4⟩, hI⟩ := (HL.out.below (below2 hB.out hB2.out)).at hmL
          cases hao
          rw [HX.out] at c0 c1 c2 c3 c4 hI
          dsimp only at c0 c1 c2 c3 c4 hI
          obtain ⟨s1, s3, rfl⟩ := hI.form
          have hrow := HRW.out.stays hB2.out
          have hcs := hB.out.size
          have hcs2 := hB2.out.size
          have hone : ∀ y ∈ ccell ((q, g, z, d, cs), .slice s1 cs.length s3), y.oneCell' = true := by
            intro y hy
            simp [ccell] at hy
            rcases hy with rfl | rfl | rfl | rfl | rfl <;> rfl
          go_wp2_with (first | (refine app_row rfl (.tmp 38) (.tmp 43) rfl W.heap.size _ S' rfl hrow q g z d _ cs hone rfl HML.out (Nat.le_trans hcs hcs2) ?_; rintro v3 w3 ho3 hk3; obtain ⟨a3, n3, c3, rfl⟩ := ho3.form))
          go_roundw
          case rel => exact ⟨k, _, rfl, rfl, by omega, by rw [HD.out]; exact ho3, Lib.hid (unlTo_next hun.out hnt.out), Lib.hid (hk3 W (below2 hB.out hB2.out))⟩
          case measure => simp [intOf]

end Go.Proofs.YtmbnmmnoahddcaaDoor
