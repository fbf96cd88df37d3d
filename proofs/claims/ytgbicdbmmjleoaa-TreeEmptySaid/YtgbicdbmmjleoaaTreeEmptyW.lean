/-
  The walk of TreeEmpty.
-/
import Derived.Test.YtgbicdbmmjleoaaTrGrown
import Derived.Test.YtgbicdbmmjleoaaTrTime
namespace Go.Proofs.Ytgbicdbmmjleoaa
open Go.RowKit

/-- Keys dropped one behind the other. -/
def dropsL (t : List Pr) (s : List Pr) : List Pr := s.foldl (fun t x => dropL t x.1) t
theorem dropsL_succ {t s : List Pr} {k : Nat} (hk : k < s.length) : dropL (dropsL t (s.take k)) s[k].1 = dropsL t (s.take (k + 1)) := by
  unfold dropsL
  rw [List.take_succ_eq_append_getElem hk, List.foldl_append]
  rfl
theorem dropsL_back {t l : List Pr} {k r : Nat} (hk : k < l.length) (hr : r + k + 1 = l.length) : dropL (dropsL t (l.reverse.take k)) (l[r]'(by omega)).1 = dropsL t (l.reverse.take (k + 1)) := by
  have h := dropsL_succ (t := t) (s := l.reverse) (k := k) (by simpa using hk)
  rw [← h]
  congr 1
  rw [List.getElem_reverse]
  congr 2
  omega
theorem dropsL_rises {t : List Pr} (h : Rises t) (s : List Pr) : Rises (dropsL t s) := by
  induction s generalizing t with
  | nil => exact h
  | cons x r ih => exact ih (drop_rises h x.1)
theorem dropsL_le (t s : List Pr) : (dropsL t s).length ≤ t.length := by
  induction s generalizing t with
  | nil => exact Nat.le_refl _
  | cons x r ih =>
    have h1 := ih (dropL t x.1)
    have h2 := dropL_length t x.1
    unfold dropsL at h1 ⊢
    rw [List.foldl_cons]
    split at h2 <;> omega
theorem dropsL_mem {t : List Pr} (h : Rises t) (s : List Pr) (x : Pr) : x ∈ dropsL t s → x ∈ t ∧ ∀ y ∈ s, x.1 ≠ y.1 := by
  induction s generalizing t with
  | nil => exact fun hx => ⟨hx, fun y hy => by simp at hy⟩
  | cons z r ih =>
    intro hx
    obtain ⟨h1, h2⟩ := ih (drop_rises h z.1) hx
    obtain ⟨h3, h4⟩ := (mem_drop h z.1 x).1 h1
    refine ⟨h3, fun y hy => ?_⟩
    rcases List.mem_cons.1 hy with rfl | hy
    · exact h4
    · exact h2 y hy
theorem putsL_rises (l : List Pr) : Rises (putsL l) := (puts_all l [] List.Pairwise.nil).1
theorem putsL_mem (l : List Pr) (x : Pr) : x ∈ putsL l → x ∈ l := by
  have h : ∀ (l acc : List Pr), x ∈ l.foldl putL acc → x ∈ acc ∨ x ∈ l := by
    intro l
    induction l with
    | nil => exact fun acc h => .inl h
    | cons y r ih =>
      intro acc hx
      rcases ih _ hx with h1 | h1
      · unfold putL at h1
        rcases List.mem_append.1 h1 with h1 | h1
        · exact .inl (List.mem_of_mem_take h1)
        · rcases List.mem_cons.1 h1 with rfl | h1
          · exact .inr (by simp)
          · exact .inl (List.mem_of_mem_drop h1)
      · exact .inr (by simp [h1])
  intro hx
  rcases h l [] hx with h1 | h1
  · simp at h1
  · exact h1
theorem drops_all (l : List Pr) : dropsL (putsL l) l.reverse = [] := by
  rw [List.eq_nil_iff_forall_not_mem]
  intro x hx
  obtain ⟨h1, h2⟩ := dropsL_mem (putsL_rises l) _ x hx
  exact h2 x (by simpa using putsL_mem l x h1) rfl
theorem drop_gone {t : List Pr} (h : Rises t) (k : Ky) : hereB (dropL t k) k = false := here_not fun x hx => ((mem_drop h _ x).1 hx).2
theorem puts_lone (p : Pr) : putL [] p = [p] := rfl
theorem lone_here (p : Pr) : hereB [p] p.1 = true ∧ getS [p] p.1 = p.2 := by
  have e : placeN [p] p.1 = 0 := by
    unfold placeN
    rw [if_neg (by rw [lessK_irrefl]; simp)]
  have h : hereB [p] p.1 = true := by
    unfold hereB
    rw [e]
    simp
  refine ⟨h, ?_⟩
  unfold getS
  rw [if_pos h, e]
  rfl

set_option maxRecDepth 100000 in
set_option maxHeartbeats 32000000 in
theorem treeEmpty_walk (v : Value) (l : List Pr) (p : List UInt8) (z : Int) (s : List UInt8) (w : World) (hs : Prs w v l) (hk : l.length ≤ maxLen) (hti : Timed l) (_ : z ≤ 9223372036854775807) :
    Calls Try.prog 6 #[v, .agg #[.string ⟨p.toArray⟩, .int .i64 z, .string ⟨s.toArray⟩]] w fun e w' => e = .returned (.bool true) ∧ Below w.heap.size w w' := by
  obtain ⟨ao, cap, rfl⟩ := hs.form
  have hk' : l.length ≤ 9223372036854775807 := by unfold maxLen at hk; exact hk
  obtain ⟨W0, hW0, hX0, hB0⟩ : ∃ W0, w.alloc (.cells #[.string ⟨p.toArray⟩, .int .i64 z, .string ⟨s.toArray⟩] 31) = W0 ∧ Cx W0 w.heap.size 31 [.string ⟨p.toArray⟩, .int .i64 z, .string ⟨s.toArray⟩] ∧ Below w.heap.size w W0 := ⟨_, rfl, Cx.new w _ _, below_alloc _ _⟩
  have CB := big_calls _ l W0 (hs.below hB0) hk'
  obtain ⟨W1, hW1, hP1, hB1⟩ : ∃ W1, W0.alloc (.cells #[.string ⟨p.toArray⟩, .int .i64 z, .string ⟨s.toArray⟩] 31) = W1 ∧ Prs W1 (.slice (some ⟨W0.heap.size, 0, none⟩) 1 1) [((p, z), s)] ∧ Below W0.heap.size W0 W1 := ⟨_, rfl, prs_lit W0 [((p, z), s)] _, below_alloc _ _⟩
  have CP := big_calls _ _ _ hP1 (by simp)
  have HS := Lib.hid (hs.below (below2 hB0 hB1))
  have HTI := Lib.hid hti
  have HX : Hid (∀ W, Below W0.heap.size W0 W → W.cell? ⟨w.heap.size, 0, none⟩ = some (.string ⟨p.toArray⟩) ∧ W.cell? ⟨w.heap.size, 1, none⟩ = some (.int .i64 z) ∧ W.cell? ⟨w.heap.size, 2, none⟩ = some (.string ⟨s.toArray⟩)) :=
    Lib.hid (fun W hB => by
      obtain ⟨x0, x1, x2, _⟩ := (hX0.below hB).three
      exact ⟨x0, x1, x2⟩)
  obtain ⟨x0, x1, x2⟩ := HX.out W0 (Below.refl _ _)
  have HB0 := Lib.hid hB0
  have HB1 := Lib.hid hB1
  have KN := Lib.hid new_calls
  have KG := Lib.hid grown_calls
  clear hs hk hk' hti hX0 hB0 hB1 hP1
  cases hb : bigP l with
  | true =>
    rw [hb] at CB
    have K := Lib.hid CB
    clear CB CP hb
    go_enter Try.func6, Try.ntmps6
    go_wp2_with fail
    refine K.out.mono ?_
    rintro e w1 ⟨rfl, rfl⟩
    go_wp2_with fail
    go_ret
    exact ⟨rfl, HB0.out⟩
  | false =>
    rw [hb] at CB
    have K := Lib.hid CB
    have hl := small_facts hb
    clear CB hb
    cases hbp : bigP [((p, z), s)] with
    | true =>
      rw [hbp] at CP
      have K2 := Lib.hid CP
      clear CP hbp
      go_enter Try.func6, Try.ntmps6
      go_wp2_with fail
      refine K.out.mono ?_
      rintro e w1 ⟨rfl, rfl⟩
      go_wp2_with fail
      refine K2.out.mono ?_
      rintro e w1 ⟨rfl, rfl⟩
      go_wp2_with fail
      go_ret
      exact ⟨rfl, below2 HB0.out HB1.out⟩
    | false =>
      rw [hbp] at CP
      have K2 := Lib.hid CP
      clear CP hbp
      go_enter Try.func6, Try.ntmps6
      go_wp2_with fail
      refine K.out.mono ?_
      rintro e w1 ⟨rfl, rfl⟩
      go_wp2_with fail
      refine K2.out.mono ?_
      rintro e w1 ⟨rfl, rfl⟩
      clear x0 x1 x2 hW0 hW1
      go_wp2_with fail
      refine (KN.out _).mono ?_
      rintro e w2 ⟨ta, rfl, hta, hB2⟩
      have HA0 := Lib.hid (And.intro hta hB2)
      clear hta hB2
      go_wp2_with fail
      go_loopw [5, 6] (fun a i wr => ∃ k : Nat, k ≤ l.length ∧ i = .int .i64 k ∧ TreeV wr a (putsL (l.take k)) ∧ Below W1.heap.size W1 wr) (fun _ i _ => l.length - (intOf i).toNat)
      case atStart => exact ⟨0, Nat.zero_le _, rfl, by simpa [putsL] using HA0.out.1, HA0.out.2⟩
      case round =>
        obtain ⟨k, hk, rfl, ha, hB⟩ := hrel
        have HA := Lib.hid ha
        clear ha
        by_cases hlt : k < l.length
        · have e1 := putsL_succ hlt
          obtain ⟨b, off, rfl, c0, c1, c2⟩ := (HS.out.below hB).at hlt
          obtain ⟨⟨⟨p', n⟩, s'⟩, hx⟩ : ∃ x, l[k] = x := ⟨_, rfl⟩
          rw [hx] at c0 c1 c2 e1
          dsimp only at c0 c1 c2
          have E1 := Lib.hid e1
          have KP := Lib.hid (tput_calls _ _ p' n s' _ HA.out (by have := puts_bound l k (by omega); omega))
          clear e1 hx
          go_wp2_with fail
          refine KP.out.mono ?_
          rintro e w4 ⟨u, rfl, hu, hB4⟩
          rw [E1.out] at hu
          have HV := Lib.hid hu
          clear hu
          go_wp2_with fail
          go_roundw
          case rel => exact ⟨k + 1, by omega, by go_num, HV.out, below2 hB hB4⟩
          case measure => simp [intOf]; omega
        · obtain rfl : k = l.length := by omega
          rw [List.take_length] at HA
          have hpl := putsL_le l
          have hbig : (l.length : Int) - 1 ≤ 80 := by omega
          go_wp2_with fail
          go_loopw [5, 7] (fun a i wr' => ∃ (k : Nat) (y : Int), k ≤ l.length ∧ y + k + 1 = l.length ∧ i = .int .i64 y ∧ TreeV wr' a (dropsL (putsL l) (l.reverse.take k)) ∧ Below wr.heap.size wr wr') (fun _ i _ => (intOf i + 1).toNat)
          case atStart => exact ⟨0, (l.length : Int) - 1, Nat.zero_le _, by omega, rfl, by simpa [dropsL] using HA.out, Below.refl _ _⟩
          case round =>
            obtain ⟨k, y, hk, hy, rfl, ha, hB2⟩ := hrel
            have HA2 := Lib.hid ha
            have hdl := dropsL_le (putsL l) (l.reverse.take k)
            have hrs := ha.1
            clear ha
            by_cases hy0 : 0 ≤ y
            · obtain ⟨r, rfl⟩ : ∃ r : Nat, y = r := ⟨y.toNat, by omega⟩
              have hrl : r < l.length := by omega
              have e1 := dropsL_back (t := putsL l) (l := l) (k := k) (r := r) (by omega) (by omega)
              obtain ⟨b, off, rfl, c0, c1, c2⟩ := (HS.out.below (below2 hB hB2)).at hrl
              obtain ⟨⟨⟨p', n⟩, s'⟩, hx⟩ : ∃ x, l[r] = x := ⟨_, rfl⟩
              rw [hx] at c0 c1 c2 e1
              dsimp only at c0 c1 c2 e1
              obtain ⟨T, hT⟩ : ∃ T, dropsL (putsL l) (l.reverse.take k) = T := ⟨_, rfl⟩
              rw [hT] at e1 hdl hrs HA2
              have hgone := drop_gone hrs (p', n)
              have hlen := dropL_length T (p', n)
              obtain ⟨t1, ht1⟩ : ∃ t, T.length = t := ⟨_, rfl⟩
              obtain ⟨t2, ht2⟩ : ∃ t, (dropL T (p', n)).length = t := ⟨_, rfl⟩
              obtain ⟨was, hwas⟩ : ∃ t, hereB T (p', n) = t := ⟨_, rfl⟩
              have hpos : was = true → 1 ≤ T.length := fun h => by
                have := hereB_lt (hwas.trans h)
                omega
              rw [ht1] at hdl hlen hpos
              rw [ht2, hwas] at hlen
              have ht2le : t2 ≤ t1 := by split at hlen <;> omega
              have E1 := Lib.hid (And.intro e1 (And.intro ht1 (And.intro ht2 (And.intro hwas hgone))))
              have KD := Lib.hid (fun W v (h : TreeV W v T) => tdrop_calls v T p' n W h (by omega))
              have KL1 := Lib.hid (len_calls _ T _ HA2.out)
              rw [ht1] at KL1
              clear e1 hx hT hrs hgone ht1 ht2 hwas
              go_wp2_with fail
              refine KL1.out.mono ?_
              rintro e w4 ⟨rfl, rfl⟩
              have KG1 := tget_calls _ T p' n _ HA2.out (by have := E1.out.2.1; omega)
              rw [E1.out.2.2.2.1] at KG1
              have KG1' := Lib.hid KG1
              clear KG1
              go_wp2_with fail
              refine KG1'.out.mono ?_
              rintro e w5 ⟨rfl, hB5⟩
              have c0' := look_below hB5 c0
              have c1' := look_below hB5 c1
              go_wp2_with fail
              refine (KD.out _ _ (HA2.out.below hB5)).mono ?_
              rintro e w6 ⟨u, rfl, hu, hB6⟩
              have HV := Lib.hid hu
              have c0'' := look_below hB6 c0'
              have c1'' := look_below hB6 c1'
              have KG2 := tget_calls _ _ p' n _ hu (by have := E1.out.2.2.1; omega)
              rw [E1.out.2.2.2.2] at KG2
              have KG2' := Lib.hid KG2
              clear hu KG2
              go_wp2_with fail
              refine KG2'.out.mono ?_
              rintro e w7 ⟨rfl, hB7⟩
              have HV2 := Lib.hid (HV.out.below hB7)
              have KL2 := Lib.hid (len_calls _ _ _ HV2.out)
              rw [E1.out.2.2.1] at KL2
              have hBB := below2 hB2 (below3 hB5 hB6 hB7)
              cases was with
              | true =>
                have hp := hpos rfl
                simp only [if_true] at hlen
                have hq : (t2 : Int) + 1 = (t1 : Int) := by omega
                have hqb : ((t2 : Int) + 1 == (t1 : Int)) = true := by rw [beq_iff_eq]; exact hq
                have hqc : ((t1 : Int) == (t2 : Int) + 1) = true := by rw [beq_iff_eq]; exact hq.symm
                go_wp2_with fail
                refine KL2.out.mono ?_
                rintro e w8 ⟨rfl, rfl⟩
                go_wp2_with fail
                go_roundw
                case rel => exact ⟨k + 1, (r : Int) - 1, by omega, by omega, by go_num, by rw [← E1.out.1]; exact HV2.out, hBB⟩
                case measure => simp [intOf]
              | false =>
                simp only [if_false, Bool.false_eq_true] at hlen
                subst hlen
                have hqb : ((t2 : Int) + 1 == (t2 : Int)) = false := by rw [beq_eq_false_iff_ne]; omega
                go_wp2_with fail
                refine KL2.out.mono ?_
                rintro e w8 ⟨rfl, rfl⟩
                go_wp2_with fail
                refine KL2.out.mono ?_
                rintro e w9 ⟨rfl, rfl⟩
                go_wp2_with fail
                go_roundw
                case rel => exact ⟨k + 1, (r : Int) - 1, by omega, by omega, by go_num, by rw [← E1.out.1]; exact HV2.out, hBB⟩
                case measure => simp [intOf]
            · obtain rfl : k = l.length := by omega
              have e1 := drops_all l
              have hbt := HA2.out
              rw [show l.reverse.take l.length = l.reverse from List.take_of_length_le (by simp), e1] at hbt
              have HT := Lib.hid hbt
              have hzn : decide ((0 : Int) ≤ y) = false := by rw [decide_eq_false_iff_not]; exact hy0
              have HBB := Lib.hid (below2 hB hB2)
              obtain ⟨x0, x1, x2⟩ := HX.out _ (below2 HB1.out HBB.out)
              have KP := Lib.hid (fun W => tput_calls _ [] p z s W (TreeV.none W) (by simp))
              have KL := Lib.hid (fun W v (h : TreeV W v []) => len_calls v [] W h)
              have KDe := Lib.hid (fun W v (h : TreeV W v []) => depth_nil v W h)
              have KAl := Lib.hid (fun W v (h : TreeV W v []) => all_calls v [] W h (by simp) timed_nil)
              have KDr := Lib.hid (fun W => tdrop_calls _ [] p z W (TreeV.none W) (by simp))
              have KFr := Lib.hid (fun W => from_calls _ [] p z 3 W (TreeV.none W) (by simp))
              have KGe := Lib.hid (fun W v (h : TreeV W v [((p, z), s)]) => tget_calls v [((p, z), s)] p z W h (by simp))
              rw [(lone_here ((p, z), s)).1, (lone_here ((p, z), s)).2] at KGe
              dsimp only at KGe
              clear hbt e1 hrs hdl
              go_wp2_with fail
              refine (KP.out _).mono ?_
              rintro e w4 ⟨u, rfl, hu, hB4⟩
              have HT4 := Lib.hid (HT.out.below hB4)
              have HU := Lib.hid hu
              have HB4 := Lib.hid (below2 HBB.out hB4)
              clear hu x0 x1 x2
              obtain ⟨x0, x1, x2⟩ := HX.out _ (below2 HB1.out HB4.out)
              go_wp2_with fail
              refine (KGe.out _ _ HU.out).mono ?_
              rintro e w5 ⟨rfl, hB5⟩
              have HT5 := Lib.hid (HT4.out.below hB5)
              have HB5 := Lib.hid (below2 HB4.out hB5)
              clear x0 x1 x2
              go_wp2_with fail
              refine (KG.out _).mono ?_
              rintro e w6 ⟨rfl, hB6⟩
              have HT6 := Lib.hid (HT5.out.below hB6)
              have HB6 := Lib.hid (below2 HB5.out hB6)
              go_wp2_with fail
              refine (KL.out _ _ HT6.out).mono ?_
              rintro e w7 ⟨rfl, rfl⟩
              go_wp2_with fail
              refine (KDe.out _ _ HT6.out).mono ?_
              rintro e w8 ⟨rfl, rfl⟩
              go_wp2_with fail
              refine (KAl.out _ _ HT6.out).mono ?_
              rintro e w9 ⟨u9, rfl, hu9, hB9⟩
              obtain ⟨a9, c9, rfl⟩ := hu9.form
              have HB9 := Lib.hid (below2 HB6.out hB9)
              clear hu9
              simp only [List.length_nil]
              go_wp2_with fail
              refine (KL.out _ _ (TreeV.none _)).mono ?_
              rintro e w10 ⟨rfl, rfl⟩
              go_wp2_with fail
              refine (KDe.out _ _ (TreeV.none _)).mono ?_
              rintro e w11 ⟨rfl, rfl⟩
              obtain ⟨x0, x1, x2⟩ := HX.out _ (below2 HB1.out HB9.out)
              go_wp2_with fail
              refine (KDr.out _).mono ?_
              rintro e w12 ⟨u12, rfl, hu12, hB12⟩
              have HV := Lib.hid (show TreeV w12 u12 [] from hu12)
              have HB12 := Lib.hid (below2 HB9.out hB12)
              clear hu12 x0 x1 x2
              obtain ⟨x0, x1, x2⟩ := HX.out _ (below2 HB1.out HB12.out)
              go_wp2_with fail
              refine (KL.out _ _ HV.out).mono ?_
              rintro e w13 ⟨rfl, rfl⟩
              go_wp2_with fail
              refine (KFr.out _).mono ?_
              rintro e w14 ⟨u14, rfl, hu14, hB14⟩
              have hf : fromL [] (p, z) 3 = [] := rfl
              rw [hf] at hu14
              obtain ⟨a14, c14, rfl⟩ := hu14.form
              clear hu14
              simp only [List.length_nil]
              go_wp2_with fail
              go_ret
              exact ⟨rfl, below2 HB0.out (below2 HB1.out (below2 HB12.out hB14))⟩

end Go.Proofs.Ytgbicdbmmjleoaa
