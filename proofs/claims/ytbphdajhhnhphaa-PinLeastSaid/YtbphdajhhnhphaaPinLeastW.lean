/-
  The law PinLeast, walked.
-/
import Derived.Test.YtbphdajhhnhphaaPinRaiseW
namespace Go.Proofs.Ytbphdajhhnhphaa
set_option maxRecDepth 100000
open Go.RowKit

theorem add_least (l : List Pn) (p : Pn) : ∃ m, leastN (addN l p) = some m ∧ m ≤ p.2 ∧ ∀ n, leastN l = some n → m ≤ n := by
  cases hm : leastN (addN l p) with
  | none =>
    rw [leastN_none] at hm
    have := addN_length l p
    rw [hm] at this
    simp at this
  | some m =>
    obtain ⟨_, h2⟩ := leastN_iff.1 hm
    refine ⟨m, rfl, h2 p (mem_addN.2 (.inl rfl)), fun n hn => ?_⟩
    obtain ⟨⟨q, hq, rfl⟩, _⟩ := leastN_iff.1 hn
    exact h2 q (mem_addN.2 (.inr hq))
/-- So far the least one is met. -/
def metN (l : List Pn) (n : Int) (k : Nat) : Bool := (l.take k).any fun q => q.2 == n
theorem metN_succ {l : List Pn} {n : Int} {k : Nat} (hk : k < l.length) : metN l n (k + 1) = (metN l n k || l[k].2 == n) := by
  unfold metN
  rw [List.take_succ_eq_append_getElem hk, List.any_append]
  simp
theorem metN_all (l : List Pn) : metN l ((leastN l).getD 0) l.length = (leastN l).isSome := by
  unfold metN
  rw [List.take_length]
  cases hn : leastN l with
  | none =>
    rw [leastN_none] at hn
    subst hn
    rfl
  | some n =>
    obtain ⟨⟨p, hp, e⟩, _⟩ := leastN_iff.1 hn
    exact List.any_eq_true.2 ⟨p, hp, by simp [e]⟩
theorem least_ge {l : List Pn} {k : Nat} (hk : k < l.length) : (leastN l).getD 0 ≤ l[k].2 := by
  cases hn : leastN l with
  | none =>
    rw [leastN_none] at hn
    subst hn
    simp at hk
  | some n => exact (leastN_iff.1 hn).2 _ (List.getElem_mem hk)
theorem least_is (l : List Pn) : (leastN l).isSome = decide (0 < l.length) := by
  cases l <;> simp [leastN]

set_option maxHeartbeats 16000000 in
theorem pinLeast_small (v : Value) (l : List Pn) (s a : Int) (W : World) (h : Pns W v l) (hl : l.length ≤ 100) :
    Calls Try.prog 6 #[v, .agg #[.int .i64 s, .int .i64 a]] W fun e w' => e = .returned (.bool true) ∧ Below W.heap.size W w' := by
  have hB0 := below_alloc W (.cells #[.int .i64 s, .int .i64 a] 24)
  have K1 := Lib.hid (pnLeast_calls v l _ (h.below hB0) (by omega))
  have K2 := Lib.hid (fun W' (hB : Below W.heap.size W W') => pnAdd_calls v l s a W' (h.below hB) (by omega))
  have K3 := Lib.hid (fun v' l' W' (h' : Pns W' v' l') (hl' : l'.length ≤ 1000) => pnLeast_calls v' l' W' h' hl')
  have HP := Lib.hid (fun W' => pinned_calls W')
  have HM := Lib.hid (fun k (hk : k < l.length) => metN_succ (n := (leastN l).getD 0) hk)
  have HA := Lib.hid (metN_all l)
  have HG := Lib.hid (fun k (hk : k < l.length) => least_ge hk)
  have HI := least_is l
  have HX : Hid (∀ W', Below (W.heap.size + 1) (W.alloc (.cells #[.int .i64 s, .int .i64 a] 24)) W' → W'.cell? ⟨W.heap.size, 0, none⟩ = some (.int .i64 s) ∧ W'.cell? ⟨W.heap.size, 1, none⟩ = some (.int .i64 a)) := by
    refine Lib.hid ?_
    intro W' hW
    have hW' : Below (W.alloc (.cells #[.int .i64 s, .int .i64 a] 24)).heap.size (W.alloc (.cells #[.int .i64 s, .int .i64 a] 24)) W' := by rw [World.size_alloc]; exact hW
    obtain ⟨b, off, e, x0, x1⟩ := pns_at (pin_lit W s a) (i := 0) (by simp)
    cases e
    exact ⟨look_below hW' x0, look_below hW' x1⟩
  obtain ⟨ao, cap, rfl⟩ := h.form
  have HH := Lib.hid h
  have HL := Lib.hid hl
  have HB0 := Lib.hid hB0
  have d0 : decide ((100 : Int) < (l.length : Int)) = false := by rw [decide_eq_false_iff_not]; omega
  have d0' : decide (100 < l.length) = false := by rw [decide_eq_false_iff_not]; omega
  have d1 : decide ((0 : Int) < (l.length : Int)) = decide (0 < l.length) := by congr 1; exact propext ⟨fun h => by omega, fun h => by omega⟩
  have HAL := Lib.hid (fun (_ : addNE l (s, a) = 0) => add_least l (s, a))
  have HLA : Hid ((addN l (s, a)).length ≤ 1000) := Lib.hid (by rw [addN_length]; omega)
  obtain ⟨E, hE⟩ : ∃ E, addNE l (s, a) = E := ⟨_, rfl⟩
  obtain ⟨n, hn⟩ : ∃ n, (leastN l).getD 0 = n := ⟨_, rfl⟩
  obtain ⟨g, hg⟩ : ∃ g, (leastN l).isSome = g := ⟨_, rfl⟩
  rw [hn] at HM HA HG
  rw [hg] at HA HI
  rw [hn, hg] at K1
  rw [hE] at K2 HAL
  have HN := Lib.hid (And.intro hn hg)
  have HI2 := Lib.hid HI
  clear h hl hB0 hE hn hg HI
  go_enter Try.func6, Try.ntmps6
  go_wp2_with fail
  refine K1.out.mono ?_
  rintro e w1 ⟨rfl, hB1⟩
  have HB1 := Lib.hid (below2 HB0.out hB1)
  go_wp2_with fail
  go_loop [7, 8] (fun m i => ∃ k : Nat, i = .int .i64 k ∧ k ≤ l.length ∧ ∃ c, m = .bool c ∧ Hid (metN l n k = c)) (fun _ i => l.length - (intOf i).toNat)
  case atStart => exact ⟨0, rfl, Nat.zero_le _, false, rfl, Lib.hid rfl⟩
  case round =>
    obtain ⟨k, rfl, hk, c, rfl, hc⟩ := hrel
    have hl := HL.out
    by_cases hlt : k < l.length
    · have hd : decide ((k : Int) < (l.length : Int)) = true := by rw [decide_eq_true_eq]; omega
      obtain ⟨b', off, rfl, x0, x1⟩ := pns_at (HH.out.below HB1.out) hlt
      have hge := HG.out k hlt
      have hs := HM.out k hlt
      rw [hc.out] at hs
      generalize l[k].2 = y at *
      have d5 : decide (y < n) = false := by rw [decide_eq_false_iff_not]; omega
      have HS := Lib.hid hs
      clear x0 hge hs
      cases c with
      | true =>
        rw [Bool.true_or] at HS
        go_wp2_with fail
        go_round
        case rel => exact ⟨k + 1, by go_num, by omega, _, rfl, HS⟩
        case measure => simp [intOf]; omega
      | false =>
        rw [Bool.false_or] at HS
        go_wp2_with fail
        go_round
        case rel => exact ⟨k + 1, by go_num, by omega, _, rfl, HS⟩
        case measure => simp [intOf]; omega
    · obtain rfl : k = l.length := by omega
      have hd : decide ((l.length : Int) < (l.length : Int)) = false := by simp
      obtain rfl : c = g := hc.out.symm.trans HA.out
      have hx1 := (HX.out _ (by rw [← World.size_alloc]; exact hB1))
      have hgl : decide ((0 : Int) < (l.length : Int)) = c := d1.trans HI2.out.symm
      have hgl' : decide (0 < l.length) = c := HI2.out.symm
      have ecc : (c == c) = true := by simp
      go_wp2_with fail
      refine (K2.out _ HB1.out).mono ?_
      rintro e w2 ⟨u, rfl, ho, hB2⟩
      have hx2 := (HX.out _ (by rw [← World.size_alloc]; exact below2 hB1 hB2))
      by_cases hE0 : E = 0
      · rw [if_pos hE0] at ho
        obtain ⟨m, hm, hma, hmn⟩ := HAL.out hE0
        have K := Lib.hid (K3.out u _ w2 ho.row HLA.out)
        rw [hm] at K
        obtain ⟨au, cu, rfl⟩ := ho.form
        generalize (addN l (s, a)).length = q at *
        have d7 : decide (m ≤ a) = true := decide_eq_true hma
        have dn : c = true → m ≤ n := by
          intro hct
          refine hmn n ?_
          obtain ⟨h1, h2⟩ := HN.out
          rw [hct] at h2
          cases hl2 : leastN l with
          | none => rw [hl2] at h2; cases h2
          | some n' => rw [hl2] at h1; rw [← h1]; rfl
        have HDN := Lib.hid dn
        subst hE0
        clear ho hm hma hmn dn
        cases c with
        | true =>
          have d8 : decide (m ≤ n) = true := decide_eq_true (HDN.out rfl)
          go_wp2_with fail
          refine K.out.mono ?_
          rintro e w3 ⟨rfl, hB3⟩
          have hx3 := (HX.out _ (by rw [← World.size_alloc]; exact below3 hB1 hB2 hB3))
          simp only [Option.getD_some, Option.isSome_some]
          go_wp2_with fail
          refine (HP.out _).mono ?_
          rintro e w4 ⟨rfl, hB4⟩
          have hx4 := (HX.out _ (by rw [← World.size_alloc]; exact below2 (below3 hB1 hB2 hB3) hB4))
          go_wp2_with fail
          go_ret
          exact ⟨rfl, below2 (below3 HB1.out hB2 hB3) hB4⟩
        | false =>
          go_wp2_with fail
          refine K.out.mono ?_
          rintro e w3 ⟨rfl, hB3⟩
          have hx3 := (HX.out _ (by rw [← World.size_alloc]; exact below3 hB1 hB2 hB3))
          simp only [Option.getD_some, Option.isSome_some]
          go_wp2_with fail
          refine (HP.out _).mono ?_
          rintro e w4 ⟨rfl, hB4⟩
          have hx4 := (HX.out _ (by rw [← World.size_alloc]; exact below2 (below3 hB1 hB2 hB3) hB4))
          go_wp2_with fail
          go_ret
          exact ⟨rfl, below2 (below3 HB1.out hB2 hB3) hB4⟩
      · rw [if_neg hE0] at ho
        have K := Lib.hid (K3.out u _ w2 ho.row (by simp))
        have he0 : (E == 0) = false := by rw [beq_eq_false_iff_ne]; exact hE0
        obtain ⟨au, cu, rfl⟩ := ho.form
        clear ho
        cases c with
        | true =>
          go_wp2_with fail
          refine K.out.mono ?_
          rintro e w3 ⟨rfl, hB3⟩
          go_wp2_with fail
          refine (HP.out _).mono ?_
          rintro e w4 ⟨rfl, hB4⟩
          go_wp2_with fail
          go_ret
          exact ⟨rfl, below2 (below3 HB1.out hB2 hB3) hB4⟩
        | false =>
          go_wp2_with fail
          refine K.out.mono ?_
          rintro e w3 ⟨rfl, hB3⟩
          go_wp2_with fail
          refine (HP.out _).mono ?_
          rintro e w4 ⟨rfl, hB4⟩
          go_wp2_with fail
          go_ret
          exact ⟨rfl, below2 (below3 HB1.out hB2 hB3) hB4⟩

theorem pinLeast_walk (v : Value) (l : List Pn) (s a : Int) (W : World) (h : Pns W v l) (_ : l.length ≤ maxLen) (_ : ∀ y ∈ l, (Lit.int .i64 y.1).wf = true ∧ (Lit.int .i64 y.2).wf = true) :
    Calls Try.prog 6 #[v, .agg #[.int .i64 s, .int .i64 a]] W fun e w' => e = .returned (.bool true) ∧ Below W.heap.size W w' := by
  by_cases hl : l.length ≤ 100
  · exact pinLeast_small v l s a W h hl
  · have d0 : decide ((100 : Int) < (l.length : Int)) = true := by rw [decide_eq_true_eq]; omega
    have d0' : decide (100 < l.length) = true := by rw [decide_eq_true_eq]; omega
    obtain ⟨ao, cap, rfl⟩ := h.form
    clear hl h
    go_enter Try.func6, Try.ntmps6
    go_wp2_with fail
    go_ret
    exact ⟨rfl, below_alloc _ _⟩

end Go.Proofs.Ytbphdajhhnhphaa
