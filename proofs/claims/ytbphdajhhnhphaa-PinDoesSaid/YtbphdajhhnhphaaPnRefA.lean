/-
  The document's own Add of pins.
-/
import Derived.Test.YtbphdajhhnhphaaPnRefI
import Derived.Test.YtbphdajhhnhphaaPnRefF
import Derived.Test.YtbphdajhhnhphaaPnOwn
import Derived.Test.YtbphdajhhnhphaaPnAddE
import Derived.Test.YtbphdajhhnhphaaHeld
import Derived.Deep.RegionHeld3
namespace Go.Proofs.Ytbphdajhhnhphaa
set_option maxRecDepth 100000
open Go.RowKit

theorem below_up {w W : World} {o : Obj} (h : Below (w.alloc o).heap.size (w.alloc o) W) : Below (w.heap.size + 1) (w.alloc o) W := by
  rwa [World.size_alloc] at h
theorem below_down {w W : World} {o : Obj} (h : Below (w.heap.size + 1) (w.alloc o) W) : Below (w.alloc o).heap.size (w.alloc o) W := by
  rwa [World.size_alloc]

set_option maxHeartbeats 16000000 in
theorem refPnAdd_calls (v : Value) (l : List Pn) (s a : Int) (w : World) (h : Pns w v l) (hl : l.length ≤ 1000000) :
    Calls Try.prog 10 #[v, .agg #[.int .i64 s, .int .i64 a]] w fun e w' => ∃ u, e = .returned (.tuple #[u, .int .i64 (addNE l (s, a))]) ∧ OwnPn w' w.heap.size u (if addNE l (s, a) = 0 then addN l (s, a) else []) ∧ Below w.heap.size w w' := by
  obtain ⟨ao, cap, rfl⟩ := h.form
  have hB0 := below_alloc w (.cells #[.int .i64 s, .int .i64 a] 24)
  have KI := refPnIs_calls _ l _ (h.below hB0) hl
  have HH := Lib.hid h
  clear h
  cases hi : isN l with
  | false =>
    have e0 := addE_arg (p := (s, a)) (.inl hi)
    rw [e0]
    rw [hi] at KI
    have K1 := Lib.hid KI
    clear KI hi e0
    go_enter Try.func10, Try.ntmps10
    go_wp2_with fail
    refine K1.out.mono ?_
    rintro e w1 ⟨rfl, hB⟩
    go_wp2_with fail
    go_ret2
    exact ⟨_, rfl, OwnOf.nil _ _, below2 hB0 hB⟩
  | true =>
    rw [hi] at KI
    have K1 := Lib.hid KI
    have HB0 := Lib.hid hB0
    have hX : ∀ W, Below (w.heap.size + 1) (w.alloc (.cells #[.int .i64 s, .int .i64 a] 24)) W → W.cell? ⟨w.heap.size, 0, none⟩ = some (.int .i64 s) ∧ W.cell? ⟨w.heap.size, 1, none⟩ = some (.int .i64 a) := by
      intro W hW
      have hW' : Below (w.alloc (.cells #[.int .i64 s, .int .i64 a] 24)).heap.size (w.alloc (.cells #[.int .i64 s, .int .i64 a] 24)) W := by rw [World.size_alloc]; exact hW
      obtain ⟨b, off, e, x0, x1⟩ := pns_at (pin_lit w s a) (i := 0) (by simp)
      cases e
      exact ⟨look_below hW' x0, look_below hW' x1⟩
    have HX := Lib.hid hX
    have KP := Lib.hid (fun W => refPnIs_calls _ [(s, a)] _ (pin_lit W s a) (by simp))
    rw [one_isN] at KP
    clear KI hX hB0
    cases hp : oneP (s, a) with
    | false =>
      have e0 := addE_arg (l := l) (p := (s, a)) (.inr hp)
      rw [e0]
      rw [hp] at KP
      clear e0 hp hi
      go_enter Try.func10, Try.ntmps10
      go_wp2_with fail
      refine K1.out.mono ?_
      rintro e w1 ⟨rfl, hB⟩
      obtain ⟨c0, c1⟩ := HX.out _ (by rw [← World.size_alloc]; exact hB)
      go_wp2_with fail
      refine (KP.out _).mono ?_
      rintro e w2 ⟨rfl, hB2⟩
      go_wp2_with fail
      go_ret2
      exact ⟨_, rfl, OwnOf.nil _ _, below2 (below3 HB0.out hB (below_alloc _ _)) hB2⟩
    | true =>
      rw [hp] at KP
      have HI := Lib.hid (And.intro hi hp)
      have KO := Lib.hid (fun W (hB : Below w.heap.size w W) => refPnOf_calls _ l s W (HH.out.below hB) hl)
      cases ho : ofN l s with
      | some n =>
        have e0 := addE_held (p := (s, a)) HI.out.1 HI.out.2 ho
        rw [e0]
        rw [ho] at KO
        clear e0 hp hi ho
        go_enter Try.func10, Try.ntmps10
        go_wp2_with fail
        refine K1.out.mono ?_
        rintro e w1 ⟨rfl, hB⟩
        obtain ⟨c0, c1⟩ := HX.out _ (by rw [← World.size_alloc]; exact hB)
        go_wp2_with fail
        refine (KP.out _).mono ?_
        rintro e w2 ⟨rfl, hB2⟩
        have hB3 := below2 (below3 HB0.out hB (below_alloc _ _)) hB2
        have c2 := (HX.out _ (by rw [← World.size_alloc]; exact below3 hB (below_alloc _ _) hB2)).1
        go_wp2_with fail
        refine (KO.out _ hB3).mono ?_
        rintro e w3 ⟨rfl, rfl⟩
        simp only [Option.getD_some, Option.isSome_some]
        go_wp2_with fail
        go_ret2
        exact ⟨_, rfl, OwnOf.nil _ _, hB3⟩
      | none =>
        rw [ho] at KO
        have h50 := (isN_iff.1 hi).1
        by_cases hn : l.length = 50
        · have e0 := addE_full (p := (s, a)) HI.out.1 HI.out.2 ho hn
          rw [e0]
          have hz : decide (50 ≤ (l.length : Int)) = true := by rw [decide_eq_true_eq]; omega
          have hz' : decide (50 ≤ l.length) = true := by rw [decide_eq_true_eq]; omega
          clear e0 hp hi ho hn h50
          go_enter Try.func10, Try.ntmps10
          go_wp2_with fail
          refine K1.out.mono ?_
          rintro e w1 ⟨rfl, hB⟩
          obtain ⟨c0, c1⟩ := HX.out _ (by rw [← World.size_alloc]; exact hB)
          go_wp2_with fail
          refine (KP.out _).mono ?_
          rintro e w2 ⟨rfl, hB2⟩
          have hB3 := below2 (below3 HB0.out hB (below_alloc _ _)) hB2
          have c2 := (HX.out _ (by rw [← World.size_alloc]; exact below3 hB (below_alloc _ _) hB2)).1
          go_wp2_with fail
          refine (KO.out _ hB3).mono ?_
          rintro e w3 ⟨rfl, rfl⟩
          simp only [Option.getD_none, Option.isSome_none]
          go_wp2_with fail
          go_ret2
          exact ⟨_, rfl, OwnOf.nil _ _, hB3⟩
        · have e0 := addE_ok (p := (s, a)) HI.out.1 HI.out.2 ho (by omega)
          have hz : decide (50 ≤ (l.length : Int)) = false := by rw [decide_eq_false_iff_not]; omega
          have hz' : decide (50 ≤ l.length) = false := by rw [decide_eq_false_iff_not]; omega
          have HA := Lib.hid (addN_place l (s, a))
          have HLN : Hid ((addN l (s, a)).length = l.length + 1) := Lib.hid (addN_length _ _)
          rw [e0, if_pos rfl]
          clear e0 hp hi ho hn
          go_enter Try.func10, Try.ntmps10
          go_wp2_with fail
          refine K1.out.mono ?_
          rintro e w1 ⟨rfl, hB⟩
          obtain ⟨c0, c1⟩ := HX.out _ (by rw [← World.size_alloc]; exact hB)
          go_wp2_with fail
          refine (KP.out _).mono ?_
          rintro e w2 ⟨rfl, hB2⟩
          have hB3 := below2 (below3 HB0.out hB (below_alloc _ _)) hB2
          have c2 := (HX.out _ (by rw [← World.size_alloc]; exact below3 hB (below_alloc _ _) hB2))
          have HBX := Lib.hid (And.intro hB3 (And.intro (below3 hB (below_alloc _ _) hB2) c2))
          go_wp2_with fail
          refine (KO.out _ hB3).mono ?_
          rintro e w3 ⟨rfl, rfl⟩
          simp only [Option.getD_none, Option.isSome_none]
          clear c0 c1 c2
          go_wp2_with fail
          go_loopw [8] (fun i wr => ∃ k : Nat, i = .int .i64 k ∧ k ≤ placeP l s ∧ Hid (Below w2.heap.size w2 wr)) (fun i _ => l.length - (intOf i).toNat)
          case atStart => exact ⟨0, rfl, Nat.zero_le _, Lib.hid (Below.refl _ _)⟩
          case round =>
            obtain ⟨k, rfl, hk, hB4⟩ := hrel
            have hpl := placeP_le l s
            have HC := Lib.hid (fun W (hB : Below wr.heap.size wr W) => HX.out W (by rw [← World.size_alloc]; exact below2 HBX.out.2.1 (below2 hB4.out hB)))
            have hbr : Below wr.heap.size wr wr.drew := drew_below _
            by_cases hlt : k < l.length
            · have hd : decide ((k : Int) < (l.length : Int)) = true := by rw [decide_eq_true_eq]; omega
              have hk4 : (0 : Int) ≤ (k : Int) := by omega
              have hk5 : (k : Int) < (l.length : Int) := by omega
              obtain ⟨b, off, rfl, x0, x1⟩ := pns_at (HH.out.below (below2 HBX.out.1 hB4.out)) hlt
              by_cases hq : l[k].1 < s
              · have hk2 : k < placeP l s := by
                  rcases Nat.lt_or_ge k (placeP l s) with h | h
                  · exact h
                  · exfalso
                    have e : k = placeP l s := by omega
                    subst e
                    exact placeP_at hlt hq
                have HK := Lib.hid hk2
                generalize l[k].1 = q at *
                have dq : decide (q < s) = true := decide_eq_true hq
                have HS2 := Lib.hid (fun W (hB : Below wr.heap.size wr W) => And.intro (look_below hB x0) (HC.out W hB).1)
                clear hq hk2 x0 x1
                go_wp2_with fail
                go_region_held3 (fun W => W.cell? ⟨b, off + k * 2, none⟩ = some (.int .i64 q) ∧ W.cell? ⟨w.heap.size, 0, none⟩ = some (.int .i64 s)) (exact HS2.out _ hbr) (first | fail)
                go_wp2_with fail
                go_roundw
                case rel => exact ⟨k + 1, by go_num, HK.out, Lib.hid (below2 hB4.out hbr)⟩
                case measure => simp [intOf]; omega
              · have hk2 : k = placeP l s := by
                  rcases Nat.lt_or_ge k (placeP l s) with h | h
                  · exact absurd (placeP_ahead hlt h) hq
                  · omega
                have HK := Lib.hid hk2
                generalize l[k].1 = q at *
                have dq : decide (q < s) = false := decide_eq_false hq
                have HS2 := Lib.hid (fun W (hB : Below wr.heap.size wr W) => And.intro (look_below hB x0) (HC.out W hB).1)
                clear hq hk2 x0 x1
                go_wp2_with fail
                go_region_held3 (fun W => W.cell? ⟨b, off + k * 2, none⟩ = some (.int .i64 q) ∧ W.cell? ⟨w.heap.size, 0, none⟩ = some (.int .i64 s)) (exact HS2.out _ hbr) (first | fail)
                have HB5 := Lib.hid (below3 HBX.out.1 hB4.out hbr)
                have HX5 := Lib.hid (fun W h => HC.out W (below2 hbr h))
                have hsl := (pns_to HH.out k (by omega)).1
                have R1 := Lib.hid (pns_to (HH.out.below HB5.out) k (by omega)).2
                obtain ⟨af, cf, hsf, hrf⟩ := pns_from HH.out k (l.length - k) (by omega) (by omega)
                have R2 := Lib.hid (fun W (hB : Below w.heap.size w W) => hrf.below hB)
                have hsf1 : ∀ W, (Instr.slice 22 (.slice (some ⟨b, off, none⟩) l.length cap) (some (.int .i64 (k : Int))) none none).run Try.prog W = .ok (.slice af (l.length - k) cf) W := hsf
                have HPN := Lib.hid (show addN l (s, a) = l.take k ++ [(s, a)] ++ l.drop k by rw [HA.out, HK.out])
                have HTL : Hid ((l.take k).length = k) := Lib.hid (by rw [List.length_take]; omega)
                obtain ⟨A, hA⟩ : ∃ A, l.take k = A := ⟨_, rfl⟩
                rw [hA] at R1 HPN HTL
                have HB6 := Lib.hid (below_up (below3 HBX.out.2.1 hB4.out hbr))
                have hb0 : w.heap.size + 1 ≤ (w.alloc (.cells #[.int .i64 s, .int .i64 a] 24)).heap.size := by rw [World.size_alloc]; exact Nat.le_refl _
                clear hsf hrf hA
                go_wp2_with (at_builtin; first
                  | (refine app_pns rfl _ _ rfl (w.heap.size + 1) _ [] rfl (OwnOf.nil _ _) _ _ _ A rfl R1.out A rfl k HTL.out (by omega) (w.alloc (.cells #[.int .i64 s, .int .i64 a] 24)) HB6.out hb0 ?_; intro a4 c4 w4 ho4 hB7; have HO4 := Lib.hid ho4; obtain ⟨hc0, hc1⟩ := HX.out _ hB7; clear ho4)
                  | (refine app_pn rfl _ _ rfl (w.heap.size + 1) _ A rfl HO4.out s a rfl (by rw [HTL.out]; omega) (Nat.le_trans hb0 hB7.size) ?_; intro a5 c5 w5 ho5 hg5; have hB8 := hg5 _ hB7; have HO5 := Lib.hid ho5; have HBW := Lib.hid (below2 HB0.out (below_down hB8)); clear ho5 hg5)
                  | (refine app_pns rfl _ _ rfl (w.heap.size + 1) _ (A ++ [(s, a)]) rfl HO5.out _ _ _ (l.drop k) rfl (R2.out _ HBW.out) (addN l (s, a)) HPN.out.symm (l.length + 1) HLN.out (by omega) (w.alloc (.cells #[.int .i64 s, .int .i64 a] 24)) hB8 hb0 ?_; intro a6 c6 w6 ho6 hB9; have HO6 := Lib.hid ho6; clear ho6))
                go_ret2
                exact ⟨_, rfl, OwnOf.weak HO6.out (Nat.le_succ _), below2 HB0.out (below_down hB9)⟩
            · obtain rfl : k = l.length := by omega
              have hk2 : l.length = placeP l s := by omega
              have hd : decide ((l.length : Int) < (l.length : Int)) = false := by simp
              have HK := Lib.hid hk2
              clear hk2
              go_wp2_with fail
              refine held0 (S := (fun _ => True)) (by kernel_rfl) (trivial) (fun hHeld => ?_)
              iterate 5 (refine heldT (oi := ⟨_, _, _, _, _, _⟩) (v := ?_) hHeld rfl rfl (by kernel_rfl) (by kernel_rfl) (by kernel_rfl) (fun _ _ _ h => h) ?_ ?_; rotate_left; (intro w hSw; (try dsimp only at hSw); go_simp; try with_reducible rfl); try simp only [Act.put, List.setIfInBounds_toArray, List.set_cons_zero, List.set_cons_succ])
              iterate 8 (refine heldU (oi := ⟨_, _, _, _, _, _⟩) hHeld rfl rfl (by kernel_rfl) (by kernel_rfl) (by kernel_rfl) (fun _ _ _ h => h) ?_; try simp only [Act.put, List.setIfInBounds_toArray, List.set_cons_zero, List.set_cons_succ])
              iterate 1 (refine heldT (oi := ⟨_, _, _, _, _, _⟩) (v := ?_) hHeld rfl rfl (by kernel_rfl) (by kernel_rfl) (by kernel_rfl) (fun _ _ _ h => h) ?_ ?_; rotate_left; (intro w hSw; (try dsimp only at hSw); go_simp; try with_reducible rfl); try simp only [Act.put, List.setIfInBounds_toArray, List.set_cons_zero, List.set_cons_succ])
              refine wpAnyH_done (by kernel_rfl) ?_ _
              have HB5 := Lib.hid (below3 HBX.out.1 hB4.out hbr)
              have HX5 := Lib.hid (fun W h => HC.out W (below2 hbr h))
              have hsl := (pns_to HH.out l.length (by omega)).1
              have R1 := Lib.hid (pns_to (HH.out.below HB5.out) l.length (by omega)).2
              obtain ⟨af, cf, hsf, hrf⟩ := pns_from HH.out l.length 0 (by omega) (by omega)
              have R2 := Lib.hid (fun W (hB : Below w.heap.size w W) => hrf.below hB)
              have hsf1 : ∀ W, (Instr.slice 22 (.slice ao l.length cap) (some (.int .i64 (l.length : Int))) none none).run Try.prog W = .ok (.slice af 0 cf) W := hsf
              have HPN := Lib.hid (show addN l (s, a) = l.take l.length ++ [(s, a)] ++ l.drop l.length by rw [HA.out, HK.out])
              have HTL : Hid ((l.take l.length).length = l.length) := Lib.hid (by rw [List.length_take]; omega)
              obtain ⟨A, hA⟩ : ∃ A, l.take l.length = A := ⟨_, rfl⟩
              rw [hA] at R1 HPN HTL
              have HB6 := Lib.hid (below_up (below3 HBX.out.2.1 hB4.out hbr))
              have hb0 : w.heap.size + 1 ≤ (w.alloc (.cells #[.int .i64 s, .int .i64 a] 24)).heap.size := by rw [World.size_alloc]; exact Nat.le_refl _
              clear hsf hrf hA
              go_wp2_with (at_builtin; first
                | (refine app_pns rfl _ _ rfl (w.heap.size + 1) _ [] rfl (OwnOf.nil _ _) _ _ _ A rfl R1.out A rfl l.length HTL.out (by omega) (w.alloc (.cells #[.int .i64 s, .int .i64 a] 24)) HB6.out hb0 ?_; intro a4 c4 w4 ho4 hB7; have HO4 := Lib.hid ho4; obtain ⟨hc0, hc1⟩ := HX.out _ hB7; clear ho4)
                | (refine app_pn rfl _ _ rfl (w.heap.size + 1) _ A rfl HO4.out s a rfl (by rw [HTL.out]; omega) (Nat.le_trans hb0 hB7.size) ?_; intro a5 c5 w5 ho5 hg5; have hB8 := hg5 _ hB7; have HO5 := Lib.hid ho5; have HBW := Lib.hid (below2 HB0.out (below_down hB8)); clear ho5 hg5)
                | (refine app_pns rfl _ _ rfl (w.heap.size + 1) _ (A ++ [(s, a)]) rfl HO5.out _ _ _ (l.drop l.length) rfl (R2.out _ HBW.out) (addN l (s, a)) HPN.out.symm (l.length + 1) HLN.out (by omega) (w.alloc (.cells #[.int .i64 s, .int .i64 a] 24)) hB8 hb0 ?_; intro a6 c6 w6 ho6 hB9; have HO6 := Lib.hid ho6; clear ho6))
              go_ret2
              exact ⟨_, rfl, OwnOf.weak HO6.out (Nat.le_succ _), below2 HB0.out (below_down hB9)⟩

end Go.Proofs.Ytbphdajhhnhphaa
