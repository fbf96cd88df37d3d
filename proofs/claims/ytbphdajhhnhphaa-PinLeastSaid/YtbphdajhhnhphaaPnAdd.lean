/-
  pin: Add.
-/
import Derived.Test.YtbphdajhhnhphaaPnDrop
import Derived.Test.YtbphdajhhnhphaaPnAddE
namespace Go.Proofs.Ytbphdajhhnhphaa
set_option maxRecDepth 100000
open Go.RowKit

set_option maxHeartbeats 8000000 in
theorem pnAdd_calls (v : Value) (l : List Pn) (s a : Int) (w : World) (h : Pns w v l) (hl : l.length ≤ 1000000) :
    Calls Try.prog 9 #[v, .agg #[.int .i64 s, .int .i64 a]] w fun e w' => ∃ u, e = .returned (.tuple #[u, .int .i64 (addNE l (s, a))]) ∧ OwnPn w' w.heap.size u (if addNE l (s, a) = 0 then addN l (s, a) else []) ∧ Below w.heap.size w w' := by
  obtain ⟨ao, cap, rfl⟩ := h.form
  have hB0 := below_alloc w (.cells #[.int .i64 s, .int .i64 a] 24)
  have KI := pnIs_calls _ l _ (h.below hB0) hl
  have HH := Lib.hid h
  clear h
  cases hi : isN l with
  | false =>
    have e0 := addE_arg (p := (s, a)) (.inl hi)
    rw [e0]
    rw [hi] at KI
    have K1 := Lib.hid KI
    clear KI hi e0
    go_enter Try.func9, Try.ntmps9
    go_wp2_with fail
    refine K1.out.mono ?_
    rintro e w1 ⟨rfl, hB⟩
    go_wp2_with fail
    go_ret2
    exact ⟨_, rfl, OwnOf.nil _ _, below2 hB0 hB⟩
  | true =>
    rw [hi] at KI
    have K1 := Lib.hid KI
    have HB0 := Lib.hid hB0
    have hX : ∀ W, Below (w.heap.size + 1) (w.alloc (.cells #[.int .i64 s, .int .i64 a] 24)) W → W.cell? ⟨w.heap.size, 0, none⟩ = some (.int .i64 s) ∧ W.cell? ⟨w.heap.size, 1, none⟩ = some (.int .i64 a) := by
      intro W hW
      have hW' : Below (w.alloc (.cells #[.int .i64 s, .int .i64 a] 24)).heap.size (w.alloc (.cells #[.int .i64 s, .int .i64 a] 24)) W := by rw [World.size_alloc]; exact hW
      obtain ⟨b, off, e, x0, x1⟩ := pns_at (pin_lit w s a) (i := 0) (by simp)
      cases e
      exact ⟨look_below hW' x0, look_below hW' x1⟩
    have HX := Lib.hid hX
    have KP := Lib.hid (fun W => pnIs_calls _ [(s, a)] _ (pin_lit W s a) (by simp))
    rw [one_isN] at KP
    clear KI hX hB0
    cases hp : oneP (s, a) with
    | false =>
      have e0 := addE_arg (l := l) (p := (s, a)) (.inr hp)
      rw [e0]
      rw [hp] at KP
      clear e0 hp hi
      go_enter Try.func9, Try.ntmps9
      go_wp2_with fail
      refine K1.out.mono ?_
      rintro e w1 ⟨rfl, hB⟩
      obtain ⟨c0, c1⟩ := HX.out _ (by rw [← World.size_alloc]; exact hB)
      go_wp2_with fail
      refine (KP.out _).mono ?_
      rintro e w2 ⟨rfl, hB2⟩
      go_wp2_with fail
      go_ret2
      exact ⟨_, rfl, OwnOf.nil _ _, below2 (below3 HB0.out hB (below_alloc _ _)) hB2⟩
    | true =>
      rw [hp] at KP
      have HI := Lib.hid (And.intro hi hp)
      have KO := Lib.hid (fun W (hB : Below w.heap.size w W) => pnOf_calls _ l s W (HH.out.below hB) hl)
      cases ho : ofN l s with
      | some n =>
        have e0 := addE_held (p := (s, a)) HI.out.1 HI.out.2 ho
        rw [e0]
        rw [ho] at KO
        clear e0 hp hi ho
        go_enter Try.func9, Try.ntmps9
        go_wp2_with fail
        refine K1.out.mono ?_
        rintro e w1 ⟨rfl, hB⟩
        obtain ⟨c0, c1⟩ := HX.out _ (by rw [← World.size_alloc]; exact hB)
        go_wp2_with fail
        refine (KP.out _).mono ?_
        rintro e w2 ⟨rfl, hB2⟩
        have hB3 := below2 (below3 HB0.out hB (below_alloc _ _)) hB2
        have c2 := (HX.out _ (by rw [← World.size_alloc]; exact below3 hB (below_alloc _ _) hB2)).1
        go_wp2_with fail
        refine (KO.out _ hB3).mono ?_
        rintro e w3 ⟨rfl, hB4⟩
        simp only [Option.getD_some, Option.isSome_some]
        go_wp2_with fail
        go_ret2
        exact ⟨_, rfl, OwnOf.nil _ _, below2 hB3 hB4⟩
      | none =>
        rw [ho] at KO
        have h50 := (isN_iff.1 hi).1
        by_cases hn : l.length = 50
        · have e0 := addE_full (p := (s, a)) HI.out.1 HI.out.2 ho hn
          rw [e0]
          have hz : ((l.length : Int) == 50) = true := by rw [beq_iff_eq]; omega
          clear e0 hp hi ho hn h50
          go_enter Try.func9, Try.ntmps9
          go_wp2_with fail
          refine K1.out.mono ?_
          rintro e w1 ⟨rfl, hB⟩
          obtain ⟨c0, c1⟩ := HX.out _ (by rw [← World.size_alloc]; exact hB)
          go_wp2_with fail
          refine (KP.out _).mono ?_
          rintro e w2 ⟨rfl, hB2⟩
          have hB3 := below2 (below3 HB0.out hB (below_alloc _ _)) hB2
          have c2 := (HX.out _ (by rw [← World.size_alloc]; exact below3 hB (below_alloc _ _) hB2)).1
          go_wp2_with fail
          refine (KO.out _ hB3).mono ?_
          rintro e w3 ⟨rfl, hB4⟩
          simp only [Option.getD_none, Option.isSome_none]
          go_wp2_with fail
          go_ret2
          exact ⟨_, rfl, OwnOf.nil _ _, below2 hB3 hB4⟩
        · have e0 := addE_ok (p := (s, a)) HI.out.1 HI.out.2 ho (by omega)
          have hz : ((l.length : Int) == 50) = false := by rw [beq_eq_false_iff_ne]; omega
          have hA := addN_place l (s, a)
          rw [place_where ho] at hA
          have KF := fun W (hB : Below w.heap.size w W) => find_calls _ entersAhead _ _ (ahead_calls s) _ l W (HH.out.below hB) hl
          obtain ⟨k, hk⟩ : ∃ k, whereN (behindP s) l = k := ⟨_, rfl⟩
          have hle : k ≤ l.length := hk ▸ whereN_le _ _
          rw [hk] at KF hA
          have K2 := Lib.hid KF
          obtain ⟨m, hm⟩ : ∃ m, l.length - k = m := ⟨_, rfl⟩
          have HP := Lib.hid (fun W (hB : Below w.heap.size w W) => (pns_to (HH.out.below hB) k hle).2)
          have hto := (pns_to HH.out k hle).1
          obtain ⟨a1, c1, hfr, hrow⟩ := pns_from HH.out k m hle (by omega)
          have HR := Lib.hid (fun W (hB : Below w.heap.size w W) => hrow.below hB)
          have HLN : Hid ((addN l (s, a)).length ≤ 1000000) := Lib.hid (by rw [addN_length]; omega)
          rw [e0, if_pos rfl]
          obtain ⟨D, hD⟩ : ∃ D, addN l (s, a) = D := ⟨_, rfl⟩
          rw [hD] at hA HLN ⊢
          have HD := Lib.hid hA
          have HL := Lib.hid (And.intro hl h50)
          clear e0 hp hi ho KF hm hrow hA hD hk hn h50 hl
          have KC := fun W W' (hB : Below w.heap.size w W) (hB' : Below (W.heap.size + 1 + 1) ((W.alloc (.cells #[.int .i64 s, .int .i64 a] 24)).alloc (.cells #[.slice ao k cap, .slice (some ⟨W.heap.size, 0, none⟩) 1 1, .slice a1 m c1] 22)) W') => pnconcat_calls (.slice (some ⟨W.heap.size + 1, 0, none⟩) 3 3) [(.slice ao k cap, l.take k), (.slice (some ⟨W.heap.size, 0, none⟩) 1 1, [(s, a)]), (.slice a1 m c1, l.drop k)] D W'
            (Rw.below (by have := rw_lit (W.alloc (.cells #[.int .i64 s, .int .i64 a] 24)) [.slice ao k cap, .slice (some ⟨W.heap.size, 0, none⟩) 1 1, .slice a1 m c1] 22; rw [World.size_alloc] at this; exact this) (by rw [World.size_alloc, World.size_alloc]; exact hB')) (by
            have hC := below_alloc (W.alloc (.cells #[.int .i64 s, .int .i64 a] 24)) (.cells #[.slice ao k cap, .slice (some ⟨W.heap.size, 0, none⟩) 1 1, .slice a1 m c1] 22)
            have hC2 := below2 hC (by rw [World.size_alloc, World.size_alloc]; exact hB')
            have hB2 := below3 hB (below_alloc W _) hC2
            intro x hx
            rcases List.mem_cons.1 hx with rfl | hx
            · exact HP.out _ hB2
            · rcases List.mem_cons.1 hx with rfl | hx
              · exact (pin_lit W s a).below hC2
              · obtain rfl := List.mem_singleton.1 hx
                exact HR.out _ hB2) (by rw [HD.out]; simp) (by simp) HLN.out
          obtain ⟨q, hq⟩ : ∃ q, D.length = q := ⟨_, rfl⟩
          rw [hq] at KC
          have HC := Lib.hid KC
          clear hq KC
          go_enter Try.func9, Try.ntmps9
          go_wp2_with fail
          refine K1.out.mono ?_
          rintro e w1 ⟨rfl, hB⟩
          obtain ⟨c0, c1'⟩ := HX.out _ (by rw [← World.size_alloc]; exact hB)
          go_wp2_with fail
          refine (KP.out _).mono ?_
          rintro e w2 ⟨rfl, hB2⟩
          have hB3 := below2 (below3 HB0.out hB (below_alloc _ _)) hB2
          have hBX := below3 hB (below_alloc _ _) hB2
          have c2 := (HX.out _ (by rw [← World.size_alloc]; exact hBX)).1
          go_wp2_with fail
          refine (KO.out _ hB3).mono ?_
          rintro e w3 ⟨rfl, hB4⟩
          have hB5 := below2 hB3 hB4
          simp only [Option.getD_none, Option.isSome_none]
          have c3 := (HX.out _ (by rw [← World.size_alloc]; exact below2 hBX hB4)).1
          go_wp2_with fail
          refine (K2.out _ hB5).mono ?_
          rintro e w4 ⟨rfl, hB6⟩
          have hBB := below2 hB5 hB6
          have c4 := HX.out _ (by rw [← World.size_alloc]; exact below3 hBX hB4 hB6)
          have hbr : Below (w4.heap.size + 1 + 1) ((w4.alloc (.cells #[.int .i64 s, .int .i64 a] 24)).alloc (.cells #[.slice ao k cap, .slice (some ⟨w4.heap.size, 0, none⟩) 1 1, .slice a1 m c1] 22)) ((w4.alloc (.cells #[.int .i64 s, .int .i64 a] 24)).alloc (.cells #[.slice ao k cap, .slice (some ⟨w4.heap.size, 0, none⟩) 1 1, .slice a1 m c1] 22)).drew := by
            have := drew_below ((w4.alloc (.cells #[.int .i64 s, .int .i64 a] 24)).alloc (.cells #[.slice ao k cap, .slice (some ⟨w4.heap.size, 0, none⟩) 1 1, .slice a1 m c1] 22))
            rwa [World.size_alloc, World.size_alloc] at this
          have KD := Lib.hid (fun W' h => HC.out w4 W' hBB h)
          have HBD := Lib.hid (fun W' h => below2 (below3 (below_alloc w4 (.cells #[.int .i64 s, .int .i64 a] 24)) (below_alloc _ (.cells #[.slice ao k cap, .slice (some ⟨w4.heap.size, 0, none⟩) 1 1, .slice a1 m c1] 22)) (drew_below _)) (h : Below _ _ W'))
          have hfr1 : ∀ W, (Instr.slice 22 (.slice ao l.length cap) (some (.int .i64 (k : Int))) none none).run Try.prog W = .ok (.slice a1 m c1) W := hfr
          have HBX := Lib.hid (below3 hBX hB4 hB6)
          have HSS : Hid (∀ W, Below w4.heap.size w4 W → W.cell? ⟨w.heap.size, 0, none⟩ = some (.int .i64 s) ∧ W.cell? ⟨w.heap.size, 1, none⟩ = some (.int .i64 a)) := Lib.hid (fun W hW => HX.out W (by rw [← World.size_alloc]; exact below2 HBX.out hW))
          have hbq : Below w4.heap.size w4 w4.drew := drew_below _
          clear c0 c1' c2 c3 hfr
          go_wp2_with fail
          go_region_held3 (fun w' => w'.cell? ⟨w.heap.size, 0, none⟩ = some (.int .i64 s) ∧ w'.cell? ⟨w.heap.size, 1, none⟩ = some (.int .i64 a)) (first | exact HSS.out _ hbq | exact HSS.out _ (hbq.alloc hbq.size _) | exact HSS.out _ ((hbq.alloc hbq.size _).alloc (by rw [World.size_alloc]; exact Nat.le_succ_of_le hbq.size) _)) (first
            | ((with_reducible refine (KD.out _ hbr).mono ?_); rintro e w5 ⟨a5, c5, rfl, ho, hB7⟩; have HO := Lib.hid (And.intro ho hB7); have hbq := HBD.out _ hB7; clear ho hB7))
          go_wp2_with fail
          go_ret2
          obtain ⟨ho, hB7⟩ := HO.out
          have hb9 := below2 hBB hbq
          exact ⟨_, rfl, OwnOf.weak ho (below2 hBB (below3 (below_alloc w4 (.cells #[.int .i64 s, .int .i64 a] 24)) (below_alloc _ (.cells #[.slice ao k cap, .slice (some ⟨w4.heap.size, 0, none⟩) 1 1, .slice a1 m c1] 22)) (drew_below _))).size, hb9⟩

end Go.Proofs.Ytbphdajhhnhphaa
