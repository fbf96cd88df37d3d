/-
  The walk of NodePuts.
-/
import Derived.Test.YtjfhhddiinpbpaaNdNodes
import Derived.Deep.RegionHeld3
namespace Go.Proofs.Ytjfhhddiinpbpaa
open Go.RowKit

theorem pbox_new (w : World) (p : List UInt8) (m : Int) (s : List UInt8) : Cx (w.alloc (.cells #[.string ⟨p.toArray⟩, .int .i64 m, .string ⟨s.toArray⟩] 26)) w.heap.size 26 [.string ⟨p.toArray⟩, .int .i64 m, .string ⟨s.toArray⟩] := Cx.new w _ _

set_option maxRecDepth 100000 in
set_option maxHeartbeats 32000000 in
theorem nodePuts_walk (v : Value) (l : List Pr) (p : List UInt8) (m : Int) (s : List UInt8) (w : World) (hs : Prs w v l) (hk : l.length ≤ maxLen) :
    Calls Try.prog 4 #[v, .agg #[.string ⟨p.toArray⟩, .int .i64 m, .string ⟨s.toArray⟩]] w fun e w' => e = .returned (.bool true) ∧ Below w.heap.size w w' := by
  obtain ⟨ao, cap, rfl⟩ := hs.form
  have hk' : l.length ≤ 9223372036854775807 := by unfold maxLen at hk; exact hk
  obtain ⟨W0, hW0, hX0, hB0⟩ : ∃ W0, w.alloc (.cells #[.string ⟨p.toArray⟩, .int .i64 m, .string ⟨s.toArray⟩] 26) = W0 ∧ Cx W0 w.heap.size 26 [.string ⟨p.toArray⟩, .int .i64 m, .string ⟨s.toArray⟩] ∧ Below w.heap.size w W0 := ⟨_, rfl, pbox_new w p m s, below_alloc _ _⟩
  have CB := big_calls _ l W0 (hs.below hB0) hk'
  have HS := Lib.hid (hs.below hB0)
  have HX := Lib.hid hX0
  have BB0 := Lib.hid hB0
  obtain ⟨x0, x1, x2, _, _, _, xl⟩ := hX0.three
  clear hk hk' hs hX0 hB0
  cases hb : bigP l with
  | true =>
    rw [hb] at CB
    have K := Lib.hid CB
    clear CB hb
    go_enter Try.func4, Try.ntmps4
    go_wp2_with fail
    refine K.out.mono ?_
    rintro e w1 ⟨rfl, rfl⟩
    go_wp2_with fail
    refine (nodes_calls _).mono ?_
    rintro e w1 ⟨rfl, hB1⟩
    go_wp2_with fail
    go_ret
    exact ⟨rfl, below2 BB0.out hB1⟩
  | false =>
    rw [hb] at CB
    have K := Lib.hid CB
    have hl := small_facts hb
    clear CB hb
    obtain ⟨W1, hW1, hP1, hB1⟩ : ∃ W1, W0.alloc (.cells #[.string ⟨p.toArray⟩, .int .i64 m, .string ⟨s.toArray⟩] 26) = W1 ∧ Prs W1 (.slice (some ⟨W0.heap.size, 0, none⟩) 1 1) [((p, m), s)] ∧ Below W0.heap.size W0 W1 := ⟨_, rfl, prs_lit W0 [((p, m), s)] _, below_alloc _ _⟩
    have CB2 := big_calls _ _ _ hP1 (by simp)
    have HS1 := Lib.hid (HS.out.below hB1)
    have HX1 := Lib.hid (HX.out.below hB1)
    have BB1 := Lib.hid (below2 BB0.out hB1)
    clear hP1 hB1
    cases hb2 : bigP [((p, m), s)] with
    | true =>
      rw [hb2] at CB2
      have K2 := Lib.hid CB2
      clear CB2 hb2
      go_enter Try.func4, Try.ntmps4
      go_wp2_with fail
      refine K.out.mono ?_
      rintro e w1 ⟨rfl, rfl⟩
      go_wp2_with fail
      refine K2.out.mono ?_
      rintro e w1 ⟨rfl, rfl⟩
      go_wp2_with fail
      refine (nodes_calls _).mono ?_
      rintro e w1 ⟨rfl, hB1⟩
      go_wp2_with fail
      go_ret
      exact ⟨rfl, below2 BB1.out hB1⟩
    | false =>
      rw [hb2] at CB2
      have K2 := Lib.hid CB2
      clear CB2 hb2
      have CI := is_calls _ l _ HS1.out (by omega)
      cases hr : riseB l with
      | false =>
        rw [hr] at CI
        have KI := Lib.hid CI
        clear CI hr
        go_enter Try.func4, Try.ntmps4
        go_wp2_with fail
        refine K.out.mono ?_
        rintro e w1 ⟨rfl, rfl⟩
        go_wp2_with fail
        refine K2.out.mono ?_
        rintro e w1 ⟨rfl, rfl⟩
        go_wp2_with fail
        refine KI.out.mono ?_
        rintro e w1 ⟨rfl, hB1⟩
        go_wp2_with fail
        refine (nodes_calls _).mono ?_
        rintro e w2 ⟨rfl, hB2⟩
        go_wp2_with fail
        go_ret
        exact ⟨rfl, below3 BB1.out hB1 hB2⟩
      | true =>
        rw [hr] at CI
        have KI := Lib.hid CI
        obtain ⟨f1, f2, f3, f4, f5, f6⟩ := puts_facts hr ((p, m), s)
        obtain ⟨U, hU⟩ : ∃ U, putL l ((p, m), s) = U := ⟨_, rfl⟩
        rw [hU] at f1 f2 f3 f4 f5 f6
        dsimp only at f1 f2 f3 f4 f5 f6
        obtain ⟨nu, hnu⟩ : ∃ n, U.length = n := ⟨_, rfl⟩
        obtain ⟨n1, hn1⟩ : ∃ n, placeN U (p, m) = n := ⟨_, rfl⟩
        rw [hn1, hnu] at f3
        rw [hn1] at f4
        rw [hnu] at f5
        obtain ⟨was, hwas⟩ : ∃ b, hereB l (p, m) = b := ⟨_, rfl⟩
        rw [hwas] at f5
        have hnl : nu ≤ l.length + 1 := by rw [f5]; split <;> omega
        have hbeq : ((nu : Int) == (l.length : Int)) = was ∧ (nu == l.length) = was ∧ decide (nu = l.length) = was := by
          cases was with
          | true =>
            rw [if_pos rfl] at f5
            subst f5
            simp
          | false =>
            rw [if_neg (by simp)] at f5
            refine ⟨?_, ?_, ?_⟩
            · rw [beq_eq_false_iff_ne]; omega
            · rw [beq_eq_false_iff_ne]; omega
            · rw [decide_eq_false_iff_not]; omega
        have HF := Lib.hid (And.intro hU (And.intro f1 (And.intro f2 (And.intro hn1 (And.intro f4 (And.intro hnu (And.intro hwas f6)))))))
        have HBQ := Lib.hid hbeq
        clear CI hr f1 f2 f4 f5 f6 hU hn1 hnu hwas hbeq
        go_enter Try.func4, Try.ntmps4
        go_wp2_with fail
        refine K.out.mono ?_
        rintro e w1 ⟨rfl, rfl⟩
        go_wp2_with fail
        refine K2.out.mono ?_
        rintro e w1 ⟨rfl, rfl⟩
        go_wp2_with fail
        refine KI.out.mono ?_
        rintro e w2 ⟨rfl, hB2⟩
        have HS2 := Lib.hid (HS1.out.below hB2)
        have HX2 := Lib.hid (HX1.out.below hB2)
        have BB2 := Lib.hid (below2 BB1.out hB2)
        obtain ⟨y0, y1, y2, _, _, _, yl⟩ := HX2.out.three
        clear hB2 x0 x1 x2 xl hW0 hW1
        go_wp2_with fail
        refine (find_calls _ l p m _ HS2.out (by omega)).mono ?_
        rintro e w3 ⟨rfl, hB3⟩
        rw [HF.out.2.2.2.2.2.2.1]
        obtain ⟨n0, hn0⟩ : ∃ n, placeN l (p, m) = n := ⟨_, rfl⟩
        rw [hn0]
        have HS3 := Lib.hid (HS2.out.below hB3)
        have HX3 := Lib.hid (HX2.out.below hB3)
        have BB3 := Lib.hid (below2 BB2.out hB3)
        obtain ⟨x0, x1, x2, _, _, _, xl⟩ := HX3.out.three
        clear hn0 hB3 y0 y1 y2 yl
        go_wp2_with fail
        refine (putN_calls _ l p m s _ HS3.out (by omega)).mono ?_
        rintro e w4 ⟨au, nu', cu, rfl, hou, hB4⟩
        rw [HF.out.1] at hou
        have hnu := hou.prs.len
        rw [HF.out.2.2.2.2.2.1] at hnu
        obtain rfl := hnu
        have HS4 := Lib.hid (HS3.out.below hB4)
        have HX4 := Lib.hid (HX3.out.below hB4)
        have BB4 := Lib.hid (below2 BB3.out hB4)
        have HU4 := Lib.hid hou.prs
        obtain ⟨y0, y1, y2, _, _, _, yl⟩ := HX4.out.three
        clear hou hB4 x0 x1 x2 xl
        go_wp2_with fail
        refine (find_calls _ U p m _ HU4.out (by rw [HF.out.2.2.2.2.2.1]; omega)).mono ?_
        rintro e w5 ⟨rfl, hB5⟩
        rw [HF.out.2.2.1, HF.out.2.2.2.1]
        have HS5 := Lib.hid (HS4.out.below hB5)
        have HX5 := Lib.hid (HX4.out.below hB5)
        have BB5 := Lib.hid (below2 BB4.out hB5)
        have HU5 := Lib.hid (HU4.out.below hB5)
        obtain ⟨x0, x1, x2, _, _, _, xl⟩ := HX5.out.three
        obtain ⟨b, off, rfl, c0, c1, c2⟩ := HU5.out.at (k := n1) (by rw [HF.out.2.2.2.2.2.1]; exact f3)
        have hx : U[n1]'(by rw [HF.out.2.2.2.2.2.1]; exact f3) = ((p, m), s) := by
          have := HF.out.2.2.2.2.1
          rw [List.getElem?_eq_getElem (by rw [HF.out.2.2.2.2.2.1]; exact f3)] at this
          exact Option.some.inj this
        rw [hx] at c0 c1 c2
        dsimp only at c0 c1 c2
        have KI5 := Lib.hid (fun (W : World) (h : Prs W (.slice (some ⟨b, off, none⟩) nu cu) U) => is_calls _ U W h (by rw [HF.out.2.2.2.2.2.1]; omega))
        rw [HF.out.2.1] at KI5
        clear hB5 y0 y1 y2 yl hx
        have hlt1 : decide ((n1 : Int) < 0) = false := by rw [decide_eq_false_iff_not]; omega
        have hlt2 : decide (nu ≤ n1) = false := by rw [decide_eq_false_iff_not]; omega
        obtain ⟨hbq1, hbq2, hbq3⟩ := HBQ.out
        go_wp2_with fail
        go_region_held3 (fun w' => w'.cell? ⟨b, off + n1 * 3, none⟩ = some (.string ⟨p.toArray⟩) ∧ w'.cell? ⟨b, off + n1 * 3 + 1, none⟩ = some (.int .i64 m) ∧ w'.cell? ⟨b, off + n1 * 3 + 2, none⟩ = some (.string ⟨s.toArray⟩) ∧ w'.cell? ⟨w.heap.size, 0, none⟩ = some (.string ⟨p.toArray⟩) ∧ w'.cell? ⟨w.heap.size, 1, none⟩ = some (.int .i64 m) ∧ w'.cell? ⟨w.heap.size, 2, none⟩ = some (.string ⟨s.toArray⟩)) (first | exact ⟨c0, c1, c2, x0, x1, x2⟩ | exact ⟨look_below hB6 c0, look_below hB6 c1, look_below hB6 c2, look_below hB6 x0, look_below hB6 x1, look_below hB6 x2⟩) (first | (go_at_call 21; refine (KI5.out _ (HU5.out.below (drew_below _))).mono ?_; rintro e w6 ⟨rfl, hB6'⟩; have hB6 := below2 (drew_below _) hB6'))
        all_goals
          have HS6 := Lib.hid (HS5.out.below hB6)
          have HX6 := Lib.hid (HX5.out.below hB6)
          have BB6 := Lib.hid (below2 BB5.out hB6)
          have HU6 := Lib.hid (HU5.out.below hB6)
          have CF := Lib.hid (fun (q : List UInt8) (z : Int) (W : World) (h : Prs W (.slice (some ⟨b, off, none⟩) nu cu) U) => find_calls _ U q z W h (by rw [HF.out.2.2.2.2.2.1]; omega))
          clear hB6 hB6' c0 c1 c2 x0 x1 x2 xl hlt1 hlt2 hbq1 hbq2 hbq3
          go_wp2_with fail
          go_loopw [10] (fun i wr => ∃ k : Nat, k ≤ l.length ∧ i = .int .i64 k ∧ Below w6.heap.size w6 wr) (fun i _ => l.length - (intOf i).toNat)
          case atStart => exact ⟨0, Nat.zero_le _, rfl, Below.refl _ _⟩
          case round =>
            obtain ⟨k, hk, rfl, hB⟩ := hrel
            by_cases hlt : k < l.length
            · obtain ⟨b1, o1, rfl, c0, c1, c2⟩ := (HS6.out.below hB).at hlt
              obtain ⟨⟨⟨q, z⟩, t⟩, hx⟩ : ∃ x, l[k] = x := ⟨_, rfl⟩
              have hf := HF.out.2.2.2.2.2.2.2 l[k] (List.getElem_mem hlt)
              rw [hx] at c0 c1 c2 hf
              dsimp only at c0 c1 c2 hf
              obtain ⟨g1, g2, g3⟩ := hf
              obtain ⟨j, hj⟩ : ∃ n, placeN U (q, z) = n := ⟨_, rfl⟩
              rw [hj, HF.out.2.2.2.2.2.1] at g2
              rw [hj] at g3
              have KF := CF.out q z wr (HU6.out.below hB)
              rw [hj, g1] at KF
              have KF := Lib.hid KF
              have HG := Lib.hid g3
              have hle2 : decide (nu ≤ j) = false := by rw [decide_eq_false_iff_not]; omega
              clear hx g1 g3 hj
              go_wp2_with fail
              refine KF.out.mono ?_
              rintro e w7 ⟨rfl, hB7⟩
              have hBB7 := below2 hB hB7
              obtain ⟨x0, x1, x2, _, _, _, xl⟩ := (HX6.out.below hBB7).three
              have d0 := look_below hB7 c0
              have d1 := look_below hB7 c1
              have d2 := look_below hB7 c2
              clear c0 c1 c2
              rcases key_cases q p z m with ⟨he, e1, e2⟩ | ⟨he, e1⟩ | ⟨he, e1, e2⟩
              · clear HG he
                go_wp2_with fail
                refine wp_region_held_drew (S := (fun w' => w'.cell? ⟨b1, o1 + k * 3, none⟩ = some (.string ⟨q.toArray⟩) ∧ w'.cell? ⟨b1, o1 + k * 3 + 1, none⟩ = some (.int .i64 z) ∧ w'.cell? ⟨w.heap.size, 0, none⟩ = some (.string ⟨p.toArray⟩) ∧ w'.cell? ⟨w.heap.size, 1, none⟩ = some (.int .i64 m))) (by kernel_rfl) (⟨d0, d1, x0, x1⟩) (fun hHeld => ?_)
                refine wpAnyH_take (i := 0) (oi := ⟨_, _, _, _, _, _⟩) (v := ?_) rfl (by kernel_rfl) (by kernel_rfl) (by kernel_rfl) (fun _ _ _ h => h) (Or.inl ⟨by rfl, ?_⟩) hHeld ?_
                rotate_left
                · (intro w hSw; (try dsimp only at hSw); go_simp; try with_reducible rfl)
                try simp only [Act.put, List.setIfInBounds_toArray, List.set_cons_zero, List.set_cons_succ]
                refine wpAnyH_take (i := 1) (oi := ⟨_, _, _, _, _, _⟩) (v := ?_) rfl (by kernel_rfl) (by kernel_rfl) (by kernel_rfl) (fun _ _ _ h => h) (Or.inl ⟨by rfl, ?_⟩) hHeld ?_
                rotate_left
                · (intro w hSw; (try dsimp only at hSw); go_simp; try with_reducible rfl)
                try simp only [Act.put, List.setIfInBounds_toArray, List.set_cons_zero, List.set_cons_succ]
                refine wpAnyH_take (i := 2) (oi := ⟨_, _, _, _, _, _⟩) (v := ?_) rfl (by kernel_rfl) (by kernel_rfl) (by kernel_rfl) (fun _ _ _ h => h) (Or.inl ⟨by rfl, ?_⟩) hHeld ?_
                rotate_left
                · (intro w hSw; (try dsimp only at hSw); go_simp; try with_reducible rfl)
                try simp only [Act.put, List.setIfInBounds_toArray, List.set_cons_zero, List.set_cons_succ]
                refine wpAnyH_take (i := 3) (oi := ⟨_, _, _, _, _, _⟩) (v := ?_) rfl (by kernel_rfl) (by kernel_rfl) (by kernel_rfl) (fun _ _ _ h => h) (Or.inl ⟨by rfl, ?_⟩) hHeld ?_
                rotate_left
                · (intro w hSw; (try dsimp only at hSw); go_simp; try with_reducible rfl)
                try simp only [Act.put, List.setIfInBounds_toArray, List.set_cons_zero, List.set_cons_succ]
                refine wpAnyH_take (i := 4) (oi := ⟨_, _, _, _, _, _⟩) (v := ?_) rfl (by kernel_rfl) (by kernel_rfl) (by kernel_rfl) (fun _ _ _ h => h) (Or.inl ⟨by rfl, ?_⟩) hHeld ?_
                rotate_left
                · (intro w hSw; (try dsimp only at hSw); go_simp; try with_reducible rfl)
                try simp only [Act.put, List.setIfInBounds_toArray, List.set_cons_zero, List.set_cons_succ]
                refine wpAnyH_take (i := 5) (oi := ⟨_, _, _, _, _, _⟩) (v := ?_) rfl (by kernel_rfl) (by kernel_rfl) (by kernel_rfl) (fun _ _ _ h => h) (Or.inl ⟨by rfl, ?_⟩) hHeld ?_
                rotate_left
                · (intro w hSw; (try dsimp only at hSw); go_simp; try with_reducible rfl)
                try simp only [Act.put, List.setIfInBounds_toArray, List.set_cons_zero, List.set_cons_succ]
                refine wpAnyH_take (i := 6) (oi := ⟨_, _, _, _, _, _⟩) (v := ?_) rfl (by kernel_rfl) (by kernel_rfl) (by kernel_rfl) (fun _ _ _ h => h) (Or.inl ⟨by rfl, ?_⟩) hHeld ?_
                rotate_left
                · (intro w hSw; (try dsimp only at hSw); go_simp; try with_reducible rfl)
                try simp only [Act.put, List.setIfInBounds_toArray, List.set_cons_zero, List.set_cons_succ]
                refine wpAnyH_take (i := 7) (oi := ⟨_, _, _, _, _, _⟩) (v := ?_) rfl (by kernel_rfl) (by kernel_rfl) (by kernel_rfl) (fun _ _ _ h => h) (Or.inl ⟨by rfl, ?_⟩) hHeld ?_
                rotate_left
                · (intro w hSw; (try dsimp only at hSw); go_simp; try with_reducible rfl)
                try simp only [Act.put, List.setIfInBounds_toArray, List.set_cons_zero, List.set_cons_succ]
                refine wpAnyH_take (i := 8) (oi := ⟨_, _, _, _, _, _⟩) (v := ?_) rfl (by kernel_rfl) (by kernel_rfl) (by kernel_rfl) (fun _ _ _ h => h) (Or.inl ⟨by rfl, ?_⟩) hHeld ?_
                rotate_left
                · (intro w hSw; (try dsimp only at hSw); go_simp; try with_reducible rfl)
                try simp only [Act.put, List.setIfInBounds_toArray, List.set_cons_zero, List.set_cons_succ]
                refine wpAnyH_take (i := 9) (oi := ⟨_, _, _, _, _, _⟩) (v := ?_) rfl (by kernel_rfl) (by kernel_rfl) (by kernel_rfl) (fun _ _ _ h => h) (Or.inl ⟨by rfl, ?_⟩) hHeld ?_
                rotate_left
                · (intro w hSw; (try dsimp only at hSw); go_simp; try with_reducible rfl)
                try simp only [Act.put, List.setIfInBounds_toArray, List.set_cons_zero, List.set_cons_succ]
                refine wpAnyH_take (i := 10) (oi := ⟨_, _, _, _, _, _⟩) (v := ?_) rfl (by kernel_rfl) (by kernel_rfl) (by kernel_rfl) (fun _ _ _ h => h) (Or.inl ⟨by rfl, ?_⟩) hHeld ?_
                rotate_left
                · (intro w hSw; (try dsimp only at hSw); go_simp; try with_reducible rfl)
                try simp only [Act.put, List.setIfInBounds_toArray, List.set_cons_zero, List.set_cons_succ]
                refine wpAnyH_take (i := 11) (oi := ⟨_, _, _, _, _, _⟩) (v := ?_) rfl (by kernel_rfl) (by kernel_rfl) (by kernel_rfl) (fun _ _ _ h => h) (Or.inl ⟨by rfl, ?_⟩) hHeld ?_
                rotate_left
                · (intro w hSw; (try dsimp only at hSw); go_simp; try with_reducible rfl)
                try simp only [Act.put, List.setIfInBounds_toArray, List.set_cons_zero, List.set_cons_succ]
                refine wpAnyH_take (i := 12) (oi := ⟨_, _, _, _, _, _⟩) (v := ?_) rfl (by kernel_rfl) (by kernel_rfl) (by kernel_rfl) (fun _ _ _ h => h) (Or.inl ⟨by rfl, ?_⟩) hHeld ?_
                rotate_left
                · (intro w hSw; (try dsimp only at hSw); go_simp; try with_reducible rfl)
                try simp only [Act.put, List.setIfInBounds_toArray, List.set_cons_zero, List.set_cons_succ]
                refine wpAnyH_take (i := 13) (oi := ⟨_, _, _, _, _, _⟩) (v := ?_) rfl (by kernel_rfl) (by kernel_rfl) (by kernel_rfl) (fun _ _ _ h => h) (Or.inl ⟨by rfl, ?_⟩) hHeld ?_
                rotate_left
                · (intro w hSw; (try dsimp only at hSw); go_simp; try with_reducible rfl)
                try simp only [Act.put, List.setIfInBounds_toArray, List.set_cons_zero, List.set_cons_succ]
                refine wpAnyH_take (i := 14) (oi := ⟨_, _, _, _, _, _⟩) (v := ?_) rfl (by kernel_rfl) (by kernel_rfl) (by kernel_rfl) (fun _ _ _ h => h) (Or.inl ⟨by rfl, ?_⟩) hHeld ?_
                rotate_left
                · (intro w hSw; (try dsimp only at hSw); go_simp; try with_reducible rfl)
                try simp only [Act.put, List.setIfInBounds_toArray, List.set_cons_zero, List.set_cons_succ]
                refine wpAnyH_take (i := 15) (oi := ⟨_, _, _, _, _, _⟩) (v := ?_) rfl (by kernel_rfl) (by kernel_rfl) (by kernel_rfl) (fun _ _ _ h => h) (Or.inl ⟨by rfl, ?_⟩) hHeld ?_
                rotate_left
                · (intro w hSw; (try dsimp only at hSw); go_simp; try with_reducible rfl)
                try simp only [Act.put, List.setIfInBounds_toArray, List.set_cons_zero, List.set_cons_succ]
                refine wpAnyH_take (i := 16) (oi := ⟨_, _, _, _, _, _⟩) (v := ?_) rfl (by kernel_rfl) (by kernel_rfl) (by kernel_rfl) (fun _ _ _ h => h) (Or.inl ⟨by rfl, ?_⟩) hHeld ?_
                rotate_left
                · (intro w hSw; (try dsimp only at hSw); go_simp; try with_reducible rfl)
                try simp only [Act.put, List.setIfInBounds_toArray, List.set_cons_zero, List.set_cons_succ]
                refine wpAnyH_take (i := 17) (oi := ⟨_, _, _, _, _, _⟩) (v := ?_) rfl (by kernel_rfl) (by kernel_rfl) (by kernel_rfl) (fun _ _ _ h => h) (Or.inl ⟨by rfl, ?_⟩) hHeld ?_
                rotate_left
                · (intro w hSw; (try dsimp only at hSw); go_simp; try with_reducible rfl)
                try simp only [Act.put, List.setIfInBounds_toArray, List.set_cons_zero, List.set_cons_succ]
                refine wpAnyH_take (i := 18) (oi := ⟨_, _, _, _, _, _⟩) (v := undef) rfl (by kernel_rfl) (by kernel_rfl) (by kernel_rfl) (fun _ _ _ h => h) (Or.inr ⟨by rfl, rfl⟩) hHeld ?_
                try simp only [Act.put, List.setIfInBounds_toArray, List.set_cons_zero, List.set_cons_succ]
                refine wpAnyH_take (i := 19) (oi := ⟨_, _, _, _, _, _⟩) (v := undef) rfl (by kernel_rfl) (by kernel_rfl) (by kernel_rfl) (fun _ _ _ h => h) (Or.inr ⟨by rfl, rfl⟩) hHeld ?_
                try simp only [Act.put, List.setIfInBounds_toArray, List.set_cons_zero, List.set_cons_succ]
                refine wpAnyH_take (i := 20) (oi := ⟨_, _, _, _, _, _⟩) (v := undef) rfl (by kernel_rfl) (by kernel_rfl) (by kernel_rfl) (fun _ _ _ h => h) (Or.inr ⟨by rfl, rfl⟩) hHeld ?_
                try simp only [Act.put, List.setIfInBounds_toArray, List.set_cons_zero, List.set_cons_succ]
                refine wpAnyH_take (i := 21) (oi := ⟨_, _, _, _, _, _⟩) (v := undef) rfl (by kernel_rfl) (by kernel_rfl) (by kernel_rfl) (fun _ _ _ h => h) (Or.inr ⟨by rfl, rfl⟩) hHeld ?_
                try simp only [Act.put, List.setIfInBounds_toArray, List.set_cons_zero, List.set_cons_succ]
                refine wpAnyH_take (i := 22) (oi := ⟨_, _, _, _, _, _⟩) (v := undef) rfl (by kernel_rfl) (by kernel_rfl) (by kernel_rfl) (fun _ _ _ h => h) (Or.inr ⟨by rfl, rfl⟩) hHeld ?_
                try simp only [Act.put, List.setIfInBounds_toArray, List.set_cons_zero, List.set_cons_succ]
                refine wpAnyH_take (i := 23) (oi := ⟨_, _, _, _, _, _⟩) (v := undef) rfl (by kernel_rfl) (by kernel_rfl) (by kernel_rfl) (fun _ _ _ h => h) (Or.inr ⟨by rfl, rfl⟩) hHeld ?_
                try simp only [Act.put, List.setIfInBounds_toArray, List.set_cons_zero, List.set_cons_succ]
                refine wpAnyH_take (i := 24) (oi := ⟨_, _, _, _, _, _⟩) (v := undef) rfl (by kernel_rfl) (by kernel_rfl) (by kernel_rfl) (fun _ _ _ h => h) (Or.inr ⟨by rfl, rfl⟩) hHeld ?_
                try simp only [Act.put, List.setIfInBounds_toArray, List.set_cons_zero, List.set_cons_succ]
                refine wpAnyH_take (i := 25) (oi := ⟨_, _, _, _, _, _⟩) (v := undef) rfl (by kernel_rfl) (by kernel_rfl) (by kernel_rfl) (fun _ _ _ h => h) (Or.inr ⟨by rfl, rfl⟩) hHeld ?_
                try simp only [Act.put, List.setIfInBounds_toArray, List.set_cons_zero, List.set_cons_succ]
                refine wpAnyH_take (i := 26) (oi := ⟨_, _, _, _, _, _⟩) (v := undef) rfl (by kernel_rfl) (by kernel_rfl) (by kernel_rfl) (fun _ _ _ h => h) (Or.inr ⟨by rfl, rfl⟩) hHeld ?_
                try simp only [Act.put, List.setIfInBounds_toArray, List.set_cons_zero, List.set_cons_succ]
                refine wpAnyH_take (i := 27) (oi := ⟨_, _, _, _, _, _⟩) (v := ?_) rfl (by kernel_rfl) (by kernel_rfl) (by kernel_rfl) (fun _ _ _ h => h) (Or.inl ⟨by rfl, ?_⟩) hHeld ?_
                rotate_left
                · (intro w hSw; (try dsimp only at hSw); go_simp; try with_reducible rfl)
                try simp only [Act.put, List.setIfInBounds_toArray, List.set_cons_zero, List.set_cons_succ]
                refine wpAnyH_take (i := 28) (oi := ⟨_, _, _, _, _, _⟩) (v := ?_) rfl (by kernel_rfl) (by kernel_rfl) (by kernel_rfl) (fun _ _ _ h => h) (Or.inl ⟨by rfl, ?_⟩) hHeld ?_
                rotate_left
                · (intro w hSw; (try dsimp only at hSw); go_simp; try with_reducible rfl)
                try simp only [Act.put, List.setIfInBounds_toArray, List.set_cons_zero, List.set_cons_succ]
                refine wpAnyH_done (by kernel_rfl) ?_ _
                clear hle2
                go_wp2_with fail
                go_roundw
                case rel => exact ⟨k + 1, by omega, by go_num, below2 hBB7 (drew_below _)⟩
                case measure => simp [intOf]; omega
              all_goals
                have hu := HG.out.resolve_left (by rw [decide_eq_false_iff_not] at he; exact he)
                obtain ⟨b2, o2, e3, a0, a1, a2⟩ := (HU6.out.below hBB7).at (k := j) (by rw [HF.out.2.2.2.2.2.1]; exact g2)
                cases e3
                have hu2 : U[j]'(by rw [HF.out.2.2.2.2.2.1]; exact g2) = ((q, z), t) := by
                  rw [List.getElem?_eq_getElem (by rw [HF.out.2.2.2.2.2.1]; exact g2)] at hu
                  exact Option.some.inj hu
                rw [hu2] at a0 a1 a2
                dsimp only at a0 a1 a2
                clear HG he hu hu2
                go_wp2_with fail
                go_region_held3 (fun w' => w'.cell? ⟨b1, o1 + k * 3, none⟩ = some (.string ⟨q.toArray⟩) ∧ w'.cell? ⟨b1, o1 + k * 3 + 1, none⟩ = some (.int .i64 z) ∧ w'.cell? ⟨b1, o1 + k * 3 + 2, none⟩ = some (.string ⟨t.toArray⟩) ∧ w'.cell? ⟨w.heap.size, 0, none⟩ = some (.string ⟨p.toArray⟩) ∧ w'.cell? ⟨w.heap.size, 1, none⟩ = some (.int .i64 m) ∧ w'.cell? ⟨b, off + j * 3, none⟩ = some (.string ⟨q.toArray⟩) ∧ w'.cell? ⟨b, off + j * 3 + 1, none⟩ = some (.int .i64 z) ∧ w'.cell? ⟨b, off + j * 3 + 2, none⟩ = some (.string ⟨t.toArray⟩)) (first | exact ⟨d0, d1, d2, x0, x1, a0, a1, a2⟩) (first | fail)
                all_goals
                  clear hle2
                  go_wp2_with fail
                  go_roundw
                  case rel => exact ⟨k + 1, by omega, by go_num, below2 hBB7 (drew_below _)⟩
                  case measure => simp [intOf]; omega
            · obtain rfl : k = l.length := by omega
              have hd : decide ((nu : Int) ≤ (l.length : Int) + 1) = true := by rw [decide_eq_true_iff]; omega
              go_wp2_with fail
              refine (nodes_calls _).mono ?_
              rintro e w8 ⟨rfl, hB8⟩
              go_wp2_with fail
              go_ret
              exact ⟨rfl, below3 BB6.out hB hB8⟩

end Go.Proofs.Ytjfhhddiinpbpaa
