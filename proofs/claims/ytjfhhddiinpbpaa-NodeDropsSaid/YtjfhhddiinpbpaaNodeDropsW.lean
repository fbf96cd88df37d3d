/-
  The walk of NodeDrops.
-/
import Derived.Test.YtjfhhddiinpbpaaNdNodes
namespace Go.Proofs.Ytjfhhddiinpbpaa
open Go.RowKit

set_option maxRecDepth 100000 in
set_option maxHeartbeats 16000000 in
theorem nodeDrops_walk (v : Value) (l : List Pr) (at' : Int) (w : World) (hs : Prs w v l) (hk : l.length ≤ maxLen) (_ : (Lit.int .i64 at').wf = true) :
    Calls Try.prog 5 #[v, .int .i64 at'] w fun e w' => e = .returned (.bool true) ∧ Below w.heap.size w w' := by
  obtain ⟨ao, cap, rfl⟩ := hs.form
  have hk' : l.length ≤ 9223372036854775807 := by unfold maxLen at hk; exact hk
  have CB := big_calls _ l w hs hk'
  have HS := Lib.hid hs
  clear hk hk' hs
  cases hb : bigP l with
  | true =>
    rw [hb] at CB
    have K := Lib.hid CB
    clear CB hb
    go_enter Try.func5, Try.ntmps5
    go_wp2_with fail
    refine K.out.mono ?_
    rintro e w1 ⟨rfl, rfl⟩
    go_wp2_with fail
    refine (nodes_calls _).mono ?_
    rintro e w1 ⟨rfl, hB1⟩
    go_wp2_with fail
    go_ret
    exact ⟨rfl, hB1⟩
  | false =>
    rw [hb] at CB
    have K := Lib.hid CB
    have hl := small_facts hb
    clear CB hb
    have CI := is_calls _ l w HS.out (by omega)
    cases hr : riseB l with
    | false =>
      rw [hr] at CI
      have KI := Lib.hid CI
      clear CI hr
      go_enter Try.func5, Try.ntmps5
      go_wp2_with fail
      refine K.out.mono ?_
      rintro e w1 ⟨rfl, rfl⟩
      go_wp2_with fail
      refine KI.out.mono ?_
      rintro e w1 ⟨rfl, hB1⟩
      go_wp2_with fail
      refine (nodes_calls _).mono ?_
      rintro e w2 ⟨rfl, hB2⟩
      go_wp2_with fail
      go_ret
      exact ⟨rfl, below2 hB1 hB2⟩
    | true =>
      rw [hr] at CI
      have KI := Lib.hid CI
      have HR := Lib.hid hr
      clear CI hr
      by_cases h1 : 0 ≤ at' ∧ at' < l.length
      · obtain ⟨i, rfl⟩ : ∃ i : Nat, at' = i := ⟨at'.toNat, by omega⟩
        have hi : i < l.length := by omega
        obtain ⟨f1, f2, f3, f4, f5⟩ := drops_facts HR.out hi
        obtain ⟨⟨⟨p, m⟩, s⟩, hx⟩ : ∃ x, l[i] = x := ⟨_, rfl⟩
        rw [hx] at f1 f2 f3 f4 f5
        dsimp only at f1 f2 f3 f4 f5
        obtain ⟨D, hD⟩ : ∃ D, dropL l (p, m) = D := ⟨_, rfl⟩
        rw [hD] at f1 f2 f3 f4 f5
        obtain ⟨d, hd⟩ : ∃ d, D.length = d := ⟨_, rfl⟩
        rw [hd] at f3
        have HF := Lib.hid (And.intro hD (And.intro f1 (And.intro f2 (And.intro f4 (And.intro f5 (And.intro hx hd))))))
        clear f1 f2 f4 f5 hx hD h1 hd
        go_enter Try.func5, Try.ntmps5
        go_wp2_with fail
        refine K.out.mono ?_
        rintro e w1 ⟨rfl, rfl⟩
        go_wp2_with fail
        refine KI.out.mono ?_
        rintro e w1 ⟨rfl, hB1⟩
        have HS1 := Lib.hid (HS.out.below hB1)
        obtain ⟨b, off, rfl, c0, c1, c2⟩ := HS1.out.at hi
        rw [HF.out.2.2.2.2.2.1] at c0 c1 c2
        dsimp only at c0 c1 c2
        go_wp2_with fail
        refine (drop_calls _ l p m _ HS1.out (by omega)).mono ?_
        rintro e w2 ⟨ad, nd, cd, rfl, hod, hB2⟩
        rw [HF.out.1] at hod
        have hnd := hod.prs.len
        rw [HF.out.2.2.2.2.2.2] at hnd
        obtain rfl := hnd
        have HD2 := Lib.hid hod.prs
        have BB2 := Lib.hid (below2 hB1 hB2)
        have d0 := look_below hB2 c0
        have d1 := look_below hB2 c1
        have d2 := look_below hB2 c2
        clear hod c0 c1 c2 hB1 hB2
        go_wp2_with fail
        refine (find_calls _ D p m _ HD2.out (by rw [HF.out.2.2.2.2.2.2]; omega)).mono ?_
        rintro e w3 ⟨rfl, hB3⟩
        rw [HF.out.2.2.1]
        obtain ⟨n3, hn3⟩ : ∃ n, placeN D (p, m) = n := ⟨_, rfl⟩
        rw [hn3]
        clear hn3
        have e0 := look_below hB3 d0
        have e1 := look_below hB3 d1
        have e2 := look_below hB3 d2
        have HD3 := Lib.hid (HD2.out.below hB3)
        have BB3 := Lib.hid (below2 BB2.out hB3)
        clear d0 d1 d2 hB3
        go_wp2_with fail
        refine (nodes_calls _).mono ?_
        rintro e w4 ⟨rfl, hB4⟩
        have d0 := look_below hB4 e0
        have d1 := look_below hB4 e1
        have d2 := look_below hB4 e2
        have HD4 := Lib.hid (HD3.out.below hB4)
        have BB4 := Lib.hid (below2 BB3.out hB4)
        clear e0 e1 e2 hB4
        go_wp2_with fail
        refine (is_calls _ D _ HD4.out (by rw [HF.out.2.2.2.2.2.2]; omega)).mono ?_
        rintro e w5 ⟨rfl, hB5⟩
        rw [HF.out.2.1]
        have e0 := look_below hB5 d0
        have e1 := look_below hB5 d1
        have e2 := look_below hB5 d2
        have HD5 := Lib.hid (HD4.out.below hB5)
        have BB5 := Lib.hid (below2 BB4.out hB5)
        clear d0 d1 d2 hB5
        have hsum : ((d : Int) + 1 == (l.length : Int)) = true := by rw [beq_iff_eq]; omega
        go_wp2_with fail
        refine (putN_calls _ D p m s _ HD5.out (by rw [HF.out.2.2.2.2.2.2]; omega)).mono ?_
        rintro e w6 ⟨ap, np, cp, rfl, hop, hB6⟩
        rw [HF.out.2.2.2.1] at hop
        have d0 := look_below hB6 e0
        have d1 := look_below hB6 e1
        have d2 := look_below hB6 e2
        have HD6 := Lib.hid (HD5.out.below hB6)
        have BB6 := Lib.hid (below2 BB5.out hB6)
        have HP6 := Lib.hid hop.prs
        have HS6 := Lib.hid (HS.out.below BB6.out)
        clear e0 e1 e2 hB6 hop
        go_wp2_with fail
        refine (KSame HP6.out HS6.out (by omega)).mono ?_
        rintro e w7 ⟨rfl, hB7⟩
        have e0 := look_below hB7 d0
        have e1 := look_below hB7 d1
        have e2 := look_below hB7 d2
        have HD7 := Lib.hid (HD6.out.below hB7)
        have BB7 := Lib.hid (below2 BB6.out hB7)
        clear d0 d1 d2 hB7
        go_wp2_with fail
        refine (drop_calls _ D p m _ HD7.out (by rw [HF.out.2.2.2.2.2.2]; omega)).mono ?_
        rintro e w8 ⟨aq, nq, cq, rfl, hoq, hB8⟩
        rw [HF.out.2.2.2.2.1] at hoq
        have HD8 := Lib.hid (HD7.out.below hB8)
        have BB8 := Lib.hid (below2 BB7.out hB8)
        have HQ8 := Lib.hid hoq.prs
        clear e0 e1 e2 hB8 hoq
        go_wp2_with fail
        refine (KSame HQ8.out HD8.out (by rw [HF.out.2.2.2.2.2.2]; omega)).mono ?_
        rintro e w9 ⟨rfl, hB9⟩
        go_wp2_with fail
        go_ret
        exact ⟨rfl, below2 BB8.out hB9⟩
      · have h2 : at' < 0 ∨ (0 ≤ at' ∧ (l.length : Int) ≤ at') := by omega
        rcases h2 with h2 | ⟨h2, h3⟩
        all_goals
          clear h1
          go_enter Try.func5, Try.ntmps5
          go_wp2_with fail
          refine K.out.mono ?_
          rintro e w1 ⟨rfl, rfl⟩
          go_wp2_with fail
          refine KI.out.mono ?_
          rintro e w1 ⟨rfl, hB1⟩
          go_wp2_with fail
          refine (nodes_calls _).mono ?_
          rintro e w2 ⟨rfl, hB2⟩
          go_wp2_with fail
          go_ret
          exact ⟨rfl, below2 hB1 hB2⟩

end Go.Proofs.Ytjfhhddiinpbpaa
