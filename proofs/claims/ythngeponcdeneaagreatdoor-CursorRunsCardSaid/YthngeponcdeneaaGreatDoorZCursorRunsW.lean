/-
  The walk of CursorRuns.
-/
import Derived.Test.YthngeponcdeneaaGreatDoorPks11
namespace Go.Proofs.YthngeponcdeneaaGreatDoor
set_option maxRecDepth 100000
open Go.RowKit

/-- Two cursors, at one place. -/
def Pair2 (wf w : World) (g gm base : Nat) (uv : Value) (U : List Pr) (j : Nat) : Prop := Cur wf w g U j ∧ RCur w gm base uv U j
theorem Pair2.below {wf w w' : World} {g gm base : Nat} {uv : Value} {U : List Pr} {j : Nat} (h : Pair2 wf w g gm base uv U j) (hb : Below w.heap.size w w') : Pair2 wf w' g gm base uv U j := ⟨h.1.below hb, h.2.below hb⟩

set_option maxHeartbeats 16000000 in
theorem cursorRuns_walk (v : Value) (l : List Pr) (d : List UInt8) (sv : Value) (s : List Cst) (w : World) (hs : Prs w v l) (hk : l.length ≤ maxLen) (hti : TimesK l) (hd : d.length ≤ reachBytes) (hq : Csts w sv s) (hqm : s.length ≤ maxLen) (hml : Ml w) :
    Calls Tryz.prog 3 #[v, .string ⟨d.toArray⟩, sv] w fun e w' => e = .returned (.bool true) ∧ Below w.heap.size w w' := by
  obtain ⟨ao, cap, rfl⟩ := hs.form
  obtain ⟨ap, cp, rfl⟩ := hq.form
  have hk' : l.length ≤ 9223372036854775807 := by unfold maxLen at hk; exact hk
  have hqm' : s.length ≤ 9223372036854775807 := by unfold maxLen at hqm; exact hqm
  have hd' : d.length ≤ 9223372036854775807 := by unfold reachBytes at hd; omega
  have CB := cuFar_calls _ l d w hs hk' hd'
  have KW := Lib.hid (fun W (h : Ml W) => walked_calls W h)
  obtain ⟨sn, hsn⟩ : ∃ n, s.length = n := ⟨_, rfl⟩
  have HS := Lib.hid (And.intro hs (And.intro hq (And.intro hti hml)))
  rw [hsn] at HS hqm' ⊢
  have HSN := Lib.hid hsn
  clear hk hk' hd' hs hq hqm hti hml hsn
  cases hf : cuFarB l d with
  | true =>
    rw [hf] at CB
    have K := Lib.hid CB
    clear CB hf
    go_enter Tryz.func3, Tryz.ntmps3
    go_wp2_with fail
    refine K.out.mono ?_
    rintro e w1 ⟨rfl, rfl⟩
    go_wp2_with fail
    go_ret
    exact ⟨rfl, Below.refl _ _⟩
  | false =>
    rw [hf] at CB
    have K := Lib.hid CB
    obtain ⟨hg1, hg2, hg3, hg4⟩ := puts_good hf HS.out.2.2.1
    have hl8 := (cuFar_not hf).1
    clear CB
    by_cases hfar : 100 < sn
    · have hfi : decide ((100 : Int) < (sn : Int)) = true := by rw [decide_eq_true_eq]; omega
      go_enter Tryz.func3, Tryz.ntmps3
      go_wp2_with fail
      refine K.out.mono ?_
      rintro e w1 ⟨rfl, rfl⟩
      go_wp2_with fail
      go_ret
      exact ⟨rfl, Below.refl _ _⟩
    · have hfi : decide ((100 : Int) < (sn : Int)) = false := by rw [decide_eq_false_iff_not]; omega
      have KL := Lib.hid (laidT_calls _ l w HS.out.1 (by omega))
      have hrL := (puts_all l [] List.Pairwise.nil).1
      change Rises (putsL l) at hrL
      obtain ⟨L, hL⟩ : ∃ L, putsL l = L := ⟨_, rfl⟩
      rw [hL] at KL hg1 hg2 hg3 hrL
      have KA := Lib.hid (fun v W (ht : TreeV W v L) => all_calls v L W ht (by omega) hg1.timed)
      have KR := Lib.hid (fun v W (hp : Prs W v L) => refUnd_calls v L d W hp hg2 hg3 hg4)
      cases hi : isP d with
      | false =>
        have KN := Lib.hid (fun v W (ht : TreeV W v L) (hm : Ml W) => cNew_not v d W hg4 hm hi ht.val)
        have hue : underE d = 20 := by simp [underE, hi]
        rw [hue] at KR
        clear hL hg1 hg2 hg3 hg4 hf hl8 hi hue hrL
        go_enter Tryz.func3, Tryz.ntmps3
        go_wp2_with fail
        refine K.out.mono ?_
        rintro e w1 ⟨rfl, rfl⟩
        go_wp2_with fail
        refine KL.out.mono ?_
        rintro e w2 ⟨t, rfl, ht, hB2⟩
        obtain ⟨tp, rfl⟩ := ht.val
        have H2 := Lib.hid (And.intro ht (And.intro (HS.out.2.2.2.below hB2) hB2))
        clear ht hB2
        go_wp2_with fail
        refine (KN.out _ _ H2.out.1 H2.out.2.1).mono ?_
        rintro e w3 ⟨rfl, hB3⟩
        go_wp2_with fail
        refine (KA.out _ _ (H2.out.1.below hB3)).mono ?_
        rintro e w4 ⟨u4, rfl, ho4, hB4⟩
        obtain ⟨a4, n4, c4, rfl⟩ := ho4.prs.any
        have K5 := Lib.hid (KR.out _ _ ho4.prs)
        clear ho4
        go_wp2_with fail
        refine K5.out.mono ?_
        rintro e w5 ⟨a5, n5, c5, rfl, ho5, hB5⟩
        have H5 := Lib.hid (below2 hB3 (below2 hB4 hB5))
        clear ho5 K5 hB3 hB4 hB5
        go_wp2_with fail
        refine (KW.out _ (H2.out.2.1.below H5.out)).mono ?_
        rintro e w6 ⟨rfl, hB6⟩
        go_wp2_with fail
        go_ret
        exact ⟨rfl, below2 H2.out.2.2 (below2 H5.out hB6)⟩
      | true =>
        have KN := Lib.hid (fun v W (ht : TreeV W v L) (hm : Ml W) => cNew_calls v L d W ht hg1 hg2 hg3 hg4 hm hi)
        have hue : underE d = 0 ∧ underR L d = underL L d := by simp [underE, underR, hi]
        have hul := Nat.le_trans (underL_le L d) hg2
        have hrU : Rises (underL L d) := List.Pairwise.filter _ hrL
        have htU : TimesK (underL L d) := hg1.sub fun x hx => (List.mem_filter.1 hx).1
        rw [hue.1, hue.2] at KR
        obtain ⟨U, hU⟩ : ∃ U, underL L d = U := ⟨_, rfl⟩
        rw [hU] at KN KR hul hrU htU
        have HU := Lib.hid (And.intro hrU htU)
        clear hL hg1 hg2 hg3 hg4 hf hl8 hi hue hrL hU hrU htU
        go_enter Tryz.func3, Tryz.ntmps3
        go_wp2_with fail
        refine K.out.mono ?_
        rintro e w1 ⟨rfl, rfl⟩
        go_wp2_with fail
        refine KL.out.mono ?_
        rintro e w2 ⟨t, rfl, ht, hB2⟩
        obtain ⟨tp, rfl⟩ := ht.val
        have H2 := Lib.hid (And.intro ht (And.intro (HS.out.2.2.2.below hB2) hB2))
        clear ht hB2
        go_wp2_with fail
        refine (KN.out _ _ H2.out.1 H2.out.2.1).mono ?_
        rintro e w3 ⟨wf, g, rfl, hBf, hcu, hB3⟩
        have hgf := hcu.facts.2.2.2.2.2.1
        have hg3 := hcu.cells.choose_spec.2.2.2.2
        have hszf := hBf.size
        have hsz2 := H2.out.2.2.size
        have H3 := Lib.hid (And.intro hcu hB3)
        clear hcu hBf hB3
        go_wp2_with fail
        refine (KA.out _ _ (H2.out.1.below H3.out.2)).mono ?_
        rintro e w4 ⟨u4, rfl, ho4, hB4⟩
        obtain ⟨a4, n4, c4, rfl⟩ := ho4.prs.any
        have K5 := Lib.hid (KR.out _ _ ho4.prs)
        have hsz4 := hB4.size
        clear ho4
        go_wp2_with fail
        refine K5.out.mono ?_
        rintro e w5 ⟨a5, n5, c5, rfl, ho5, hB5⟩
        have hsz5 := hB5.size
        have hne : (Value.slice a5 n5 c5).ownBlock ≠ some g := OwnP.far ho5 (.inl (by omega))
        have H5 := Lib.hid (And.intro ho5 (And.intro (H3.out.1.below (below2 hB4 hB5)) (below2 H2.out.2.2 (below2 H3.out.2 (below2 hB4 hB5)))))
        clear ho5 K5 hB4 hB5
        go_wp2_with fail
        obtain ⟨gm, hgm⟩ : ∃ x, w5.heap.size = x := ⟨_, rfl⟩
        obtain ⟨bs, hbs⟩ : ∃ x, w4.heap.size = x := ⟨_, rfl⟩
        have hB6 := below_alloc w5 (.cells #[.slice a5 n5 c5, .int .i64 0] 37)
        have hr6 : RCur (w5.alloc (.cells #[.slice a5 n5 c5, .int .i64 0] 37)) w5.heap.size w4.heap.size (.slice a5 n5 c5) U 0 :=
          ⟨Cx.new w5 _ [.slice a5 n5 c5, .int .i64 0], H5.out.1.stays hB6, OwnP.far H5.out.1 (.inr (Nat.le_refl _)), hul, Nat.zero_le _⟩
        have hneg : (Value.slice a5 n5 c5).ownBlock ≠ some w5.heap.size := OwnP.far H5.out.1 (.inr (Nat.le_refl _))
        have H6 := Lib.hid (And.intro (H5.out.2.1.below hB6) (And.intro hr6 (below2 H5.out.2.2 hB6)))
        have hwg : w.heap.size ≤ g := by omega
        have hwm : w.heap.size ≤ gm := by omega
        have hfm : wf.heap.size ≤ gm := by omega
        have hgg : g ≠ gm := by omega
        have hmm := HS.out.2.2.2
        rw [hgm, hbs] at H6
        rw [hgm] at hneg ⊢
        have HML := Lib.hid hmm
        clear hB6 hr6 hmm hgm hbs hgf hg3 hszf hsz2 hsz4 hsz5 H2 H3 H5 KL KA KR KN
        go_loopw [13] (fun i wr => ∃ k j : Nat, k ≤ sn ∧ i = .int .i64 k ∧ Cur wf wr g U j ∧ RCur wr gm bs (.slice a5 n5 c5) U j ∧ Below w.heap.size w wr) (fun i _ => sn - (intOf i).toNat)
        case atStart => exact ⟨0, 0, Nat.zero_le _, rfl, H6.out.1, H6.out.2.1, H6.out.2.2⟩
        case round =>
          obtain ⟨k, j, hk, rfl, hcu, hrc, hB⟩ := hrel
          have HC := Lib.hid (And.intro hcu (And.intro hrc hB))
          have hszb := hB.size
          clear hcu hrc hB
          by_cases hlt : k < sn
          · obtain ⟨b, off, rfl, q0, q1, q2⟩ := (HS.out.2.1.below HC.out.2.2).at (k := k) (by rw [HSN.out]; exact hlt)
            obtain ⟨⟨z, ⟨qp, qn⟩⟩, hx⟩ : ∃ x, s[k]'(by rw [HSN.out]; exact hlt) = x := ⟨_, rfl⟩
            rw [hx] at q0 q1 q2
            dsimp only at q0 q1 q2
            have HXE := Lib.hid hx
            clear hx
            obtain ⟨bb, hbb⟩ : ∃ b, decide (j < U.length) = b := ⟨_, rfl⟩
            obtain ⟨⟨⟨xp, xm⟩, xs⟩, hxe⟩ : ∃ x, hereP U j = x := ⟨_, rfl⟩
            by_cases h1 : z = 1
            · have KC := cNext_calls HC.out.1
              have KD := fun W (h : RCur W gm bs (.slice a5 n5 c5) U j) => rNext_calls h
              rw [hbb, hxe] at KC
              rw [hbb, hxe] at KD
              have KC := Lib.hid KC
              have KD := Lib.hid KD
              have e1 : decide (z = 1) = true := decide_eq_true h1
              clear hbb hxe
              go_wp2_with fail
              refine KC.out.mono ?_
              rintro e w7 ⟨rfl, hc7, hk7⟩
              have hB8 := below_alloc w7 (.cells #[.string ⟨xp.toArray⟩, .int .i64 xm, .string ⟨xs.toArray⟩] 43)
              have hsz7 := hk7.size
              have hgl := hc7.cells.choose_spec.2.2.2.2
              have H7 := Lib.hid (And.intro (hc7.below hB8) (And.intro ((HC.out.2.1.keeps hk7 (Ne.symm hgg) hne).below hB8) (And.intro (below2 (hk7.on HC.out.2.2 hwg HC.out.2.2.size) (hB8.mono (by omega))) (Cx.new w7 43 (pcell ((xp, xm), xs))))))
              have hgm7 := HC.out.2.1.1.lt
              clear hc7 hk7 hB8
              go_wp2_with fail
              refine (KD.out _ H7.out.2.1).mono ?_
              rintro e w9 ⟨rfl, hr9, hk9⟩
              have hB10 := below_alloc w9 (.cells #[.string ⟨xp.toArray⟩, .int .i64 xm, .string ⟨xs.toArray⟩] 43)
              have hx9 := (H7.out.2.2.2.keeps (b := w7.heap.size) (by omega) hk9).below hB10
              have H9 := Lib.hid (And.intro ((H7.out.1.other hk9 hgg hfm).below hB10) (And.intro (hr9.below hB10) (below2 (hk9.on H7.out.2.2.1 hwm H7.out.2.2.1.size) (hB10.mono (by have := H7.out.2.2.1.size; have := hk9.size; omega)))))
              obtain ⟨x0, x1, x2, _⟩ := Cx.three hx9
              clear hr9 hk9 hB10 hx9
              go_wp2_with fail
              exact ⟨⟨k + 1, _, by omega, by go_num, H9.out.1, H9.out.2.1, H9.out.2.2⟩, by simp [intOf]; omega⟩
            · have e1 : decide (z = 1) = false := decide_eq_false h1
              by_cases h2 : z = 2
              · have KC := cSkip_calls HC.out.1
                have KD := fun W (h : RCur W gm bs (.slice a5 n5 c5) U j) => rSkip_calls h HU.out.1 HU.out.2
                rw [hbb, hxe] at KC
                rw [hbb, hxe] at KD
                have KC := Lib.hid KC
                have KD := Lib.hid KD
                have e2 : decide (z = 2) = true := decide_eq_true h2
                clear hbb hxe
                go_wp2_with fail
                refine KC.out.mono ?_
                rintro e w7 ⟨rfl, hc7, hk7⟩
                have hsz7 := hk7.size
                have H7 := Lib.hid (And.intro hc7 (And.intro (HC.out.2.1.keeps hk7 (Ne.symm hgg) hne) (hk7.on HC.out.2.2 hwg HC.out.2.2.size)))
                clear hc7 hk7
                go_wp2_with fail
                refine (KD.out _ H7.out.2.1).mono ?_
                rintro e w9 ⟨rfl, hr9, hk9⟩
                have H9 := Lib.hid (And.intro (H7.out.1.other hk9 hgg hfm) (And.intro hr9 (hk9.on H7.out.2.2 hwm H7.out.2.2.size)))
                clear hr9 hk9
                go_wp2_with fail
                exact ⟨⟨k + 1, _, by omega, by go_num, H9.out.1, H9.out.2.1, H9.out.2.2⟩, by simp [intOf]; omega⟩
              · have e2 : decide (z = 2) = false := decide_eq_false h2
                by_cases h3 : z = 3
                · have KC := Lib.hid (cSeek_calls HC.out.1 (qp, qn))
                  have KD := Lib.hid (fun W (h : RCur W gm bs (.slice a5 n5 c5) U j) => rSeek_calls h (qp, qn))
                  have e3 : decide (z = 3) = true := decide_eq_true h3
                  clear hbb hxe
                  go_wp2_with fail
                  refine KC.out.mono ?_
                  rintro e w7 ⟨rfl, hc7, hk7⟩
                  have hsz7 := hk7.size
                  have H7 := Lib.hid (And.intro hc7 (And.intro (HC.out.2.1.keeps hk7 (Ne.symm hgg) hne) (hk7.on HC.out.2.2 hwg HC.out.2.2.size)))
                  obtain ⟨_, _, he, q0, q1, q2⟩ := (HS.out.2.1.below H7.out.2.2).at (k := k) (by rw [HSN.out]; exact hlt)
                  cases he
                  rw [HXE.out] at q0 q1 q2
                  dsimp only at q0 q1 q2
                  clear hc7 hk7
                  go_wp2_with fail
                  refine (KD.out _ H7.out.2.1).mono ?_
                  rintro e w9 ⟨rfl, hr9, hk9⟩
                  have H9 := Lib.hid (And.intro (H7.out.1.other hk9 hgg hfm) (And.intro hr9 (hk9.on H7.out.2.2 hwm H7.out.2.2.size)))
                  clear hr9 hk9
                  go_wp2_with fail
                  exact ⟨⟨k + 1, _, by omega, by go_num, H9.out.1, H9.out.2.1, H9.out.2.2⟩, by simp [intOf]; omega⟩
                · have e3 : decide (z = 3) = false := decide_eq_false h3
                  clear hbb hxe
                  go_wp2_with fail
                  exact ⟨⟨k + 1, j, by omega, by go_num, HC.out.1, HC.out.2.1, HC.out.2.2⟩, by simp [intOf]; omega⟩
          · obtain rfl : k = sn := by omega
            go_wp2_with fail
            refine (KW.out _ (HML.out.below HC.out.2.2)).mono ?_
            rintro e w8 ⟨rfl, hB8⟩
            go_wp2_with fail
            go_ret
            exact ⟨rfl, below2 HC.out.2.2 hB8⟩

end Go.Proofs.YthngeponcdeneaaGreatDoor
