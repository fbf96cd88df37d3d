/-
  BatchLast, walked.
-/
import Derived.Test.YtmbnmmnoahddcaaDoorPks14
import Derived.Deep.QuietTactic
import Derived.BigQuiet
import Derived.IntWalk
import Derived.Deep.RegionHeld3
namespace Go.Proofs.YtmbnmmnoahddcaaDoor
set_option maxRecDepth 100000
set_option linter.unusedVariables false
open Go.RowKit

/-- A slice of one change. -/
theorem csl_one {w : World} {b off k cap : Nat} {S : List Cv} (h : Cgs w (.slice (some ⟨b, off, none⟩) k cap) S) (i : Nat) (hi : i < S.length) :
    Cgs w (.slice (some ⟨b, off + i * 5, none⟩) 1 (cap - i)) [S[i]] ∧ (i : Int) + 1 ≤ (cap : Int) ∧ ¬ cap = i := by
  have hc : k ≤ cap ∧ k = S.length := by
    obtain ⟨⟨_, ao', c, he, hc, _⟩, _⟩ := h
    cases he
    exact ⟨hc, rfl⟩
  obtain ⟨hc, rfl⟩ := hc
  refine ⟨?_, by omega, by omega⟩
  have hd := (h.drop (k := i) (m := S.length - i) (cap' := cap - i) (by omega) rfl (by omega) (off + i * 5) (.inl rfl)).take (k := 1) (by simp; omega)
  have e : (S.drop i).take 1 = [S[i]] := by
    rw [List.drop_eq_getElem_cons hi]
    rfl
  rwa [e] at hd

/-- Is the change among the first k? Is its path? -/
def inTo (l : List Cg) (c : Cg) (k : Nat) : Bool := (l.take k).any fun x => x == c
def overTo (l : List Cg) (p : List UInt8) (k : Nat) : Bool := (l.take k).any fun x => x.1 == p
theorem inTo_next {l : List Cg} {c : Cg} {k : Nat} (h : k < l.length) : inTo l c (k + 1) = (inTo l c k || l[k] == c) := by
  unfold inTo
  rw [List.take_succ_eq_append_getElem h, List.any_append]
  simp
theorem overTo_next {l : List Cg} {p : List UInt8} {k : Nat} (h : k < l.length) : overTo l p (k + 1) = (overTo l p k || l[k].1 == p) := by
  unfold overTo
  rw [List.take_succ_eq_append_getElem h, List.any_append]
  simp
def in2 (m l : List Cg) (c : Cg) (k : Nat) : Bool := inTo m c m.length || (!overTo m c.1 m.length && inTo l c k)
theorem in2_zero (m l : List Cg) (c : Cg) : in2 m l c 0 = inTo m c m.length := by simp [in2, inTo]
theorem in2_next {m l : List Cg} {c : Cg} {k : Nat} (h : k < l.length) : in2 m l c (k + 1) = (in2 m l c k || (!overTo m c.1 m.length && l[k] == c)) := by
  unfold in2
  rw [inTo_next h]
  cases inTo m c m.length <;> cases overTo m c.1 m.length <;> rfl
theorem in2_all {m l : List Cg} {c : Cg} (hl : SortC l) (hm : SortC m) (hc : c ∈ putsC (l ++ m)) : in2 m l c l.length = true := by
  unfold in2 inTo overTo
  rw [List.take_length, List.take_length]
  rcases join_of hl hm hc with h | ⟨h, h2⟩
  · rw [List.any_eq_true.2 ⟨c, h, by simp⟩]
    rfl
  · rw [List.any_eq_true.2 (⟨c, h, by simp⟩ : ∃ x ∈ l, (x == c) = true)]
    rw [show (m.any fun x => x.1 == c.1) = false from List.any_eq_false.2 (fun x hx => by simpa using h2 x hx)]
    simp

set_option maxHeartbeats 16000000 in
theorem batchLast_walk (v : Value) (L : List Cv) (u : Value) (M : List Cv) (W : World) (hL : Cgs W v L) (hk : L.length ≤ maxLen) (hw : ∀ c ∈ chs L, c.1.length ≤ maxLen ∧ c.2.2.2.2.length ≤ maxLen) (hM : Cgs W u M) (hk' : M.length ≤ maxLen) (hw' : ∀ c ∈ chs M, c.1.length ≤ maxLen ∧ c.2.2.2.2.length ≤ maxLen) (hm : Ml W) :
    Calls Tryd.prog 5 #[v, u] W fun e w' => e = .returned (.bool true) ∧ Below W.heap.size W w' := by
  have KB := Lib.hid (big_calls v L W hL (Nat.le_trans hk (by decide)) (fun c hc => ⟨Nat.le_trans (hw c hc).1 (by decide), Nat.le_trans (hw c hc).2 (by decide)⟩))
  have KC := Lib.hid (big_calls u M W hM (Nat.le_trans hk' (by decide)) (fun c hc => ⟨Nat.le_trans (hw' c hc).1 (by decide), Nat.le_trans (hw' c hc).2 (by decide)⟩))
  have KL := Lib.hid (fun w (hw : Below W.heap.size W w) => baLaid_calls w (hm.below hw))
  have KI := Lib.hid (fun (h : bigC (chs L) = false) w (hw : Below W.heap.size W w) => baIs_calls v L w (hL.below hw) (by have := (bigC_small h).2; rw [List.length_map] at this; omega) (bigC_small h).1 (hm.below hw))
  have KJ := Lib.hid (fun (h : bigC (chs M) = false) w (hw : Below W.heap.size W w) => baIs_calls u M w (hM.below hw) (by have := (bigC_small h).2; rw [List.length_map] at this; omega) (bigC_small h).1 (hm.below hw))
  obtain ⟨ao, cap, rfl⟩ := hL.form
  obtain ⟨bo, cap', rfl⟩ := hM.form
  have HL := Lib.hid hL
  have HU := Lib.hid hM
  have HM := Lib.hid hm
  obtain ⟨nl, hnl⟩ : ∃ n, n = L.length := ⟨_, rfl⟩
  obtain ⟨nm, hnm⟩ : ∃ n, n = M.length := ⟨_, rfl⟩
  have HNL := Lib.hid hnl
  have HNM := Lib.hid hnm
  rw [← hnl] at KB KI ⊢
  rw [← hnm] at KC KJ ⊢
  clear hL hM hm hk hk' hw hw' hnl hnm
  cases hb : bigC (chs L) with
  | true =>
    rw [hb] at KB
    clear KI KJ KC hb
    go_enter Tryd.func5, Tryd.ntmps5
    go_wp2_with fail
    refine KB.out.mono ?_
    rintro e w0 ⟨rfl, rfl⟩
    go_wp2_with fail
    refine (KL.out _ (Below.refl _ _)).mono ?_
    rintro e w9 ⟨rfl, hB9⟩
    go_wp2_with fail
    go_ret
    exact ⟨rfl, hB9⟩
  | false =>
  have KI := Lib.hid (KI.out hb)
  rw [hb] at KB
  cases hb2 : bigC (chs M) with
  | true =>
    rw [hb2] at KC
    clear KI KJ hb hb2
    go_enter Tryd.func5, Tryd.ntmps5
    go_wp2_with fail
    refine KB.out.mono ?_
    rintro e w0 ⟨rfl, rfl⟩
    go_wp2_with fail
    refine KC.out.mono ?_
    rintro e w0 ⟨rfl, rfl⟩
    go_wp2_with fail
    refine (KL.out _ (Below.refl _ _)).mono ?_
    rintro e w9 ⟨rfl, hB9⟩
    go_wp2_with fail
    go_ret
    exact ⟨rfl, hB9⟩
  | false =>
  have KJ := Lib.hid (KJ.out hb2)
  rw [hb2] at KC
  cases hi : isB (chs L) with
  | false =>
    have KI := KI.out W (Below.refl _ _)
    rw [hi] at KI
    have KI := Lib.hid KI
    clear KJ hb hb2 hi
    go_enter Tryd.func5, Tryd.ntmps5
    go_wp2_with fail
    refine KB.out.mono ?_
    rintro e w0 ⟨rfl, rfl⟩
    go_wp2_with fail
    refine KC.out.mono ?_
    rintro e w0 ⟨rfl, rfl⟩
    go_wp2_with fail
    refine KI.out.mono ?_
    rintro e w1 ⟨rfl, hB1⟩
    go_wp2_with fail
    refine (KL.out _ hB1).mono ?_
    rintro e w9 ⟨rfl, hB9⟩
    go_wp2_with fail
    go_ret
    exact ⟨by simp, below2 hB1 hB9⟩
  | true =>
  have KI := KI.out W (Below.refl _ _)
  rw [hi] at KI
  have KI := Lib.hid KI
  cases hj : isB (chs M) with
  | false =>
    rw [hj] at KJ
    clear hb hb2 hi hj
    go_enter Tryd.func5, Tryd.ntmps5
    go_wp2_with fail
    refine KB.out.mono ?_
    rintro e w0 ⟨rfl, rfl⟩
    go_wp2_with fail
    refine KC.out.mono ?_
    rintro e w0 ⟨rfl, rfl⟩
    go_wp2_with fail
    refine KI.out.mono ?_
    rintro e w1 ⟨rfl, hB1⟩
    go_wp2_with fail
    refine (KJ.out _ hB1).mono ?_
    rintro e w2 ⟨rfl, hB2⟩
    replace hB1 := below2 hB1 hB2
    go_wp2_with fail
    refine (KL.out _ hB1).mono ?_
    rintro e w9 ⟨rfl, hB9⟩
    go_wp2_with fail
    go_ret
    exact ⟨by simp, below2 hB1 hB9⟩
  | true =>
  rw [hj] at KJ
  have HSL := Lib.hid (isB_smallC hi)
  have HSM := Lib.hid (isB_smallC hj)
  have HFJ := Lib.hid (fun h => baJoin_no hi hj h)
  have HSo := Lib.hid (And.intro (isB_iff.1 hi).2.2.2 (isB_iff.1 hj).2.2.2)
  have hnl20 : nl ≤ 20 := by have := HSL.out.2; rw [List.length_map, ← HNL.out] at this; exact this
  have hnm20 : nm ≤ 20 := by have := HSM.out.2; rw [List.length_map, ← HNM.out] at this; exact this
  have hcl : (chs L).length = nl := by rw [List.length_map, HNL.out]
  have hcm : (chs M).length = nm := by rw [List.length_map, HNM.out]
  have HCL := Lib.hid hcl
  have HCM := Lib.hid hcm
  clear hb hb2 hi hj hcl hcm
  have KN := Lib.hid (fun w (hw : Below W.heap.size W w) => baJoin_cv _ _ L M w (HL.out.below hw) (HU.out.below hw) (by rw [← HNL.out]; omega) (by rw [← HNM.out]; omega) HSL.out.1 HSM.out.1 (HM.out.below hw))
  rw [← HNL.out, ← HNM.out] at KN
  cases hn : normB (chs L ++ chs M) with
  | false =>
    have hsum : decide ((20 : Int) < (nl : Int) + (nm : Int)) = true := by
      have := HFJ.out hn
      rw [HCL.out, HCM.out] at this
      rw [decide_eq_true_eq]
      omega
    rw [(norm_no hn).2, (norm_no hn).1] at KN
    clear hn HFJ
    go_enter Tryd.func5, Tryd.ntmps5
    go_wp2_with fail
    refine KB.out.mono ?_
    rintro e w0 ⟨rfl, rfl⟩
    go_wp2_with fail
    refine KC.out.mono ?_
    rintro e w0 ⟨rfl, rfl⟩
    go_wp2_with fail
    refine KI.out.mono ?_
    rintro e w1 ⟨rfl, hB1⟩
    go_wp2_with fail
    refine (KJ.out _ hB1).mono ?_
    rintro e w2 ⟨rfl, hB2⟩
    replace hB1 := below2 hB1 hB2
    go_wp2_with fail
    refine (KN.out _ hB1).mono ?_
    rintro e w3 ⟨v3, S3, rfl, ho3, _, hB3⟩
    obtain ⟨a3, n3, c3, rfl⟩ := own_form ho3.1
    replace hB1 := below2 hB1 hB3
    clear ho3
    go_wp2_with fail
    refine (KL.out _ hB1).mono ?_
    rintro e w9 ⟨rfl, hB9⟩
    go_wp2_with fail
    go_ret
    exact ⟨by simp, below2 hB1 hB9⟩
  | true =>
  have HJL := Lib.hid (join_len HSo.out.1 HSo.out.2)
  rw [(norm_yes hn).2, (norm_yes hn).1] at KN
  obtain ⟨J, hJ⟩ : ∃ J, J = putsC (chs L ++ chs M) := ⟨_, rfl⟩
  have HJ := Lib.hid hJ
  rw [← hJ, HCL.out, HCM.out] at HJL
  rw [← hJ] at KN
  clear hn hJ HFJ
  go_enter Tryd.func5, Tryd.ntmps5
  go_wp2_with fail
  refine KB.out.mono ?_
  rintro e w0 ⟨rfl, rfl⟩
  go_wp2_with fail
  refine KC.out.mono ?_
  rintro e w0 ⟨rfl, rfl⟩
  go_wp2_with fail
  refine KI.out.mono ?_
  rintro e w1 ⟨rfl, hB1⟩
  go_wp2_with fail
  refine (KJ.out _ hB1).mono ?_
  rintro e w2 ⟨rfl, hB2⟩
  replace hB1 := below2 hB1 hB2
  go_wp2_with fail
  refine (KN.out _ hB1).mono ?_
  rintro e w3 ⟨v3, S3, rfl, ho3, hc3, hB3⟩
  obtain ⟨a3, c3, rfl⟩ := ho3.form
  have HB := Lib.hid (below2 hB1 hB3)
  obtain ⟨n3, hn3⟩ : ∃ n, n = S3.length := ⟨_, rfl⟩
  have HN3 := Lib.hid hn3
  have hj3 : J.length = n3 := by rw [← hc3, List.length_map, hn3]
  have h31 : nl ≤ n3 := by rw [← hj3]; exact HJL.out.1
  have h32 : nm ≤ n3 := by rw [← hj3]; exact HJL.out.2.1
  have h33 : n3 ≤ nl + nm := by rw [← hj3]; exact HJL.out.2.2
  have HO3 := Lib.hid ho3.cgs
  have HC3 := Lib.hid hc3
  have HJ3 := Lib.hid hj3
  rw [← hn3] at HO3 ⊢
  have hlt40 : n3 ≤ 40 := by omega
  have HLE := Lib.hid (And.intro h31 (And.intro h32 h33))
  clear hB1 hB2 hB3 ho3 hc3 hn3 hj3 h31 h32 h33 KB KC KI KJ KN
  go_wp2_with fail
  go_loopw [7] (fun i wr => ∃ k : Nat, i = .int .i64 k ∧ k ≤ n3 ∧ Hid (Below w3.heap.size w3 wr)) (fun i _ => n3 - (intOf i).toNat)
  case atStart => exact ⟨0, rfl, Nat.zero_le _, Lib.hid (Below.refl _ _)⟩
  case round =>
    obtain ⟨i, rfl, hin3, hBr⟩ := hrel
    by_cases hlt : i < n3
    · have hi3 : i < S3.length := by rw [← HN3.out]; exact hlt
      obtain ⟨y, hy⟩ : ∃ y, y = S3[i] := ⟨_, rfl⟩
      obtain ⟨cj, hcj⟩ : ∃ c, c = y.1 := ⟨_, rfl⟩
      obtain ⟨p, hp⟩ : ∃ p, p = cj.1 := ⟨_, rfl⟩
      have HCJ := Lib.hid hcj
      have HP := Lib.hid hp
      have hAll : in2 (chs M) (chs L) cj nl = true := by
        have := in2_all (c := cj) HSo.out.1 HSo.out.2 (by
          rw [← HJ.out, ← HC3.out, hcj, hy]
          exact List.mem_map.2 ⟨_, List.getElem_mem hi3, rfl⟩)
        rwa [HCL.out] at this
      have HAll := Lib.hid hAll
      obtain ⟨b', off', rfl, ⟨c0, r1⟩, r2⟩ := (HO3.out.below hBr.out).at hi3
      obtain ⟨hgj, hj1, hj2⟩ := csl_one (HO3.out.below hBr.out) i hi3
      rw [← hy] at hgj
      have HGJ := Lib.hid hgj
      have hi1 : (0 : Int) ≤ (i : Int) := by omega
      have hi2 : (i : Int) < (n3 : Int) := by omega
      rw [← hy, ← hcj, ← hp] at c0
      have HCell := Lib.hid (fun w (hw : Below wr.heap.size wr w) => look_below hw c0)
      have HBr := Lib.hid (below2 HB.out hBr.out)
      have HBw := Lib.hid hBr.out
      clear r1 r2
      clear hcj hp hgj hy hi3 hAll c0 hBr
      go_wp2_with fail
      go_loopw [8, 9, 10] (fun a o k w2 => ∃ (kn : Nat) (b1 b2 : Bool), a = .bool b1 ∧ o = .bool b2 ∧ k = .int .i64 kn ∧ kn ≤ nm ∧ Hid (inTo (chs M) cj kn = b1) ∧ Hid (overTo (chs M) p kn = b2) ∧ Hid (Below wr.heap.size wr w2)) (fun _ _ k _ => nm - (intOf k).toNat)
      case atStart => exact ⟨0, false, false, rfl, rfl, rfl, Nat.zero_le _, Lib.hid rfl, Lib.hid rfl, Lib.hid (Below.refl _ _)⟩
      case round =>
        obtain ⟨k, b1, b2, rfl, rfl, rfl, hkm, hb1, hb2, hB2⟩ := hrel
        by_cases hlk : k < nm
        · have hkM : k < M.length := by rw [← HNM.out]; exact hlk
          have hkC : k < (chs M).length := by rw [HCM.out]; exact hlk
          have hx1 := inTo_next (c := cj) hkC
          have hx2 := overTo_next (p := p) hkC
          rw [hb1.out] at hx1
          rw [hb2.out] at hx2
          simp only [List.getElem_map] at hx1 hx2
          have c0 := HCell.out _ hB2.out
          obtain ⟨bm, offm, rfl, ⟨d0, r1⟩, r2⟩ := (HU.out.below (below2 HBr.out hB2.out)).at hkM
          obtain ⟨hgm, hm1, hm2⟩ := csl_one (HU.out.below (below2 HBr.out hB2.out)) k hkM
          have KS := fun w (hw : Below wr.heap.size wr w) => bSame_calls _ _ [M[k]] [y] w (hgm.below hw) (HGJ.out.below (below2 hB2.out hw)) (by simp) (fun c hc => HSM.out.1 c (by
            simp at hc
            subst hc
            exact List.mem_map.2 ⟨_, List.getElem_mem hkM, rfl⟩))
          rw [show (chs [M[k]] == chs [y]) = (M[k].1 == cj) by rw [HCJ.out]; simp] at KS
          obtain ⟨g, hg⟩ : ∃ g, (M[k].1 == cj) = g := ⟨_, rfl⟩
          rw [hg] at KS hx1
          obtain ⟨q, hq⟩ : ∃ q, q = M[k].1.1 := ⟨_, rfl⟩
          rw [← hq] at d0 hx2
          have HX := Lib.hid (And.intro hx1 hx2)
          have KS := Lib.hid KS
          have hk1 : (0 : Int) ≤ (k : Int) := by omega
          have hk2 : (k : Int) < (nm : Int) := by omega
          have hk3 : (0 : Int) ≤ (k : Int) + 1 := by omega
          have hi3 : (0 : Int) ≤ (i : Int) + 1 := by omega
          have hw1 : IntKind.i64.wrap ((k : Int) + 1) = (k : Int) + 1 := IntWalk.i64_in _ (by omega)
          have hw2 : IntKind.i64.wrap ((i : Int) + 1) = (i : Int) + 1 := IntWalk.i64_in _ (by omega)
          clear r1 r2
          clear hx1 hx2 hgm hg hq hb1 hb2
          cases b1 with
          | true =>
            cases b2
            all_goals
              go_wp2_with fail
              go_quiet (fail)
              go_wp2_with fail
              go_quiet (fail)
              go_wp2_with fail
              go_roundw
              case rel => exact ⟨k + 1, true, _, rfl, rfl, by go_num, by omega, Lib.hid (by rw [HX.out.1]; rfl), Lib.hid (by rw [HX.out.2]; rfl), Lib.hid (below2 hB2.out (drewn_below _ _))⟩
              case measure => simp [intOf]; omega
          | false =>
            cases b2
            all_goals
              go_wp2_with fail
              go_quiet (fail)
              go_wp2_with fail
              go_region_held3 (fun _ => True) (exact trivial) (first
                | (go_at_call 11; (with_reducible refine (KS.out _ (drewn_below _ _)).mono ?_); rintro e w4 ⟨rfl, hB4⟩))
              go_wp2_with fail
              go_roundw
              case rel => exact ⟨k + 1, g, _, rfl, rfl, by go_num, by omega, Lib.hid (by rw [HX.out.1]; rfl), Lib.hid (by rw [HX.out.2]; rfl), Lib.hid (below3 hB2.out (drewn_below _ _) hB4)⟩
              case measure => simp [intOf]; omega
        · obtain rfl : k = nm := by omega
          have hz : in2 (chs M) (chs L) cj 0 = b1 := by rw [in2_zero, HCM.out]; exact hb1.out
          have HZ := Lib.hid hz
          have HOV : Hid (overTo (chs M) cj.1 (chs M).length = b2) := Lib.hid (by rw [HCM.out, ← HP.out]; exact hb2.out)
          have HB2 := Lib.hid hB2.out
          clear hz hb1 hb2 hlk hB2
          go_wp2_with fail
          go_loopw [8, 11] (fun a k w4 => ∃ (kn : Nat) (b : Bool), a = .bool b ∧ k = .int .i64 kn ∧ kn ≤ nl ∧ Hid (in2 (chs M) (chs L) cj kn = b) ∧ Hid (Below wr.heap.size wr w4)) (fun _ k _ => nl - (intOf k).toNat)
          case atStart => exact ⟨0, b1, rfl, rfl, Nat.zero_le _, HZ, Lib.hid (Below.refl _ _)⟩
          case round =>
            obtain ⟨k, b, rfl, rfl, hkm, hb, hB3⟩ := hrel
            by_cases hlk : k < nl
            · have hkL : k < L.length := by rw [← HNL.out]; exact hlk
              have hkC : k < (chs L).length := by rw [HCL.out]; exact hlk
              have hx1 := in2_next (m := chs M) (c := cj) hkC
              rw [hb.out, HOV.out] at hx1
              simp only [List.getElem_map] at hx1
              have hBB := below3 HBr.out HB2.out hB3.out
              obtain ⟨bl, offl, rfl, r1, r2⟩ := (HL.out.below hBB).at hkL
              obtain ⟨hgl, hl1, hl2⟩ := csl_one (HL.out.below hBB) k hkL
              have KS := fun w (hw : Below wr.heap.size wr w) => bSame_calls _ _ [L[k]] [y] w (hgl.below hw) (HGJ.out.below (below3 HB2.out hB3.out hw)) (by simp) (fun c hc => HSL.out.1 c (by
                simp at hc
                subst hc
                exact List.mem_map.2 ⟨_, List.getElem_mem hkL, rfl⟩))
              rw [show (chs [L[k]] == chs [y]) = (L[k].1 == cj) by rw [HCJ.out]; simp] at KS
              obtain ⟨g, hg⟩ : ∃ g, (L[k].1 == cj) = g := ⟨_, rfl⟩
              rw [hg] at KS hx1
              have HX := Lib.hid hx1
              have KS := Lib.hid KS
              have hk1 : (0 : Int) ≤ (k : Int) := by omega
              have hk2 : (k : Int) < (nl : Int) := by omega
              have hk3 : (0 : Int) ≤ (k : Int) + 1 := by omega
              have hi3 : (0 : Int) ≤ (i : Int) + 1 := by omega
              have hw1 : IntKind.i64.wrap ((k : Int) + 1) = (k : Int) + 1 := IntWalk.i64_in _ (by omega)
              have hw2 : IntKind.i64.wrap ((i : Int) + 1) = (i : Int) + 1 := IntWalk.i64_in _ (by omega)
              clear r1 r2 hx1 hgl hg hb hBB
              cases b with
              | true =>
                cases b2
                all_goals
                  go_wp2_with fail
                  go_quiet (fail)
                  go_wp2_with fail
                  go_roundw
                  case rel => exact ⟨k + 1, true, rfl, by go_num, by omega, Lib.hid (by rw [HX.out]; rfl), Lib.hid (below2 hB3.out (drewn_below _ _))⟩
                  case measure => simp [intOf]; omega
              | false =>
                cases b2 with
                | true =>
                  go_wp2_with fail
                  go_quiet (fail)
                  go_wp2_with fail
                  go_roundw
                  case rel => exact ⟨k + 1, false, rfl, by go_num, by omega, Lib.hid (by rw [HX.out]; rfl), Lib.hid (below2 hB3.out (drewn_below _ _))⟩
                  case measure => simp [intOf]; omega
                | false =>
                  go_wp2_with fail
                  go_region_held3 (fun _ => True) (exact trivial) (first
                    | (go_at_call 11; (with_reducible refine (KS.out _ (drew_below _)).mono ?_); rintro e w4 ⟨rfl, hB4⟩))
                  go_wp2_with fail
                  go_roundw
                  case rel => exact ⟨k + 1, g, rfl, by go_num, by omega, Lib.hid (by rw [HX.out]; rfl), Lib.hid (below3 hB3.out (drew_below _) hB4)⟩
                  case measure => simp [intOf]; omega
            · obtain rfl : k = nl := by omega
              obtain rfl : b = true := by rw [← hb.out]; exact HAll.out
              go_wp2_with fail
              go_roundw
              case rel => exact ⟨i + 1, by go_num, by omega, Lib.hid (below3 HBw.out HB2.out hB3.out)⟩
              case measure => simp [intOf]; omega
    · obtain rfl : i = n3 := by omega
      have K9 := Lib.hid (KL.out wr (below2 HB.out hBr.out))
      have hd1 : decide (nl ≤ i) = true := by rw [decide_eq_true_eq]; exact HLE.out.1
      have hd2 : decide (nm ≤ i) = true := by rw [decide_eq_true_eq]; exact HLE.out.2.1
      have hd3 : decide ((i : Int) ≤ (nl : Int) + (nm : Int)) = true := by have := HLE.out.2.2; rw [decide_eq_true_eq]; omega
      go_wp2_with fail
      refine K9.out.mono ?_
      rintro e w9 ⟨rfl, hB9⟩
      go_wp2_with fail
      go_ret
      exact ⟨by simp, below3 HB.out hBr.out hB9⟩

end Go.Proofs.YtmbnmmnoahddcaaDoor
