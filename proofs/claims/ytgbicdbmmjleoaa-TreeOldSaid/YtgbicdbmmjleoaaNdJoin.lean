/-
  node: joined (rows of pairs put together, on memory of its own).
-/
import Derived.Test.YtgbicdbmmjleoaaPrs
import Derived.Test.YtgbicdbmmjleoaaNilApp
import Derived.Laws.MakeOwn
namespace Go.Proofs.Ytgbicdbmmjleoaa
open Go.RowKit

theorem infoP : (Try.prog.info? 31).map (fun i => (i.zero, i.size, i.bytes)) = some (some (.agg #[.string ⟨#[]⟩, .int .i64 0, .string ⟨#[]⟩]), 3, 40) := by kernel_rfl

/-- An append of pairs to pairs of the call's own. -/
theorem wpList_append_prs {w : World} {ops : Array Oper} {rest : List Oper} {o : Oper} {a : Act} {Q : Exit → Act → World → Prop} (hgd : o.guard = none) (s x : Operand)
    (ho : o.op = .call { callee := .builtin .append, args := #[s, x], argTypes := #[28, 28] }) (base : Nat) (v : Value) (T : List Pr) (hs : a.eval s = v) (hown : OwnP w base v T)
    (ao : Option Addr) (m c : Nat) (R : List Pr) (hx : a.eval x = .slice ao m c) (hR : Prs w (.slice ao m c) R) (U : List Pr) (hU : T ++ R = U) (q : Nat) (hq : U.length = q) (hq2 : q ≤ 1000000) (w0 : World) (hB : Below base w0 w) (hb0 : base ≤ w0.heap.size)
    (h : ∀ ao' cap' w', OwnP w' base (.slice ao' q cap') U → Below base w0 w' → wpList Try.prog ops Q rest (a.put o.dst (.slice ao' q cap')) w') : wpList Try.prog ops Q (o :: rest) a w := by
  obtain ⟨i0, hi, hz0, hz1, hz2⟩ := info_parts infoP
  have hm := hR.len
  have hk : T.length + m = q := by rw [← hq, ← hU, List.length_append, hm]
  refine wpList_append_rw hgd s x 28 ho base 31 i0 _ 3 40 Try.underlying28 hi hz0 hz1 hz2 rfl (by decide) v T.length (pcells T) hs hown ao m c (pcells R) hx (by unfold Prs at hR; rwa [hm] at hR) (pcells_one R) q hk (by unfold maxLen; omega) (by omega) (Nat.le_trans hb0 hB.size) ?_
  intro a3 c3 w3 hown3 hg3
  refine h a3 c3 w3 ?_ (hB.grown hg3 (Nat.le_trans hb0 hB.size) (fun j e => (hown.lt j e).1))
  unfold OwnP
  rw [hq, ← hU, pcells_append]
  exact hown3
/-- Rows of pairs, in a row. -/
def Rws (w : World) (v : Value) (S : List (Value × List Pr)) : Prop := Rw w 1 v S.length (S.map (·.1)) ∧ ∀ x ∈ S, Prs w x.1 x.2
/-- All of them. -/
def allP (S : List (Value × List Pr)) : List Pr := S.flatMap (·.2)
theorem Rws.below {w w' : World} {v : Value} {S : List (Value × List Pr)} (h : Rws w v S) (hb : Below w.heap.size w w') : Rws w' v S := ⟨Rw.below h.1 hb, fun x hx => (h.2 x hx).below hb⟩
theorem Rws.form {w : World} {v : Value} {S : List (Value × List Pr)} (h : Rws w v S) : ∃ ao cap, v = .slice ao S.length cap := Rw.form h.1
theorem Rws.at {w : World} {ao : Option Addr} {n cap : Nat} {S : List (Value × List Pr)} (h : Rws w (.slice ao n cap) S) {k : Nat} (hk : k < S.length) : ∃ b off ar cr, ao = some ⟨b, off, none⟩ ∧ S[k].1 = .slice ar S[k].2.length cr ∧ w.cell? ⟨b, off + k, none⟩ = some (.slice ar S[k].2.length cr) ∧ Prs w (.slice ar S[k].2.length cr) S[k].2 := by
  have hx := h.2 _ (List.getElem_mem hk)
  obtain ⟨ar, cr, hv⟩ := hx.form
  obtain ⟨⟨_, ao', cap', he, _, hc⟩, _⟩ := h
  cases he
  rcases hc with h0 | ⟨b, off, rfl, hc⟩
  · omega
  · have := hc k (by simpa using hk)
    rw [List.getElem_map] at this
    exact ⟨b, off, ar, cr, rfl, hv, hv ▸ this, hv ▸ hx⟩
theorem allP_succ {S : List (Value × List Pr)} {k : Nat} (hk : k < S.length) : allP (S.take (k + 1)) = allP (S.take k) ++ S[k].2 := by
  unfold allP
  rw [List.take_succ_eq_append_getElem hk, List.flatMap_append]
  simp
theorem allP_len {S : List (Value × List Pr)} {k : Nat} (hk : k < S.length) : (allP (S.take (k + 1))).length = (allP (S.take k)).length + S[k].2.length := by rw [allP_succ hk, List.length_append]
theorem allP_le (S : List (Value × List Pr)) (k : Nat) : (allP (S.take k)).length ≤ (allP S).length := by
  unfold allP
  rw [← List.take_append_drop k S, List.flatMap_append]
  simp

theorem make_pairs (n : Nat) (h : n ≤ 1000000) (w : World) : (Instr.makeSlice 28 (.int .i64 0) (.int .i64 (n : Int))).run Try.prog w = .ok (.slice (some ⟨w.heap.size, 0, none⟩) 0 n) (w.alloc (.cells (madeCells #[.string ⟨#[]⟩, .int .i64 0, .string ⟨#[]⟩] (n * 3)) 31)) := by
  obtain ⟨i0, hi, hz0, hz1, hz2⟩ := info_parts infoP
  have hr := run_make (P := Try.prog) w 28 31 i0 _ Try.underlying28 hi hz0 .i64 .i64 0 n (by omega) (by omega) (by rw [hz2]; omega) (by omega)
  simpa [hz1, Value.cells] using hr
theorem made_own (w : World) (n : Nat) (h : n ≤ 1000000) : OwnP (w.alloc (.cells (madeCells #[.string ⟨#[]⟩, .int .i64 0, .string ⟨#[]⟩] (n * 3)) 31)) w.heap.size (.slice (some ⟨w.heap.size, 0, none⟩) 0 n) [] :=
  World.ownsRow_made w _ n (Nat.le_refl _) (by unfold maxLen; omega) (by simp [madeCells])

set_option maxHeartbeats 4000000 in
theorem joined_calls (v : Value) (S : List (Value × List Pr)) (w : World) (hs : Rws w v S) (hn : S.length ≤ 1000) (hm : (allP S).length ≤ 1000000) :
    Calls Try.prog 41 #[v] w fun e w' => ∃ ao cap, e = .returned (.slice ao (allP S).length cap) ∧ OwnP w' w.heap.size (.slice ao (allP S).length cap) (allP S) ∧ Below w.heap.size w w' := by
  obtain ⟨i0, hi, hz0, hz1, hz2⟩ := info_parts infoP
  obtain ⟨av, cv, rfl⟩ := hs.form
  have HS := Lib.hid hs
  clear hs
  go_enter Try.func41, Try.ntmps41
  go_wp2_with fail
  go_loop [3, 11] (fun n i => ∃ k : Nat, k ≤ S.length ∧ i = .int .i64 k ∧ n = .int .i64 (allP (S.take k)).length) (fun _ i => S.length - (intOf i).toNat)
  case atStart => exact ⟨0, Nat.zero_le _, rfl, by simp [allP]⟩
  case round =>
    obtain ⟨k, hk, rfl, rfl⟩ := hrel
    by_cases hlt : k < S.length
    · obtain ⟨b, off, ar, cr, rfl, hv, c0, hp⟩ := HS.out.at hlt
      have hl := allP_len hlt
      have hl2 := allP_le S (k + 1)
      obtain ⟨m, hm1⟩ : ∃ m, S[k].2.length = m := ⟨_, rfl⟩
      obtain ⟨t, ht⟩ : ∃ t, (allP (S.take k)).length = t := ⟨_, rfl⟩
      rw [hm1] at hl c0
      rw [ht] at hl ⊢
      have HL := Lib.hid hl
      have hb : t + m ≤ 1000000 := by omega
      clear hl hl2 hp hv hm1 ht
      go_wp2_with fail
      go_round
      case rel => exact ⟨k + 1, by omega, by go_num, by rw [HL.out]; go_num⟩
      case measure => simp [intOf]; omega
    · obtain rfl : k = S.length := by omega
      rw [List.take_length]
      obtain ⟨t, ht⟩ : ∃ t, (allP S).length = t := ⟨_, rfl⟩
      rw [ht] at hm ⊢
      have HT := Lib.hid ht
      clear ht
      obtain ⟨W0, HMK, ho, hBm⟩ : ∃ W0, (Instr.makeSlice 28 (.int .i64 0) (.int .i64 (t : Int))).run Try.prog w = .ok (.slice (some ⟨w.heap.size, 0, none⟩) 0 t) W0 ∧ OwnP W0 w.heap.size (.slice (some ⟨w.heap.size, 0, none⟩) 0 t) [] ∧ Below w.heap.size w W0 := ⟨_, make_pairs t (by omega) w, made_own w t (by omega), below_alloc w _⟩
      have HO := Lib.hid ho
      clear ho
      go_wp2_with fail
      go_loopw [6, 24] (fun r i wr => ∃ k : Nat, k ≤ S.length ∧ i = .int .i64 k ∧ (∃ ao cap, r = .slice ao (allP (S.take k)).length cap ∧ OwnP wr w.heap.size (.slice ao (allP (S.take k)).length cap) (allP (S.take k))) ∧ Below w.heap.size w wr) (fun _ i _ => S.length - (intOf i).toNat)
      case atStart => exact ⟨0, Nat.zero_le _, rfl, ⟨some ⟨w.heap.size, 0, none⟩, t, by simp [allP], by simpa [allP] using HO.out⟩, hBm⟩
      case round =>
        obtain ⟨k, hk, rfl, ⟨ao, cap, rfl, hown⟩, hB⟩ := hrel
        by_cases hlt : k < S.length
        · obtain ⟨b, off, ar, cr, rfl, hv, c0, hp⟩ := (HS.out.below hB).at hlt
          have hl := allP_len hlt
          have hl2 := allP_le S (k + 1)
          rw [HT.out] at hl2
          have hs := allP_succ hlt
          obtain ⟨R, hR⟩ : ∃ R, S[k].2 = R := ⟨_, rfl⟩
          obtain ⟨T, hT⟩ : ∃ T, allP (S.take k) = T := ⟨_, rfl⟩
          obtain ⟨U, hU⟩ : ∃ U, allP (S.take (k + 1)) = U := ⟨_, rfl⟩
          rw [hR] at hl hs c0 hp
          rw [hT] at hl hs hown ⊢
          rw [hU] at hl hs hl2
          have HP := Lib.hid (And.intro hp (And.intro hown (And.intro hs hU)))
          obtain ⟨m, hm1⟩ : ∃ m, R.length = m := ⟨_, rfl⟩
          obtain ⟨n, hm2⟩ : ∃ n, T.length = n := ⟨_, rfl⟩
          obtain ⟨q, hm3⟩ : ∃ q, U.length = q := ⟨_, rfl⟩
          have HM := Lib.hid (And.intro hm1 (And.intro hm2 hm3))
          rw [hm1] at c0
          rw [hm2]
          have hb : n + m = q := by omega
          have hb2 : q ≤ 1000000 := by omega
          clear hl hl2 hs hp hown hv hm1 hm2 hm3 hR hT hU
          go_wp2_with (at_builtin; refine wpList_append_rw rfl (.tmp 28) (.tmp 29) 28 rfl w.heap.size 31 i0 _ 3 40 Try.underlying28 hi hz0 hz1 hz2 rfl (by decide) _ n (pcells T) rfl (by have := HP.out.2.1; unfold OwnP at this; rw [HM.out.2.1] at this; exact this) ar m cr (pcells R) rfl (by have := HP.out.1; unfold Prs at this; rw [HM.out.1] at this; exact this) (pcells_one R) q hb (by unfold maxLen; omega) (by omega) hB.size ?_; intro a3 c3 w3 hown3 hg3)
          have hB3 := hB.grown hg3 hB.size (fun j e => by
            have h3 := HP.out.2.1
            unfold OwnP at h3
            rw [HM.out.2.1] at h3
            exact (h3.lt j e).1)
          go_roundw
          case rel =>
            obtain ⟨e1, e2, e3⟩ := HM.out
            obtain ⟨_, _, f3, f4⟩ := HP.out
            refine ⟨k + 1, by omega, by go_num, ⟨a3, c3, by rw [f4, e3], ?_⟩, hB3⟩
            rw [f4, e3]
            unfold OwnP
            rw [e3, f3, pcells_append]
            exact hown3
          case measure => simp [intOf]; omega
        · obtain rfl : k = S.length := by omega
          rw [List.take_length, HT.out] at hown ⊢
          have HW := Lib.hid hown
          clear hown
          go_wp2_with fail
          go_ret
          refine ⟨ao, cap, ?_, ?_, hB⟩
          · rw [HT.out]; rfl
          · rw [HT.out]; exact HW.out

/-- Rows that are laid as they stand. -/
theorem rws_lit (w : World) (S : List (Value × List Pr)) (t : TypeId) (h : ∀ x ∈ S, Prs w x.1 x.2) : Rws (w.alloc (.cells (S.map (·.1)).toArray t)) (.slice (some ⟨w.heap.size, 0, none⟩) S.length S.length) S := by
  refine ⟨⟨by simp, _, _, rfl, Nat.le_refl _, .inr ⟨_, 0, rfl, fun j hj => ?_⟩⟩, fun x hx => (h x hx).below (below_alloc w _)⟩
  rw [Nat.zero_add, World.cell?_alloc_new]
  simp only [List.getElem?_toArray, List.getElem?_eq_getElem hj]
theorem rws_one {w : World} {v : Value} {L : List Pr} (h : Prs w v L) : Rws (w.alloc (.cells #[v] 28)) (.slice (some ⟨w.heap.size, 0, none⟩) 1 1) [(v, L)] :=
  rws_lit w [(v, L)] _ (fun x hx => by simp only [List.mem_singleton] at hx; subst hx; exact h)
theorem rws_two {w : World} {v1 v2 : Value} {L1 L2 : List Pr} (h1 : Prs w v1 L1) (h2 : Prs w v2 L2) : Rws (w.alloc (.cells #[v1, v2] 28)) (.slice (some ⟨w.heap.size, 0, none⟩) 2 2) [(v1, L1), (v2, L2)] :=
  rws_lit w [(v1, L1), (v2, L2)] _ (fun x hx => by
    simp only [List.mem_cons, List.not_mem_nil, or_false] at hx
    rcases hx with rfl | rfl
    · exact h1
    · exact h2)
/-- What Put puts together: a row, one pair, a row. -/
theorem rws_put {w : World} {v1 v2 : Value} {L1 L2 : List Pr} (p : List UInt8) (m : Int) (s : List UInt8) (h1 : Prs w v1 L1) (h2 : Prs w v2 L2) :
    Rws (((w.alloc (.cells #[.string ⟨p.toArray⟩, .int .i64 m, .string ⟨s.toArray⟩] 31)).alloc (.cells #[v1, .slice (some ⟨w.heap.size, 0, none⟩) 1 1, v2] 28)).drew) (.slice (some ⟨w.heap.size + 1, 0, none⟩) 3 3) [(v1, L1), (.slice (some ⟨w.heap.size, 0, none⟩) 1 1, [((p, m), s)]), (v2, L2)] := by
  have hB := below_alloc w (.cells #[.string ⟨p.toArray⟩, .int .i64 m, .string ⟨s.toArray⟩] 31)
  have hx := prs_lit w [((p, m), s)] 31
  have h := rws_lit (w.alloc (.cells #[.string ⟨p.toArray⟩, .int .i64 m, .string ⟨s.toArray⟩] 31)) [(v1, L1), (.slice (some ⟨w.heap.size, 0, none⟩) 1 1, [((p, m), s)]), (v2, L2)] 28 (fun x hx' => by
    simp only [List.mem_cons, List.not_mem_nil, or_false] at hx'
    rcases hx' with rfl | rfl | rfl
    · exact h1.below hB
    · exact hx
    · exact h2.below hB)
  rw [World.size_alloc] at h
  exact h.below (drew_below _)

end Go.Proofs.Ytgbicdbmmjleoaa
