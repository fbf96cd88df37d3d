/-
  The document's own Put and Value of metas.
-/
import Derived.Test.YtijhbnkfkjfcfaaMeRefI
import Derived.Test.YtijhbnkfkjfcfaaMeValue
import Derived.Test.YtijhbnkfkjfcfaaMeRets
import Derived.Test.YtijhbnkfkjfcfaaNilApp
import Derived.Test.YtijhbnkfkjfcfaaRefNum
import Derived.WalkMore
namespace Go.Proofs.Ytijhbnkfkjfcfaa
set_option maxRecDepth 100000
open Go.RowKit
attribute [local go_sem] app_mk one_app

theorem own_three (w : World) (a b c : Int) (base : Nat) (hb : base ≤ w.heap.size) : OwnI (w.alloc (.cells #[.int .i64 a, .int .i64 b, .int .i64 c] 3)) base (.slice (some ⟨w.heap.size, 0, none⟩) 3 3) [a, b, c] :=
  World.ownsRow_lit w #[.int .i64 a, .int .i64 b, .int .i64 c] 3 hb (by decide) rfl

set_option maxHeartbeats 4000000 in
theorem rPut_no (z d : Int) (v : Value) (cs : List Int) (w : World) (hv : Ints w v cs) (hl : cs.length ≤ 1000000) (hm : metaB z d cs = false) :
    Calls Try.prog 10 #[MV z d v] w fun e w' => e = .returned (.tuple #[.string ⟨#[]⟩, .int .i64 1]) ∧ Below w.heap.size w w' := by
  obtain ⟨ao, cap, rfl⟩ := hv.form
  have HM := Lib.hid hm
  have HV := Lib.hid (hv.below (below_alloc w (.cells #[.int .i64 z, .int .i64 d, .slice ao cs.length cap] 24)))
  clear hv hm
  go_enter Try.func10, Try.ntmps10
  go_wp2_with fail
  refine (rIs_calls z d _ cs _ HV.out hl).mono ?_
  rintro e w1 ⟨rfl, hB1⟩
  rw [HM.out]
  go_wp2_with fail
  go_ret2
  exact ⟨rfl, below2 (below_alloc _ _) hB1⟩

set_option maxHeartbeats 4000000 in
theorem rPut_ok (z d : Int) (v : Value) (cs : List Int) (w : World) (hv : Ints w v cs) (hm : metaB z d cs = true) :
    Calls Try.prog 10 #[MV z d v] w fun e w' => e = .returned (.tuple #[.string ⟨(metaT z d cs).toArray⟩, .int .i64 0]) ∧ Below w.heap.size w w' := by
  obtain ⟨h1, h2, h3, h4⟩ := metaB_iff.1 hm
  obtain ⟨ao, cap, rfl⟩ := hv.form
  have HM := Lib.hid hm
  have HV := Lib.hid (hv.below (below_alloc w (.cells #[.int .i64 z, .int .i64 d, .slice ao cs.length cap] 24)))
  have HX := Lib.hid (Cx.new w 24 [.int .i64 z, .int .i64 d, .slice ao cs.length cap])
  have hl : cs.length ≤ 1000000 := by omega
  obtain ⟨i0, hi, hz0, hz1, hz2⟩ := info_parts int_info
  have hE : metaT z d cs = numsB ([z, d, (cs.length : Int)] ++ cs) := (numsB_app _ _).symm
  have HA : Hid (∀ c ∈ [z, d, (cs.length : Int)] ++ cs, 0 ≤ c ∧ c ≤ 4294967295) := by
    refine Lib.hid (fun c hc => ?_)
    rcases List.mem_append.1 hc with hc | hc
    · simp only [List.mem_cons, List.not_mem_nil, or_false] at hc
      rcases hc with rfl | rfl | rfl <;> omega
    · exact h4 c hc
  have hll : ([z, d, (cs.length : Int)] ++ cs).length = 3 + cs.length := by simp; omega
  rw [hE]
  have hc16 : cs.length ≤ 16 := h1
  obtain ⟨L, hL⟩ : ∃ L, [z, d, (cs.length : Int)] ++ cs = L := ⟨_, rfl⟩
  have HL := Lib.hid hL
  rw [hL] at HA hll ⊢
  clear hv hm h1 h2 h3 h4 hE hL
  go_enter Try.func10, Try.ntmps10
  go_wp2_with fail
  refine (rIs_calls z d _ cs _ HV.out hl).mono ?_
  rintro e w1 ⟨rfl, hB1⟩
  rw [HM.out]
  have HV1 := Lib.hid (HV.out.below hB1)
  obtain ⟨c0, c1, c2, f0, f1, f2, hlt⟩ := (HX.out.below hB1).three
  have HO := Lib.hid (own_three w1 z d cs.length w1.heap.size (Nat.le_refl _))
  have HV2 := Lib.hid (HV1.out.below (below_alloc w1 (.cells #[.int .i64 z, .int .i64 d, .int .i64 cs.length] 3)))
  have HB2 := Lib.hid (below_alloc w1 (.cells #[.int .i64 z, .int .i64 d, .int .i64 cs.length] 3))
  have hmx : 3 + cs.length ≤ maxLen := by unfold maxLen; omega
  have hby : (3 + cs.length) * 8 ≤ 140737488355328 := by omega
  go_wp2_with (at_builtin; (with_reducible show wpList _ _ _ _ _ _); refine wpList_append_rw rfl _ _ 22 rfl w1.heap.size 3 i0 (.int .i64 0) 1 8 Try.underlying22 hi hz0 hz1 hz2 rfl Nat.one_pos _ 3 _ rfl HO.out ao cs.length cap _ rfl HV2.out (ints_one cs) _ rfl hmx hby HB2.out.size ?_)
  intro a2 cap2 w2 ho2 hg2
  have hIn : Ints w2 (.slice a2 (3 + cs.length) cap2) L := by
    have h := Rw.own ho2
    have e : [Value.int .i64 z, Value.int .i64 d, Value.int .i64 cs.length] ++ cs.map (Value.int .i64) = L.map (Value.int .i64) := by rw [← HL.out]; simp
    have h' : Rw w2 1 (.slice a2 (3 + cs.length) cap2) (3 + cs.length) (L.map (Value.int .i64)) := e ▸ h
    rw [← hll] at h' ⊢
    exact h'
  have hB2 : Below w.heap.size w w2 := below2 (below2 (below_alloc _ _) hB1) (HB2.out.grown hg2 HB2.out.size (fun k hk => (HO.out.lt k hk).1))
  have HI := Lib.hid hIn
  have HB := Lib.hid hB2
  generalize 3 + cs.length = n at *
  subst hll
  clear hIn hB2 ho2 hg2 c0 c1 c2 f0 f1 f2 hlt
  go_wp2_with fail
  go_loopw [5, 6] (fun o i wr => ∃ k : Nat, k ≤ L.length ∧ i = .int .i64 k ∧ o = .string ⟨(numsB (L.take k)).toArray⟩ ∧ Hid (Below w2.heap.size w2 wr)) (fun _ i _ => L.length - (intOf i).toNat)
  case atStart => exact ⟨0, Nat.zero_le _, rfl, rfl, Lib.hid (Below.refl _ _)⟩
  case round =>
    obtain ⟨k, hk, rfl, rfl, hBr⟩ := hrel
    have hlen := numsB_len (L.take k)
    by_cases hlt : k < L.length
    · obtain ⟨b, off, rfl, hcell⟩ := (HI.out.below hBr.out).at hlt
      have hcc := HA.out _ (List.getElem_mem hlt)
      have HS := Lib.hid (nums_take hlt)
      generalize L[k] = c at hcell hcc HS
      obtain ⟨m, rfl⟩ : ∃ m : Nat, c = (m : Int) := ⟨c.toNat, by omega⟩
      rw [Int.toNat_natCast] at HS
      have hn := numB_length m
      have hwid := wid_le m
      rw [List.length_take] at hlen
      have hm4 : m ≤ 4294967295 := by omega
      have hnl : ¬ 9223372036854775807 < (numsB (List.take k L)).length + (numB m).length := by unfold maxLen at hmx; omega
      clear hlen hn hwid hcc
      go_wp2_with fail
      refine (refNumber_ok m hm4 _).mono ?_
      rintro e w3 ⟨rfl, hB3⟩
      go_wp2_with fail
      go_roundw
      case rel => exact ⟨k + 1, by omega, by go_num, by rw [HS.out], Lib.hid (below2 hBr.out hB3)⟩
      case measure => simp [intOf]; omega
    · obtain rfl : k = L.length := by omega
      have ht : numsB (L.take L.length) = numsB L := by rw [List.take_length]
      rw [ht]
      go_wp2_with fail
      go_ret2
      exact ⟨rfl, below2 HB.out hBr.out⟩

theorem rPut_calls (z d : Int) (v : Value) (cs : List Int) (w : World) (hv : Ints w v cs) (hl : cs.length ≤ 1000000) :
    Calls Try.prog 10 #[MV z d v] w fun e w' => e = .returned (.tuple #[.string ⟨(putM z d cs).toArray⟩, .int .i64 (putMe z d cs)]) ∧ Below w.heap.size w w' := by
  cases hm : metaB z d cs with
  | false =>
    have h1 : putM z d cs = [] := by simp [putM, hm]
    have h2 : putMe z d cs = 1 := by simp [putMe, hm]
    rw [h1, h2]
    exact rPut_no z d v cs w hv hl hm
  | true =>
    have h1 : putM z d cs = metaT z d cs := by simp [putM, hm]
    have h2 : putMe z d cs = 0 := by simp [putMe, hm]
    rw [h1, h2]
    exact rPut_ok z d v cs w hv hm

end Go.Proofs.Ytijhbnkfkjfcfaa
