/-
  chain.Whole.
-/
import Derived.Test.YtinbeapkhmcifaaDoorChHave
import Derived.Test.YtinbeapkhmcifaaDoorShelf
import Derived.Lib.Join
namespace Go.Proofs.YtinbeapkhmcifaaDoor
set_option maxRecDepth 100000
open Go.RowKit Go.Maps

theorem join_none (l : List (List UInt8)) : Lib.join l [] = l.flatten := by
  unfold Lib.join
  induction l with
  | nil => rfl
  | cons x r ih =>
    cases r with
    | nil => simp [List.intercalate, List.intersperse]
    | cons y r =>
      rw [List.flatten_cons, ← ih]
      simp [List.intercalate, List.intersperse]
theorem datas_map : ∀ ls : List (List UInt8), (ls.map fun l => ByteArray.mk l.toArray).map (fun x : ByteArray => x.data.toList) = ls
  | [] => rfl
  | l :: r => by rw [List.map_cons, List.map_cons, datas_map r]

theorem join0_calls (v : Value) (ls : List (List UInt8)) (w : World) (h : Txts w v ls) (hn : ls.length ≤ 1000000) (hl : ls.flatten.length ≤ 100000000) :
    Calls Tryd.prog 29 #[v, .string ⟨#[]⟩] w fun e w' => e = .returned (.string ⟨ls.flatten.toArray⟩) ∧ Below w.heap.size w w' := by
  by_cases h0 : ls = []
  · subst h0
    obtain ⟨ao, cap, rfl, _, _⟩ := h
    refine (Tryd.strings_Join_none ao cap ⟨#[]⟩ w).mono ?_
    rintro e w' ⟨rfl, rfl⟩
    exact ⟨rfl, Below.refl _ _⟩
  · obtain ⟨b, off, cap, rfl, hc, hcs⟩ := h.some h0
    have e1 : (ls.map fun l => ByteArray.mk l.toArray).map (·.data.toList) = ls := datas_map ls
    have e2 : (ls.map fun l => ByteArray.mk l.toArray).length = ls.length := by simp
    have e3 : (ByteArray.mk #[]).data.toList = [] := rfl
    have hb : b < w.heap.size := World.block_lt_of_cell? w _ (hcs 0 (List.length_pos_iff.2 h0))
    have h1 := Tryd.strings_Join b off cap (ls.map fun l => ByteArray.mk l.toArray) ⟨#[]⟩ w (by
      intro j x hx
      have hj : j < ls.length := by have := (List.getElem?_eq_some_iff.1 hx).1; simpa using this
      simp [List.getElem?_eq_getElem hj] at hx
      rw [hcs j hj, ← hx]; rfl) hb (by rw [e2]; omega) (by rw [e2]; exact hc) (by
      rw [e1, e3, join_none]; omega)
    rw [e1, e2, e3, join_none] at h1
    exact h1

theorem of_le {m : Nat} {l : List (List UInt8)} (h : LenL m l) (c : Int) : (ofSum l c).length ≤ m := by
  cases hc : hasSum l c with
  | true => exact h _ (of_mem hc).1
  | false => rw [of_none hc]; simp
theorem got_le {m : Nat} {l : List (List UInt8)} (h : LenL m l) : ∀ cs : List Int, (gotL l cs).flatten.length ≤ cs.length * m
  | [] => by simp [gotL]
  | c :: r => by
    have h1 := got_le h r
    have h2 := of_le h c
    have : gotL l (c :: r) = ofSum l c :: gotL l r := rfl
    rw [this, List.flatten_cons, List.length_append, List.length_cons, Nat.succ_mul]
    omega
theorem got_more {l : List (List UInt8)} {cs : List Int} {k : Nat} (h : k < cs.length) : (gotL l (cs.take (k + 1))).flatten.length = (gotL l (cs.take k)).flatten.length + (ofSum l cs[k]).length := by
  rw [got_snoc l h, List.flatten_append, List.length_append]
  simp

theorem cwhole_bad (z d : Int) (u : Value) (cs : List Int) (v : Value) (w : World) (hu : Ints w u cs) (hcs : cs.length ≤ 1000000) (hb : metaB z d cs = false) :
    Calls Tryd.prog 14 #[MV z d u, v] w fun e w' => e = .returned (.tuple #[.string ⟨#[]⟩, .int .i64 1]) ∧ Below w.heap.size w w' := by
  obtain ⟨ao, cap, rfl⟩ := hu.form
  have hB0 := below_alloc w (.cells #[.int .i64 z, .int .i64 d, .slice ao cs.length cap] 24)
  have K := Lib.hid (mIs_calls z d _ cs _ (hu.below hB0) hcs)
  rw [hb] at K
  have HB0 := Lib.hid hB0
  clear hu hB0 hb
  go_enter Tryd.func14, Tryd.ntmps14
  go_wp2_with fail
  refine K.out.mono ?_
  rintro e w1 ⟨rfl, hB1⟩
  go_wp2_with fail
  go_ret2
  exact ⟨rfl, below2 HB0.out hB1⟩

set_option maxHeartbeats 4000000 in
theorem cwhole_ok (z d : Int) (u : Value) (cs : List Int) (v : Value) (l : List (List UInt8)) (w : World) (hu : Ints w u cs) (hb : metaB z d cs = true) (h : Strs w v l) (hl : l.length ≤ 1000000) (hm : LenL 1000000 l) (hT : TabOk w) :
    Calls Tryd.prog 14 #[MV z d u, v] w fun e w' => e = .returned (.tuple #[.string ⟨(wholeT z d cs l).toArray⟩, .int .i64 (wholeE z d cs l)]) ∧ Below w.heap.size w w' := by
  have hmb := metaB_iff.1 hb
  have hcs : cs.length ≤ 16 := by omega
  have hwf : ∀ c ∈ cs, (Lit.int .i64 c).wf = true := by
    intro c hc
    exact WalkArith.wf_i64 (by have := hmb.2.2.2 c hc; omega)
  obtain ⟨ao, cap, rfl⟩ := hu.form
  obtain ⟨av, vc, rfl⟩ := h.form
  have hB0 := below_alloc w (.cells #[.int .i64 z, .int .i64 d, .slice ao cs.length cap] 24)
  have K := Lib.hid (mIs_calls z d _ cs _ (hu.below hB0) (by omega))
  rw [hb] at K
  have HB0 := Lib.hid hB0
  have HU := Lib.hid (hu.below hB0)
  have HS := Lib.hid (h.below hB0)
  have HT := Lib.hid (hT.below hB0)
  have HX0 := Lib.hid (Cx.new w 24 [.int .i64 z, .int .i64 d, .slice ao cs.length cap])
  have HMB := Lib.hid hb
  clear h hu hB0 hT hmb hb
  go_enter Tryd.func14, Tryd.ntmps14
  go_wp2_with fail
  refine K.out.mono ?_
  rintro e w1 ⟨rfl, hB1⟩
  have K2 := Lib.hid (firsts_calls _ l w1 (HS.out.below hB1) hl hm (HT.out.below hB1))
  have HB1 := Lib.hid hB1
  clear hB1 K
  go_wp2_with fail
  refine K2.out.mono ?_
  rintro e w2 ⟨b, rfl, hF, hB2⟩
  have HU2 := Lib.hid (HU.out.below (below2 HB1.out hB2))
  have HS2 := Lib.hid (HS.out.below (below2 HB1.out hB2))
  have HB := Lib.hid (below3 HB0.out HB1.out hB2)
  have HX2 := Lib.hid (HX0.out.below (below2 HB1.out hB2))
  obtain ⟨c0, c1, c2, _, _, _, _⟩ := HX2.out.three
  obtain ⟨D, hD, hd⟩ := hF
  have HD := Lib.hid (show w2.ownsMap Tryd.prog 3 (plainElem Tryd.prog 3) b l.length D from hD)
  have HF := Lib.hid hd
  clear hB2 K2 HB0 HX0 HU HS HT HB1 hD hd
  go_wp2_with fail
  go_loopw [7, 8, 21] (fun q y x wr => ∃ k n : Nat, x = .int .i64 k ∧ y = .int .i64 n ∧ Hid (n = (gotL l (cs.take k)).flatten.length) ∧ k ≤ cs.length ∧ OwnL wr w2.heap.size q (gotL l (cs.take k)) ∧ Hid (allB l (cs.take k) = true) ∧ Hid (Below w2.heap.size w2 wr)) (fun _ _ x _ => cs.length - (intOf x).toNat)
  case atStart => exact ⟨0, 0, rfl, rfl, Lib.hid rfl, Nat.zero_le _, ownL_nil _ _, Lib.hid rfl, Lib.hid (Below.refl _ _)⟩
  case round =>
    obtain ⟨k, n, rfl, rfl, hn, hk, hown, hA, hB⟩ := hrel
    by_cases hlt : k < cs.length
    · obtain ⟨b2, off, rfl, hc⟩ := (HU2.out.below hB.out).at hlt
      have hw := hwf _ (List.getElem_mem hlt)
      have hsn := got_snoc l hlt
      have hmo := got_more (l := l) hlt
      have hal := fun h => all_snoc hA.out hlt h
      have han := fun h => all_not (l := l) hlt h
      have hle := got_le hm (cs.take (k + 1))
      have hgl := got_len l (cs.take k)
      rw [List.length_take] at hle hgl
      have hll : (gotL l (cs.take k)).length ≤ 1000000 := by omega
      have hD := HD.out.kept (below_grown hB.out) (by simp)
      have hsz := hB.out.size
      rw [hmo, ← hn.out] at hle
      rw [← hn.out] at hmo
      generalize cs[k] = c at *
      have hkey : keyOf Tryd.prog 3 (.int .i64 c) = some (.int .i64 c) := keyOf_int_mk Tryd.underlying3 hw
      cases ha : atSum l c with
      | none =>
        have hh := at_none ha
        have hq := (HF.out c).1 ha
        have HN := Lib.hid (whole_lacks HMB.out (han hh))
        clear hal han hsn hmo hgl hle hh ha hw
        go_wp2_with (first
          | (at_lookup; refine wpList_lookup_own_ok_int _ rfl _ _ 48 rfl 3 3 .i64 intLaw Tryd.underlying48 Tryd.underlying3 (intZero _) b l.length D rfl hD _ _ rfl hkey ?_; intro c3 hat hwc; rw [hq]))
        go_ret2
        exact ⟨by rw [HN.out.1, HN.out.2]; rfl, below2 HB.out hB.out⟩
      | some i =>
        obtain ⟨hh, hi, ho⟩ := at_some ha
        obtain ⟨hq, hat⟩ := (HF.out c).2 i ha
        have HA := Lib.hid (hal hh)
        obtain ⟨b3, off3, rfl, hc3⟩ := HS2.out.at hi
        rw [ho] at hsn hmo hle
        have HS := Lib.hid hsn
        have HM := Lib.hid hmo
        have hlen := lens_at hm hi
        generalize l[i] = t at *
        have hcr := look_below hB.out hc3
        clear hal han hsn hmo hgl hh ha hw ho
        have hb1 : n + t.length ≤ 17000000 := by omega
        clear hle
        go_wp2_with (first
          | (at_lookup; refine wpList_lookup_own_ok_int _ rfl _ _ 48 rfl 3 3 .i64 intLaw Tryd.underlying48 Tryd.underlying3 (intZero _) b l.length D rfl hD _ _ rfl hkey ?_; intro c3 hat3 hwc; obtain rfl : c3 = (i : Int) := (by rw [hat] at hat3; cases hat3; rfl); clear hat3; rw [hq])
          | (at_builtin; refine app_text rfl _ _ rfl w2.heap.size _ (gotL l (cs.take k)) rfl hown t rfl hll hsz ?_; intro v3 w3 ho3 hB3; have hB4 := hB3 w2 hB.out; have hc4 := look_below hB4 hc3))
        go_roundw
        case rel => exact ⟨k + 1, n + t.length, by go_num, by go_num, Lib.hid HM.out.symm, by omega, by rw [HS.out]; exact ho3, HA, Lib.hid hB4⟩
        case measure => simp [intOf]; omega
    · obtain rfl : k = cs.length := by omega
      rw [List.take_length] at hn hA hown
      have hle := got_le hm cs
      have hgl := got_len l cs
      have hTx := ownL_txts hown
      have hll : (gotL l cs).length ≤ 1000000 := by omega
      have KJ := Lib.hid (join0_calls _ (gotL l cs) wr hTx hll (by omega))
      have cz := look_below hB.out c0
      by_cases hz : ((gotL l cs).flatten.length : Int) = z
      · have HW := Lib.hid (whole_is HMB.out hA.out hz)
        have hne : ((n : Int) != z) = false := by rw [hn.out, bne_eq_false_iff_eq]; exact hz
        clear hz hle hTx
        go_wp2_with fail
        refine KJ.out.mono ?_
        rintro e w3 ⟨rfl, hB3⟩
        go_wp2_with fail
        go_ret2
        exact ⟨by rw [HW.out.1, HW.out.2]; rfl, below3 HB.out hB.out hB3⟩
      · have HW := Lib.hid (whole_other HMB.out hz)
        have hne : ((n : Int) != z) = true := by rw [hn.out, bne_iff_ne]; exact hz
        clear hz hle hTx KJ
        go_wp2_with fail
        go_ret2
        exact ⟨by rw [HW.out.1, HW.out.2]; rfl, below2 HB.out hB.out⟩

theorem cwhole_calls (z d : Int) (u : Value) (cs : List Int) (v : Value) (l : List (List UInt8)) (w : World) (hu : Ints w u cs) (hcs : cs.length ≤ 1000000) (h : Strs w v l) (hl : l.length ≤ 1000000) (hm : LenL 1000000 l) (hT : TabOk w) :
    Calls Tryd.prog 14 #[MV z d u, v] w fun e w' => e = .returned (.tuple #[.string ⟨(wholeT z d cs l).toArray⟩, .int .i64 (wholeE z d cs l)]) ∧ Below w.heap.size w w' := by
  cases hb : metaB z d cs with
  | true => exact cwhole_ok z d u cs v l w hu hb h hl hm hT
  | false =>
    obtain ⟨e1, e2⟩ := whole_bad (l := l) hb
    rw [e1, e2]
    exact cwhole_bad z d u cs v w hu hcs hb

end Go.Proofs.YtinbeapkhmcifaaDoor
