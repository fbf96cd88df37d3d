/-
  chain.Have; the document's own find and Have.
-/
import Derived.Test.YtinbeapkhmcifaaDoorChMap
namespace Go.Proofs.YtinbeapkhmcifaaDoor
set_option maxRecDepth 100000
open Go.RowKit Go.Maps

/-- The map tells whether a sum is there. -/
theorem FDat.has {D : DataW Unit} {l : List (List UInt8)} (h : FDat D l) (c : Int) : Maps.has D (.int .i64 c) = hasSum l c := by
  cases ha : atSum l c with
  | none => rw [(h c).1 ha, at_none ha]
  | some i => rw [((h c).2 i ha).1, (at_some ha).1]

set_option maxHeartbeats 2000000 in
theorem chave_calls (z d : Int) (u : Value) (cs : List Int) (v : Value) (l : List (List UInt8)) (w : World) (hu : Ints w u cs) (hcs : cs.length ≤ 1000000) (hwf : ∀ c ∈ cs, (Lit.int .i64 c).wf = true) (h : Strs w v l) (hl : l.length ≤ 1000000) (hm : LenL 1000000 l) (hT : TabOk w) :
    Calls Tryd.prog 22 #[MV z d u, v] w fun e w' => ∃ v', e = .returned v' ∧ OwnI w' w.heap.size v' (haveL l cs cs.length) ∧ Below w.heap.size w w' := by
  obtain ⟨ao, cap, rfl⟩ := hu.form
  have hB0 := below_alloc w (.cells #[.int .i64 z, .int .i64 d, .slice ao cs.length cap] 24)
  have K := Lib.hid (firsts_calls v l _ (h.below hB0) hl hm (hT.below hB0))
  have HB0 := Lib.hid hB0
  have HU := Lib.hid (hu.below hB0)
  have HX0 := Lib.hid (Cx.new w 24 [.int .i64 z, .int .i64 d, .slice ao cs.length cap])
  clear h hu hB0 hT
  go_enter Tryd.func22, Tryd.ntmps22
  go_wp2_with fail
  refine K.out.mono ?_
  rintro e w1 ⟨b, rfl, hF, hB1⟩
  have HU1 := Lib.hid (HU.out.below hB1)
  have HB := Lib.hid (below2 HB0.out hB1)
  obtain ⟨c0, c1, c2, _, _, _, _⟩ := (HX0.out.below hB1).three
  obtain ⟨D, hD, hd⟩ := hF
  have HD := Lib.hid (show w1.ownsMap Tryd.prog 3 (plainElem Tryd.prog 3) b l.length D from hD)
  have HH := Lib.hid (show ∀ c, Maps.has D (.int .i64 c) = hasSum l c from hd.has)
  clear hB1 K HB0 HX0 HU hD hd
  go_wp2_with fail
  go_loopw [6, 16] (fun q x wr => ∃ k : Nat, x = .int .i64 k ∧ k ≤ cs.length ∧ OwnI wr w1.heap.size q (haveL l cs k) ∧ Hid (Below w1.heap.size w1 wr)) (fun _ x _ => cs.length - (intOf x).toNat)
  case atStart => exact ⟨0, rfl, Nat.zero_le _, ownI_nil _ _, Lib.hid (Below.refl _ _)⟩
  case round =>
    obtain ⟨k, rfl, hk, hown, hB⟩ := hrel
    by_cases hlt : k < cs.length
    · obtain ⟨b2, off, rfl, hc⟩ := (HU1.out.below hB.out).at hlt
      have hw := hwf _ (List.getElem_mem hlt)
      have hy := have_yes (l := l) hlt
      have hn := have_no (l := l) hlt
      have hle := have_le l cs k
      have hll : (haveL l cs k).length ≤ 1000000 := by omega
      have hD := HD.out.kept (below_grown hB.out) (by simp)
      have hsz := hB.out.size
      generalize cs[k] = c at *
      have hkey : keyOf Tryd.prog 3 (.int .i64 c) = some (.int .i64 c) := keyOf_int_mk Tryd.underlying3 hw
      have hq := HH.out c
      cases hh : hasSum l c with
      | true =>
        rw [hh] at hq
        have HN := Lib.hid (hy hh)
        clear hy hn hh hw hle
        go_wp2_with (first
          | (at_lookup; refine wpList_lookup_own_ok_int _ rfl _ _ 48 rfl 3 3 .i64 intLaw Tryd.underlying48 Tryd.underlying3 (intZero _) b l.length D rfl hD _ _ rfl hkey ?_; intro c3 hat hwc; rw [hq])
          | (at_builtin; refine app_int rfl _ _ rfl w1.heap.size _ (haveL l cs k) rfl hown (k : Int) rfl hll hsz ?_; intro v3 w3 ho3 hB3))
        go_roundw
        case rel => exact ⟨k + 1, by go_num, by omega, by rw [HN.out]; exact ho3, Lib.hid (hB3 w1 hB.out)⟩
        case measure => simp [intOf]; omega
      | false =>
        rw [hh] at hq
        have HN := Lib.hid (hn hh)
        clear hy hn hh hw hle
        go_wp2_with (first
          | (at_lookup; refine wpList_lookup_own_ok_int _ rfl _ _ 48 rfl 3 3 .i64 intLaw Tryd.underlying48 Tryd.underlying3 (intZero _) b l.length D rfl hD _ _ rfl hkey ?_; intro c3 hat hwc; rw [hq]))
        go_roundw
        case rel => exact ⟨k + 1, by go_num, by omega, by rw [HN.out]; exact hown, hB⟩
        case measure => simp [intOf]; omega
    · obtain rfl : k = cs.length := by omega
      go_wp2_with fail
      go_ret
      exact ⟨_, rfl, own_weak hown HB.out.size, below2 HB.out hB.out⟩

/-- Found: none ahead has that sum. -/
theorem found_at {l : List (List UInt8)} {c : Int} {k : Nat} (hk : k < l.length) (hn : hasSum (l.take k) c = false) (he : ((sumN l[k] : Nat) : Int) = c) : hasSum l c = true ∧ ofSum l c = l[k] := by
  have hn' : (l.take k).find? (fun t => ((sumN t : Nat) : Int) == c) = none := by
    rw [hasSum, List.any_eq_false] at hn
    exact List.find?_eq_none.2 fun t ht => by simpa using hn t ht
  have hd : l = l.take k ++ l[k] :: l.drop (k + 1) := by rw [← List.drop_eq_getElem_cons hk, List.take_append_drop]
  refine ⟨?_, ?_⟩
  · rw [hasSum, List.any_eq_true]
    exact ⟨_, List.getElem_mem hk, by simpa using he⟩
  · have : l.find? (fun t => ((sumN t : Nat) : Int) == c) = some l[k] := by
      conv => lhs; rw [hd]
      rw [List.find?_append, hn', Option.none_or, List.find?_cons_of_pos (by simpa using he)]
    rw [ofSum, this]
    rfl
theorem not_next {l : List (List UInt8)} {c : Int} {k : Nat} (hk : k < l.length) (hn : hasSum (l.take k) c = false) (he : ((sumN l[k] : Nat) : Int) ≠ c) : hasSum (l.take (k + 1)) c = false := by
  unfold hasSum at *
  rw [List.take_succ_eq_append_getElem hk, List.any_append, hn]
  simpa using he

set_option maxHeartbeats 1000000 in
theorem find_calls (v : Value) (l : List (List UInt8)) (c : Int) (w : World) (h : Strs w v l) (hl : l.length ≤ 1000000) (hm : LenL 1000000 l) :
    Calls Tryd.prog 30 #[v, .int .i64 c] w fun e w' => e = .returned (.tuple #[.string ⟨(ofSum l c).toArray⟩, .bool (hasSum l c)]) ∧ Below w.heap.size w w' := by
  obtain ⟨ao, cap, rfl⟩ := h.form
  have H := Lib.hid h
  clear h
  go_enter Tryd.func30, Tryd.ntmps30
  go_wp2_with fail
  go_loopw [6] (fun x wr => ∃ k : Nat, x = .int .i64 k ∧ k ≤ l.length ∧ Hid (hasSum (l.take k) c = false) ∧ Below w.heap.size w wr) (fun x _ => l.length - (intOf x).toNat)
  case atStart => exact ⟨0, rfl, Nat.zero_le _, Lib.hid (by simp [hasSum]), Below.refl _ _⟩
  case round =>
    obtain ⟨k, rfl, hk, hn, hB⟩ := hrel
    by_cases hlt : k < l.length
    · have hst := (H.out.below hB).at hlt
      obtain ⟨b, off, rfl, hc⟩ := hst
      have hlen := lens_at hm hlt
      have hf := found_at hlt hn.out
      have hx := not_next hlt hn.out
      generalize l[k] = t at *
      by_cases he : ((sumN t : Nat) : Int) = c
      · obtain ⟨f1, f2⟩ := hf he
        have F1 := Lib.hid f1
        have F2 := Lib.hid f2
        have hq : (((sumN t : Nat) : Int) == c) = true := by simpa using he
        clear hf hx f1 f2 he
        go_wp2_with (go_at_call 32; refine (refSum_calls t (by omega) _).mono ?_; rintro e w1 ⟨rfl, hB1⟩; have hc1 := look_below hB1 hc)
        go_ret2
        exact ⟨by rw [F1.out, F2.out]; rfl, below2 hB hB1⟩
      · have F1 := Lib.hid (hx he)
        have hq : (((sumN t : Nat) : Int) == c) = false := by simpa using he
        clear hf hx he
        go_wp2_with (go_at_call 32; refine (refSum_calls t (by omega) _).mono ?_; rintro e w1 ⟨rfl, hB1⟩)
        go_roundw
        case rel => exact ⟨k + 1, by go_num, by omega, F1, below2 hB hB1⟩
        case measure => simp [intOf]; omega
    · obtain rfl : k = l.length := by omega
      rw [List.take_length] at hn
      have F2 := Lib.hid (of_none hn.out)
      go_wp2_with fail
      go_ret2
      exact ⟨by rw [hn.out, F2.out]; rfl, hB⟩

set_option maxHeartbeats 2000000 in
theorem rhave_calls (z d : Int) (u : Value) (cs : List Int) (v : Value) (l : List (List UInt8)) (w : World) (hu : Ints w u cs) (hcs : cs.length ≤ 1000000) (h : Strs w v l) (hl : l.length ≤ 1000000) (hm : LenL 1000000 l) :
    Calls Tryd.prog 23 #[MV z d u, v] w fun e w' => ∃ v', e = .returned v' ∧ OwnI w' w.heap.size v' (haveL l cs cs.length) ∧ Below w.heap.size w w' := by
  obtain ⟨ao, cap, rfl⟩ := hu.form
  have hB0 := below_alloc w (.cells #[.int .i64 z, .int .i64 d, .slice ao cs.length cap] 24)
  have HB0 := Lib.hid hB0
  have HU := Lib.hid (hu.below hB0)
  have HS := Lib.hid (h.below hB0)
  have HX := Lib.hid (Cx.new w 24 [.int .i64 z, .int .i64 d, .slice ao cs.length cap])
  obtain ⟨W0, hW0⟩ : ∃ W0, W0 = w.alloc (.cells #[.int .i64 z, .int .i64 d, .slice ao cs.length cap] 24) := ⟨_, rfl⟩
  have hz0 : w.heap.size ≤ W0.heap.size := by rw [hW0, World.size_alloc]; omega
  have HW := Lib.hid hW0
  rw [← hW0] at HB0 HU HS HX
  clear h hu hB0 hW0
  go_enter Tryd.func23, Tryd.ntmps23
  go_wp2_with fail
  go_loopw [5, 6] (fun q x wr => ∃ k : Nat, x = .int .i64 k ∧ k ≤ cs.length ∧ OwnI wr W0.heap.size q (haveL l cs k) ∧ Hid (Below W0.heap.size W0 wr)) (fun _ x _ => cs.length - (intOf x).toNat)
  case atStart => exact ⟨0, rfl, Nat.zero_le _, ownI_nil _ _, Lib.hid (HW.out ▸ Below.refl _ _)⟩
  case round =>
    obtain ⟨k, rfl, hk, hown, hB⟩ := hrel
    obtain ⟨c0, c1, c2, _, _, _, _⟩ := (HX.out.below hB.out).three
    by_cases hlt : k < cs.length
    · obtain ⟨b2, off, rfl, hc⟩ := (HU.out.below hB.out).at hlt
      have hy := have_yes (l := l) hlt
      have hn := have_no (l := l) hlt
      have hle := have_le l cs k
      have hll : (haveL l cs k).length ≤ 1000000 := by omega
      have hst := HS.out.below hB.out
      generalize cs[k] = c at *
      have K := Lib.hid (find_calls v l c wr hst hl hm)
      clear hst
      cases hh : hasSum l c with
      | true =>
        rw [hh] at K
        have HN := Lib.hid (hy hh)
        clear hy hn hh hle
        go_wp2_with fail
        refine K.out.mono ?_
        rintro e w1 ⟨rfl, hB1⟩
        have hsz := (below2 hB.out hB1).size
        go_wp2_with (at_builtin; refine app_int rfl _ _ rfl W0.heap.size _ (haveL l cs k) rfl (ownI_below hown hB1) (k : Int) rfl hll hsz ?_; intro v3 w3 ho3 hB3)
        go_roundw
        case rel => exact ⟨k + 1, by go_num, by omega, by rw [HN.out]; exact ho3, Lib.hid (hB3 W0 (below2 hB.out hB1))⟩
        case measure => simp [intOf]; omega
      | false =>
        rw [hh] at K
        have HN := Lib.hid (hn hh)
        clear hy hn hh hle
        go_wp2_with fail
        refine K.out.mono ?_
        rintro e w1 ⟨rfl, hB1⟩
        go_wp2_with fail
        go_roundw
        case rel => exact ⟨k + 1, by go_num, by omega, by rw [HN.out]; exact ownI_below hown hB1, Lib.hid (below2 hB.out hB1)⟩
        case measure => simp [intOf]; omega
    · obtain rfl : k = cs.length := by omega
      go_wp2_with fail
      go_ret
      exact ⟨_, rfl, own_weak hown hz0, below2 HB0.out hB.out⟩

end Go.Proofs.YtinbeapkhmcifaaDoor
