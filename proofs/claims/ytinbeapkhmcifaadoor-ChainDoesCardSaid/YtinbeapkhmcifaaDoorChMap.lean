/-
  chain.firsts: a map of sums to places.
-/
import Derived.Test.YtinbeapkhmcifaaDoorChSums
import Derived.Maps.OwnSet
namespace Go.Proofs.YtinbeapkhmcifaaDoor
set_option maxRecDepth 100000
open Go.RowKit Go.Maps

theorem intLaw : Keyed Tryd.prog 3 := int_keyed Tryd.underlying3
theorem intZero (w : World) : (zeroValue 3).run Tryd.prog w = .ok (.int .i64 0) w := by kernel_rfl

/-- What a map says: where the first text with a sum stands. -/
def FDat (D : DataW Unit) (l : List (List UInt8)) : Prop :=
  ∀ c : Int, (atSum l c = none → Maps.has D (.int .i64 c) = false) ∧ ∀ i : Nat, atSum l c = some i → Maps.has D (.int .i64 c) = true ∧ D.atKey (.int .i64 c) (.lit (.int .i64 0)) = .lit (.int .i64 i)
theorem fdat_nil : FDat (.map []) [] := by
  intro c
  exact ⟨fun _ => rfl, fun i h => by simp [atSum] at h⟩
theorem fdat_same {D : DataW Unit} {l : List (List UInt8)} {t : List UInt8} (h : FDat D l) (ht : atSum l (sumN t : Nat) ≠ none) : FDat D (l ++ [t]) := by
  intro c
  rw [at_snoc]
  by_cases hc : ((sumN t : Nat) : Int) = c
  · subst hc
    cases ha : atSum l (sumN t : Nat) with
    | none => exact absurd ha ht
    | some i =>
      rw [Option.some_or]
      exact ⟨fun e => by simp at e, fun j e => by cases e; exact (h _).2 i ha⟩
  · rw [if_neg hc, Option.or_none]
    exact h c
theorem fdat_put {D : DataW Unit} {l : List (List UInt8)} {t : List UInt8} (h : FDat D l) (hD : IsMap D) (ht : atSum l (sumN t : Nat) = none) : FDat (D.put (.int .i64 (sumN t : Nat)) (.lit (.int .i64 l.length))) (l ++ [t]) := by
  intro c
  rw [at_snoc]
  by_cases hc : ((sumN t : Nat) : Int) = c
  · subst hc
    rw [ht, if_pos rfl, Option.none_or]
    refine ⟨fun e => by simp at e, fun j e => ?_⟩
    cases e
    have hk : WideAt.IsKeyLit (.int .i64 (sumN t : Nat)) := by simp [WideAt.IsKeyLit]
    exact ⟨has_put_same hD hk _, atKey_put_same hD hk _ _⟩
  · have hne : (Lit.int .i64 c) ≠ .int .i64 (sumN t : Nat) := fun e => hc (by cases e; rfl)
    rw [if_neg hc, Option.or_none, has_put_other hne, atKey_put_other hne]
    exact h c

/-- The block b is such a map, of at most n entries. -/
def FMap (w : World) (b n : Nat) (l : List (List UInt8)) : Prop := ∃ D : DataW Unit, w.ownsMap Tryd.prog 3 (plainElem Tryd.prog 3) b n D ∧ FDat D l
theorem FMap.below {w w' : World} {b n : Nat} {l : List (List UInt8)} (h : FMap w b n l) (hB : Below w.heap.size w w') : FMap w' b n l := by
  obtain ⟨D, h1, h2⟩ := h
  exact ⟨D, h1.kept (below_grown hB) (by simp), h2⟩
theorem FMap.lt {w : World} {b n : Nat} {l : List (List UInt8)} (h : FMap w b n l) : b < w.heap.size := by
  obtain ⟨D, h1, _⟩ := h
  exact h1.lt
theorem ownI_map {w w' : World} {base b : Nat} {v : Value} {l : List Int} (h : OwnI w base v l) (hg : w.grownBy w' (some b)) (hb : b < base) : OwnI w' base v l := by
  refine h.kept hg (.inr fun e => ?_)
  have := (h.lt _ e).1
  omega

set_option maxHeartbeats 2000000 in
theorem firsts_calls (v : Value) (l : List (List UInt8)) (w : World) (h : Strs w v l) (hl : l.length ≤ 1000000) (hm : LenL 1000000 l) (hT : TabOk w) :
    Calls Tryd.prog 28 #[v] w fun e w' => ∃ b, e = .returned (.map (some b)) ∧ FMap w' b l.length l ∧ Below w.heap.size w w' := by
  have hmm := @run_makeMap Tryd.prog
  have hB0 := below_alloc w (.map #[] 0)
  have K := Lib.hid (csums_calls v l _ (h.below hB0) hl hm (hT.below hB0))
  have hF0 : FMap (w.alloc (.map #[] 0)) w.heap.size 0 [] := ⟨_, World.ownsMap_made w Tryd.prog 3 (plainElem (H := Unit) Tryd.prog 3), fdat_nil⟩
  have HF0 := Lib.hid hF0
  have HB0 := Lib.hid hB0
  clear h hB0 hT hF0
  go_enter Tryd.func28, Tryd.ntmps28
  go_wp2_with fail
  refine K.out.mono ?_
  rintro e w1 ⟨vs, rfl, ho, hB1⟩
  rw [World.size_alloc] at ho
  obtain ⟨ao, cap, rfl⟩ := (ints_own ho).form
  have hsl := sums_len l
  have HO := Lib.hid ho
  have HF := Lib.hid (HF0.out.below hB1)
  have HB := Lib.hid (below2 HB0.out hB1)
  clear ho hB1 K HF0 HB0
  go_wp2_with fail
  go_loopw [12] (fun x wr => ∃ k : Nat, x = .int .i64 k ∧ k ≤ l.length ∧ FMap wr w.heap.size k (l.take k) ∧ OwnI wr (w.heap.size + 1) (.slice ao (sumsL l).length cap) (sumsL l) ∧ Below w.heap.size w wr) (fun x _ => l.length - (intOf x).toNat)
  case atStart => exact ⟨0, rfl, Nat.zero_le _, HF.out, HO.out, HB.out⟩
  case round =>
    obtain ⟨k, rfl, hk, hF, hown, hB⟩ := hrel
    obtain ⟨D, hD, hd⟩ := hF
    by_cases hlt : k < l.length
    · have hlt2 : k < (sumsL l).length := by omega
      obtain ⟨b, off, rfl, hc⟩ := (ints_own hown).at hlt2
      have he : (sumsL l)[k] = ((sumN l[k] : Nat) : Int) := by simp [sumsL]
      rw [he] at hc
      have hsn : l.take (k + 1) = l.take k ++ [l[k]] := List.take_succ_eq_append_getElem hlt
      have hsum := sum_lt l[k]
      generalize l[k] = t at *
      have hw := WalkArith.wf_i64 (n := ((sumN t : Nat) : Int)) (by omega)
      have hkey : keyOf Tryd.prog 3 (.int .i64 (sumN t : Nat)) = some (.int .i64 (sumN t : Nat)) := keyOf_int_mk Tryd.underlying3 hw
      have hkw := WalkArith.wf_i64 (n := (k : Int)) (by omega)
      have hkl : (l.take k).length = k := by rw [List.length_take]; omega
      have HD := Lib.hid hd
      have HS := Lib.hid hsn
      cases ha : atSum (l.take k) (sumN t : Nat) with
      | none =>
        have hhas := (hd _).1 ha
        have HP := Lib.hid (fdat_put hd hD.isMap ha)
        rw [hkl] at HP
        clear ha hsn hkl hd he hsum
        go_wp2_with (first
          | (at_lookup; refine wpList_lookup_own_ok_int _ rfl _ _ 48 rfl 3 3 .i64 intLaw Tryd.underlying48 Tryd.underlying3 (intZero _) w.heap.size k D rfl hD _ _ rfl hkey ?_; intro c hat hwc; rw [hhas])
          | (at_mapUpdate; refine wpList_mapUpdate_own _ rfl _ _ _ 48 rfl 3 3 intLaw Tryd.underlying48 _ w.heap.size k D rfl hD (by unfold maxLen; omega) _ _ _ rfl rfl hkey _ [] (plainElem_int Tryd.underlying3 hkw) ?_; intro w2 hD2 hg2))
        go_roundw
        case rel => exact ⟨k + 1, by go_num, by omega, ⟨_, hD2, by rw [HS.out]; exact HP.out⟩, ownI_map hown hg2 (Nat.lt_succ_self _), hB.grown hg2 hB.size (fun j hj => by cases hj; exact Nat.le_refl _)⟩
        case measure => simp [intOf]; omega
      | some i =>
        have hhas := ((hd _).2 i ha).1
        have HP := Lib.hid (fdat_same hd (by rw [ha]; simp))
        clear ha hsn hkl hd he hsum
        go_wp2_with (first
          | (at_lookup; refine wpList_lookup_own_ok_int _ rfl _ _ 48 rfl 3 3 .i64 intLaw Tryd.underlying48 Tryd.underlying3 (intZero _) w.heap.size k D rfl hD _ _ rfl hkey ?_; intro c hat hwc; rw [hhas]))
        go_roundw
        case rel => exact ⟨k + 1, by go_num, by omega, ⟨_, hD.mono (Nat.le_succ _), by rw [HS.out]; exact HP.out⟩, hown, hB⟩
        case measure => simp [intOf]; omega
    · obtain rfl : k = l.length := by omega
      rw [List.take_length] at hd
      have HD := Lib.hid hd
      clear hd
      go_wp2_with fail
      go_ret
      exact ⟨_, rfl, ⟨D, hD, HD.out⟩, hB⟩

end Go.Proofs.YtinbeapkhmcifaaDoor
