/-
  chain.turned with crc.Sum, chain.Sums; the document's own Sums.
-/
import Derived.Test.YtinbeapkhmcifaaDoorChApp
import Derived.Test.YtinbeapkhmcifaaDoorChSpec
import Derived.Test.YtinbeapkhmcifaaDoorSum
import Derived.Test.YtinbeapkhmcifaaDoorRefSum
namespace Go.Proofs.YtinbeapkhmcifaaDoor
set_option maxRecDepth 100000
open Go.RowKit

/-- None of the texts is longer than that. -/
def LenL (m : Nat) (l : List (List UInt8)) : Prop := ∀ t ∈ l, t.length ≤ m
theorem lens_at {m : Nat} {l : List (List UInt8)} (h : LenL m l) {k : Nat} (hk : k < l.length) : l[k].length ≤ m := h _ (List.getElem_mem hk)

set_option maxHeartbeats 1000000 in
theorem turned_calls (v : Value) (l : List (List UInt8)) (w : World) (h : Strs w v l) (hl : l.length ≤ 1000000) (hm : LenL 1000000 l) (hT : TabOk w) :
    Calls Tryd.prog 31 #[v, .func (.func 25) #[] #[]] w fun e w' => ∃ v', e = .returned v' ∧ OwnI w' w.heap.size v' (sumsL l) ∧ Below w.heap.size w w' := by
  obtain ⟨ao, cap, rfl⟩ := h.form
  have H := Lib.hid h
  have HT := Lib.hid hT
  clear h hT
  go_enter Tryd.func31, Tryd.ntmps31
  go_wp2_with fail
  go_loopw [5, 10] (fun u x wr => ∃ k : Nat, x = .int .i64 k ∧ k ≤ l.length ∧ OwnI wr w.heap.size u (sumsL (l.take k)) ∧ Below w.heap.size w wr) (fun _ x _ => l.length - (intOf x).toNat)
  case atStart => exact ⟨0, rfl, Nat.zero_le _, ownI_nil _ _, Below.refl _ _⟩
  case round =>
    obtain ⟨k, rfl, hk, hown, hB⟩ := hrel
    by_cases hlt : k < l.length
    · obtain ⟨b, off, rfl, hc⟩ := (H.out.below hB).at hlt
      have hs := Lib.hid (sums_snoc l hlt)
      have hlen := lens_at hm hlt
      have hll : (sumsL (l.take k)).length ≤ 1000000 := by rw [sums_len, List.length_take]; omega
      generalize l[k] = t at *
      go_wp2_with fail
      refine (sum_calls t (by omega) _ (HT.out.below hB)).mono ?_
      rintro e w1 ⟨rfl, hB1⟩
      have hsz := (below2 hB hB1).size
      go_wp2_with (at_builtin; refine app_int rfl _ _ rfl w.heap.size _ (sumsL (l.take k)) rfl (ownI_below hown hB1) (sumN t : Nat) rfl hll hsz ?_; intro v3 w3 ho3 hB3)
      go_roundw
      case rel => exact ⟨k + 1, by go_num, by omega, by rw [hs.out]; exact ho3, hB3 _ (below2 hB hB1)⟩
      case measure => simp [intOf]; omega
    · obtain rfl : k = l.length := by omega
      rw [List.take_length] at hown
      go_wp2_with fail
      go_ret
      exact ⟨_, rfl, hown, hB⟩

theorem csums_calls (v : Value) (l : List (List UInt8)) (w : World) (h : Strs w v l) (hl : l.length ≤ 1000000) (hm : LenL 1000000 l) (hT : TabOk w) :
    Calls Tryd.prog 20 #[v] w fun e w' => ∃ v', e = .returned v' ∧ OwnI w' w.heap.size v' (sumsL l) ∧ Below w.heap.size w w' := by
  go_enter Tryd.func20, Tryd.ntmps20
  go_wp2_with fail
  refine (turned_calls v l w h hl hm hT).mono ?_
  rintro e w1 ⟨v', rfl, ho, hB⟩
  go_wp2_with fail
  go_ret
  exact ⟨_, rfl, ho, hB⟩

set_option maxHeartbeats 1000000 in
theorem rsums_calls (v : Value) (l : List (List UInt8)) (w : World) (h : Strs w v l) (hl : l.length ≤ 1000000) (hm : LenL 1000000 l) :
    Calls Tryd.prog 21 #[v] w fun e w' => ∃ v', e = .returned v' ∧ OwnI w' w.heap.size v' (sumsL l) ∧ Below w.heap.size w w' := by
  obtain ⟨ao, cap, rfl⟩ := h.form
  have H := Lib.hid h
  clear h
  go_enter Tryd.func21, Tryd.ntmps21
  go_wp2_with fail
  go_loopw [3, 4] (fun u x wr => ∃ k : Nat, x = .int .i64 k ∧ k ≤ l.length ∧ OwnI wr w.heap.size u (sumsL (l.take k)) ∧ Below w.heap.size w wr) (fun _ x _ => l.length - (intOf x).toNat)
  case atStart => exact ⟨0, rfl, Nat.zero_le _, ownI_nil _ _, Below.refl _ _⟩
  case round =>
    obtain ⟨k, rfl, hk, hown, hB⟩ := hrel
    by_cases hlt : k < l.length
    · obtain ⟨b, off, rfl, hc⟩ := (H.out.below hB).at hlt
      have hs := Lib.hid (sums_snoc l hlt)
      have hlen := lens_at hm hlt
      have hll : (sumsL (l.take k)).length ≤ 1000000 := by rw [sums_len, List.length_take]; omega
      generalize l[k] = t at *
      go_wp2_with fail
      refine (refSum_calls t (by omega) _).mono ?_
      rintro e w1 ⟨rfl, hB1⟩
      have hsz := (below2 hB hB1).size
      go_wp2_with (at_builtin; refine app_int rfl _ _ rfl w.heap.size _ (sumsL (l.take k)) rfl (ownI_below hown hB1) (sumN t : Nat) rfl hll hsz ?_; intro v3 w3 ho3 hB3)
      go_roundw
      case rel => exact ⟨k + 1, by go_num, by omega, by rw [hs.out]; exact ho3, hB3 _ (below2 hB hB1)⟩
      case measure => simp [intOf]; omega
    · obtain rfl : k = l.length := by omega
      rw [List.take_length] at hown
      go_wp2_with fail
      go_ret
      exact ⟨_, rfl, hown, hB⟩

end Go.Proofs.YtinbeapkhmcifaaDoor
