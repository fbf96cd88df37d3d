/-
  codec.addText: a text's bytes are appended to a row of the call's own.
-/
import Derived.Test.YtoaoinmmfpmgkaaDoorLay
import Derived.Lib.AppendStr
namespace Go.Proofs.YtoaoinmmfpmgkaaDoor
open Go.RowKit

theorem add_bound2 {bs l : List UInt8} (hl : l.length ≤ 4294967295) (hlen : bs.length ≤ 1000000000) : (bs ++ numB l.length).length + (ByteArray.mk l.toArray).size ≤ 140737488355328 := by
  have := wid_le l.length
  rw [List.length_append, numB_length, size_mk]; omega

theorem add_bound1 {bs l : List UInt8} (hl : l.length ≤ 4294967295) (hlen : bs.length ≤ 1000000000) : (bs ++ numB l.length).length + (ByteArray.mk l.toArray).size ≤ maxLen := by
  have := add_bound2 hl hlen
  unfold maxLen; omega

theorem add_text {w : World} {base : Nat} {v : Value} {bs l : List UInt8} (h : w.ownsRow base 5 1 v ((bs ++ numB l.length).length + (ByteArray.mk l.toArray).size) ((bs ++ numB l.length).map B8 ++ Lib.strCells ⟨l.toArray⟩)) : Owns w base v (bs ++ txtB l) := by
  unfold Owns
  have e : (bs ++ txtB l).map B8 = (bs ++ numB l.length).map B8 ++ Lib.strCells ⟨l.toArray⟩ := by
    simp [txtB, Lib.strCells]
    intro a _
    rfl
  rw [e]
  simpa [txtB, size_mk, Nat.add_assoc] using h

set_option maxHeartbeats 1000000 in
theorem addText_calls (base : Nat) (v : Value) (bs l : List UInt8) (hl : l.length ≤ 4294967295) (w : World) (hown : Owns w base v bs) (hbase : base ≤ w.heap.size) (hlen : bs.length ≤ 1000000000) :
    Calls Tryd.prog 29 #[v, .string ⟨l.toArray⟩] w fun e w' => ∃ v', e = .returned v' ∧ Owns w' base v' (bs ++ txtB l) ∧ Below base w w' := by
  obtain ⟨i0, hi, hz0, hz1, hz2⟩ := info_parts info8
  have hwl := wid_le l.length
  have hnl := numB_length l.length
  have HNL := Lib.hid hnl
  clear hnl
  go_enter Tryd.func29, Tryd.ntmps29
  go_wp2_with (first | (go_at_call 34; refine (addNumber_calls base v bs l.length hl _ hown hbase (by omega)).mono ?_; rintro e w1 ⟨v1, rfl, hown1, hB1⟩) | (at_builtin; (refine Lib.wpList_append_own_string _ rfl _ _ 39 9 rfl base 5 i0 Tryd.underlying39 Tryd.underlying9 hi hz0 hz1 hz2 _ _ _ rfl hown1 ⟨l.toArray⟩ rfl (add_bound1 hl hlen) (add_bound2 hl hlen) (Nat.le_trans hbase hB1.size) ?_); intro v2 w2 hown2 hgrow _))
  go_ret
  exact ⟨v2, rfl, add_text hown2, hB1.grown hgrow (Nat.le_trans hbase hB1.size) (fun j e => (hown1.lt j e).1)⟩

end Go.Proofs.YtoaoinmmfpmgkaaDoor
