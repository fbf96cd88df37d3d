/-
  codec.addText, codec.Number, codec.Text: the bytes that are laid.
-/
import Derived.Test.YtclfemhlonobiaaAdd
import Derived.Lib.AppendStr
import Derived.Laws.IdiomStrings
import Derived.WalkLawsBesides
namespace Go.Proofs.Ytclfemhlonobiaa
open Go.RowKit

theorem cells_at {w : World} {base : Nat} {g cap : Nat} {bs : List UInt8} (h : Owns w base (.slice (some ⟨g, 0, none⟩) bs.length cap) bs) : ∀ j (hj : j < bs.length), w.cell? ((⟨g, 0, none⟩ : Addr).add j) = some (.int .u8 (bs[j].toNat : Int)) := by
  intro j hj
  refine h.cells (g := g) rfl j _ ?_
  simp [List.getElem?_eq_getElem hj, B8]

/-- 'string(b)' of the bytes that v owns. -/
theorem conv_owns {w : World} {base : Nat} {v : Value} {bs : List UInt8} (h : Owns w base v bs) (hne : bs ≠ []) : (convert 43 9 v).run Try.prog w = .ok (.string ⟨bs.toArray⟩) w := by
  rcases h.2 with ⟨_, hn⟩ | ⟨g, cap, cur, rfl, _⟩
  · exact absurd (List.eq_nil_of_length_eq_zero hn) hne
  · exact run_convert_bytes_back w 43 9 5 ⟨g, 0, none⟩ cap bs Try.underlying43 Try.underlying5 Try.underlying9 (cells_at h)

theorem size_mk (l : List UInt8) : (ByteArray.mk l.toArray).size = l.length := by simp [ByteArray.size]
theorem add_bound2 {bs l : List UInt8} (hl : l.length ≤ 4294967295) (hlen : bs.length ≤ 1000000000) : (bs ++ numB l.length).length + (ByteArray.mk l.toArray).size ≤ 140737488355328 := by
  have := wid_le l.length
  rw [List.length_append, numB_length, size_mk]; omega
theorem add_bound1 {bs l : List UInt8} (hl : l.length ≤ 4294967295) (hlen : bs.length ≤ 1000000000) : (bs ++ numB l.length).length + (ByteArray.mk l.toArray).size ≤ maxLen := by
  have := add_bound2 hl hlen
  unfold maxLen; omega
theorem add_text {w : World} {base : Nat} {v : Value} {bs l : List UInt8} (h : w.ownsRow base 5 1 v ((bs ++ numB l.length).length + (ByteArray.mk l.toArray).size) ((bs ++ numB l.length).map B8 ++ Lib.strCells ⟨l.toArray⟩)) : Owns w base v (bs ++ txtB l) := by
  unfold Owns
  have e : (bs ++ txtB l).map B8 = (bs ++ numB l.length).map B8 ++ Lib.strCells ⟨l.toArray⟩ := by
    simp [txtB, Lib.strCells]
    intro a _
    rfl
  rw [e]
  simpa [txtB, size_mk, Nat.add_assoc] using h

set_option maxHeartbeats 1000000 in
theorem addText_calls (base : Nat) (v : Value) (bs l : List UInt8) (hl : l.length ≤ 4294967295) (w : World) (hown : Owns w base v bs) (hbase : base ≤ w.heap.size) (hlen : bs.length ≤ 1000000000) :
    Calls Try.prog 26 #[v, .string ⟨l.toArray⟩] w fun e w' => ∃ v', e = .returned v' ∧ Owns w' base v' (bs ++ txtB l) ∧ Below base w w' := by
  obtain ⟨i0, hi, hz0, hz1, hz2⟩ := info_parts info8
  have hwl := wid_le l.length
  have hnl := numB_length l.length
  have HNL := Lib.hid hnl
  clear hnl
  go_enter Try.func26, Try.ntmps26
  go_wp2_with (first | (go_at_call 25; refine (addNumber_calls base v bs l.length hl _ hown hbase (by omega)).mono ?_; rintro e w1 ⟨v1, rfl, hown1, hB1⟩) | (at_builtin; (refine Lib.wpList_append_own_string _ rfl _ _ 43 9 rfl base 5 i0 Try.underlying43 Try.underlying9 hi hz0 hz1 hz2 _ _ _ rfl hown1 ⟨l.toArray⟩ rfl (add_bound1 hl hlen) (add_bound2 hl hlen) (Nat.le_trans hbase hB1.size) ?_); intro v2 w2 hown2 hgrow _))
  go_ret
  exact ⟨v2, rfl, add_text hown2, hB1.grown hgrow (Nat.le_trans hbase hB1.size) (fun j e => (hown1.lt j e).1)⟩

theorem numB_ne (n : Nat) : numB n ≠ [] := by simp [numB]

set_option maxHeartbeats 1000000 in
theorem number_ok (n : Nat) (h : n ≤ 4294967295) (w : World) :
    Calls Try.prog 10 #[.int .i64 n] w fun e w' => e = .returned (.tuple #[.string ⟨(numB n).toArray⟩, .int .i64 0]) ∧ Below w.heap.size w w' := by
  have hne := Lib.hid (numB_ne n)
  go_enter Try.func10, Try.ntmps10
  go_wp2_with (go_at_call 25; refine (addNumber_calls w.heap.size (.slice none 0 0) [] n h _ (World.ownsRow_nil _ _ _ _) (Nat.le_refl _) (by simp)).mono ?_; rintro e w1 ⟨v1, rfl, hown1, hB1⟩; have hconv := conv_owns hown1 (by simpa using hne.out); rw [List.nil_append] at hconv; clear hown1)
  go_ret2
  exact ⟨rfl, hB1⟩

set_option maxHeartbeats 1000000 in
theorem number_bad (n : Int) (h : n < 0 ∨ 4294967295 < n) (w : World) :
    Calls Try.prog 10 #[.int .i64 n] w fun e w' => e = .returned (.tuple #[.string ⟨#[]⟩, .int .i64 1]) ∧ w = w' := by
  rcases h with h | h
  · go_enter Try.func10, Try.ntmps10
    go_wp2_with fail
    go_ret2
    exact ⟨rfl, rfl⟩
  · have h' : 0 ≤ n := by omega
    go_enter Try.func10, Try.ntmps10
    go_wp2_with fail
    go_ret2
    exact ⟨rfl, rfl⟩

set_option maxHeartbeats 1000000 in
theorem text_ok (l : List UInt8) (h : l.length ≤ 4000) (w : World) :
    Calls Try.prog 12 #[.string ⟨l.toArray⟩] w fun e w' => e = .returned (.tuple #[.string ⟨(txtB l).toArray⟩, .int .i64 0]) ∧ Below w.heap.size w w' := by
  have hne := Lib.hid (show txtB l ≠ [] by simp [txtB, numB])
  go_enter Try.func12, Try.ntmps12
  go_wp2_with (go_at_call 26; refine (addText_calls w.heap.size (.slice none 0 0) [] l (by omega) _ (World.ownsRow_nil _ _ _ _) (Nat.le_refl _) (by simp)).mono ?_; rintro e w1 ⟨v1, rfl, hown1, hB1⟩; have hconv := conv_owns hown1 (by simpa using hne.out); rw [List.nil_append] at hconv; clear hown1)
  go_ret2
  exact ⟨rfl, hB1⟩

set_option maxHeartbeats 1000000 in
theorem text_bad (l : List UInt8) (h : 4000 < l.length) (hm : l.length ≤ 9223372036854775807) (w : World) :
    Calls Try.prog 12 #[.string ⟨l.toArray⟩] w fun e w' => e = .returned (.tuple #[.string ⟨#[]⟩, .int .i64 2]) ∧ w = w' := by
  go_enter Try.func12, Try.ntmps12
  go_wp2_with fail
  go_ret2
  exact ⟨rfl, rfl⟩

end Go.Proofs.Ytclfemhlonobiaa
