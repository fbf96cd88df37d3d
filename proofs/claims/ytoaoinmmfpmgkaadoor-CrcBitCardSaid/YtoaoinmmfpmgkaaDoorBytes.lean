/-
  '[]byte(s)' and back: bytes in a row of the call's own.
-/
import Derived.Test.YtoaoinmmfpmgkaaDoorBase
import Derived.RangeFuncBox
namespace Go.Proofs.YtoaoinmmfpmgkaaDoor
open Go.RowKit

/-- Block B reads as these bytes, and may be written. -/
def ByteRow (w : World) (B : Nat) (s : List UInt8) : Prop := ∀ j (h : j < s.length), w.cell? ⟨B, j, none⟩ = some (.int .u8 (s[j].toNat : Int)) ∧ w.frozen? ⟨B, j, none⟩ = false

theorem ByteRow.below {w w' : World} {B : Nat} {s : List UInt8} (h : ByteRow w B s) (hb : Below w.heap.size w w') : ByteRow w' B s := by
  intro j hj
  obtain ⟨h1, h2⟩ := h j hj
  have hlt := World.block_lt_of_cell? w _ h1
  exact ⟨(hb.cell (p := ⟨B, j, none⟩) hlt).trans h1, (hb.frozen (p := ⟨B, j, none⟩) hlt).trans h2⟩

theorem conv_bytes (s : List UInt8) (w : World) : ∃ cap W, (convert 9 39 (.string ⟨s.toArray⟩)).run Tryd.prog w = .ok (.slice (some ⟨w.heap.size, 0, none⟩) s.length cap) W ∧ ByteRow W w.heap.size s ∧ Below w.heap.size w W := by
  have h := run_bytes_of_string (P := Tryd.prog) w 9 39 5 ⟨s.toArray⟩ Tryd.underlying9 Tryd.underlying39 Tryd.underlying5
  rw [size_mk] at h
  refine ⟨_, _, h, ?_, ?_⟩
  · intro j hj
    have hnew := World.alloc_heap_new w.drew (.cells (bytesRow ⟨s.toArray⟩ (grownCap w s.length 0 5)) 5 ((bytesRow ⟨s.toArray⟩ (grownCap w s.length 0 5)).size, (bytesRow ⟨s.toArray⟩ (grownCap w s.length 0 5)).size + 1))
    have hsz : w.drew.heap.size = w.heap.size := rfl
    rw [hsz] at hnew
    have hl : j < (bytesRow ⟨s.toArray⟩ (grownCap w s.length 0 5)).size := by
      simp [bytesRow]
      omega
    refine ⟨?_, ?_⟩
    · simp only [World.cell?, hnew]
      rw [bytesRow, Array.getElem?_append_left (by simpa using hj)]
      simp [hj]
    · simp only [World.frozen?, hnew]
      simp
      omega
  · exact below2 (drew_below w) (below_alloc _ _)

theorem conv_row {w : World} {B : Nat} {s : List UInt8} (h : ByteRow w B s) (cap : Nat) : (convert 39 9 (.slice (some ⟨B, 0, none⟩) s.length cap)).run Tryd.prog w = .ok (.string ⟨s.toArray⟩) w :=
  run_convert_bytes_back w 39 9 5 ⟨B, 0, none⟩ cap s Tryd.underlying39 Tryd.underlying5 Tryd.underlying9 (fun j hj => by
    have := (h j hj).1
    rw [Go.WideShapes.add_plain, Nat.zero_add]
    exact this)

theorem ByteRow.set {w : World} {B : Nat} {s : List UInt8} (h : ByteRow w B s) (i : Nat) (b : UInt8) : ByteRow (w.setCell ⟨B, i, none⟩ (.int .u8 (b.toNat : Int))) B (s.set i b) := by
  intro j hj
  rw [List.length_set] at hj
  obtain ⟨h1, h2⟩ := h j hj
  refine ⟨?_, by rw [World.frozen?_setCell]; exact h2⟩
  by_cases e : i = j
  · subst e
    rw [World.cell?_setCell_same (h := h1)]
    simp
  · rw [World.cell?_setCell_other (h := show (⟨B, i, none⟩ : Addr) ≠ ⟨B, j, none⟩ by intro h; exact e (by cases h; rfl)), h1]
    simp [e]

end Go.Proofs.YtoaoinmmfpmgkaaDoor
