/-
  'string(b)' of bytes of the call's own.
-/
import Derived.Test.YtijhbnkfkjfcfaaAdd
import Derived.Test.YtijhbnkfkjfcfaaBase
import Derived.Laws.IdiomStrings
import Derived.WalkLawsBesides
namespace Go.Proofs.Ytijhbnkfkjfcfaa
open Go.RowKit

theorem cells_at {w : World} {base : Nat} {g cap : Nat} {bs : List UInt8} (h : Owns w base (.slice (some ⟨g, 0, none⟩) bs.length cap) bs) : ∀ j (hj : j < bs.length), w.cell? ((⟨g, 0, none⟩ : Addr).add j) = some (.int .u8 (bs[j].toNat : Int)) := by
  intro j hj
  refine h.cells (g := g) rfl j _ ?_
  simp [List.getElem?_eq_getElem hj, B8]

/-- 'string(b)' of the bytes that v owns. -/
theorem conv_owns {w : World} {base : Nat} {v : Value} {bs : List UInt8} (h : Owns w base v bs) (hne : bs ≠ []) : (convert 55 9 v).run Try.prog w = .ok (.string ⟨bs.toArray⟩) w := by
  rcases h.2 with ⟨_, hn⟩ | ⟨g, cap, cur, rfl, _⟩
  · exact absurd (List.eq_nil_of_length_eq_zero hn) hne
  · exact run_convert_bytes_back w 55 9 5 ⟨g, 0, none⟩ cap bs Try.underlying55 Try.underlying5 Try.underlying9 (cells_at h)

theorem numB_ne (n : Nat) : numB n ≠ [] := by simp [numB]

end Go.Proofs.Ytijhbnkfkjfcfaa
