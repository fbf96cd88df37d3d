/-
  The plain functions of layer 1 (codec): the bytes of a number, a text and a row, and what bytes begin with. No program is named here.
-/
import Derived.Lib.BitFns
namespace Go.Proofs.YtaaabmnaindgaaaGreatDoor

/-- How many bytes a number (below 2^32) takes. -/
def wid (n : Nat) : Nat := if n = 0 then 0 else if n < 256 then 1 else if n < 65536 then 2 else if n < 16777216 then 3 else 4

theorem wid_le (n : Nat) : wid n ≤ 4 := by unfold wid; repeat (first | omega | split)

theorem wid_bits (n : Nat) (h : n < 4294967296) : (Lib.bitLen n + 7) / 8 = wid n := by
  have hz : Lib.bitLen 0 = 0 := by decide
  have h1 : ∀ m : Nat, 0 < m → m < 256 → 1 ≤ Lib.bitLen m ∧ Lib.bitLen m ≤ 8 := by
    intro m h0 hm
    have hall : ∀ k : Fin 256, 0 < k.val → 1 ≤ Lib.bitLen k.val ∧ Lib.bitLen k.val ≤ 8 := by decide +kernel
    exact hall ⟨m, hm⟩ h0
  unfold wid
  by_cases e0 : n = 0
  · subst e0; simp [hz]
  rw [if_neg e0]
  by_cases e1 : n < 256
  · rw [if_pos e1]; have := h1 n (by omega) e1; omega
  rw [if_neg e1]
  by_cases e2 : n < 65536
  · rw [if_pos e2, Lib.bitLen_shift8 n (by omega) (by omega)]; have := h1 (n / 256) (by omega) (by omega); omega
  rw [if_neg e2]
  by_cases e3 : n < 16777216
  · rw [if_pos e3, Lib.bitLen_shift16 n (by omega) (by omega)]; have := h1 (n / 65536) (by omega) (by omega); omega
  rw [if_neg e3, Lib.bitLen_shift24 n (by omega) (by omega)]; have := h1 (n / 16777216) (by omega) (by omega); omega

/-- The lowest k bytes of n, the highest of them first. -/
def digsTo (n : Nat) : Nat → List UInt8
  | 0 => []
  | k + 1 => UInt8.ofNat (n / 256 ^ k) :: digsTo n k
/-- The bytes of n, the highest first. -/
def digs (n : Nat) : List UInt8 := digsTo n (wid n)
/-- A number's bytes. -/
def numB (n : Nat) : List UInt8 := UInt8.ofNat (wid n) :: digs n

theorem digsTo_length (n : Nat) : ∀ k, (digsTo n k).length = k
  | 0 => rfl
  | k + 1 => by simp [digsTo, digsTo_length n k]
theorem digs_length (n : Nat) : (digs n).length = wid n := digsTo_length n _
theorem numB_length (n : Nat) : (numB n).length = wid n + 1 := by simp [numB, digs_length]

/-- A text's bytes. -/
def txtB (s : List UInt8) : List UInt8 := numB s.length ++ s
/-- A row's bytes. -/
def rowB (l : List (List UInt8)) : List UInt8 := numB l.length ++ (l.map txtB).flatten

theorem txtB_length (s : List UInt8) : (txtB s).length = wid s.length + 1 + s.length := by simp [txtB, numB_length]

end Go.Proofs.YtaaabmnaindgaaaGreatDoor
