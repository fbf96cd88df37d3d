/-
  The plain functions of reading: what bytes begin with. No program is named here.
-/
import Derived.Test.YtclfemhlonobiaaSpecRow
namespace Go.Proofs.Ytclfemhlonobiaa

/-- The number whose digits to the base 256 these are. -/
def valB (d : List UInt8) : Nat := d.foldl (fun n b => n * 256 + b.toNat) 0
/-- The number that s begins with, and what stands behind it. -/
def getN : List UInt8 → Option (Nat × List UInt8)
  | [] => none
  | h :: t => if 4 < h.toNat then none else if t.length < h.toNat then none else if wid (valB (t.take h.toNat)) = h.toNat then some (valB (t.take h.toNat), t.drop h.toNat) else none
def getT (s : List UInt8) : Option (List UInt8 × List UInt8) :=
  match getN s with
  | none => none
  | some (n, r) => if 4000 < n then none else if r.length < n then none else some (r.take n, r.drop n)
def getTs : Nat → List UInt8 → Option (List (List UInt8) × List UInt8)
  | 0, s => some ([], s)
  | k + 1, s =>
    match getT s with
    | none => none
    | some (t, r) => match getTs k r with
      | none => none
      | some (ts, r') => some (t :: ts, r')
def getR (s : List UInt8) : Option (List (List UInt8) × List UInt8) :=
  match getN s with
  | none => none
  | some (n, r) => if 1000 < n then none else getTs n r

theorem valB_snoc (d : List UInt8) (b : UInt8) : valB (d ++ [b]) = valB d * 256 + b.toNat := by simp [valB]
theorem foldl_lt : ∀ (d : List UInt8) (a : Nat), d.foldl (fun n b => n * 256 + b.toNat) a < (a + 1) * 256 ^ d.length
  | [], a => by simp
  | b :: d, a => by
    have h1 := foldl_lt d (a * 256 + b.toNat)
    have h2 : (a * 256 + b.toNat + 1) * 256 ^ d.length ≤ (a + 1) * 256 * 256 ^ d.length := Nat.mul_le_mul_right _ (by have := b.toNat_lt; omega)
    rw [List.foldl_cons, List.length_cons, Nat.pow_succ, Nat.mul_comm (256 ^ d.length) 256, ← Nat.mul_assoc]
    omega
theorem valB_lt (d : List UInt8) : valB d < 256 ^ d.length := by have := foldl_lt d 0; simpa [valB] using this
theorem valB_small (d : List UInt8) (h : d.length ≤ 4) : valB d ≤ 4294967295 := by
  have h1 := valB_lt d
  have h2 : 256 ^ d.length ≤ 256 ^ 4 := Nat.pow_le_pow_right (by omega) h
  omega

end Go.Proofs.Ytclfemhlonobiaa
