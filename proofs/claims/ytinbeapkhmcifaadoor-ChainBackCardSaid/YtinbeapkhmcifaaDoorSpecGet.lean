/-
  The plain functions of reading: what bytes begin with. No program is named here.
-/
import Derived.Test.YtinbeapkhmcifaaDoorSpecRow
namespace Go.Proofs.YtinbeapkhmcifaaDoor

/-- The number whose digits to the base 256 these are. -/
def valB (d : List UInt8) : Nat := d.foldl (fun n b => n * 256 + b.toNat) 0

/-- The number that s begins with, and what stands behind it. -/
def getN : List UInt8 → Option (Nat × List UInt8)
  | [] => none
  | h :: t => if 4 < h.toNat then none else if t.length < h.toNat then none else if wid (valB (t.take h.toNat)) = h.toNat then some (valB (t.take h.toNat), t.drop h.toNat) else none

def getT (s : List UInt8) : Option (List UInt8 × List UInt8) :=
  match getN s with
  | none => none
  | some (n, r) => if 4000 < n then none else if r.length < n then none else some (r.take n, r.drop n)

def getTs : Nat → List UInt8 → Option (List (List UInt8) × List UInt8)
  | 0, s => some ([], s)
  | k + 1, s =>
    match getT s with
    | none => none
    | some (t, r) => match getTs k r with
      | none => none
      | some (ts, r') => some (t :: ts, r')

def getR (s : List UInt8) : Option (List (List UInt8) × List UInt8) :=
  match getN s with
  | none => none
  | some (n, r) => if 1000 < n then none else getTs n r

theorem valB_snoc (d : List UInt8) (b : UInt8) : valB (d ++ [b]) = valB d * 256 + b.toNat := by simp [valB]

theorem foldl_lt : ∀ (d : List UInt8) (a : Nat), d.foldl (fun n b => n * 256 + b.toNat) a < (a + 1) * 256 ^ d.length
  | [], a => by simp
  | b :: d, a => by
    have h1 := foldl_lt d (a * 256 + b.toNat)
    have h2 : (a * 256 + b.toNat + 1) * 256 ^ d.length ≤ (a + 1) * 256 * 256 ^ d.length := Nat.mul_le_mul_right _ (by have := b.toNat_lt; omega)
    rw [List.foldl_cons, List.length_cons, Nat.pow_succ, Nat.mul_comm (256 ^ d.length) 256, ← Nat.mul_assoc]
    omega

theorem valB_lt (d : List UInt8) : valB d < 256 ^ d.length := by have := foldl_lt d 0; simpa [valB] using this

theorem valB_small (d : List UInt8) (h : d.length ≤ 4) : valB d ≤ 4294967295 := by
  have h1 := valB_lt d
  have h2 : 256 ^ d.length ≤ 256 ^ 4 := Nat.pow_le_pow_right (by omega) h
  omega

theorem getN_big {h : UInt8} (t : List UInt8) (h4 : 4 < h.toNat) : getN (h :: t) = none := by simp [getN, h4]

theorem getN_short {h : UInt8} {t : List UInt8} (h4 : h.toNat ≤ 4) (hl : t.length < h.toNat) : getN (h :: t) = none := by
  show (if 4 < h.toNat then none else _) = _
  rw [if_neg (by omega), if_pos hl]

theorem getN_wide {h : UInt8} {t : List UInt8} (h4 : h.toNat ≤ 4) (hl : h.toNat ≤ t.length) (hw : wid (valB (t.take h.toNat)) ≠ h.toNat) : getN (h :: t) = none := by
  show (if 4 < h.toNat then none else _) = _
  rw [if_neg (by omega), if_neg (by omega), if_neg hw]

theorem getN_ok {h : UInt8} {t : List UInt8} (h4 : h.toNat ≤ 4) (hl : h.toNat ≤ t.length) (hw : wid (valB (t.take h.toNat)) = h.toNat) : getN (h :: t) = some (valB (t.take h.toNat), t.drop h.toNat) := by
  show (if 4 < h.toNat then none else _) = _
  rw [if_neg (by omega), if_neg (by omega), if_pos hw]

theorem getN_bounds {s : List UInt8} {n : Nat} {r : List UInt8} (h : getN s = some (n, r)) : n ≤ 4294967295 ∧ r.length ≤ s.length := by
  cases s with
  | nil => cases h
  | cons a t =>
    change (if 4 < a.toNat then none else if t.length < a.toNat then none else if wid (valB (t.take a.toNat)) = a.toNat then some (valB (t.take a.toNat), t.drop a.toNat) else none) = _ at h
    by_cases h1 : 4 < a.toNat
    · rw [if_pos h1] at h; cases h
    rw [if_neg h1] at h
    by_cases h2 : t.length < a.toNat
    · rw [if_pos h2] at h; cases h
    rw [if_neg h2] at h
    by_cases h3 : wid (valB (t.take a.toNat)) = a.toNat
    · rw [if_pos h3] at h
      simp only [Option.some.injEq, Prod.mk.injEq] at h
      obtain ⟨rfl, rfl⟩ := h
      exact ⟨valB_small _ (by rw [List.length_take]; omega), by simp; omega⟩
    · rw [if_neg h3] at h; cases h

theorem getT_bounds {s t r : List UInt8} (h : getT s = some (t, r)) : t.length ≤ 4000 ∧ r.length ≤ s.length := by
  unfold getT at h
  cases hg : getN s with
  | none => rw [hg] at h; cases h
  | some p =>
    obtain ⟨n, q⟩ := p
    have hb := getN_bounds hg
    rw [hg] at h
    change (if 4000 < n then none else if q.length < n then none else some (q.take n, q.drop n)) = _ at h
    by_cases h4 : 4000 < n
    · rw [if_pos h4] at h; cases h
    rw [if_neg h4] at h
    by_cases hl : q.length < n
    · rw [if_pos hl] at h; cases h
    rw [if_neg hl] at h
    simp only [Option.some.injEq, Prod.mk.injEq] at h
    obtain ⟨rfl, rfl⟩ := h
    exact ⟨by rw [List.length_take]; omega, by rw [List.length_drop]; omega⟩

end Go.Proofs.YtinbeapkhmcifaaDoor
