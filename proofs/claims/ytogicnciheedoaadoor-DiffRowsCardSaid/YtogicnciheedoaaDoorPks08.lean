/-
  The texts of one folder in one: KyOrd, KySpec.
-/
import Derived.Lib.Bytealg
import Derived.Lib.Small
import Derived.Test.YtogicnciheedoaaDoorPks02
import Derived.Test.YtogicnciheedoaaDoorPks01

/-
  The order of keys, and of bytes. No program is named here.
-/
namespace Go.Proofs.YtogicnciheedoaaDoor
set_option maxRecDepth 100000

/-- A key: its path's bytes, its time. -/
abbrev Ky := List UInt8 × Int
/-- -1, 0, 1: a stands ahead of b, is the same, stands behind. -/
def cmpK (a b : Ky) : Int := if Lib.compareBytes a.1 b.1 = 0 then Lib.compareInt b.2 a.2 else Lib.compareBytes a.1 b.1
def lessK (a b : Ky) : Bool := decide (cmpK a b < 0)
/-- The document's own order. -/
def aheadK (a b : Ky) : Bool := Op.bytesLess a.1 b.1 || (a.1 == b.1) && decide (b.2 < a.2)

/-! ### Bytes -/

theorem less_irrefl : ∀ a : List UInt8, Op.bytesLess a a = false
  | [] => rfl
  | x :: a => by
    have ih := less_irrefl a
    simp [Op.bytesLess, ih]
theorem less_trans : ∀ {a b c : List UInt8}, Op.bytesLess a b = true → Op.bytesLess b c = true → Op.bytesLess a c = true
  | _, _, [], _, h2 => by simp [Op.bytesLess] at h2
  | _, [], _ :: _, h1, _ => by simp [Op.bytesLess] at h1
  | [], _ :: _, _ :: _, _, _ => rfl
  | x :: a, y :: b, z :: c, h1, h2 => by
    have ih := @less_trans a b c
    simp only [Op.bytesLess, Bool.or_eq_true, Bool.and_eq_true, decide_eq_true_eq, beq_iff_eq] at h1 h2 ⊢
    rcases h1 with h1 | ⟨rfl, h1⟩
    · rcases h2 with h2 | ⟨rfl, h2⟩
      · exact .inl (UInt8.lt_trans h1 h2)
      · exact .inl h1
    · rcases h2 with h2 | ⟨rfl, h2⟩
      · exact .inl h2
      · exact .inr ⟨rfl, ih h1 h2⟩
theorem less_asymm {a b : List UInt8} (h : Op.bytesLess a b = true) : Op.bytesLess b a = false := by
  cases h2 : Op.bytesLess b a with
  | false => rfl
  | true =>
    have := less_trans h h2
    rw [less_irrefl] at this
    cases this
theorem less_total : ∀ {a b : List UInt8}, Op.bytesLess a b = false → a ≠ b → Op.bytesLess b a = true
  | [], [], _, h => absurd rfl h
  | [], _ :: _, h, _ => by simp [Op.bytesLess] at h
  | _ :: _, [], _, _ => rfl
  | x :: a, y :: b, h, hne => by
    have ih := @less_total a b
    simp only [Op.bytesLess, Bool.or_eq_false_iff, decide_eq_false_iff_not] at h
    simp only [Op.bytesLess, Bool.or_eq_true, Bool.and_eq_true, decide_eq_true_eq, beq_iff_eq]
    by_cases hxy : x = y
    · subst hxy
      exact .inr ⟨rfl, ih (by simpa using h.2) (fun e => hne (by rw [e]))⟩
    · exact .inl (UInt8.lt_of_le_of_ne (UInt8.not_lt.1 h.1) (Ne.symm hxy))
theorem cmp_less : ∀ a b : List UInt8, Lib.compareBytes a b = if Op.bytesLess a b = true then -1 else if a = b then 0 else 1
  | [], [] => rfl
  | [], _ :: _ => rfl
  | _ :: _, [] => by simp [Lib.compareBytes, Op.bytesLess]
  | x :: a, y :: b => by
    have ih := cmp_less a b
    rw [Lib.compareBytes, Op.bytesLess]
    by_cases hlt : x < y
    · simp [hlt]
    · by_cases hgt : y < x
      · have hne : x ≠ y := fun e => by subst e; exact UInt8.lt_irrefl _ hgt
        simp [hlt, hgt, hne]
      · obtain rfl : x = y := UInt8.le_antisymm (UInt8.not_lt.1 hgt) (UInt8.not_lt.1 hlt)
        rw [ih]
        simp [hlt]
theorem cmp_zero {a b : List UInt8} (h : Lib.compareBytes a b = 0) : a = b := by
  rw [cmp_less] at h
  split at h
  · cases h
  · split at h
    · assumption
    · cases h
theorem cmp_swap (a b : List UInt8) : Lib.compareBytes b a = - Lib.compareBytes a b := by
  rw [cmp_less, cmp_less]
  cases h : Op.bytesLess a b with
  | true =>
    have h1 := less_asymm h
    have h2 : b ≠ a := by
      rintro rfl
      rw [less_irrefl] at h; cases h
    simp [h1, h2]
  | false =>
    by_cases hab : a = b
    · subst hab; simp [h]
    · have h1 := less_total h hab
      simp [h1, hab]
theorem int_swap (x y : Int) : Lib.compareInt y x = - Lib.compareInt x y := by
  unfold Lib.compareInt
  split <;> split <;> (try split) <;> omega

/-! ### The order of keys -/

theorem cmpK_swap (a b : Ky) : cmpK b a = - cmpK a b := by
  unfold cmpK
  rw [cmp_swap a.1 b.1, int_swap b.2 a.2]
  split <;> split <;> omega
theorem cmpK_zero {a b : Ky} (h : cmpK a b = 0) : a = b := by
  unfold cmpK at h
  split at h
  · rename_i h1
    have e1 := cmp_zero h1
    have e2 : a.2 = b.2 := by
      unfold Lib.compareInt at h
      split at h
      · cases h
      · split at h
        · cases h
        · omega
    exact Prod.ext e1 e2
  · rename_i h1
    exact absurd h h1
theorem cmpK_ahead (a b : Ky) : cmpK a b = if aheadK a b = true then -1 else if aheadK b a = true then 1 else 0 := by
  unfold cmpK aheadK
  rw [cmp_less]
  cases h : Op.bytesLess a.1 b.1 with
  | true => simp
  | false =>
    by_cases hab : a.1 = b.1
    · rw [← hab, less_irrefl]
      unfold Lib.compareInt
      simp
    · have h1 := less_total h hab
      simp [h1, hab]
theorem lessK_ahead (a b : Ky) : lessK a b = aheadK a b := by
  unfold lessK
  rw [cmpK_ahead]
  cases h : aheadK a b with
  | true => simp
  | false =>
    cases h2 : aheadK b a with
    | true => simp
    | false => simp
theorem lessK_trans {a b c : Ky} (h1 : lessK a b = true) (h2 : lessK b c = true) : lessK a c = true := by
  rw [lessK_ahead] at h1 h2 ⊢
  unfold aheadK at h1 h2 ⊢
  simp only [Bool.or_eq_true, Bool.and_eq_true, beq_iff_eq, decide_eq_true_eq] at h1 h2 ⊢
  rcases h1 with h1 | ⟨e1, h1⟩
  · rcases h2 with h2 | ⟨e2, h2⟩
    · exact .inl (less_trans h1 h2)
    · exact .inl (e2 ▸ h1)
  · rcases h2 with h2 | ⟨e2, h2⟩
    · exact .inl (e1 ▸ h2)
    · exact .inr ⟨e1.trans e2, by omega⟩
end Go.Proofs.YtogicnciheedoaaDoor

/-
  The plain functions of layer 8 (key): which keys may be, their order, their bytes, and what bytes are. No program is named here.
-/
namespace Go.Proofs.YtogicnciheedoaaDoor
set_option maxRecDepth 100000

/-! ### Paths have no byte 0 -/

/-! ### What is put is got, what is got is put -/

/-! ### First -/

/-! ### A directory stands ahead of what is under it -/

end Go.Proofs.YtogicnciheedoaaDoor
