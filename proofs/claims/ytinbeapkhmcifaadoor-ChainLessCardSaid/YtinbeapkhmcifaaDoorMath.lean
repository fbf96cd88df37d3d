/-
  What follows of the plain functions: what is laid is read, what is read is laid, and greater numbers stand behind. No program is named here.
-/
import Derived.Test.YtinbeapkhmcifaaDoorSpecGet
import Derived.Laws.Strings
namespace Go.Proofs.YtinbeapkhmcifaaDoor

theorem digsTo_snoc : ∀ (k n : Nat), digsTo n (k + 1) = digsTo (n / 256) k ++ [UInt8.ofNat n]
  | 0, n => by simp [digsTo]
  | k + 1, n => by
    have ih := digsTo_snoc k n
    rw [digsTo, ih, digsTo, Nat.div_div_eq_div_mul, ← Nat.pow_succ']
    rfl

theorem valB_digs : ∀ (k n : Nat), n < 256 ^ k → valB (digsTo n k) = n
  | 0, n, h => by simp at h; subst h; rfl
  | k + 1, n, h => by
    rw [digsTo_snoc, valB_snoc, valB_digs k (n / 256) (by rw [Nat.pow_succ] at h; omega)]
    simp
    omega

theorem less_snoc : ∀ (x y : List UInt8) (a b : UInt8), x.length = y.length → Op.bytesLess (x ++ [a]) (y ++ [b]) = (Op.bytesLess x y || (x == y && decide (a < b)))
  | [], [], a, b, _ => by simp [Op.bytesLess]
  | c :: x, d :: y, a, b, h => by
    have ih := less_snoc x y a b (by simpa using h)
    simp only [List.cons_append, Op.bytesLess, ih, List.cons_beq_cons]
    cases hcd : (c == d) <;> cases hlt : decide (c < d) <;> simp
  | [], _ :: _, _, _, h => by simp at h
  | _ :: _, [], _, _, h => by simp at h

theorem digs_inj (k a b : Nat) (ha : a < 256 ^ k) (hb : b < 256 ^ k) (h : digsTo a k = digsTo b k) : a = b := by
  rw [← valB_digs k a ha, ← valB_digs k b hb, h]

theorem digs_less : ∀ (k a b : Nat), a < 256 ^ k → b < 256 ^ k → Op.bytesLess (digsTo a k) (digsTo b k) = decide (a < b)
  | 0, a, b, ha, hb => by
    simp at ha hb; subst ha; subst hb; rfl
  | k + 1, a, b, ha, hb => by
    have ha' : a / 256 < 256 ^ k := by rw [Nat.pow_succ] at ha; omega
    have hb' : b / 256 < 256 ^ k := by rw [Nat.pow_succ] at hb; omega
    rw [digsTo_snoc, digsTo_snoc, less_snoc _ _ _ _ (by rw [digsTo_length, digsTo_length]), digs_less k _ _ ha' hb']
    have e : (digsTo (a / 256) k == digsTo (b / 256) k) = decide (a / 256 = b / 256) := by
      by_cases hab : a / 256 = b / 256
      · rw [hab]; simp
      · have : digsTo (a / 256) k ≠ digsTo (b / 256) k := fun h => hab (digs_inj k _ _ ha' hb' h)
        simp [this, hab]
    rw [e]
    have e2 : decide (UInt8.ofNat a < UInt8.ofNat b) = decide (a % 256 < b % 256) := by
      rw [decide_eq_decide, UInt8.lt_iff_toNat_lt]
      simp
    rw [e2]
    rw [← Bool.decide_and, ← Bool.decide_or, decide_eq_decide]
    omega

theorem wid_pow (n : Nat) (h : n ≤ 4294967295) : n < 256 ^ wid n := by
  unfold wid
  split
  · simp; omega
  split
  · omega
  split
  · omega
  split
  · omega
  · omega

theorem wid_mono {n m : Nat} (h : n ≤ m) : wid n ≤ wid m := by
  unfold wid
  repeat (first | omega | split)

theorem byte_wid (n m : Nat) : decide (UInt8.ofNat (wid n) < UInt8.ofNat (wid m)) = decide (wid n < wid m) := by
  have h1 := wid_le n
  have h2 := wid_le m
  rw [decide_eq_decide, UInt8.lt_iff_toNat_lt]
  simp
  omega

theorem num_less (n m : Nat) (hn : n ≤ 4294967295) (hm : m ≤ 4294967295) : Op.bytesLess (numB n) (numB m) = decide (n < m) := by
  have h1 := wid_le n
  have h2 := wid_le m
  simp only [numB, Op.bytesLess, byte_wid]
  rcases Nat.lt_trichotomy (wid n) (wid m) with h | h | h
  · have : n < m := by
      have := @wid_mono m n
      omega
    simp [h, this]
  · have e : (UInt8.ofNat (wid n) == UInt8.ofNat (wid m)) = true := by rw [h]; simp
    rw [e]
    have hm' := wid_pow m hm
    have hn' := wid_pow n hn
    unfold digs
    rw [← h] at hm'
    rw [← h, digs_less (wid n) n m hn' hm']
    simp
  · have hlt : ¬ n < m := by
      have := @wid_mono n m
      omega
    have e : (UInt8.ofNat (wid n) == UInt8.ofNat (wid m)) = false := by
      rw [beq_eq_false_iff_ne]
      intro e
      have := congrArg UInt8.toNat e
      simp at this
      omega
    rw [e]
    simp [hlt]
    omega

theorem num_inj {n m : Nat} (hn : n ≤ 4294967295) (hm : m ≤ 4294967295) (h : numB n = numB m) : n = m := by
  simp only [numB, List.cons.injEq] at h
  have hl : wid n = wid m := by
    have := congrArg List.length h.2
    rwa [digs_length, digs_length] at this
  have hm' := wid_pow m hm
  rw [← hl] at hm'
  have h2 := h.2
  unfold digs at h2
  rw [← hl] at h2
  exact digs_inj (wid n) n m (wid_pow n hn) hm' h2

theorem num_eq (n m : Nat) (hn : n ≤ 4294967295) (hm : m ≤ 4294967295) : (numB n == numB m) = decide (n = m) := by
  by_cases h : n = m
  · subst h; simp
  · have : numB n ≠ numB m := fun e => h (num_inj hn hm e)
    simp [this, h]

theorem num_len {n m : Nat} (h : n ≤ m) : (numB n).length ≤ (numB m).length := by
  rw [numB_length, numB_length]
  have := wid_mono h
  omega

end Go.Proofs.YtinbeapkhmcifaaDoor
