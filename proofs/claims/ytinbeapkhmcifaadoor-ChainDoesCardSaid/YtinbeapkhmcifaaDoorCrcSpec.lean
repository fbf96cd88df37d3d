/-
  The plain functions of layer 3 (crc): a bit's step, a byte's step, a text's sum, its frame, and what bytes begin with. No program is named here.
-/
import Derived.Test.YtinbeapkhmcifaaDoorMath2
namespace Go.Proofs.YtinbeapkhmcifaaDoor

/-- Four bit's steps of 0 to 15. -/
def tabN : List Nat := [0, 498536548, 997073096, 651767980, 1994146192, 1802195444, 1303535960, 1342533948, 3988292384, 4027552580, 3604390888, 3412177804, 2607071920, 2262029012, 2685067896, 3183342108]
/-- A bit's step. -/
def bitN (c : Nat) : Nat := if c % 2 = 1 then c / 2 ^^^ 3988292384 else c / 2
/-- So many bit's steps. -/
def bitsN : Nat → Nat → Nat
  | 0, c => c
  | k + 1, c => bitsN k (bitN c)
/-- Four bit's steps, by the table. -/
def halfN (c : Nat) : Nat := c / 16 ^^^ tabN.getD (c % 16) 0
/-- A byte's step. -/
def stepN (c : Nat) (b : UInt8) : Nat := halfN (halfN (c ^^^ b.toNat))
/-- The steps of a text's bytes. -/
def foldN (c : Nat) (s : List UInt8) : Nat := s.foldl stepN c
/-- A text's sum. -/
def sumN (s : List UInt8) : Nat := foldN 4294967295 s ^^^ 4294967295
/-- A text's frame. -/
def frameB (s : List UInt8) : List UInt8 := digsTo (sumN s) 4 ++ txtB s
/-- Frames one behind the other. -/
def framesB (l : List (List UInt8)) : List UInt8 := (l.map frameB).flatten
/-- The text whose frame s begins with, and what stands behind. -/
def getF (s : List UInt8) : Option (List UInt8 × List UInt8) :=
  if s.length < 4 then none else
    match getT (s.drop 4) with
    | none => none
    | some (t, r) => if s.take 4 = digsTo (sumN t) 4 then some (t, r) else none
def allN : Nat → List UInt8 → List (List UInt8) × List UInt8
  | 0, s => ([], s)
  | k + 1, s =>
    match getF s with
    | none => ([], s)
    | some (t, r) => (t :: (allN k r).1, (allN k r).2)
/-- The texts of the frames that s begins with, and what stands behind them. -/
def allF (s : List UInt8) : List (List UInt8) × List UInt8 := allN s.length s

theorem tab_lt (i : Nat) : tabN.getD i 0 < 4294967296 := by
  by_cases h : i < 16
  · have : ∀ j : Fin 16, tabN.getD j.val 0 < 4294967296 := by decide
    exact this ⟨i, h⟩
  · have : tabN.getD i 0 = 0 := by
      rw [List.getD_eq_getElem?_getD, List.getElem?_eq_none (by simp [tabN]; omega)]; rfl
    omega
theorem half_lt {c : Nat} (h : c < 4294967296) : halfN c < 4294967296 :=
  Nat.xor_lt_two_pow (n := 32) (by omega) (tab_lt _)
theorem byte_xor_lt {c : Nat} (h : c < 4294967296) (b : UInt8) : c ^^^ b.toNat < 4294967296 :=
  Nat.xor_lt_two_pow (n := 32) h (by have := b.toNat_lt; omega)
theorem step_lt {c : Nat} (h : c < 4294967296) (b : UInt8) : stepN c b < 4294967296 := half_lt (half_lt (byte_xor_lt h b))
theorem fold_lt : ∀ (s : List UInt8) {c : Nat}, c < 4294967296 → foldN c s < 4294967296
  | [], _, h => h
  | b :: s, c, h => fold_lt s (c := stepN c b) (step_lt h b)
theorem sum_lt (s : List UInt8) : sumN s < 4294967296 := Nat.xor_lt_two_pow (n := 32) (fold_lt s (by omega)) (by omega)
theorem fold_snoc (c : Nat) (s : List UInt8) (b : UInt8) : foldN c (s ++ [b]) = stepN (foldN c s) b := by simp [foldN]
theorem fold_append (c : Nat) (s t : List UInt8) : foldN c (s ++ t) = foldN (foldN c s) t := by simp [foldN]

/- bit's steps -/
theorem xor_half (a b : Nat) : (a ^^^ b) / 2 = a / 2 ^^^ b / 2 := by
  have := @Nat.shiftRight_xor_distrib 1 a b
  simpa [Nat.shiftRight_eq_div_pow] using this
theorem xor_par (a b : Nat) : (a ^^^ b) % 2 = (a % 2 + b % 2) % 2 := by
  have h := Nat.testBit_xor a b 0
  rw [Nat.testBit_zero, Nat.testBit_zero, Nat.testBit_zero] at h
  generalize a ^^^ b = x at *
  rcases (by omega : a % 2 = 0 ∨ a % 2 = 1) with ha | ha <;> rcases (by omega : b % 2 = 0 ∨ b % 2 = 1) with hb | hb <;> rw [ha, hb] at h ⊢ <;> simp at h <;> omega
theorem xor_pow (a b k : Nat) : (a ^^^ b) / 2 ^ k = a / 2 ^ k ^^^ b / 2 ^ k := by
  have := @Nat.shiftRight_xor_distrib k a b
  simpa [Nat.shiftRight_eq_div_pow] using this
theorem bit_xor (a b : Nat) : bitN (a ^^^ b) = bitN a ^^^ bitN b := by
  unfold bitN
  rw [xor_half, xor_par]
  by_cases ha : a % 2 = 1 <;> by_cases hb : b % 2 = 1
  · rw [if_neg (by omega), if_pos ha, if_pos hb]
    rw [Nat.xor_assoc, Nat.xor_comm 3988292384, Nat.xor_assoc (b / 2), Nat.xor_self, Nat.xor_zero]
  · rw [if_pos (by omega), if_pos ha, if_neg hb]
    rw [Nat.xor_assoc, Nat.xor_assoc, Nat.xor_comm 3988292384]
  · rw [if_pos (by omega), if_neg ha, if_pos hb, Nat.xor_assoc]
  · rw [if_neg (by omega), if_neg ha, if_neg hb]
theorem bits_xor : ∀ (k a b : Nat), bitsN k (a ^^^ b) = bitsN k a ^^^ bitsN k b
  | 0, _, _ => rfl
  | k + 1, a, b => by rw [bitsN, bitsN, bitsN, bit_xor, bits_xor k]
theorem bit_twice (x : Nat) : bitN (2 * x) = x := by
  unfold bitN
  rw [if_neg (by omega)]
  omega
theorem low_xor (c : Nat) : c = 16 * (c / 16) ^^^ c % 16 := by
  apply Nat.eq_of_testBit_eq
  intro i
  have e1 : 16 * (c / 16) = c / 2 ^ 4 * 2 ^ 4 := by omega
  have e2 : c % 16 = c % 2 ^ 4 := by omega
  rw [Nat.testBit_xor, e1, e2, Nat.testBit_mod_two_pow, Nat.testBit_mul_two_pow]
  by_cases h : i < 4
  · have : ¬ 4 ≤ i := by omega
    simp [h, this]
  · have h4 : 4 ≤ i := by omega
    rw [Nat.testBit_div_two_pow]
    simp [h, h4]
theorem bits_half (c : Nat) : bitsN 4 c = halfN c := by
  have ht : ∀ j : Fin 16, bitsN 4 j.val = tabN.getD j.val 0 := by decide
  have hj : bitsN 4 (c % 16) = tabN.getD (c % 16) 0 := ht ⟨c % 16, Nat.mod_lt _ (by omega)⟩
  have hx : bitsN 4 (16 * (c / 16)) = c / 16 := by
    generalize c / 16 = x
    have e : 16 * x = 2 * (2 * (2 * (2 * x))) := by omega
    rw [e]
    simp only [bitsN, bit_twice]
  conv => lhs; rw [low_xor c]
  rw [bits_xor, hx, hj, halfN]
theorem bits_add : ∀ (k m c : Nat), bitsN (k + m) c = bitsN m (bitsN k c)
  | 0, m, c => by rw [Nat.zero_add]; rfl
  | k + 1, m, c => by rw [show k + 1 + m = (k + m) + 1 by omega, bitsN, bits_add k m]; rfl
theorem step_bits (c : Nat) (b : UInt8) : stepN c b = bitsN 8 (c ^^^ b.toNat) := by
  rw [stepN, ← bits_half, ← bits_half, ← bits_add]
theorem bits_snoc : ∀ (k c : Nat), bitsN (k + 1) c = bitN (bitsN k c)
  | 0, _ => rfl
  | k + 1, c => by rw [bitsN, bits_snoc k]; rfl
theorem bit_lt {c : Nat} (h : c < 4294967296) : bitN c < 4294967296 := by
  unfold bitN
  split
  · exact Nat.xor_lt_two_pow (n := 32) (by omega) (by omega)
  · omega
theorem bits_lt : ∀ (k : Nat) {c : Nat}, c < 4294967296 → bitsN k c < 4294967296
  | 0, _, h => h
  | k + 1, _, h => bits_lt k (bit_lt h)
theorem xor_zero_eq {a b : Nat} (h : a ^^^ b = 0) : a = b := by
  have h1 : a ^^^ b ^^^ b = b := by rw [h, Nat.zero_xor]
  rwa [Nat.xor_assoc, Nat.xor_self, Nat.xor_zero] at h1
theorem bit_zero {x : Nat} (hx : x < 4294967296) (h : bitN x = 0) : x = 0 := by
  unfold bitN at h
  split at h
  · have := xor_zero_eq h
    omega
  · omega
theorem bits_zero : ∀ (k : Nat) {x : Nat}, x < 4294967296 → bitsN k x = 0 → x = 0
  | 0, _, _, h => h
  | k + 1, _, hx, h => bit_zero hx (bits_zero k (bit_lt hx) h)
theorem bits_inj (k : Nat) {a b : Nat} (ha : a < 4294967296) (hb : b < 4294967296) (h : bitsN k a = bitsN k b) : a = b := by
  have h1 : bitsN k (a ^^^ b) = 0 := by rw [bits_xor, h, Nat.xor_self]
  exact xor_zero_eq (bits_zero k (Nat.xor_lt_two_pow (n := 32) ha hb) h1)
theorem xor_right {a b c : Nat} (h : a ^^^ c = b ^^^ c) : a = b := by
  have h1 : a ^^^ c ^^^ c = b ^^^ c ^^^ c := by rw [h]
  rwa [Nat.xor_assoc, Nat.xor_self, Nat.xor_zero, Nat.xor_assoc, Nat.xor_self, Nat.xor_zero] at h1
theorem xor_left {a b c : Nat} (h : c ^^^ a = c ^^^ b) : a = b := xor_right (c := c) (by rw [Nat.xor_comm a, Nat.xor_comm b, h])
theorem step_inj {c d : Nat} (hc : c < 4294967296) (hd : d < 4294967296) (b : UInt8) (h : stepN c b = stepN d b) : c = d := by
  rw [step_bits, step_bits] at h
  exact xor_right (bits_inj 8 (byte_xor_lt hc b) (byte_xor_lt hd b) h)
theorem step_byte {c : Nat} (hc : c < 4294967296) {a b : UInt8} (h : stepN c a = stepN c b) : a = b := by
  rw [step_bits, step_bits] at h
  exact UInt8.toNat_inj.1 (xor_left (bits_inj 8 (byte_xor_lt hc a) (byte_xor_lt hc b) h))
theorem fold_inj : ∀ (s : List UInt8) {c d : Nat}, c < 4294967296 → d < 4294967296 → foldN c s = foldN d s → c = d
  | [], _, _, _, _, h => h
  | b :: s, _, _, hc, hd, h => step_inj hc hd b (fold_inj s (step_lt hc b) (step_lt hd b) h)
/-- One byte that is another one is seen in the sum. -/
theorem sum_ne (p q : List UInt8) {a b : UInt8} (h : a ≠ b) : sumN (p ++ a :: q) ≠ sumN (p ++ b :: q) := by
  intro e
  have e1 : foldN 4294967295 (p ++ a :: q) = foldN 4294967295 (p ++ b :: q) := xor_right e
  rw [fold_append, fold_append] at e1
  have hp : foldN 4294967295 p < 4294967296 := fold_lt p (by omega)
  have e2 := fold_inj q (step_lt hp a) (step_lt hp b) e1
  exact h (step_byte hp e2)
theorem sum_set (s : List UInt8) (i : Nat) (hi : i < s.length) {b : UInt8} (h : b ≠ s[i]) (r : List UInt8) : sumN (s.set i b ++ r) ≠ sumN (s ++ r) := by
  have e1 : s.set i b = s.take i ++ b :: s.drop (i + 1) := by
    rw [List.set_eq_take_append_cons_drop, if_pos hi]
  have e2 : s = s.take i ++ s[i] :: s.drop (i + 1) := by simp
  have e3 : s ++ r = s.take i ++ s[i] :: (s.drop (i + 1) ++ r) := by
    rw [← List.cons_append, ← List.append_assoc, ← e2]
  rw [e1, e3, List.append_assoc, List.cons_append]
  exact sum_ne _ _ h

/- frames -/
theorem frameB_length (s : List UInt8) : (frameB s).length = 4 + (wid s.length + 1 + s.length) := by rw [frameB, List.length_append, digsTo_length, txtB_length]
theorem framesB_snoc (l : List (List UInt8)) (s : List UInt8) : framesB (l ++ [s]) = framesB l ++ frameB s := by simp [framesB]
theorem framesB_cons (l : List (List UInt8)) (s : List UInt8) : framesB (s :: l) = frameB s ++ framesB l := by simp [framesB]
theorem laid_getF (t : List UInt8) (h : t.length ≤ 4000) (r : List UInt8) : getF (frameB t ++ r) = some (t, r) := by
  have hl := digsTo_length (sumN t) 4
  have e1 : (frameB t ++ r).take 4 = digsTo (sumN t) 4 := by
    rw [frameB, List.append_assoc, List.take_append_of_le_length (by omega), List.take_of_length_le (by omega)]
  have e2 : (frameB t ++ r).drop 4 = txtB t ++ r := by
    rw [frameB, List.append_assoc]
    conv => lhs; rw [← hl]
    exact List.drop_left
  unfold getF
  rw [if_neg (by rw [List.length_append, frameB_length]; omega), e2, laid_getT t h r]
  show (if (frameB t ++ r).take 4 = digsTo (sumN t) 4 then _ else _) = _
  rw [if_pos e1]
theorem getF_laid {s t r : List UInt8} (h : getF s = some (t, r)) : s = frameB t ++ r ∧ t.length ≤ 4000 := by
  unfold getF at h
  by_cases h4 : s.length < 4
  · rw [if_pos h4] at h; cases h
  rw [if_neg h4] at h
  cases hg : getT (s.drop 4) with
  | none => rw [hg] at h; cases h
  | some p =>
    obtain ⟨t', r'⟩ := p
    rw [hg] at h
    change (if s.take 4 = digsTo (sumN t') 4 then some (t', r') else none) = _ at h
    by_cases he : s.take 4 = digsTo (sumN t') 4
    · rw [if_pos he] at h
      simp only [Option.some.injEq, Prod.mk.injEq] at h
      obtain ⟨rfl, rfl⟩ := h
      obtain ⟨h1, h2⟩ := getT_laid hg
      refine ⟨?_, h2⟩
      rw [frameB, List.append_assoc, ← he, ← h1, List.take_append_drop]
    · rw [if_neg he] at h; cases h
theorem getF_bounds {s t r : List UInt8} (h : getF s = some (t, r)) : t.length ≤ 4000 ∧ r.length + 5 ≤ s.length := by
  obtain ⟨rfl, h4⟩ := getF_laid h
  exact ⟨h4, by rw [List.length_append, frameB_length]; omega⟩
theorem getF_short {s : List UInt8} (h : s.length < 4) : getF s = none := by unfold getF; rw [if_pos h]
theorem getF_no {s : List UInt8} (h : ¬ s.length < 4) (hg : getT (s.drop 4) = none) : getF s = none := by unfold getF; rw [if_neg h, hg]
theorem getF_other {s t r : List UInt8} (h : ¬ s.length < 4) (hg : getT (s.drop 4) = some (t, r)) (he : s.take 4 ≠ digsTo (sumN t) 4) : getF s = none := by
  unfold getF; rw [if_neg h, hg]; exact if_neg he
theorem getF_ok {s t r : List UInt8} (h : ¬ s.length < 4) (hg : getT (s.drop 4) = some (t, r)) (he : s.take 4 = digsTo (sumN t) 4) : getF s = some (t, r) := by
  unfold getF; rw [if_neg h, hg]; exact if_pos he
/-- What is cut within a frame begins with none. -/
theorem getF_cut {t p q : List UInt8} (ht : t.length ≤ 4000) (h : frameB t = p ++ q) (hq : q ≠ []) : getF p = none := by
  cases hg : getF p with
  | none => rfl
  | some x =>
    obtain ⟨t', r'⟩ := x
    obtain ⟨rfl, h4⟩ := getF_laid hg
    have e1 := laid_getF t ht []
    rw [List.append_nil, h, List.append_assoc, laid_getF t' h4] at e1
    simp only [Option.some.injEq, Prod.mk.injEq, List.append_eq_nil_iff] at e1
    exact absurd e1.2.2 hq

theorem allN_fuel : ∀ (k m : Nat) (s : List UInt8), s.length ≤ k → s.length ≤ m → allN k s = allN m s
  | 0, 0, _, _, _ => rfl
  | 0, m + 1, s, h, _ => by
    have : getF s = none := getF_short (by omega)
    simp [allN, this]
  | k + 1, 0, s, _, h => by
    have : getF s = none := getF_short (by omega)
    simp [allN, this]
  | k + 1, m + 1, s, hk, hm => by
    cases hg : getF s with
    | none => simp [allN, hg]
    | some x =>
      obtain ⟨t, r⟩ := x
      have hb := (getF_bounds hg).2
      simp only [allN, hg]
      rw [allN_fuel k m r (by omega) (by omega)]
theorem allF_none {s : List UInt8} (h : getF s = none) : allF s = ([], s) := by
  unfold allF
  cases s with
  | nil => rfl
  | cons a s => simp [allN, h]
theorem allF_some {s t r : List UInt8} (h : getF s = some (t, r)) : allF s = (t :: (allF r).1, (allF r).2) := by
  have hb := (getF_bounds h).2
  unfold allF
  cases s with
  | nil => cases h
  | cons a s =>
    simp only [List.length_cons, allN, h]
    simp only [List.length_cons] at hb
    rw [allN_fuel s.length r.length r (by omega) (Nat.le_refl _)]
theorem allF_frames : ∀ (l : List (List UInt8)) (r : List UInt8), (∀ t ∈ l, t.length ≤ 4000) → allF (framesB l ++ r) = (l ++ (allF r).1, (allF r).2)
  | [], r, _ => by simp [framesB]
  | t :: l, r, h => by
    rw [framesB_cons, List.append_assoc, allF_some (laid_getF t (h t (by simp)) _), allF_frames l r (fun u hu => h u (by simp [hu]))]
    rfl
theorem allF_length : ∀ (n : Nat) (s : List UInt8), s.length ≤ n → s = framesB (allF s).1 ++ (allF s).2
  | 0, s, h => by
    have : s = [] := List.eq_nil_of_length_eq_zero (by omega)
    subst this; rfl
  | n + 1, s, h => by
    cases hg : getF s with
    | none => rw [allF_none hg]; rfl
    | some x =>
      obtain ⟨t, r⟩ := x
      have hb := (getF_bounds hg).2
      have ih := allF_length n r (by omega)
      rw [allF_some hg]
      show s = framesB (t :: (allF r).1) ++ (allF r).2
      rw [framesB_cons, List.append_assoc, ← ih]
      exact (getF_laid hg).1
theorem allF_rest (s : List UInt8) : (allF s).2.length ≤ s.length := by
  have h := congrArg List.length (allF_length s.length s (Nat.le_refl _))
  rw [List.length_append] at h
  omega
theorem framesB_ge (l : List (List UInt8)) : l.length ≤ (framesB l).length := by
  induction l with
  | nil => simp [framesB]
  | cons t l ih =>
    rw [framesB_cons, List.length_append, frameB_length, List.length_cons]
    omega
theorem allF_many (s : List UInt8) : (allF s).1.length ≤ s.length := by
  have h := congrArg List.length (allF_length s.length s (Nat.le_refl _))
  have h2 := framesB_ge (allF s).1
  rw [List.length_append] at h
  omega

/-- The first k texts have at most 300 bytes. -/
def lowTo (ls : List (List UInt8)) (k : Nat) : Prop := ∀ t ∈ ls.take k, t.length ≤ 300
theorem lowTo_zero (ls : List (List UInt8)) : lowTo ls 0 := by simp [lowTo]
theorem lowTo_succ {ls : List (List UInt8)} {k : Nat} (h : lowTo ls k) (hk : k < ls.length) (h3 : ls[k].length ≤ 300) : lowTo ls (k + 1) := by
  intro s hs
  rw [List.take_succ_eq_append_getElem hk, List.mem_append] at hs
  rcases hs with hs | hs
  · exact h s hs
  · rw [List.mem_singleton] at hs; rw [hs]; exact h3
theorem framesB_small : ∀ (l : List (List UInt8)), (∀ t ∈ l, t.length ≤ 300) → (framesB l).length ≤ 309 * l.length
  | [], _ => by simp [framesB]
  | t :: l, h => by
    have h1 := h t (by simp)
    have hw := wid_le t.length
    have ih := framesB_small l (fun u hu => h u (by simp [hu]))
    rw [framesB_cons, List.length_append, frameB_length, List.length_cons]
    omega
theorem framesTo_succ {ls : List (List UInt8)} {k : Nat} (hk : k < ls.length) : framesB (ls.take (k + 1)) = framesB (ls.take k) ++ frameB ls[k] := by
  rw [List.take_succ_eq_append_getElem hk, framesB_snoc]
theorem framesTo_small {ls : List (List UInt8)} {k : Nat} (h : lowTo ls k) (hk : k ≤ 12) : (framesB (ls.take k)).length ≤ 3708 := by
  have h1 := framesB_small (ls.take k) h
  have h2 : (ls.take k).length ≤ k := by rw [List.length_take]; omega
  omega
theorem low_all {ls : List (List UInt8)} (h : lowTo ls ls.length) : ∀ t ∈ ls, t.length ≤ 300 := by
  intro t ht
  exact h t (by simpa using ht)

end Go.Proofs.YtinbeapkhmcifaaDoor
