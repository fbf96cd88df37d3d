/-
  The texts of one folder in one: CrcSpec, Step, Sum, Head, Put, GetF, Unlike, RefC, RefGe, Tab.
-/
import Derived.Test.YtcipdmdliobdmaaDoorPks01
import Derived.Test.YtcipdmdliobdmaaDoorPkbase
import Derived.RangeFuncBox
import Derived.Laws.BitsAllLaws
import Derived.Laws.BytesArg
import Derived.Deep.RegionWith
import Derived.Deep.QuietTactic
import Derived.BigQuiet
import Derived.Lib.LaidTab
import Derived.MakeChecks

/-
  The plain functions of layer 3 (crc): a bit's step, a byte's step, a text's sum, its frame, and what bytes begin with. No program is named here.
-/
namespace Go.Proofs.YtcipdmdliobdmaaDoor

/-- Four bit's steps of 0 to 15. -/
def tabN : List Nat := [0, 498536548, 997073096, 651767980, 1994146192, 1802195444, 1303535960, 1342533948, 3988292384, 4027552580, 3604390888, 3412177804, 2607071920, 2262029012, 2685067896, 3183342108]
/-- A bit's step. -/
def bitN (c : Nat) : Nat := if c % 2 = 1 then c / 2 ^^^ 3988292384 else c / 2
/-- So many bit's steps. -/
def bitsN : Nat → Nat → Nat
  | 0, c => c
  | k + 1, c => bitsN k (bitN c)
/-- Four bit's steps, by the table. -/
def halfN (c : Nat) : Nat := c / 16 ^^^ tabN.getD (c % 16) 0
/-- A byte's step. -/
def stepN (c : Nat) (b : UInt8) : Nat := halfN (halfN (c ^^^ b.toNat))
/-- The steps of a text's bytes. -/
def foldN (c : Nat) (s : List UInt8) : Nat := s.foldl stepN c
/-- A text's sum. -/
def sumN (s : List UInt8) : Nat := foldN 4294967295 s ^^^ 4294967295
/-- A text's frame. -/
def frameB (s : List UInt8) : List UInt8 := digsTo (sumN s) 4 ++ txtB s
/-- Frames one behind the other. -/
def framesB (l : List (List UInt8)) : List UInt8 := (l.map frameB).flatten
/-- The text whose frame s begins with, and what stands behind. -/
def getF (s : List UInt8) : Option (List UInt8 × List UInt8) :=
  if s.length < 4 then none else
    match getT (s.drop 4) with
    | none => none
    | some (t, r) => if s.take 4 = digsTo (sumN t) 4 then some (t, r) else none
def allN : Nat → List UInt8 → List (List UInt8) × List UInt8
  | 0, s => ([], s)
  | k + 1, s =>
    match getF s with
    | none => ([], s)
    | some (t, r) => (t :: (allN k r).1, (allN k r).2)
/-- The texts of the frames that s begins with, and what stands behind them. -/
def allF (s : List UInt8) : List (List UInt8) × List UInt8 := allN s.length s

theorem byte_mod (m : Nat) : UInt8.ofNat (m % 256) = UInt8.ofNat m := by
  apply UInt8.toNat_inj.1
  simp
theorem four_eq (n : Nat) : [UInt8.ofNat (n / 16777216), UInt8.ofNat (n / 65536 % 256), UInt8.ofNat (n / 256 % 256), UInt8.ofNat (n % 256)] = digsTo n 4 := by
  simp only [digsTo, Nat.reducePow, Nat.div_one, byte_mod]
theorem tab_lt (i : Nat) : tabN.getD i 0 < 4294967296 := by
  by_cases h : i < 16
  · have : ∀ j : Fin 16, tabN.getD j.val 0 < 4294967296 := by decide
    exact this ⟨i, h⟩
  · have : tabN.getD i 0 = 0 := by
      rw [List.getD_eq_getElem?_getD, List.getElem?_eq_none (by simp [tabN]; omega)]; rfl
    omega
theorem half_lt {c : Nat} (h : c < 4294967296) : halfN c < 4294967296 :=
  Nat.xor_lt_two_pow (n := 32) (by omega) (tab_lt _)
theorem byte_xor_lt {c : Nat} (h : c < 4294967296) (b : UInt8) : c ^^^ b.toNat < 4294967296 :=
  Nat.xor_lt_two_pow (n := 32) h (by have := b.toNat_lt; omega)
theorem step_lt {c : Nat} (h : c < 4294967296) (b : UInt8) : stepN c b < 4294967296 := half_lt (half_lt (byte_xor_lt h b))
theorem fold_lt : ∀ (s : List UInt8) {c : Nat}, c < 4294967296 → foldN c s < 4294967296
  | [], _, h => h
  | b :: s, c, h => fold_lt s (c := stepN c b) (step_lt h b)
theorem sum_lt (s : List UInt8) : sumN s < 4294967296 := Nat.xor_lt_two_pow (n := 32) (fold_lt s (by omega)) (by omega)
theorem fold_snoc (c : Nat) (s : List UInt8) (b : UInt8) : foldN c (s ++ [b]) = stepN (foldN c s) b := by simp [foldN]
theorem fold_append (c : Nat) (s t : List UInt8) : foldN c (s ++ t) = foldN (foldN c s) t := by simp [foldN]

/- bit's steps -/
theorem xor_half (a b : Nat) : (a ^^^ b) / 2 = a / 2 ^^^ b / 2 := by
  have := @Nat.shiftRight_xor_distrib 1 a b
  simpa [Nat.shiftRight_eq_div_pow] using this
theorem xor_par (a b : Nat) : (a ^^^ b) % 2 = (a % 2 + b % 2) % 2 := by
  have h := Nat.testBit_xor a b 0
  rw [Nat.testBit_zero, Nat.testBit_zero, Nat.testBit_zero] at h
  generalize a ^^^ b = x at *
  rcases (by omega : a % 2 = 0 ∨ a % 2 = 1) with ha | ha <;> rcases (by omega : b % 2 = 0 ∨ b % 2 = 1) with hb | hb <;> rw [ha, hb] at h ⊢ <;> simp at h <;> omega
theorem xor_pow (a b k : Nat) : (a ^^^ b) / 2 ^ k = a / 2 ^ k ^^^ b / 2 ^ k := by
  have := @Nat.shiftRight_xor_distrib k a b
  simpa [Nat.shiftRight_eq_div_pow] using this
theorem bit_xor (a b : Nat) : bitN (a ^^^ b) = bitN a ^^^ bitN b := by
  unfold bitN
  rw [xor_half, xor_par]
  by_cases ha : a % 2 = 1 <;> by_cases hb : b % 2 = 1
  · rw [if_neg (by omega), if_pos ha, if_pos hb]
    rw [Nat.xor_assoc, Nat.xor_comm 3988292384, Nat.xor_assoc (b / 2), Nat.xor_self, Nat.xor_zero]
  · rw [if_pos (by omega), if_pos ha, if_neg hb]
    rw [Nat.xor_assoc, Nat.xor_assoc, Nat.xor_comm 3988292384]
  · rw [if_pos (by omega), if_neg ha, if_pos hb, Nat.xor_assoc]
  · rw [if_neg (by omega), if_neg ha, if_neg hb]
theorem bits_xor : ∀ (k a b : Nat), bitsN k (a ^^^ b) = bitsN k a ^^^ bitsN k b
  | 0, _, _ => rfl
  | k + 1, a, b => by rw [bitsN, bitsN, bitsN, bit_xor, bits_xor k]
theorem bit_twice (x : Nat) : bitN (2 * x) = x := by
  unfold bitN
  rw [if_neg (by omega)]
  omega
theorem low_xor (c : Nat) : c = 16 * (c / 16) ^^^ c % 16 := by
  apply Nat.eq_of_testBit_eq
  intro i
  have e1 : 16 * (c / 16) = c / 2 ^ 4 * 2 ^ 4 := by omega
  have e2 : c % 16 = c % 2 ^ 4 := by omega
  rw [Nat.testBit_xor, e1, e2, Nat.testBit_mod_two_pow, Nat.testBit_mul_two_pow]
  by_cases h : i < 4
  · have : ¬ 4 ≤ i := by omega
    simp [h, this]
  · have h4 : 4 ≤ i := by omega
    rw [Nat.testBit_div_two_pow]
    simp [h, h4]
theorem bits_half (c : Nat) : bitsN 4 c = halfN c := by
  have ht : ∀ j : Fin 16, bitsN 4 j.val = tabN.getD j.val 0 := by decide
  have hj : bitsN 4 (c % 16) = tabN.getD (c % 16) 0 := ht ⟨c % 16, Nat.mod_lt _ (by omega)⟩
  have hx : bitsN 4 (16 * (c / 16)) = c / 16 := by
    generalize c / 16 = x
    have e : 16 * x = 2 * (2 * (2 * (2 * x))) := by omega
    rw [e]
    simp only [bitsN, bit_twice]
  conv => lhs; rw [low_xor c]
  rw [bits_xor, hx, hj, halfN]
theorem bits_add : ∀ (k m c : Nat), bitsN (k + m) c = bitsN m (bitsN k c)
  | 0, m, c => by rw [Nat.zero_add]; rfl
  | k + 1, m, c => by rw [show k + 1 + m = (k + m) + 1 by omega, bitsN, bits_add k m]; rfl
theorem step_bits (c : Nat) (b : UInt8) : stepN c b = bitsN 8 (c ^^^ b.toNat) := by
  rw [stepN, ← bits_half, ← bits_half, ← bits_add]
theorem bits_snoc : ∀ (k c : Nat), bitsN (k + 1) c = bitN (bitsN k c)
  | 0, _ => rfl
  | k + 1, c => by rw [bitsN, bits_snoc k]; rfl
theorem bit_lt {c : Nat} (h : c < 4294967296) : bitN c < 4294967296 := by
  unfold bitN
  split
  · exact Nat.xor_lt_two_pow (n := 32) (by omega) (by omega)
  · omega
theorem bits_lt : ∀ (k : Nat) {c : Nat}, c < 4294967296 → bitsN k c < 4294967296
  | 0, _, h => h
  | k + 1, _, h => bits_lt k (bit_lt h)
theorem xor_zero_eq {a b : Nat} (h : a ^^^ b = 0) : a = b := by
  have h1 : a ^^^ b ^^^ b = b := by rw [h, Nat.zero_xor]
  rwa [Nat.xor_assoc, Nat.xor_self, Nat.xor_zero] at h1
theorem bit_zero {x : Nat} (hx : x < 4294967296) (h : bitN x = 0) : x = 0 := by
  unfold bitN at h
  split at h
  · have := xor_zero_eq h
    omega
  · omega
theorem bits_zero : ∀ (k : Nat) {x : Nat}, x < 4294967296 → bitsN k x = 0 → x = 0
  | 0, _, _, h => h
  | k + 1, _, hx, h => bit_zero hx (bits_zero k (bit_lt hx) h)
theorem bits_inj (k : Nat) {a b : Nat} (ha : a < 4294967296) (hb : b < 4294967296) (h : bitsN k a = bitsN k b) : a = b := by
  have h1 : bitsN k (a ^^^ b) = 0 := by rw [bits_xor, h, Nat.xor_self]
  exact xor_zero_eq (bits_zero k (Nat.xor_lt_two_pow (n := 32) ha hb) h1)
theorem xor_right {a b c : Nat} (h : a ^^^ c = b ^^^ c) : a = b := by
  have h1 : a ^^^ c ^^^ c = b ^^^ c ^^^ c := by rw [h]
  rwa [Nat.xor_assoc, Nat.xor_self, Nat.xor_zero, Nat.xor_assoc, Nat.xor_self, Nat.xor_zero] at h1
theorem xor_left {a b c : Nat} (h : c ^^^ a = c ^^^ b) : a = b := xor_right (c := c) (by rw [Nat.xor_comm a, Nat.xor_comm b, h])
theorem step_inj {c d : Nat} (hc : c < 4294967296) (hd : d < 4294967296) (b : UInt8) (h : stepN c b = stepN d b) : c = d := by
  rw [step_bits, step_bits] at h
  exact xor_right (bits_inj 8 (byte_xor_lt hc b) (byte_xor_lt hd b) h)
theorem step_byte {c : Nat} (hc : c < 4294967296) {a b : UInt8} (h : stepN c a = stepN c b) : a = b := by
  rw [step_bits, step_bits] at h
  exact UInt8.toNat_inj.1 (xor_left (bits_inj 8 (byte_xor_lt hc a) (byte_xor_lt hc b) h))
theorem fold_inj : ∀ (s : List UInt8) {c d : Nat}, c < 4294967296 → d < 4294967296 → foldN c s = foldN d s → c = d
  | [], _, _, _, _, h => h
  | b :: s, _, _, hc, hd, h => step_inj hc hd b (fold_inj s (step_lt hc b) (step_lt hd b) h)
/-- One byte that is another one is seen in the sum. -/
theorem sum_ne (p q : List UInt8) {a b : UInt8} (h : a ≠ b) : sumN (p ++ a :: q) ≠ sumN (p ++ b :: q) := by
  intro e
  have e1 : foldN 4294967295 (p ++ a :: q) = foldN 4294967295 (p ++ b :: q) := xor_right e
  rw [fold_append, fold_append] at e1
  have hp : foldN 4294967295 p < 4294967296 := fold_lt p (by omega)
  have e2 := fold_inj q (step_lt hp a) (step_lt hp b) e1
  exact h (step_byte hp e2)
theorem sum_set (s : List UInt8) (i : Nat) (hi : i < s.length) {b : UInt8} (h : b ≠ s[i]) (r : List UInt8) : sumN (s.set i b ++ r) ≠ sumN (s ++ r) := by
  have e1 : s.set i b = s.take i ++ b :: s.drop (i + 1) := by
    rw [List.set_eq_take_append_cons_drop, if_pos hi]
  have e2 : s = s.take i ++ s[i] :: s.drop (i + 1) := by simp
  have e3 : s ++ r = s.take i ++ s[i] :: (s.drop (i + 1) ++ r) := by
    rw [← List.cons_append, ← List.append_assoc, ← e2]
  rw [e1, e3, List.append_assoc, List.cons_append]
  exact sum_ne _ _ h

/- frames -/
theorem frameB_length (s : List UInt8) : (frameB s).length = 4 + (wid s.length + 1 + s.length) := by rw [frameB, List.length_append, digsTo_length, txtB_length]
theorem framesB_snoc (l : List (List UInt8)) (s : List UInt8) : framesB (l ++ [s]) = framesB l ++ frameB s := by simp [framesB]
theorem framesB_cons (l : List (List UInt8)) (s : List UInt8) : framesB (s :: l) = frameB s ++ framesB l := by simp [framesB]
theorem laid_getF (t : List UInt8) (h : t.length ≤ 4000) (r : List UInt8) : getF (frameB t ++ r) = some (t, r) := by
  have hl := digsTo_length (sumN t) 4
  have e1 : (frameB t ++ r).take 4 = digsTo (sumN t) 4 := by
    rw [frameB, List.append_assoc, List.take_append_of_le_length (by omega), List.take_of_length_le (by omega)]
  have e2 : (frameB t ++ r).drop 4 = txtB t ++ r := by
    rw [frameB, List.append_assoc]
    conv => lhs; rw [← hl]
    exact List.drop_left
  unfold getF
  rw [if_neg (by rw [List.length_append, frameB_length]; omega), e2, laid_getT t h r]
  show (if (frameB t ++ r).take 4 = digsTo (sumN t) 4 then _ else _) = _
  rw [if_pos e1]
theorem getF_laid {s t r : List UInt8} (h : getF s = some (t, r)) : s = frameB t ++ r ∧ t.length ≤ 4000 := by
  unfold getF at h
  by_cases h4 : s.length < 4
  · rw [if_pos h4] at h; cases h
  rw [if_neg h4] at h
  cases hg : getT (s.drop 4) with
  | none => rw [hg] at h; cases h
  | some p =>
    obtain ⟨t', r'⟩ := p
    rw [hg] at h
    change (if s.take 4 = digsTo (sumN t') 4 then some (t', r') else none) = _ at h
    by_cases he : s.take 4 = digsTo (sumN t') 4
    · rw [if_pos he] at h
      simp only [Option.some.injEq, Prod.mk.injEq] at h
      obtain ⟨rfl, rfl⟩ := h
      obtain ⟨h1, h2⟩ := getT_laid hg
      refine ⟨?_, h2⟩
      rw [frameB, List.append_assoc, ← he, ← h1, List.take_append_drop]
    · rw [if_neg he] at h; cases h
theorem getF_bounds {s t r : List UInt8} (h : getF s = some (t, r)) : t.length ≤ 4000 ∧ r.length + 5 ≤ s.length := by
  obtain ⟨rfl, h4⟩ := getF_laid h
  exact ⟨h4, by rw [List.length_append, frameB_length]; omega⟩
theorem getF_short {s : List UInt8} (h : s.length < 4) : getF s = none := by unfold getF; rw [if_pos h]
theorem getF_no {s : List UInt8} (h : ¬ s.length < 4) (hg : getT (s.drop 4) = none) : getF s = none := by unfold getF; rw [if_neg h, hg]
theorem getF_other {s t r : List UInt8} (h : ¬ s.length < 4) (hg : getT (s.drop 4) = some (t, r)) (he : s.take 4 ≠ digsTo (sumN t) 4) : getF s = none := by
  unfold getF; rw [if_neg h, hg]; exact if_neg he
theorem getF_ok {s t r : List UInt8} (h : ¬ s.length < 4) (hg : getT (s.drop 4) = some (t, r)) (he : s.take 4 = digsTo (sumN t) 4) : getF s = some (t, r) := by
  unfold getF; rw [if_neg h, hg]; exact if_pos he
/-- What is cut within a frame begins with none. -/
theorem getF_cut {t p q : List UInt8} (ht : t.length ≤ 4000) (h : frameB t = p ++ q) (hq : q ≠ []) : getF p = none := by
  cases hg : getF p with
  | none => rfl
  | some x =>
    obtain ⟨t', r'⟩ := x
    obtain ⟨rfl, h4⟩ := getF_laid hg
    have e1 := laid_getF t ht []
    rw [List.append_nil, h, List.append_assoc, laid_getF t' h4] at e1
    simp only [Option.some.injEq, Prod.mk.injEq, List.append_eq_nil_iff] at e1
    exact absurd e1.2.2 hq

theorem allN_fuel : ∀ (k m : Nat) (s : List UInt8), s.length ≤ k → s.length ≤ m → allN k s = allN m s
  | 0, 0, _, _, _ => rfl
  | 0, m + 1, s, h, _ => by
    have : getF s = none := getF_short (by omega)
    simp [allN, this]
  | k + 1, 0, s, _, h => by
    have : getF s = none := getF_short (by omega)
    simp [allN, this]
  | k + 1, m + 1, s, hk, hm => by
    cases hg : getF s with
    | none => simp [allN, hg]
    | some x =>
      obtain ⟨t, r⟩ := x
      have hb := (getF_bounds hg).2
      simp only [allN, hg]
      rw [allN_fuel k m r (by omega) (by omega)]
theorem allF_none {s : List UInt8} (h : getF s = none) : allF s = ([], s) := by
  unfold allF
  cases s with
  | nil => rfl
  | cons a s => simp [allN, h]
theorem allF_some {s t r : List UInt8} (h : getF s = some (t, r)) : allF s = (t :: (allF r).1, (allF r).2) := by
  have hb := (getF_bounds h).2
  unfold allF
  cases s with
  | nil => cases h
  | cons a s =>
    simp only [List.length_cons, allN, h]
    simp only [List.length_cons] at hb
    rw [allN_fuel s.length r.length r (by omega) (Nat.le_refl _)]
theorem allF_frames : ∀ (l : List (List UInt8)) (r : List UInt8), (∀ t ∈ l, t.length ≤ 4000) → allF (framesB l ++ r) = (l ++ (allF r).1, (allF r).2)
  | [], r, _ => by simp [framesB]
  | t :: l, r, h => by
    rw [framesB_cons, List.append_assoc, allF_some (laid_getF t (h t (by simp)) _), allF_frames l r (fun u hu => h u (by simp [hu]))]
    rfl
theorem allF_length : ∀ (n : Nat) (s : List UInt8), s.length ≤ n → s = framesB (allF s).1 ++ (allF s).2
  | 0, s, h => by
    have : s = [] := List.eq_nil_of_length_eq_zero (by omega)
    subst this; rfl
  | n + 1, s, h => by
    cases hg : getF s with
    | none => rw [allF_none hg]; rfl
    | some x =>
      obtain ⟨t, r⟩ := x
      have hb := (getF_bounds hg).2
      have ih := allF_length n r (by omega)
      rw [allF_some hg]
      show s = framesB (t :: (allF r).1) ++ (allF r).2
      rw [framesB_cons, List.append_assoc, ← ih]
      exact (getF_laid hg).1
theorem allF_rest (s : List UInt8) : (allF s).2.length ≤ s.length := by
  have h := congrArg List.length (allF_length s.length s (Nat.le_refl _))
  rw [List.length_append] at h
  omega
theorem framesB_ge (l : List (List UInt8)) : l.length ≤ (framesB l).length := by
  induction l with
  | nil => simp [framesB]
  | cons t l ih =>
    rw [framesB_cons, List.length_append, frameB_length, List.length_cons]
    omega
theorem allF_many (s : List UInt8) : (allF s).1.length ≤ s.length := by
  have h := congrArg List.length (allF_length s.length s (Nat.le_refl _))
  have h2 := framesB_ge (allF s).1
  rw [List.length_append] at h
  omega

/-- The first k texts have at most 300 bytes. -/
def lowTo (ls : List (List UInt8)) (k : Nat) : Prop := ∀ t ∈ ls.take k, t.length ≤ 300
theorem lowTo_zero (ls : List (List UInt8)) : lowTo ls 0 := by simp [lowTo]
theorem lowTo_succ {ls : List (List UInt8)} {k : Nat} (h : lowTo ls k) (hk : k < ls.length) (h3 : ls[k].length ≤ 300) : lowTo ls (k + 1) := by
  intro s hs
  rw [List.take_succ_eq_append_getElem hk, List.mem_append] at hs
  rcases hs with hs | hs
  · exact h s hs
  · rw [List.mem_singleton] at hs; rw [hs]; exact h3
theorem framesB_small : ∀ (l : List (List UInt8)), (∀ t ∈ l, t.length ≤ 300) → (framesB l).length ≤ 309 * l.length
  | [], _ => by simp [framesB]
  | t :: l, h => by
    have h1 := h t (by simp)
    have hw := wid_le t.length
    have ih := framesB_small l (fun u hu => h u (by simp [hu]))
    rw [framesB_cons, List.length_append, frameB_length, List.length_cons]
    omega
theorem framesTo_succ {ls : List (List UInt8)} {k : Nat} (hk : k < ls.length) : framesB (ls.take (k + 1)) = framesB (ls.take k) ++ frameB ls[k] := by
  rw [List.take_succ_eq_append_getElem hk, framesB_snoc]
theorem framesTo_small {ls : List (List UInt8)} {k : Nat} (h : lowTo ls k) (hk : k ≤ 12) : (framesB (ls.take k)).length ≤ 3708 := by
  have h1 := framesB_small (ls.take k) h
  have h2 : (ls.take k).length ≤ k := by rw [List.length_take]; omega
  omega
theorem low_all {ls : List (List UInt8)} (h : lowTo ls ls.length) : ∀ t ∈ ls, t.length ≤ 300 := by
  intro t ht
  exact h t (by simpa using ht)

end Go.Proofs.YtcipdmdliobdmaaDoor

/-
  The method step of crc's register: one byte's step of the number in the box.
-/
namespace Go.Proofs.YtcipdmdliobdmaaDoor
open Go.RowKit

/-- The package's table reads as it is laid. -/
def TabOk (w : World) : Prop := ∀ i, i < 16 → w.cell? ⟨0, i, none⟩ = some (.int .u32 (tabN.getD i 0 : Nat))

theorem TabOk.same {w w' : World} (h : TabOk w) (hk : w'.heap[0]? = w.heap[0]?) : TabOk w' := by
  intro i hi
  have h1 := h i hi
  simp only [World.cell?] at h1 ⊢
  rw [hk]
  exact h1
theorem TabOk.lt {w : World} (h : TabOk w) : 0 < w.heap.size := World.block_lt_of_cell? w _ (h 0 (by omega))
theorem TabOk.below {w w' : World} (h : TabOk w) (hb : Below w.heap.size w w') : TabOk w' := h.same (hb.block _ h.lt)
theorem TabOk.ne {w : World} (h : TabOk w) {B : Nat} {t : TypeId} {v : Value} (hb : Boxed w B t v) : 0 ≠ B := by
  intro e
  subst e
  have h1 := h 1 (by omega)
  simp [World.cell?, show w.heap[0]? = _ from hb] at h1
theorem TabOk.grown {w w' : World} (h : TabOk w) {B : Nat} {t : TypeId} {v : Value} (hb : Boxed w B t v) (hg : w.grownBy w' (some B)) : TabOk w' :=
  h.same (hg.block _ h.lt (fun e => h.ne hb (Option.some.inj e)))

theorem and_fifteen (c : Nat) : c &&& 15 = c % 16 := by
  have := Nat.and_two_pow_sub_one_eq_mod c 4
  simpa using this
theorem half_eqs (c : Nat) (hc : c < 4294967296) : bits .and .u32 (c : Int) 15 = ((c % 16 : Nat) : Int) ∧ bits .xor .u32 ((c : Int) / 16) ((tabN.getD (c % 16) 0 : Nat) : Int) = ((halfN c : Nat) : Int) := by
  refine ⟨?_, ?_⟩
  · have := u32_and_nat c 15 hc (by omega)
    rw [and_fifteen] at this
    exact this
  · have := u32_xor_nat (c / 16) (tabN.getD (c % 16) 0) (by omega) (tab_lt _)
    exact this

set_option maxHeartbeats 1000000 in
theorem step_calls (Bs c : Nat) (hc : c < 4294967296) (b : UInt8) (w : World) (hb : Boxed w Bs 112 (.int .u32 c)) (hT : TabOk w) :
    Calls Tryd.prog 82 #[.pointer (some ⟨Bs, 0, none⟩), .int .u8 b.toNat] w fun e w' => e = .returned (.tuple #[]) ∧ w' = w.setCell ⟨Bs, 0, none⟩ (.int .u32 (stepN c b : Nat)) := by
  have hcell := hb.cell
  have hfz := hb.frozen
  have hx0 : bits .xor .u32 (c : Int) ((b.toNat : Int) % 4294967296) = ((c ^^^ b.toNat : Nat) : Int) := by
    have hb := b.toNat_lt
    have e : ((b.toNat : Int) % 4294967296) = (b.toNat : Int) := by omega
    rw [e]
    exact u32_xor_nat c b.toNat hc (by omega)
  have hl0 := byte_xor_lt hc b
  unfold stepN
  generalize c ^^^ b.toNat = c0 at *
  obtain ⟨ha1, hx1⟩ := half_eqs c0 hl0
  have hl1 := half_lt hl0
  have hm0 : c0 % 16 < 16 := Nat.mod_lt _ (by omega)
  have ht0 := hT (c0 % 16) hm0
  generalize halfN c0 = c1 at *
  generalize tabN.getD (c0 % 16) 0 = t0 at *
  generalize c0 % 16 = m0 at *
  obtain ⟨ha2, hx2⟩ := half_eqs c1 hl1
  have hm1 : c1 % 16 < 16 := Nat.mod_lt _ (by omega)
  have ht1 := hT (c1 % 16) hm1
  generalize halfN c1 = c2 at *
  generalize tabN.getD (c1 % 16) 0 = t1 at *
  generalize c1 % 16 = m1 at *
  clear hT hb
  go_enter Tryd.func82, Tryd.ntmps82
  go_wp2
  go_end0
  exact ⟨rfl, rfl⟩

end Go.Proofs.YtcipdmdliobdmaaDoor

/-
  crc.fold, crc.Sum: the steps of a text's bytes, its sum.
-/
namespace Go.Proofs.YtcipdmdliobdmaaDoor
open Go.RowKit
attribute [local go_sem] at_str

theorem sum_xor (s : List UInt8) : bits .xor .u32 ((foldN 4294967295 s : Nat) : Int) 4294967295 = ((sumN s : Nat) : Int) :=
  u32_xor_nat (foldN 4294967295 s) 4294967295 (fold_lt s (by omega)) (by omega)

/-- The method value 'r.step' of the box Bs. -/
abbrev stepV (Bs : Nat) : Value := .func (.func 82) #[.pointer (some ⟨Bs, 0, none⟩)] #[]

set_option maxHeartbeats 1000000 in
theorem fold_calls (Bs c : Nat) (hc : c < 4294967296) (s : List UInt8) (hm : s.length ≤ 4611686018427387904) (w : World) (hb : Boxed w Bs 112 (.int .u32 c)) (hT : TabOk w) :
    Calls Tryd.prog 81 #[.string ⟨s.toArray⟩, stepV Bs] w fun e w' => e = .returned (.tuple #[]) ∧ w.grownBy w' (some Bs) ∧ Boxed w' Bs 112 (.int .u32 (foldN c s : Nat)) := by
  go_enter Tryd.func81, Tryd.ntmps81
  go_wp2_with fail
  go_loopw [4, 7] (fun _ i wr => ∃ k : Nat, k ≤ s.length ∧ i = .int .i64 k ∧ w.grownBy wr (some Bs) ∧ Boxed wr Bs 112 (.int .u32 (foldN c (s.take k) : Nat))) (fun _ i _ => s.length - (intOf i).toNat)
  case atStart => exact ⟨0, Nat.zero_le _, rfl, grown_refl _ _, hb⟩
  case round =>
    obtain ⟨k, hk, rfl, hg, hbk⟩ := hrel
    by_cases hlt : k < s.length
    · have hTk := hT.grown hb hg
      have hl := fold_lt (s.take k) hc
      have hs := fold_snoc c (s.take k) s[k]
      rw [← List.take_succ_eq_append_getElem hlt] at hs
      have HS := Lib.hid hs
      clear hs
      go_wp2_with (go_at_call 82; refine (step_calls Bs _ hl s[k] _ hbk hTk).mono ?_; rintro e w' ⟨rfl, rfl⟩)
      go_roundw
      case rel => exact ⟨k + 1, by omega, by go_num, grown_trans hg (grownBy_setCell' _ _ _), by rw [HS.out]; exact hbk.set _⟩
      case measure => simp [intOf]; omega
    · obtain rfl : k = s.length := by omega
      rw [List.take_length] at hbk
      go_wp2_with fail
      go_end0
      exact ⟨rfl, hg, hbk⟩

set_option maxHeartbeats 1000000 in
theorem sum_calls (s : List UInt8) (hm : s.length ≤ 4611686018427387904) (w : World) (hT : TabOk w) :
    Calls Tryd.prog 75 #[.string ⟨s.toArray⟩] w fun e w' => e = .returned (.int .i64 (sumN s : Nat)) ∧ Below w.heap.size w w' := by
  have hb := Boxed.new w 112 (.int .u32 (4294967295 : Nat))
  have hT1 := hT.below (below_alloc w (.cells #[.int .u32 (4294967295 : Nat)] 112))
  have hl := sum_lt s
  have hx := sum_xor s
  go_enter Tryd.func75, Tryd.ntmps75
  go_wp2_with fail
  refine (fold_calls w.heap.size 4294967295 (by omega) s hm _ hb hT1).mono ?_
  rintro e w1 ⟨rfl, hg, hbf⟩
  have hcell := hbf.cell
  go_wp2_with fail
  go_ret
  exact ⟨rfl, below_box hg⟩

end Go.Proofs.YtcipdmdliobdmaaDoor

/-
  crc.head: a sum's four bytes, the highest first.
-/
namespace Go.Proofs.YtcipdmdliobdmaaDoor
open Go.RowKit

/-- 'string([]byte{x0, x1, x2, x3})'. -/
theorem conv_four (W : World) (x0 x1 x2 x3 : Int) : (convert 87 9 (.slice (some ⟨W.heap.size, 0, none⟩) 4 4)).run Tryd.prog (W.alloc (.cells #[.int .u8 x0, .int .u8 x1, .int .u8 x2, .int .u8 x3] 5)) = .ok (.string ⟨[UInt8.ofNat x0.toNat, UInt8.ofNat x1.toNat, UInt8.ofNat x2.toNat, UInt8.ofNat x3.toNat].toArray⟩) (W.alloc (.cells #[.int .u8 x0, .int .u8 x1, .int .u8 x2, .int .u8 x3] 5)) := by
  have h := run_convert_bytes_arg (P := Tryd.prog) (W.alloc (.cells #[.int .u8 x0, .int .u8 x1, .int .u8 x2, .int .u8 x3] 5)) 87 5 Tryd.underlying87 Tryd.underlying5 W.heap.size 0 4 4 [x0, x1, x2, x3] rfl (fun i hi => by
    rcases (by omega : i = 0 ∨ i = 1 ∨ i = 2 ∨ i = 3) with rfl | rfl | rfl | rfl <;> simp) 9 Tryd.underlying9
  rw [h]
  rfl
set_option maxHeartbeats 1000000 in
theorem head_calls (s : List UInt8) (hm : s.length ≤ 4611686018427387904) (w : World) (hT : TabOk w) :
    Calls Tryd.prog 64 #[.string ⟨s.toArray⟩] w fun e w' => e = .returned (.string ⟨(digsTo (sumN s) 4).toArray⟩) ∧ Below w.heap.size w w' := by
  have kc := conv_four
  have hl := sum_lt s
  go_enter Tryd.func64, Tryd.ntmps64
  go_wp2_with fail
  refine (sum_calls s hm _ hT).mono ?_
  rintro e w1 ⟨rfl, hB⟩
  go_wp2_with fail
  go_ret
  exact ⟨by rw [← four_eq]; rfl, below2 hB (below_alloc _ _)⟩

end Go.Proofs.YtcipdmdliobdmaaDoor

/-
  crc.Put: a text's frame, or its refusal.
-/
namespace Go.Proofs.YtcipdmdliobdmaaDoor
open Go.RowKit
attribute [local go_sem] app_mk

set_option maxHeartbeats 1000000 in
theorem put_ok (s : List UInt8) (h : s.length ≤ 4000) (w : World) (hT : TabOk w) :
    Calls Tryd.prog 52 #[.string ⟨s.toArray⟩] w fun e w' => e = .returned (.tuple #[.string ⟨(frameB s).toArray⟩, .int .i64 0]) ∧ Below w.heap.size w w' := by
  have hl1 : (digsTo (sumN s) 4).length ≤ 4 := by rw [digsTo_length]; omega
  have hl2 : (txtB s).length ≤ 4005 := by rw [txtB_length]; have := wid_le s.length; omega
  go_enter Tryd.func52, Tryd.ntmps52
  go_wp2_with fail
  refine (text_ok s h _).mono ?_
  rintro e w1 ⟨rfl, hB1⟩
  go_wp2_with fail
  refine (head_calls s (by omega) _ (hT.below hB1)).mono ?_
  rintro e w2 ⟨rfl, hB2⟩
  go_wp2_with fail
  go_ret2
  exact ⟨rfl, below2 hB1 hB2⟩

set_option maxHeartbeats 1000000 in
theorem put_bad (s : List UInt8) (h : 4000 < s.length) (hm : s.length ≤ 9223372036854775807) (w : World) :
    Calls Tryd.prog 52 #[.string ⟨s.toArray⟩] w fun e w' => e = .returned (.tuple #[.string ⟨#[]⟩, .int .i64 2]) ∧ w = w' := by
  go_enter Tryd.func52, Tryd.ntmps52
  go_wp2_with fail
  refine (text_bad s h hm _).mono ?_
  rintro e w1 ⟨rfl, rfl⟩
  go_wp2_with fail
  go_ret2
  exact ⟨rfl, rfl⟩

end Go.Proofs.YtcipdmdliobdmaaDoor

/-
  crc.Get: the text whose frame bytes begin with.
-/
namespace Go.Proofs.YtcipdmdliobdmaaDoor
open Go.RowKit
attribute [local go_sem] ext_take ext_drop

set_option maxHeartbeats 1000000 in
theorem getF_few (s : List UInt8) (h : s.length < 4) (w : World) :
    Calls Tryd.prog 57 #[.string ⟨s.toArray⟩] w fun e w' => e = .returned (.tuple #[.string ⟨#[]⟩, .string ⟨#[]⟩, .int .i64 30]) ∧ w = w' := by
  go_enter Tryd.func57, Tryd.ntmps57
  go_wp2_with fail
  go_ret3
  exact ⟨rfl, rfl⟩

set_option maxHeartbeats 1000000 in
theorem getF_noText (s : List UInt8) (h : 4 ≤ s.length) (hm : s.length ≤ 4611686018427387904) (hg : getT (s.drop 4) = none) (w : World) :
    Calls Tryd.prog 57 #[.string ⟨s.toArray⟩] w fun e w' => e = .returned (.tuple #[.string ⟨#[]⟩, .string ⟨#[]⟩, .int .i64 30]) ∧ Below w.heap.size w w' := by
  have HG := Lib.hid hg
  have hl : (s.drop 4).length ≤ 4611686018427387904 := by rw [List.length_drop]; omega
  clear hg
  go_enter Tryd.func57, Tryd.ntmps57
  go_wp2_with fail
  refine (GetText_none (s.drop 4) hl HG.out _).mono ?_
  rintro e w1 ⟨rfl, hB1⟩
  go_wp2_with fail
  go_quiet (fail)
  go_wp2_with fail
  go_ret3
  exact ⟨rfl, below2 hB1 (drewn_below _ _)⟩

set_option maxHeartbeats 1000000 in
theorem getF_other_calls (s t r : List UInt8) (h : 4 ≤ s.length) (hm : s.length ≤ 4611686018427387904) (hg : getT (s.drop 4) = some (t, r)) (he : s.take 4 ≠ digsTo (sumN t) 4) (w : World) (hT : TabOk w) :
    Calls Tryd.prog 57 #[.string ⟨s.toArray⟩] w fun e w' => e = .returned (.tuple #[.string ⟨#[]⟩, .string ⟨#[]⟩, .int .i64 30]) ∧ Below w.heap.size w w' := by
  have hl : (s.drop 4).length ≤ 4611686018427387904 := by rw [List.length_drop]; omega
  have ht := (getT_bounds hg).1
  have HG := Lib.hid hg
  have hsb : (s.take 4 == digsTo (sumN t) 4) = false := by simp [he]
  clear hg he
  go_enter Tryd.func57, Tryd.ntmps57
  go_wp2_with fail
  refine (GetText_some (s.drop 4) hl HG.out _).mono ?_
  rintro e w1 ⟨rfl, hB1⟩
  have hT1 : TabOk w1.drew := (hT.below hB1).same rfl
  go_wp2_with fail
  go_region_with (go_at_call 64; refine (head_calls t (by omega) _ hT1).mono ?_; rintro e w2 ⟨rfl, hB2⟩)
  go_wp2_with fail
  go_ret3
  exact ⟨rfl, below3 hB1 (drew_below _) hB2⟩

set_option maxHeartbeats 1000000 in
theorem getF_ok_calls (s t r : List UInt8) (h : 4 ≤ s.length) (hm : s.length ≤ 4611686018427387904) (hg : getT (s.drop 4) = some (t, r)) (he : s.take 4 = digsTo (sumN t) 4) (w : World) (hT : TabOk w) :
    Calls Tryd.prog 57 #[.string ⟨s.toArray⟩] w fun e w' => e = .returned (.tuple #[.string ⟨t.toArray⟩, .string ⟨r.toArray⟩, .int .i64 0]) ∧ Below w.heap.size w w' := by
  have hl : (s.drop 4).length ≤ 4611686018427387904 := by rw [List.length_drop]; omega
  have ht := (getT_bounds hg).1
  have HG := Lib.hid hg
  have hsb : (s.take 4 == digsTo (sumN t) 4) = true := by simp [he]
  clear hg he
  go_enter Tryd.func57, Tryd.ntmps57
  go_wp2_with fail
  refine (GetText_some (s.drop 4) hl HG.out _).mono ?_
  rintro e w1 ⟨rfl, hB1⟩
  have hT1 : TabOk w1.drew := (hT.below hB1).same rfl
  go_wp2_with fail
  go_region_with (go_at_call 64; refine (head_calls t (by omega) _ hT1).mono ?_; rintro e w2 ⟨rfl, hB2⟩)
  go_wp2_with fail
  go_ret3
  exact ⟨rfl, below3 hB1 (drew_below _) hB2⟩

theorem get_none (s : List UInt8) (hm : s.length ≤ 4611686018427387904) (h : getF s = none) (w : World) (hT : TabOk w) :
    Calls Tryd.prog 57 #[.string ⟨s.toArray⟩] w fun e w' => e = .returned (.tuple #[.string ⟨#[]⟩, .string ⟨#[]⟩, .int .i64 30]) ∧ Below w.heap.size w w' := by
  by_cases h4 : s.length < 4
  · exact (getF_few s h4 w).mono fun e w' ⟨he, hw⟩ => ⟨he, hw ▸ Below.refl _ _⟩
  · cases hg : getT (s.drop 4) with
    | none => exact getF_noText s (by omega) hm hg w
    | some x =>
      obtain ⟨t, r⟩ := x
      refine getF_other_calls s t r (by omega) hm hg (fun he => ?_) w hT
      rw [getF_ok h4 hg he] at h
      cases h
theorem get_some (s : List UInt8) (hm : s.length ≤ 4611686018427387904) {t r : List UInt8} (h : getF s = some (t, r)) (w : World) (hT : TabOk w) :
    Calls Tryd.prog 57 #[.string ⟨s.toArray⟩] w fun e w' => e = .returned (.tuple #[.string ⟨t.toArray⟩, .string ⟨r.toArray⟩, .int .i64 0]) ∧ Below w.heap.size w w' := by
  by_cases h4 : s.length < 4
  · rw [getF_short h4] at h; cases h
  · cases hg : getT (s.drop 4) with
    | none => rw [getF_no h4 hg] at h; cases h
    | some x =>
      obtain ⟨t', r'⟩ := x
      by_cases he : s.take 4 = digsTo (sumN t') 4
      · rw [getF_ok h4 hg he] at h
        simp only [Option.some.injEq, Prod.mk.injEq] at h
        obtain ⟨rfl, rfl⟩ := h
        exact getF_ok_calls s _ _ (by omega) hm hg he w hT
      · rw [getF_other h4 hg he] at h; cases h

end Go.Proofs.YtcipdmdliobdmaaDoor

/-
  The document's own Unlike and Step.
-/
namespace Go.Proofs.YtcipdmdliobdmaaDoor
open Go.RowKit

theorem unlike_step (a b k : Nat) : (a ^^^ b) % 2 ^ (k + 1) = (a ^^^ b) % 2 ^ k + (if a / 2 ^ k % 2 = b / 2 ^ k % 2 then 0 else 2 ^ k) := by
  have h1 := Nat.mod_pow_succ (b := 2) (k := k) (x := a ^^^ b)
  have h2 : (a ^^^ b) / 2 ^ k % 2 = (a / 2 ^ k % 2 + b / 2 ^ k % 2) % 2 := by rw [xor_pow, xor_par]
  rw [h1, h2]
  have ha : a / 2 ^ k % 2 < 2 := Nat.mod_lt _ (by omega)
  have hb : b / 2 ^ k % 2 < 2 := Nat.mod_lt _ (by omega)
  generalize a / 2 ^ k % 2 = x at *
  generalize b / 2 ^ k % 2 = y at *
  rcases (by omega : x = 0 ∨ x = 1) with rfl | rfl <;> rcases (by omega : y = 0 ∨ y = 1) with rfl | rfl <;> simp
theorem pow_bound {k : Nat} (h : k < 32) : 1 ≤ 2 ^ k ∧ 2 ^ k ≤ 2147483648 :=
  ⟨Nat.one_le_two_pow, by have := Nat.pow_le_pow_right (n := 2) (by omega) (show k ≤ 31 by omega); simpa using this⟩

set_option maxHeartbeats 2000000 in
theorem unlike_calls (a b : Nat) (ha : a < 4294967296) (hb : b < 4294967296) (w : World) :
    Calls Tryd.prog 71 #[.int .i64 a, .int .i64 b] w fun e w' => e = .returned (.int .i64 (a ^^^ b : Nat)) ∧ Below w.heap.size w w' := by
  have hx : a ^^^ b < 4294967296 := Nat.xor_lt_two_pow (n := 32) ha hb
  go_enter Tryd.func71, Tryd.ntmps71
  go_wp2_with fail
  go_loopw [5, 6, 7] (fun o p i wr => ∃ k : Nat, k ≤ 32 ∧ i = .int .i64 k ∧ p = .int .i64 (2 ^ k : Nat) ∧ o = .int .i64 ((a ^^^ b) % 2 ^ k : Nat) ∧ Below w.heap.size w wr) (fun _ _ i _ => 32 - (intOf i).toNat)
  case atStart => exact ⟨0, by omega, rfl, rfl, by simp [Nat.mod_one], Below.refl _ _⟩
  case round =>
    obtain ⟨k, hk, rfl, rfl, rfl, hB⟩ := hrel
    by_cases hlt : k < 32
    · obtain ⟨hp1, hp2⟩ := pow_bound hlt
      have hst := unlike_step a b k
      have hpw : 2 ^ (k + 1) = 2 * 2 ^ k := by rw [Nat.pow_succ, Nat.mul_comm]
      have ho : (a ^^^ b) % 2 ^ k < 2 ^ k := Nat.mod_lt _ (by omega)
      have HST := Lib.hid hst
      have HP := Lib.hid hpw
      clear hst hpw
      generalize (a ^^^ b) % 2 ^ k = o at *
      generalize 2 ^ k = p at *
      have qa0 : (0 : Int) ≤ (a : Int) / (p : Int) := Int.ediv_nonneg (by omega) (by omega)
      have qa1 : (a : Int) / (p : Int) ≤ 4294967295 := Int.le_trans (Int.ediv_le_self _ (by omega)) (by omega)
      have qb0 : (0 : Int) ≤ (b : Int) / (p : Int) := Int.ediv_nonneg (by omega) (by omega)
      have qb1 : (b : Int) / (p : Int) ≤ 4294967295 := Int.le_trans (Int.ediv_le_self _ (by omega)) (by omega)
      have qa : ((a : Int) / (p : Int)) % 2 = ((a / p % 2 : Nat) : Int) := by simp
      have qb : ((b : Int) / (p : Int)) % 2 = ((b / p % 2 : Nat) : Int) := by simp
      by_cases he : a / p % 2 = b / p % 2
      · rw [if_pos he, Nat.add_zero] at HST
        have hne : (((a : Int) / (p : Int)) % 2 != ((b : Int) / (p : Int)) % 2) = false := by rw [qa, qb, he]; simp
        clear he qa qb
        go_wp2_with fail
        go_quiet (fail)
        go_wp2_with fail
        go_roundw
        case rel => exact ⟨k + 1, by omega, by go_num, by rw [HP.out]; go_num, by rw [HST.out]; rfl, below2 hB (drewn_below _ _)⟩
        case measure => simp [intOf]; omega
      · rw [if_neg he] at HST
        have hne : (((a : Int) / (p : Int)) % 2 != ((b : Int) / (p : Int)) % 2) = true := by rw [qa, qb]; simp; omega
        clear he qa qb
        go_wp2_with fail
        go_quiet (fail)
        go_wp2_with fail
        go_roundw
        case rel => exact ⟨k + 1, by omega, by go_num, by rw [HP.out]; go_num, by rw [HST.out]; go_num, below2 hB (drewn_below _ _)⟩
        case measure => simp [intOf]; omega
    · obtain rfl : k = 32 := by omega
      have hfin : (a ^^^ b) % 2 ^ 32 = a ^^^ b := Nat.mod_eq_of_lt (by simpa using hx)
      have HF := Lib.hid hfin
      clear hfin
      go_wp2_with fail
      go_ret
      exact ⟨by rw [HF.out]; rfl, hB⟩

set_option maxHeartbeats 1000000 in
theorem refStep_bad (c : Int) (h : c < 0 ∨ 4294967295 < c) (b : UInt8) (w : World) :
    Calls Tryd.prog 70 #[.int .i64 c, .int .u8 b.toNat] w fun e w' => e = .returned (.tuple #[.int .i64 0, .bool false]) ∧ w = w' := by
  rcases h with h | h
  · go_enter Tryd.func70, Tryd.ntmps70
    go_wp2_with fail
    go_ret2
    exact ⟨rfl, rfl⟩
  · have h' : 0 ≤ c := by omega
    go_enter Tryd.func70, Tryd.ntmps70
    go_wp2_with fail
    go_ret2
    exact ⟨rfl, rfl⟩

theorem bitN_odd {c : Nat} (h : c % 2 = 1) : bitN c = c / 2 ^^^ 3988292384 := by unfold bitN; rw [if_pos h]
theorem bitN_even {c : Nat} (h : ¬ c % 2 = 1) : bitN c = c / 2 := by unfold bitN; rw [if_neg h]

set_option maxHeartbeats 2000000 in
theorem refStep_ok (c : Nat) (h : c < 4294967296) (b : UInt8) (w : World) :
    Calls Tryd.prog 70 #[.int .i64 c, .int .u8 b.toNat] w fun e w' => e = .returned (.tuple #[.int .i64 (stepN c b : Nat), .bool true]) ∧ Below w.heap.size w w' := by
  have hb := b.toNat_lt
  have hx := byte_xor_lt h b
  rw [step_bits]
  generalize b.toNat = y at *
  go_enter Tryd.func70, Tryd.ntmps70
  go_wp2_with fail
  refine (unlike_calls c y h (by omega) _).mono ?_
  rintro e w1 ⟨rfl, hB1⟩
  generalize hd : c ^^^ y = d at *
  have HD := Lib.hid hd
  clear hd
  go_wp2_with fail
  go_loopw [0, 6] (fun q i wr => ∃ k : Nat, k ≤ 8 ∧ i = .int .i64 k ∧ q = .int .i64 (bitsN k d : Nat) ∧ Below w.heap.size w wr) (fun _ i _ => 8 - (intOf i).toNat)
  case atStart => exact ⟨0, by omega, rfl, rfl, hB1⟩
  case round =>
    obtain ⟨k, hk, rfl, rfl, hB⟩ := hrel
    have hl := bits_lt k hx
    by_cases hlt : k < 8
    · have hs := bits_snoc k d
      generalize bitsN k d = z at *
      by_cases ho : z % 2 = 1
      · rw [bitN_odd ho] at hs
        have HS := Lib.hid hs
        clear hs
        go_wp2_with fail
        refine (unlike_calls (z / 2) 3988292384 (by omega) (by omega) _).mono ?_
        rintro e w2 ⟨rfl, hB2⟩
        go_wp2_with fail
        go_roundw
        case rel => exact ⟨k + 1, by omega, by go_num, by rw [HS.out], below2 hB hB2⟩
        case measure => simp [intOf]; omega
      · rw [bitN_even ho] at hs
        have HS := Lib.hid hs
        clear hs
        go_wp2_with fail
        go_roundw
        case rel => exact ⟨k + 1, by omega, by go_num, by rw [HS.out]; rfl, hB⟩
        case measure => simp [intOf]; omega
    · obtain rfl : k = 8 := by omega
      go_wp2_with fail
      go_ret2
      exact ⟨by rw [HD.out]; rfl, hB⟩

end Go.Proofs.YtcipdmdliobdmaaDoor

/-
  The document's own Sum, four, Put, Get, All.
-/
namespace Go.Proofs.YtcipdmdliobdmaaDoor
open Go.RowKit
attribute [local go_sem] at_str app_mk ext_take ext_drop

set_option maxHeartbeats 2000000 in
theorem refSum_calls (s : List UInt8) (hm : s.length ≤ 4611686018427387904) (w : World) :
    Calls Tryd.prog 61 #[.string ⟨s.toArray⟩] w fun e w' => e = .returned (.int .i64 (sumN s : Nat)) ∧ Below w.heap.size w w' := by
  go_enter Tryd.func61, Tryd.ntmps61
  go_wp2_with fail
  go_loopw [3, 4, 5, 6] (fun q i _ _ wr => ∃ k : Nat, k ≤ s.length ∧ i = .int .i64 k ∧ q = .int .i64 (foldN 4294967295 (s.take k) : Nat) ∧ Below w.heap.size w wr) (fun _ i _ _ _ => s.length - (intOf i).toNat)
  case atStart => exact ⟨0, by omega, rfl, rfl, Below.refl _ _⟩
  case round =>
    obtain ⟨k, hk, rfl, rfl, hB⟩ := hrel
    have hl := fold_lt (s.take k) (c := 4294967295) (by omega)
    by_cases hlt : k < s.length
    · have hs := fold_snoc 4294967295 (s.take k) s[k]
      rw [← List.take_succ_eq_append_getElem hlt] at hs
      have HS := Lib.hid hs
      clear hs
      go_wp2_with (go_at_call 70; refine (refStep_ok _ hl s[k] _).mono ?_; rintro e w2 ⟨rfl, hB2⟩)
      go_roundw
      case rel => exact ⟨k + 1, by omega, by go_num, by rw [HS.out], below2 hB hB2⟩
      case measure => simp [intOf]; omega
    · obtain rfl : k = s.length := by omega
      rw [List.take_length] at hl ⊢
      go_wp2_with fail
      refine (unlike_calls _ 4294967295 hl (by omega) _).mono ?_
      rintro e w2 ⟨rfl, hB2⟩
      go_wp2_with fail
      go_ret
      exact ⟨rfl, below2 hB hB2⟩

/-- 'string([]byte{x0, x1, x2, x3})'. -/
theorem conv_fourR (W : World) (x0 x1 x2 x3 : Int) : (convert 87 9 (.slice (some ⟨W.heap.size, 0, none⟩) 4 4)).run Tryd.prog (W.alloc (.cells #[.int .u8 x0, .int .u8 x1, .int .u8 x2, .int .u8 x3] 5)) = .ok (.string ⟨[UInt8.ofNat x0.toNat, UInt8.ofNat x1.toNat, UInt8.ofNat x2.toNat, UInt8.ofNat x3.toNat].toArray⟩) (W.alloc (.cells #[.int .u8 x0, .int .u8 x1, .int .u8 x2, .int .u8 x3] 5)) := by
  have h := run_convert_bytes_arg (P := Tryd.prog) (W.alloc (.cells #[.int .u8 x0, .int .u8 x1, .int .u8 x2, .int .u8 x3] 5)) 87 5 Tryd.underlying87 Tryd.underlying5 W.heap.size 0 4 4 [x0, x1, x2, x3] rfl (fun i hi => by
    rcases (by omega : i = 0 ∨ i = 1 ∨ i = 2 ∨ i = 3) with rfl | rfl | rfl | rfl <;> simp) 9 Tryd.underlying9
  rw [h]
  rfl

set_option maxHeartbeats 1000000 in
theorem refFour_calls (n : Nat) (hn : n < 4294967296) (w : World) :
    Calls Tryd.prog 60 #[.int .i64 n] w fun e w' => e = .returned (.string ⟨(digsTo n 4).toArray⟩) ∧ Below w.heap.size w w' := by
  have kc := conv_fourR
  go_enter Tryd.func60, Tryd.ntmps60
  go_wp2_with fail
  go_ret
  exact ⟨by rw [← four_eq]; rfl, below_alloc _ _⟩

set_option maxHeartbeats 1000000 in
theorem refPut_ok (s : List UInt8) (h : s.length ≤ 4000) (w : World) :
    Calls Tryd.prog 54 #[.string ⟨s.toArray⟩] w fun e w' => e = .returned (.tuple #[.string ⟨(frameB s).toArray⟩, .int .i64 0]) ∧ Below w.heap.size w w' := by
  have hl1 : (digsTo (sumN s) 4).length ≤ 4 := by rw [digsTo_length]; omega
  have hl2 : (txtB s).length ≤ 4005 := by rw [txtB_length]; have := wid_le s.length; omega
  go_enter Tryd.func54, Tryd.ntmps54
  go_wp2_with fail
  refine (refText_ok s h _).mono ?_
  rintro e w1 ⟨rfl, hB1⟩
  go_wp2_with fail
  refine (refSum_calls s (by omega) _).mono ?_
  rintro e w2 ⟨rfl, hB2⟩
  go_wp2_with fail
  refine (refFour_calls _ (sum_lt s) _).mono ?_
  rintro e w3 ⟨rfl, hB3⟩
  go_wp2_with fail
  go_ret2
  exact ⟨rfl, below3 hB1 hB2 hB3⟩

set_option maxHeartbeats 1000000 in
theorem refPut_bad (s : List UInt8) (h : 4000 < s.length) (hm : s.length ≤ 9223372036854775807) (w : World) :
    Calls Tryd.prog 54 #[.string ⟨s.toArray⟩] w fun e w' => e = .returned (.tuple #[.string ⟨#[]⟩, .int .i64 2]) ∧ w = w' := by
  go_enter Tryd.func54, Tryd.ntmps54
  go_wp2_with fail
  refine (refText_bad s h hm _).mono ?_
  rintro e w1 ⟨rfl, rfl⟩
  go_wp2_with fail
  go_ret2
  exact ⟨rfl, rfl⟩

set_option maxHeartbeats 1000000 in
theorem refGetF_few (s : List UInt8) (h : s.length < 4) (w : World) :
    Calls Tryd.prog 46 #[.string ⟨s.toArray⟩] w fun e w' => e = .returned (.tuple #[.string ⟨#[]⟩, .string ⟨#[]⟩, .int .i64 30]) ∧ w = w' := by
  go_enter Tryd.func46, Tryd.ntmps46
  go_wp2_with fail
  go_ret3
  exact ⟨rfl, rfl⟩

set_option maxHeartbeats 1000000 in
theorem refGetF_noText (s : List UInt8) (h : 4 ≤ s.length) (hm : s.length ≤ 4611686018427387904) (hg : getT (s.drop 4) = none) (w : World) :
    Calls Tryd.prog 46 #[.string ⟨s.toArray⟩] w fun e w' => e = .returned (.tuple #[.string ⟨#[]⟩, .string ⟨#[]⟩, .int .i64 30]) ∧ Below w.heap.size w w' := by
  have HG := Lib.hid hg
  have hl : (s.drop 4).length ≤ 4611686018427387904 := by rw [List.length_drop]; omega
  clear hg
  go_enter Tryd.func46, Tryd.ntmps46
  go_wp2_with fail
  refine (refGetText_none (s.drop 4) hl HG.out _).mono ?_
  rintro e w1 ⟨rfl, hB1⟩
  go_wp2_with fail
  go_quiet (fail)
  go_wp2_with fail
  go_ret3
  exact ⟨rfl, below2 hB1 (drewn_below _ _)⟩

set_option maxHeartbeats 2000000 in
theorem refGetF_other (s t r : List UInt8) (h : 4 ≤ s.length) (hm : s.length ≤ 4611686018427387904) (hg : getT (s.drop 4) = some (t, r)) (he : s.take 4 ≠ digsTo (sumN t) 4) (w : World) :
    Calls Tryd.prog 46 #[.string ⟨s.toArray⟩] w fun e w' => e = .returned (.tuple #[.string ⟨#[]⟩, .string ⟨#[]⟩, .int .i64 30]) ∧ Below w.heap.size w w' := by
  have hl : (s.drop 4).length ≤ 4611686018427387904 := by rw [List.length_drop]; omega
  have ht := (getT_bounds hg).1
  have HG := Lib.hid hg
  have hsb : (digsTo (sumN t) 4 == s.take 4) = false := by simp; exact fun e => he e.symm
  have hsl := sum_lt t
  clear hg he
  go_enter Tryd.func46, Tryd.ntmps46
  go_wp2_with fail
  refine (refGetText_some (s.drop 4) hl HG.out _).mono ?_
  rintro e w1 ⟨rfl, hB1⟩
  go_wp2_with fail
  go_region_with (first | (go_at_call 61; refine (refSum_calls t (by omega) _).mono ?_; rintro e w2 ⟨rfl, hB2⟩) | (go_at_call 60; refine (refFour_calls (sumN t) hsl _).mono ?_; rintro e w3 ⟨rfl, hB3⟩))
  go_wp2_with fail
  go_ret3
  exact ⟨rfl, below2 (below2 (below2 hB1 (drew_below _)) hB2) hB3⟩

set_option maxHeartbeats 2000000 in
theorem refGetF_ok (s t r : List UInt8) (h : 4 ≤ s.length) (hm : s.length ≤ 4611686018427387904) (hg : getT (s.drop 4) = some (t, r)) (he : s.take 4 = digsTo (sumN t) 4) (w : World) :
    Calls Tryd.prog 46 #[.string ⟨s.toArray⟩] w fun e w' => e = .returned (.tuple #[.string ⟨t.toArray⟩, .string ⟨r.toArray⟩, .int .i64 0]) ∧ Below w.heap.size w w' := by
  have hl : (s.drop 4).length ≤ 4611686018427387904 := by rw [List.length_drop]; omega
  have ht := (getT_bounds hg).1
  have HG := Lib.hid hg
  have hsb : (digsTo (sumN t) 4 == s.take 4) = true := by simp [he]
  have hsl := sum_lt t
  clear hg he
  go_enter Tryd.func46, Tryd.ntmps46
  go_wp2_with fail
  refine (refGetText_some (s.drop 4) hl HG.out _).mono ?_
  rintro e w1 ⟨rfl, hB1⟩
  go_wp2_with fail
  go_region_with (first | (go_at_call 61; refine (refSum_calls t (by omega) _).mono ?_; rintro e w2 ⟨rfl, hB2⟩) | (go_at_call 60; refine (refFour_calls (sumN t) hsl _).mono ?_; rintro e w3 ⟨rfl, hB3⟩))
  go_wp2_with fail
  go_ret3
  exact ⟨rfl, below2 (below2 (below2 hB1 (drew_below _)) hB2) hB3⟩

end Go.Proofs.YtcipdmdliobdmaaDoor

/-
  The document's own Get.
-/
namespace Go.Proofs.YtcipdmdliobdmaaDoor
open Go.RowKit

theorem refGet_none (s : List UInt8) (hm : s.length ≤ 4611686018427387904) (h : getF s = none) (w : World) :
    Calls Tryd.prog 46 #[.string ⟨s.toArray⟩] w fun e w' => e = .returned (.tuple #[.string ⟨#[]⟩, .string ⟨#[]⟩, .int .i64 30]) ∧ Below w.heap.size w w' := by
  by_cases h4 : s.length < 4
  · exact (refGetF_few s h4 w).mono fun e w' ⟨he, hw⟩ => ⟨he, hw ▸ Below.refl _ _⟩
  · cases hg : getT (s.drop 4) with
    | none => exact refGetF_noText s (by omega) hm hg w
    | some x =>
      obtain ⟨t, r⟩ := x
      refine refGetF_other s t r (by omega) hm hg (fun he => ?_) w
      rw [getF_ok h4 hg he] at h
      cases h
theorem refGet_some (s : List UInt8) (hm : s.length ≤ 4611686018427387904) {t r : List UInt8} (h : getF s = some (t, r)) (w : World) :
    Calls Tryd.prog 46 #[.string ⟨s.toArray⟩] w fun e w' => e = .returned (.tuple #[.string ⟨t.toArray⟩, .string ⟨r.toArray⟩, .int .i64 0]) ∧ Below w.heap.size w w' := by
  by_cases h4 : s.length < 4
  · rw [getF_short h4] at h; cases h
  · cases hg : getT (s.drop 4) with
    | none => rw [getF_no h4 hg] at h; cases h
    | some x =>
      obtain ⟨t', r'⟩ := x
      by_cases he : s.take 4 = digsTo (sumN t') 4
      · rw [getF_ok h4 hg he] at h
        simp only [Option.some.injEq, Prod.mk.injEq] at h
        obtain ⟨rfl, rfl⟩ := h
        exact refGetF_ok s _ _ (by omega) hm hg he w
      · rw [getF_other h4 hg he] at h; cases h

end Go.Proofs.YtcipdmdliobdmaaDoor

/-
  The row's condition on crc's table, in the words of the walks; a byte that came in.
-/
namespace Go.Proofs.YtcipdmdliobdmaaDoor

theorem tab_ok {W : World} (h : laidMetH Tryd.prog [("sexton/crc.halfSteps", Rows.laid_sexton_crc_halfSteps)] W) : TabOk W := by
  rw [MakeChecks.laidMetH_plain _ _ _ (by kernel_rfl)] at h
  have hT := Lib.tabIs_of_head (P := Tryd.prog) (name := "sexton/crc.halfSteps") (g := 0) (k := .u32) (zs := tabN.map fun n : Nat => (n : Int)) (rest := []) (n := 16) (by kernel_rfl) (by kernel_rfl) Tryd.underlying119 Tryd.underlying111 (by kernel_rfl) (by kernel_rfl) h
  intro i hi
  have hl : tabN.length = 16 := rfl
  rw [hT.cell (by kernel_rfl) i (by rw [List.length_map]; omega)]
  simp only [List.getD_eq_getElem?_getD, List.getElem?_map]
  rw [List.getElem?_eq_getElem (by omega)]
  rfl
theorem byte_of {n : Int} (h : (Lit.int .u8 n).wf = true) : ∃ b : UInt8, n = (b.toNat : Int) := by
  simp only [Lit.wf, IntKind.min, IntKind.max, IntKind.signed, IntKind.bits, Bool.and_eq_true] at h
  obtain ⟨h0, h1⟩ := h
  refine ⟨UInt8.ofNat n.toNat, ?_⟩
  simp at h0 h1 ⊢
  omega

end Go.Proofs.YtcipdmdliobdmaaDoor
