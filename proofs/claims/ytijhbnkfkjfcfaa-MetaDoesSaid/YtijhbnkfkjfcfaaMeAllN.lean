/-
  All numbers that a text's bytes are.
-/
import Derived.Test.YtijhbnkfkjfcfaaMeSpec
namespace Go.Proofs.Ytijhbnkfkjfcfaa
set_option maxRecDepth 100000

def OkN (l : List Int) : Prop := ∀ c ∈ l, 0 ≤ c ∧ c ≤ 4294967295
theorem okN_nil : OkN [] := by intro c h; simp at h
theorem okN_snoc {l : List Int} {n : Nat} (h : OkN l) (hn : n ≤ 4294967295) : OkN (l ++ [(n : Int)]) := by
  intro c hc
  rcases List.mem_append.1 hc with hc | hc
  · exact h c hc
  · simp at hc; omega
theorem numsB_more : ∀ (l l' : List Int) (r : List UInt8), OkN l → OkN l' → numsB l ++ r = numsB l' → ∃ l2, l' = l ++ l2 ∧ r = numsB l2
  | [], l', r, _, _, he => ⟨l', rfl, he⟩
  | c :: t, [], r, _, _, he => by
    have := numB_length c.toNat
    have h2 := congrArg List.length he
    simp only [numsB_cons, numsB_nil, List.length_append, List.length_nil] at h2
    omega
  | c :: t, c' :: t', r, h, h', he => by
    have h1 := h c (by simp)
    have h1' := h' c' (by simp)
    rw [numsB_cons, numsB_cons, List.append_assoc] at he
    have e1 := laid_getN c.toNat (by omega) (numsB t ++ r)
    rw [he, laid_getN c'.toNat (by omega)] at e1
    simp only [Option.some.injEq, Prod.mk.injEq] at e1
    obtain ⟨l2, h2, h3⟩ := numsB_more t t' r (fun x hx => h x (by simp [hx])) (fun x hx => h' x (by simp [hx])) e1.2.symm
    refine ⟨l2, ?_, h3⟩
    have : c' = c := by omega
    rw [this, h2]; rfl
theorem numsB_inj {l l' : List Int} (h : OkN l) (h' : OkN l') (he : numsB l = numsB l') : l = l' := by
  obtain ⟨l2, h2, h3⟩ := numsB_more l l' [] h h' (by simpa using he)
  cases l2 with
  | nil => rw [h2]; simp
  | cons c t =>
    have := numB_length c.toNat
    have h4 := congrArg List.length h3
    simp only [numsB_cons, List.length_append, List.length_nil] at h4
    omega
/-- What stands behind some numbers is none. -/
theorem nums_stop {l : List Int} {r : List UInt8} (h : OkN l) (hr : r ≠ []) (hn : getN r = none) : ∀ l', OkN l' → numsB l ++ r ≠ numsB l' := by
  intro l' h' he
  obtain ⟨l2, h2, h3⟩ := numsB_more l l' r h h' he
  cases l2 with
  | nil => exact hr h3
  | cons c t =>
    have h1 := h' c (by rw [h2]; simp)
    rw [h3, numsB_cons, laid_getN _ (by omega)] at hn
    cases hn
theorem nums_count : ∀ l : List Int, l.length ≤ (numsB l).length
  | [] => by simp
  | c :: t => by
    have := nums_count t
    have h := numB_length c.toNat
    rw [numsB_cons, List.length_append, List.length_cons]
    omega
theorem meta_okN {z d : Int} {cs : List Int} (h : metaB z d cs = true) : OkN (z :: d :: (cs.length : Int) :: cs) := by
  obtain ⟨h1, h2, h3, h4⟩ := metaB_iff.1 h
  intro c hc
  simp only [List.mem_cons] at hc
  rcases hc with rfl | rfl | rfl | hc
  · omega
  · omega
  · omega
  · exact h4 c hc
theorem metaT_nums (z d : Int) (cs : List Int) : metaT z d cs = numsB (z :: d :: (cs.length : Int) :: cs) := by
  rw [metaT, ← numsB_app]; rfl
/-- A text that is no row of numbers is no meta's. -/
theorem getM_noNums {s : List UInt8} (h : ∀ l, OkN l → s ≠ numsB l) : getM s = none := by
  cases hg : getM s with
  | none => rfl
  | some m =>
    obtain ⟨z, d, cs⟩ := m
    obtain ⟨h1, h2⟩ := laid_getM hg
    exact absurd (h1.trans (metaT_nums z d cs)) (h _ (meta_okN h2))
theorem getM_nums {l : List Int} (h : OkN l) {m : Mt} (hg : getM (numsB l) = some m) : l = m.1 :: m.2.1 :: (m.2.2.length : Int) :: m.2.2 ∧ metaB m.1 m.2.1 m.2.2 = true := by
  obtain ⟨z, d, cs⟩ := m
  obtain ⟨h1, h2⟩ := laid_getM hg
  exact ⟨numsB_inj h (meta_okN h2) (h1.trans (metaT_nums z d cs)), h2⟩
theorem getM_few {l : List Int} (h : OkN l) (hl : l.length < 3) : getM (numsB l) = none := by
  cases hg : getM (numsB l) with
  | none => rfl
  | some m =>
    have := (getM_nums h hg).1
    exact absurd hl (by rw [this]; simp)
theorem getM_other {z d n : Int} {cs : List Int} (h : OkN (z :: d :: n :: cs)) (hn : n ≠ cs.length) : getM (numsB (z :: d :: n :: cs)) = none := by
  cases hg : getM (numsB (z :: d :: n :: cs)) with
  | none => rfl
  | some m =>
    have := (getM_nums h hg).1
    simp only [List.cons.injEq] at this
    obtain ⟨_, _, h3, h4⟩ := this
    rw [h4] at hn
    exact absurd h3 hn
theorem getM_all {z d : Int} {cs : List Int} (h : OkN (z :: d :: (cs.length : Int) :: cs)) : getM (numsB (z :: d :: (cs.length : Int) :: cs)) = if metaB z d cs then some (z, d, cs) else none := by
  by_cases hm : metaB z d cs = true
  · rw [if_pos hm, ← metaT_nums, getM_laid hm]
  · rw [if_neg hm]
    cases hg : getM (numsB (z :: d :: (cs.length : Int) :: cs)) with
    | none => rfl
    | some m =>
      obtain ⟨h1, h2⟩ := getM_nums h hg
      simp only [List.cons.injEq] at h1
      obtain ⟨h3, h4, _, h5⟩ := h1
      rw [← h3, ← h4, ← h5] at h2
      exact absurd h2 hm

end Go.Proofs.Ytijhbnkfkjfcfaa
