/-
  Chains in plain words: chunks of a text, their sums, what chunks make, which are there.
-/
import Derived.Test.YtinbeapkhmcifaaDoorCrcSpec
import Derived.Test.YtinbeapkhmcifaaDoorMeSpec
namespace Go.Proofs.YtinbeapkhmcifaaDoor
set_option maxRecDepth 100000

/-- How many chunks of n bytes are as long as m bytes. -/
def cntN (n m : Nat) : Nat := (m + n - 1) / n
theorem cnt_lt {n m k : Nat} (hn : 0 < n) : k < cntN n m ↔ k * n < m := by
  unfold cntN
  rw [← Nat.succ_le_iff, Nat.le_div_iff_mul_le hn, Nat.succ_mul]
  omega
theorem cnt_le {n m k : Nat} (hn : 0 < n) : cntN n m ≤ k ↔ m ≤ k * n := by
  have := cnt_lt (m := m) (k := k) hn
  omega
/-- The first k chunks of n bytes. -/
def pcsN (n : Nat) (s : List UInt8) (k : Nat) : List (List UInt8) := (List.range k).map fun i => (s.drop (i * n)).take n
theorem pcs_len (n : Nat) (s : List UInt8) (k : Nat) : (pcsN n s k).length = k := by simp [pcsN]
theorem pcs_snoc (n : Nat) (s : List UInt8) (k : Nat) : pcsN n s (k + 1) = pcsN n s k ++ [(s.drop (k * n)).take n] := by simp [pcsN, List.range_succ]
theorem pcs_get (n : Nat) (s : List UInt8) (k i : Nat) (h : i < (pcsN n s k).length) : (pcsN n s k)[i] = (s.drop (i * n)).take n := by simp [pcsN]
theorem pcs_flat (n : Nat) (s : List UInt8) : ∀ k, (pcsN n s k).flatten = s.take (k * n)
  | 0 => by simp [pcsN]
  | k + 1 => by
    rw [pcs_snoc, List.flatten_append, pcs_flat n s k, Nat.succ_mul, List.take_add]
    simp
/-- A text in chunks. -/
def chopN (n : Nat) (s : List UInt8) : List (List UInt8) := pcsN n s (cntN n s.length)
theorem chop_len (n : Nat) (s : List UInt8) : (chopN n s).length = cntN n s.length := pcs_len _ _ _
theorem chop_flat {n : Nat} (hn : 0 < n) (s : List UInt8) : (chopN n s).flatten = s := by
  unfold chopN
  rw [pcs_flat, List.take_of_length_le]
  exact (cnt_le hn).1 (Nat.le_refl _)

/-- What Cut answers. -/
def cutE (s : List UInt8) (n : Int) : Int := if n < 1 ∨ 4000 < n then 1 else if 16 * n < s.length then 2 else 0
def cutL (s : List UInt8) (n : Int) : List (List UInt8) := if cutE s n = 0 then chopN n.toNat s else []
theorem cut_cases (s : List UInt8) (n : Int) : (cutE s n = 1 ∧ cutL s n = [] ∧ (n < 1 ∨ 4000 < n)) ∨ (cutE s n = 2 ∧ cutL s n = [] ∧ 1 ≤ n ∧ n ≤ 4000 ∧ 16 * n < s.length) ∨
    (cutE s n = 0 ∧ cutL s n = chopN n.toNat s ∧ 1 ≤ n ∧ n ≤ 4000 ∧ (s.length : Int) ≤ 16 * n) := by
  unfold cutL cutE
  by_cases h1 : n < 1 ∨ 4000 < n
  · simp [h1]
  · by_cases h2 : 16 * n < s.length
    · simp only [if_neg h1, if_pos h2]
      exact .inr (.inl ⟨by trivial, by simp, by omega, by omega, h2⟩)
    · simp only [if_neg h1, if_neg h2]
      exact .inr (.inr ⟨by trivial, by simp, by omega, by omega, by omega⟩)
theorem cut_few (s : List UInt8) (n : Int) : (cutL s n).length ≤ 16 := by
  rcases cut_cases s n with ⟨_, h, _⟩ | ⟨_, h, _⟩ | ⟨_, h, h1, _, h3⟩
  · rw [h]; simp
  · rw [h]; simp
  · rw [h, chop_len]
    obtain ⟨m, rfl⟩ : ∃ m : Nat, n = m := ⟨n.toNat, by omega⟩
    rw [cnt_le (by omega)]
    simp
    omega

/-- The sums of texts. -/
def sumsL (l : List (List UInt8)) : List Int := l.map fun t => ((sumN t : Nat) : Int)
theorem sums_len (l : List (List UInt8)) : (sumsL l).length = l.length := by simp [sumsL]
theorem sums_snoc (l : List (List UInt8)) {k : Nat} (h : k < l.length) : sumsL (l.take (k + 1)) = sumsL (l.take k) ++ [((sumN l[k] : Nat) : Int)] := by
  rw [List.take_succ_eq_append_getElem h, sumsL, List.map_append]
  rfl

/-- Where the first text with a sum stands; the first one. -/
def atSum (l : List (List UInt8)) (c : Int) : Option Nat := l.findIdx? fun t => ((sumN t : Nat) : Int) == c
def hasSum (l : List (List UInt8)) (c : Int) : Bool := l.any fun t => ((sumN t : Nat) : Int) == c
def ofSum (l : List (List UInt8)) (c : Int) : List UInt8 := (l.find? fun t => ((sumN t : Nat) : Int) == c).getD []
theorem at_none {l : List (List UInt8)} {c : Int} (h : atSum l c = none) : hasSum l c = false := by
  rw [atSum, List.findIdx?_eq_none_iff] at h
  rw [hasSum, List.any_eq_false]
  intro t ht
  simp [h t ht]
theorem at_some {l : List (List UInt8)} {c : Int} {i : Nat} (h : atSum l c = some i) : hasSum l c = true ∧ ∃ hi : i < l.length, ofSum l c = l[i] := by
  rw [atSum, List.findIdx?_eq_some_iff_getElem] at h
  obtain ⟨hi, hp, hn⟩ := h
  refine ⟨?_, hi, ?_⟩
  · rw [hasSum, List.any_eq_true]
    exact ⟨_, List.getElem_mem hi, hp⟩
  · have hf : (l.find? fun t => ((sumN t : Nat) : Int) == c) = some l[i] := by
      rw [List.find?_eq_some_iff_getElem]
      exact ⟨hp, i, hi, rfl, fun j hj => by simpa using hn j hj⟩
    rw [ofSum, hf]
    rfl
theorem at_snoc (l : List (List UInt8)) (t : List UInt8) (c : Int) : atSum (l ++ [t]) c = (atSum l c).or (if ((sumN t : Nat) : Int) = c then some l.length else none) := by
  rw [atSum, List.findIdx?_append]
  congr 1
  by_cases h : ((sumN t : Nat) : Int) = c <;> simp [h]
theorem of_none {l : List (List UInt8)} {c : Int} (h : hasSum l c = false) : ofSum l c = [] := by
  rw [hasSum, List.any_eq_false] at h
  rw [ofSum, List.find?_eq_none.2 (fun t ht => by simpa using h t ht)]
  rfl
theorem of_mem {l : List (List UInt8)} {c : Int} (h : hasSum l c = true) : ofSum l c ∈ l ∧ ((sumN (ofSum l c) : Nat) : Int) = c := by
  cases ha : atSum l c with
  | none => rw [at_none ha] at h; cases h
  | some i =>
    obtain ⟨_, hi, he⟩ := at_some ha
    refine ⟨he ▸ List.getElem_mem hi, ?_⟩
    rw [atSum, List.findIdx?_eq_some_iff_getElem] at ha
    rw [he]
    simpa using ha.2.1

/-- The chunks that sums ask for, among texts. -/
def gotL (l : List (List UInt8)) (cs : List Int) : List (List UInt8) := cs.map (ofSum l)
def allB (l : List (List UInt8)) (cs : List Int) : Bool := cs.all (hasSum l)
theorem got_snoc (l : List (List UInt8)) {cs : List Int} {k : Nat} (h : k < cs.length) : gotL l (cs.take (k + 1)) = gotL l (cs.take k) ++ [ofSum l cs[k]] := by
  rw [List.take_succ_eq_append_getElem h, gotL, List.map_append]
  rfl
theorem got_len (l : List (List UInt8)) (cs : List Int) : (gotL l cs).length = cs.length := by simp [gotL]
theorem all_snoc {l : List (List UInt8)} {cs : List Int} {k : Nat} (h : allB l (cs.take k) = true) (hk : k < cs.length) (hc : hasSum l cs[k] = true) : allB l (cs.take (k + 1)) = true := by
  unfold allB at *
  rw [List.take_succ_eq_append_getElem hk, List.all_append, h]
  simp [hc]
theorem all_not {l : List (List UInt8)} {cs : List Int} {k : Nat} (hk : k < cs.length) (hc : hasSum l cs[k] = false) : allB l cs = false := by
  unfold allB
  rw [List.all_eq_false]
  exact ⟨cs[k], List.getElem_mem hk, by simp [hc]⟩
/-- What Whole answers: the text, the error. -/
def wholeT (z d : Int) (cs : List Int) (l : List (List UInt8)) : List UInt8 := if metaB z d cs ∧ allB l cs ∧ ((gotL l cs).flatten.length : Int) = z then (gotL l cs).flatten else []
def wholeE (z d : Int) (cs : List Int) (l : List (List UInt8)) : Int := if metaB z d cs = false then 1 else if allB l cs ∧ ((gotL l cs).flatten.length : Int) = z then 0 else 80
theorem whole_bad {z d : Int} {cs : List Int} {l : List (List UInt8)} (h : metaB z d cs = false) : wholeT z d cs l = [] ∧ wholeE z d cs l = 1 := by simp [wholeT, wholeE, h]
theorem whole_lacks {z d : Int} {cs : List Int} {l : List (List UInt8)} (h : metaB z d cs = true) (ha : allB l cs = false) : wholeT z d cs l = [] ∧ wholeE z d cs l = 80 := by simp [wholeT, wholeE, h, ha]
theorem whole_other {z d : Int} {cs : List Int} {l : List (List UInt8)} (h : metaB z d cs = true) (hz : ((gotL l cs).flatten.length : Int) ≠ z) : wholeT z d cs l = [] ∧ wholeE z d cs l = 80 := by
  unfold wholeT wholeE
  generalize (gotL l cs).flatten = f at *
  simp [h, hz]
theorem whole_is {z d : Int} {cs : List Int} {l : List (List UInt8)} (h : metaB z d cs = true) (ha : allB l cs = true) (hz : ((gotL l cs).flatten.length : Int) = z) : wholeT z d cs l = (gotL l cs).flatten ∧ wholeE z d cs l = 0 := by
  unfold wholeT wholeE
  generalize (gotL l cs).flatten = f at *
  simp [h, ha, hz]

/-- Which of the first k sums are there. -/
def haveL (l : List (List UInt8)) (cs : List Int) (k : Nat) : List Int := ((List.range k).filter fun i => hasSum l (cs.getD i 0)).map fun i : Nat => (i : Int)
theorem have_yes {l : List (List UInt8)} {cs : List Int} {k : Nat} (hk : k < cs.length) (hc : hasSum l cs[k] = true) : haveL l cs (k + 1) = haveL l cs k ++ [(k : Int)] := by
  unfold haveL
  rw [List.range_succ, List.filter_append]
  simp [List.getD_eq_getElem?_getD, List.getElem?_eq_getElem hk, hc]
theorem have_no {l : List (List UInt8)} {cs : List Int} {k : Nat} (hk : k < cs.length) (hc : hasSum l cs[k] = false) : haveL l cs (k + 1) = haveL l cs k := by
  unfold haveL
  rw [List.range_succ, List.filter_append]
  simp [List.getD_eq_getElem?_getD, List.getElem?_eq_getElem hk, hc]
theorem have_le (l : List (List UInt8)) (cs : List Int) (k : Nat) : (haveL l cs k).length ≤ k := by
  unfold haveL
  rw [List.length_map]
  exact Nat.le_trans (List.length_filter_le _ _) (by simp)
theorem have_all {l : List (List UInt8)} {cs : List Int} (h : allB l cs = true) : (haveL l cs cs.length).length = cs.length := by
  have : ∀ k, k ≤ cs.length → (haveL l cs k).length = k := by
    intro k
    induction k with
    | zero => intro _; rfl
    | succ k ih =>
      intro hk
      have hc : hasSum l cs[k] = true := by
        rw [allB, List.all_eq_true] at h
        exact h _ (List.getElem_mem (by omega))
      rw [have_yes (by omega) hc, List.length_append, ih (by omega)]
      rfl
  exact this _ (Nat.le_refl _)

/-- What Describe answers. -/
def descE (s : List UInt8) (n d : Int) : Int := if cutE s n ≠ 0 then cutE s n else if metaB s.length d (sumsL (cutL s n)) then 0 else 1
def descL (s : List UInt8) (n d : Int) : List (List UInt8) := if descE s n d = 0 then cutL s n else []
def descZ (s : List UInt8) (n d : Int) : Int := if descE s n d = 0 then s.length else 0
def descD (s : List UInt8) (n d : Int) : Int := if descE s n d = 0 then d else 0
def descS (s : List UInt8) (n d : Int) : List Int := if descE s n d = 0 then sumsL (cutL s n) else []
theorem desc_cut {s : List UInt8} {n d : Int} (h : cutE s n ≠ 0) : descE s n d = cutE s n ∧ descL s n d = [] ∧ descZ s n d = 0 ∧ descD s n d = 0 ∧ descS s n d = [] := by simp [descE, descL, descZ, descD, descS, h]
theorem desc_bad {s : List UInt8} {n d : Int} (h : cutE s n = 0) (hm : metaB s.length d (sumsL (cutL s n)) = false) : descE s n d = 1 ∧ descL s n d = [] ∧ descZ s n d = 0 ∧ descD s n d = 0 ∧ descS s n d = [] := by simp [descE, descL, descZ, descD, descS, h, hm]
theorem desc_ok {s : List UInt8} {n d : Int} (h : cutE s n = 0) (hm : metaB s.length d (sumsL (cutL s n)) = true) : descE s n d = 0 ∧ descL s n d = cutL s n ∧ descZ s n d = s.length ∧ descD s n d = d ∧ descS s n d = sumsL (cutL s n) := by simp [descE, descL, descZ, descD, descS, h, hm]

end Go.Proofs.YtinbeapkhmcifaaDoor
