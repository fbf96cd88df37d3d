/-
  The plain functions of codec.Row: what it answers. No program is named here.
-/
import Derived.Test.YtinbeapkhmcifaaDoorSpec
namespace Go.Proofs.YtinbeapkhmcifaaDoor

/-- The first k texts are not too long. -/
def fineTo (ls : List (List UInt8)) (k : Nat) : Prop := ∀ s ∈ ls.take k, s.length ≤ 4000
/-- May these texts be laid? -/
def okRow (ls : List (List UInt8)) : Bool := decide (ls.length ≤ 1000) && ls.all fun s => decide (s.length ≤ 4000)
/-- What Row answers. -/
def rowOut (ls : List (List UInt8)) : List UInt8 × Int := if okRow ls then (rowB ls, 0) else ([], 2)
/-- The bytes of the first k texts, behind the number of them all. -/
def rowTo (ls : List (List UInt8)) (k : Nat) : List UInt8 := numB ls.length ++ ((ls.take k).map txtB).flatten

theorem fineTo_zero (ls : List (List UInt8)) : fineTo ls 0 := by simp [fineTo]
theorem fineTo_succ {ls : List (List UInt8)} {k : Nat} (h : fineTo ls k) (hk : k < ls.length) (h4 : ls[k].length ≤ 4000) : fineTo ls (k + 1) := by
  intro s hs
  rw [List.take_succ_eq_append_getElem hk, List.mem_append] at hs
  rcases hs with hs | hs
  · exact h s hs
  · rw [List.mem_singleton] at hs; rw [hs]; exact h4
theorem rowTo_zero (ls : List (List UInt8)) : rowTo ls 0 = numB ls.length := by simp [rowTo]
theorem rowTo_succ (ls : List (List UInt8)) (k : Nat) (hk : k < ls.length) : rowTo ls (k + 1) = rowTo ls k ++ txtB ls[k] := by
  unfold rowTo; rw [List.take_succ_eq_append_getElem hk, List.map_append, List.flatten_append, ← List.append_assoc]; simp
theorem rowTo_all (ls : List (List UInt8)) : rowTo ls ls.length = rowB ls := by simp [rowTo, rowB]
theorem rowTo_length (ls : List (List UInt8)) : ∀ k, fineTo ls k → k ≤ ls.length → (rowTo ls k).length ≤ 5 + 4005 * k
  | 0, _, _ => by have := wid_le ls.length; rw [rowTo_zero, numB_length]; omega
  | k + 1, h, hk => by
    have h' : fineTo ls k := fun s hs => h s (by rw [List.take_succ_eq_append_getElem (by omega : k < ls.length), List.mem_append]; exact .inl hs)
    have hk' : k < ls.length := by omega
    have h4 : ls[k].length ≤ 4000 := h _ (by rw [List.take_succ_eq_append_getElem hk', List.mem_append]; exact .inr (List.mem_singleton.2 rfl))
    have hw := wid_le ls[k].length
    have := rowTo_length ls k h' (by omega)
    rw [rowTo_succ ls k (by omega), List.length_append, txtB_length]
    omega
theorem rowOut_long {ls : List (List UInt8)} (h : 1000 < ls.length) : rowOut ls = ([], 2) := by
  simp [rowOut, okRow]; omega
theorem rowOut_far {ls : List (List UInt8)} {k : Nat} (hk : k < ls.length) (h : 4000 < ls[k].length) : rowOut ls = ([], 2) := by
  have : okRow ls = false := by
    simp only [okRow, Bool.and_eq_false_iff]
    right
    rw [List.all_eq_false]
    exact ⟨ls[k], List.getElem_mem hk, by simp; omega⟩
  simp [rowOut, this]
theorem rowOut_ok {ls : List (List UInt8)} (h : ls.length ≤ 1000) (hf : fineTo ls ls.length) : rowOut ls = (rowB ls, 0) := by
  have : okRow ls = true := by
    simp only [okRow, Bool.and_eq_true, decide_eq_true_eq, List.all_eq_true]
    exact ⟨h, fun s hs => hf s (by simpa using hs)⟩
  simp [rowOut, this]

end Go.Proofs.YtinbeapkhmcifaaDoor
