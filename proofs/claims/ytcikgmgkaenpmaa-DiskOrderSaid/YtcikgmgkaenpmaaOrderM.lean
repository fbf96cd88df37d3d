/-
  Writes to blocks that are no two the same, laid in any order.
-/
import Derived.Test.YtcikgmgkaenpmaaDSpec
namespace Go.Proofs.Ytcikgmgkaenpmaa
open Go.RowKit

/-- No two of them have one place. -/
def Apart (l : List Wr) : Prop := l.Pairwise fun x y => x.1 ≠ y.1
theorem apart_both {l : List Wr} (h : Apart l) : ∀ x ∈ l, ∀ y ∈ l, x = y ∨ x.1 ≠ y.1 := by
  induction l with
  | nil => intro x hx; cases hx
  | cons a r ih =>
    obtain ⟨h1, h2⟩ := List.pairwise_cons.1 h
    intro x hx y hy
    rcases List.mem_cons.1 hx with rfl | hx'
    · rcases List.mem_cons.1 hy with rfl | hy'
      · exact .inl rfl
      · exact .inr (h1 y hy')
    · rcases List.mem_cons.1 hy with rfl | hy'
      · exact .inr (fun e => h1 x hx' e.symm)
      · exact ih h2 x hx' y hy'
theorem apart_snoc {l : List Wr} {x : Wr} (h : Apart l) (hx : ∀ y ∈ l, y.1 ≠ x.1) : Apart (l ++ [x]) := by
  unfold Apart at h ⊢
  rw [List.pairwise_append]
  exact ⟨h, List.pairwise_singleton _ _, fun a ha b hb => by rw [List.mem_singleton.1 hb]; exact hx a ha⟩
theorem set_comm (b : List (List UInt8)) (i j : Nat) (s t : List UInt8) (h : i ≠ j) : (b.set i s).set j t = (b.set j t).set i s := List.set_comm s t h
theorem lay_reverse (bs : List (List UInt8)) (l : List Wr) (h : Apart l) (h0 : ∀ x ∈ l, 0 ≤ x.1) : layL bs l.reverse = layL bs l := by
  unfold layL
  refine List.Perm.foldl_eq' (List.reverse_perm l) (fun x hx y hy z => ?_) bs
  have hx' := List.mem_reverse.1 hx
  have hy' := List.mem_reverse.1 hy
  rcases apart_both h x hx' y hy' with rfl | hne
  · rfl
  · have h1 := h0 x hx'
    have h2 := h0 y hy'
    exact set_comm z _ _ _ _ (by omega)
theorem right_perm (bs : List (List UInt8)) (ws l : List Wr) : rightB bs (ws ++ l.reverse) = rightB bs (ws ++ l) := by
  simp [rightB, List.all_append, List.all_reverse]
theorem sync_same {bs : List (List UInt8)} {ws l : List Wr} (h : Apart l) : syncE bs (ws ++ l.reverse) = syncE bs (ws ++ l) ∧ syncBs bs (ws ++ l.reverse) = syncBs bs (ws ++ l) := by
  refine ⟨by rw [syncE, syncE, right_perm], ?_⟩
  unfold syncBs
  rw [right_perm]
  split
  · rename_i hr
    have h0 := (right_parts hr).2.2.2.2
    rw [layL_append, layL_append]
    refine lay_reverse _ _ h (fun x hx => ?_)
    have := (h0 x (List.mem_append_right _ hx)).1
    have : 0 ≤ x.1 ∧ x.1 < bs.length := by simpa [hasB] using this
    exact this.1
  · rfl
theorem rev_at {l : List Wr} {k : Nat} (hk : k < l.length) : l.reverse.take (k + 1) = l.reverse.take k ++ [l[l.length - 1 - k]'(by omega)] := by
  rw [List.take_succ_eq_append_getElem (by simpa using hk)]
  simp

end Go.Proofs.Ytcikgmgkaenpmaa
