/-
  Times of rows that are put, dropped and done. No program is named here.
-/
import Derived.Test.YtgbicdbmmjleoaaTrOpen
import Derived.Test.YtgbicdbmmjleoaaNdUnl
namespace Go.Proofs.Ytgbicdbmmjleoaa

theorem timed_put {l : List Pr} (h : Timed l) {p : Pr} (hp : p.1.2 ≤ 9223372036854775807) : Timed (putL l p) := by
  intro x hx
  unfold putL at hx
  rcases List.mem_append.1 hx with hx | hx
  · exact h x (List.mem_of_mem_take hx)
  · rcases List.mem_cons.1 hx with rfl | hx
    · exact hp
    · exact h x (List.mem_of_mem_drop hx)
theorem timed_drop {l : List Pr} (h : Timed l) (k : Ky) : Timed (dropL l k) := by
  intro x hx
  unfold dropL at hx
  rcases List.mem_append.1 hx with hx | hx
  · exact h x (List.mem_of_mem_take hx)
  · exact h x (List.mem_of_mem_drop hx)
theorem timed_do {l : List Pr} (h : Timed l) {o : Stp} (ho : o.2.1.2 ≤ 9223372036854775807) : Timed (doL l o) := by
  unfold doL
  split
  · exact timed_put h ho
  · split
    · exact timed_drop h _
    · exact h
theorem timed_nil : Timed [] := fun x hx => by simp at hx
theorem timed_puts {l : List Pr} (h : Timed l) : Timed (putsL l) := by
  have g : ∀ (l acc : List Pr), Timed l → Timed acc → Timed (l.foldl putL acc) := by
    intro l
    induction l with
    | nil => exact fun acc _ h => h
    | cons x r ih => exact fun acc h1 h2 => ih _ (fun y hy => h1 y (by simp [hy])) (timed_put h2 (h1 x (by simp)))
  exact g l [] h timed_nil
theorem timed_rev {l : List Pr} (h : Timed l) : Timed l.reverse := fun x hx => h x (by simpa using hx)
theorem timed_take {l : List Pr} (h : Timed l) (k : Nat) : Timed (l.take k) := fun x hx => h x (List.mem_of_mem_take hx)

/-- Steps done one behind the other. -/
def doesL (s : List Stp) : List Pr := s.foldl doL []
theorem doesL_succ {s : List Stp} {k : Nat} (hk : k < s.length) : doL (doesL (s.take k)) s[k] = doesL (s.take (k + 1)) := by
  unfold doesL
  rw [List.take_succ_eq_append_getElem hk, List.foldl_append]
  rfl
theorem doesL_le (s : List Stp) : (doesL s).length ≤ s.length := by
  have h : ∀ (s : List Stp) (acc : List Pr), (s.foldl doL acc).length ≤ acc.length + s.length := by
    intro s
    induction s with
    | nil => simp
    | cons x r ih =>
      intro acc
      have h1 := ih (doL acc x)
      have h2 := doL_le acc x
      simp only [List.foldl_cons, List.length_cons]
      omega
  have := h s []
  simpa [doesL] using this
theorem doesL_rises (s : List Stp) : Rises (doesL s) := by
  have h : ∀ (s : List Stp) (acc : List Pr), Rises acc → Rises (s.foldl doL acc) := by
    intro s
    induction s with
    | nil => exact fun _ h => h
    | cons x r ih => exact fun acc h => ih _ (doL_rises h x)
  exact h s [] List.Pairwise.nil
theorem doesL_timed {s : List Stp} (h : Timed (s.map (·.2))) : Timed (doesL s) := by
  have g : ∀ (s : List Stp) (acc : List Pr), Timed (s.map (·.2)) → Timed acc → Timed (s.foldl doL acc) := by
    intro s
    induction s with
    | nil => exact fun acc _ h => h
    | cons x r ih => exact fun acc h1 h2 => ih _ (fun y hy => h1 y (by simp at hy ⊢; exact .inr hy)) (timed_do h2 (h1 x.2 (by simp)))
  exact g s [] h timed_nil
theorem timed_steps {s : List Stp} (h : Timed (s.map (·.2))) (k : Nat) : Timed ((s.take k).map (·.2)) := fun x hx => h x (by
  obtain ⟨y, hy, rfl⟩ := List.mem_map.1 hx
  exact List.mem_map.2 ⟨y, List.mem_of_mem_take hy, rfl⟩)

end Go.Proofs.Ytgbicdbmmjleoaa
