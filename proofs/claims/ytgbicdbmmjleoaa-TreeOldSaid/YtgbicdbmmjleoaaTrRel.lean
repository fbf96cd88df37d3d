/-
  A vertex in memory: leaves and branches, and the pairs that they have.
-/
import Derived.Test.YtgbicdbmmjleoaaPrs
namespace Go.Proofs.Ytgbicdbmmjleoaa
open Go.RowKit

/-- What stands in a branch: a vertex, its pairs, how wide it is. -/
abbrev Ch := Value × List Pr × Nat
/-- All pairs of what stands in a row. -/
def allC (S : List Ch) : List Pr := S.flatMap (·.2.1)
/-- The value v is a vertex, d above the leaves, with these pairs; n stand in it. -/
def Vx : Nat → World → Value → List Pr → Nat → Prop
  | 0, w, v, l, n => n = l.length ∧ ∃ u, v = .iface 66 u ∧ Prs w u l
  | d + 1, w, v, l, n => ∃ (g : Nat) (rv : Value) (S : List Ch) (x : Pr), v = .iface 67 (.pointer (some ⟨g, 0, none⟩)) ∧ n = S.length ∧ 2 ≤ S.length ∧ l = allC S ∧ l.head? = some x ∧
      w.cell? ⟨g, 0, none⟩ = some rv ∧ w.cell? ⟨g, 1, none⟩ = some (.string ⟨x.1.1.toArray⟩) ∧ w.cell? ⟨g, 2, none⟩ = some (.int .i64 x.1.2) ∧ w.cell? ⟨g, 3, none⟩ = some (.int .i64 l.length) ∧
      Rw w 1 rv S.length (S.map (·.1)) ∧ ∀ c ∈ S, Vx d w c.1 c.2.1 c.2.2 ∧ 4 ≤ c.2.2
/-- A row of vertices, each d above the leaves. -/
def VRow (d : Nat) (w : World) (rv : Value) (S : List Ch) : Prop := Rw w 1 rv S.length (S.map (·.1)) ∧ ∀ c ∈ S, Vx d w c.1 c.2.1 c.2.2
/-- None of them is too narrow. -/
def Wide (S : List Ch) : Prop := ∀ c ∈ S, 4 ≤ c.2.2

theorem Vx.below {w w' : World} (hb : Below w.heap.size w w') : ∀ {d : Nat} {v : Value} {l : List Pr} {n : Nat}, Vx d w v l n → Vx d w' v l n
  | 0, _, _, _, ⟨hn, u, hv, hp⟩ => ⟨hn, u, hv, hp.below hb⟩
  | _ + 1, _, _, _, ⟨g, rv, S, x, hv, hn, h2, hl, hx, c0, c1, c2, c3, hR, hS⟩ =>
    ⟨g, rv, S, x, hv, hn, h2, hl, hx, look_below hb c0, look_below hb c1, look_below hb c2, look_below hb c3, hR.below hb, fun c hc => ⟨(hS c hc).1.below hb, (hS c hc).2⟩⟩
theorem VRow.below {w w' : World} {d : Nat} {rv : Value} {S : List Ch} (h : VRow d w rv S) (hb : Below w.heap.size w w') : VRow d w' rv S := ⟨h.1.below hb, fun c hc => (h.2 c hc).below hb⟩
theorem VRow.form {w : World} {d : Nat} {rv : Value} {S : List Ch} (h : VRow d w rv S) : ∃ ao cap, rv = .slice ao S.length cap := Rw.form h.1
/-- Where something stands, there are pairs. -/
theorem Vx.first {w : World} : ∀ {d : Nat} {v : Value} {l : List Pr} {n : Nat}, Vx d w v l n → 1 ≤ n → ∃ x r, l = x :: r
  | 0, _, l, _, ⟨hn, _⟩, h1 => by
    cases l with
    | nil => simp at hn; omega
    | cons x r => exact ⟨x, r, rfl⟩
  | _ + 1, _, l, _, ⟨_, _, _, x, _, _, _, _, hx, _⟩, _ => by
    cases l with
    | nil => simp at hx
    | cons x r => exact ⟨x, r, rfl⟩
/-- Without pairs it is a leaf. -/
theorem Vx.bare {w : World} {d : Nat} {v : Value} {n : Nat} (h : Vx d w v [] n) : d = 0 := by
  cases d with
  | zero => rfl
  | succ d =>
    obtain ⟨_, _, _, x, _, _, _, _, hx, _⟩ := h
    simp at hx
theorem VRow.at {w : World} {d : Nat} {ao : Option Addr} {n cap : Nat} {S : List Ch} (h : VRow d w (.slice ao n cap) S) {k : Nat} (hk : k < S.length) :
    ∃ b off, ao = .some ⟨b, off, .none⟩ ∧ w.cell? ⟨b, off + k, .none⟩ = .some S[k].1 ∧ Vx d w S[k].1 S[k].2.1 S[k].2.2 := by
  have hx := h.2 _ (List.getElem_mem hk)
  obtain ⟨⟨_, ao', cap', he, _, hc⟩, _⟩ := h
  cases he
  rcases hc with h0 | ⟨b, off, rfl, hc⟩
  · omega
  · have := hc k (by simpa using hk)
    rw [List.getElem_map] at this
    exact ⟨b, off, rfl, this, hx⟩
theorem VRow.vals {w : World} {d : Nat} {ao : Option Addr} {n cap : Nat} {S : List Ch} (h : VRow d w (.slice ao n cap) S) (h2 : 2 ≤ S.length) :
    ∃ b off, ao = .some ⟨b, off, .none⟩ ∧ ∀ k (hk : k < S.length), w.cell? ⟨b, off + k, .none⟩ = .some S[k].1 := by
  obtain ⟨b, off, e, _⟩ := h.at (k := 0) (by omega)
  refine ⟨b, off, e, fun k hk => ?_⟩
  obtain ⟨b', off', e', c, _⟩ := h.at hk
  rw [e] at e'
  cases e'
  exact c
theorem VRow.len {w : World} {d : Nat} {ao : Option Addr} {n cap : Nat} {S : List Ch} (h : VRow d w (.slice ao n cap) S) : S.length = n := by
  obtain ⟨⟨_, ao', cap', he, _, hc⟩, _⟩ := h
  cases he
  rfl
theorem allC_append (A B : List Ch) : allC (A ++ B) = allC A ++ allC B := by simp [allC]
theorem allC_cons (c : Ch) (B : List Ch) : allC (c :: B) = c.2.1 ++ allC B := by simp [allC]
theorem allC_nil : allC [] = [] := rfl
theorem allC_one (c : Ch) : allC [c] = c.2.1 := by simp [allC]
theorem allC_succ {S : List Ch} {k : Nat} (hk : k < S.length) : allC (S.take (k + 1)) = allC (S.take k) ++ S[k].2.1 := by
  rw [List.take_succ_eq_append_getElem hk, allC_append, allC_one]
theorem allC_le (S : List Ch) (k : Nat) : (allC (S.take k)).length ≤ (allC S).length := by
  rw [← List.take_append_drop k S, allC_append]
  simp
theorem allC_parts {S : List Ch} {k : Nat} (hk : k < S.length) : allC S = allC (S.take k) ++ (S[k].2.1 ++ allC (S.drop (k + 1))) := by
  rw [← allC_cons, List.getElem_cons_drop, ← allC_append, List.take_append_drop]
theorem allC_mem_le {S : List Ch} {c : Ch} (hc : c ∈ S) : c.2.1.length ≤ (allC S).length := by
  obtain ⟨k, hk, rfl⟩ := List.getElem_of_mem hc
  rw [allC_parts hk]
  simp
  omega
/-- A row of vertices has no fewer pairs than there are vertices. -/
theorem VRow.count {w : World} {d : Nat} {rv : Value} {S : List Ch} (h : VRow d w rv S) (hw : Wide S) : S.length ≤ (allC S).length := by
  replace h := h.2
  induction S with
  | nil => simp
  | cons c r ih =>
    rw [allC_cons, List.length_append, List.length_cons]
    have h1 := ih (fun x hx => hw x (by simp [hx])) (fun x hx => h x (by simp [hx]))
    obtain ⟨y, r', e⟩ := (h c (by simp)).first (by have := hw c (by simp); omega)
    rw [e, List.length_cons]
    omega
/-- A branch, opened. -/
theorem Vx.open {w : World} {d : Nat} {v : Value} {l : List Pr} {n : Nat} (h : Vx (d + 1) w v l n) : ∃ (g : Nat) (ao : Option Addr) (cap : Nat) (S : List Ch) (x : Pr), v = .iface 67 (.pointer (.some ⟨g, 0, .none⟩)) ∧ n = S.length ∧ 2 ≤ S.length ∧ l = allC S ∧ l.head? = .some x ∧
      w.cell? ⟨g, 0, .none⟩ = .some (.slice ao S.length cap) ∧ w.cell? ⟨g, 1, .none⟩ = .some (.string ⟨x.1.1.toArray⟩) ∧ w.cell? ⟨g, 2, .none⟩ = .some (.int .i64 x.1.2) ∧ w.cell? ⟨g, 3, .none⟩ = .some (.int .i64 l.length) ∧
      VRow d w (.slice ao S.length cap) S ∧ Wide S := by
  obtain ⟨g, rv, S, x, hv, hn, h2, hl, hx, c0, c1, c2, c3, hR, hS⟩ := h
  obtain ⟨ao, cap, rfl⟩ := hR.form
  exact ⟨g, ao, cap, S, x, hv, hn, h2, hl, hx, c0, c1, c2, c3, ⟨hR, fun c hc => (hS c hc).1⟩, fun c hc => (hS c hc).2⟩
theorem Vx.shut {w : World} {d g : Nat} {rv : Value} {S : List Ch} {x : Pr} (h2 : 2 ≤ S.length) (hx : (allC S).head? = .some x)
    (c0 : w.cell? ⟨g, 0, .none⟩ = .some rv) (c1 : w.cell? ⟨g, 1, .none⟩ = .some (.string ⟨x.1.1.toArray⟩)) (c2 : w.cell? ⟨g, 2, .none⟩ = .some (.int .i64 x.1.2)) (c3 : w.cell? ⟨g, 3, .none⟩ = .some (.int .i64 (allC S).length))
    (hR : VRow d w rv S) (hS : Wide S) : Vx (d + 1) w (.iface 67 (.pointer (.some ⟨g, 0, .none⟩))) (allC S) S.length :=
  ⟨g, rv, S, x, rfl, rfl, h2, rfl, hx, c0, c1, c2, c3, hR.1, fun c hc => ⟨hR.2 c hc, hS c hc⟩⟩

end Go.Proofs.Ytgbicdbmmjleoaa
