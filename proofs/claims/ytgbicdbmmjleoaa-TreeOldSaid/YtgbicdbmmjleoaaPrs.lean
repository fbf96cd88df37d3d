/-
  Rows of pairs: three cells each.
-/
import Derived.Test.YtgbicdbmmjleoaaNdSpec
import Derived.Test.YtgbicdbmmjleoaaRw
namespace Go.Proofs.Ytgbicdbmmjleoaa
open Go.RowKit

/-- A pair's cells. -/
def pcell (x : Pr) : List Value := [.string ⟨x.1.1.toArray⟩, .int .i64 x.1.2, .string ⟨x.2.toArray⟩]
def pcells (l : List Pr) : List Value := l.flatMap pcell
theorem pcells_cons (x : Pr) (r : List Pr) : pcells (x :: r) = .string ⟨x.1.1.toArray⟩ :: .int .i64 x.1.2 :: .string ⟨x.2.toArray⟩ :: pcells r := rfl
theorem pcells_len (l : List Pr) : (pcells l).length = l.length * 3 := by
  induction l with
  | nil => rfl
  | cons x r ih => rw [pcells_cons]; simp only [List.length_cons, ih]; omega
theorem pcells_append (a b : List Pr) : pcells (a ++ b) = pcells a ++ pcells b := by simp [pcells]
theorem pcells_one (l : List Pr) : ∀ u ∈ pcells l, u.oneCell' = true := by
  intro u hu
  obtain ⟨x, _, hx⟩ := List.mem_flatMap.1 hu
  simp [pcell] at hx
  rcases hx with rfl | rfl | rfl <;> rfl
theorem pcells_take (l : List Pr) (n : Nat) : pcells (l.take n) = (pcells l).take (n * 3) := by
  induction l generalizing n with
  | nil => simp [pcells]
  | cons x r ih =>
    cases n with
    | zero => simp [pcells]
    | succ n =>
      rw [List.take_succ_cons, pcells_cons, pcells_cons, ih, show (n + 1) * 3 = n * 3 + 1 + 1 + 1 by omega]
      simp
theorem pcells_drop (l : List Pr) (n : Nat) : pcells (l.drop n) = (pcells l).drop (n * 3) := by
  induction l generalizing n with
  | nil => simp [pcells]
  | cons x r ih =>
    cases n with
    | zero => simp
    | succ n =>
      rw [List.drop_succ_cons, pcells_cons, ih, show (n + 1) * 3 = n * 3 + 1 + 1 + 1 by omega]
      simp
theorem pcells_at (l : List Pr) (i : Nat) (h : i < l.length) : (pcells l)[i * 3]? = some (.string ⟨l[i].1.1.toArray⟩) ∧ (pcells l)[i * 3 + 1]? = some (.int .i64 l[i].1.2) ∧ (pcells l)[i * 3 + 2]? = some (.string ⟨l[i].2.toArray⟩) := by
  induction l generalizing i with
  | nil => simp at h
  | cons x r ih =>
    cases i with
    | zero => exact ⟨rfl, rfl, rfl⟩
    | succ i =>
      have h1 := ih i (by simpa using h)
      rw [pcells_cons, show (i + 1) * 3 = i * 3 + 1 + 1 + 1 by omega]
      exact h1

/-- The slice v reads as these pairs. -/
def Prs (w : World) (v : Value) (l : List Pr) : Prop := Rw w 3 v l.length (pcells l)
/-- A row of pairs in memory of the call's own. -/
def OwnP (w : World) (base : Nat) (v : Value) (l : List Pr) : Prop := w.ownsRow base 31 3 v l.length (pcells l)
theorem Prs.below {w w' : World} {v : Value} {l : List Pr} (h : Prs w v l) (hb : Below w.heap.size w w') : Prs w' v l := Rw.below h hb
theorem Prs.form {w : World} {v : Value} {l : List Pr} (h : Prs w v l) : ∃ ao cap, v = .slice ao l.length cap := Rw.form h
theorem Prs.nil (w : World) : Prs w (.slice none 0 0) [] := Rw.nil w 3
theorem OwnP.prs {w : World} {base : Nat} {v : Value} {l : List Pr} (h : OwnP w base v l) : Prs w v l := Rw.own h
theorem OwnP.form {w : World} {base : Nat} {v : Value} {l : List Pr} (h : OwnP w base v l) : ∃ ao cap, v = .slice ao l.length cap := Rw.form h.prs
theorem OwnP.weak {w : World} {b b' : Nat} {v : Value} {l : List Pr} (h : OwnP w b' v l) (hb : b ≤ b') : OwnP w b v l := own_weak h hb
theorem OwnP.stays {w w' : World} {base : Nat} {v : Value} {l : List Pr} (h : OwnP w base v l) (hb : Below w.heap.size w w') : OwnP w' base v l := own_stays h hb
theorem OwnP.nil (w : World) (base : Nat) : OwnP w base (.slice none 0 0) [] := World.ownsRow_nil _ _ _ _
theorem Prs.at {w : World} {ao : Option Addr} {n cap : Nat} {l : List Pr} (h : Prs w (.slice ao n cap) l) {k : Nat} (hk : k < l.length) :
    ∃ b off, ao = some ⟨b, off, none⟩ ∧ w.cell? ⟨b, off + k * 3, none⟩ = some (.string ⟨l[k].1.1.toArray⟩) ∧ w.cell? ⟨b, off + k * 3 + 1, none⟩ = some (.int .i64 l[k].1.2) ∧ w.cell? ⟨b, off + k * 3 + 2, none⟩ = some (.string ⟨l[k].2.toArray⟩) := by
  obtain ⟨hl, ao', cap', he, _, hc⟩ := h
  cases he
  rcases hc with h0 | ⟨b, off, rfl, hc⟩
  · omega
  · have h2 := pcells_len l
    obtain ⟨e1, e2, e3⟩ := pcells_at l k hk
    refine ⟨b, off, rfl, ?_, ?_, ?_⟩
    · rw [hc (k * 3) (by omega), ← e1, List.getElem?_eq_getElem (by omega)]
    · rw [Nat.add_assoc, hc (k * 3 + 1) (by omega), ← e2, List.getElem?_eq_getElem (by omega)]
    · rw [Nat.add_assoc, hc (k * 3 + 2) (by omega), ← e3, List.getElem?_eq_getElem (by omega)]
/-- The first k pairs. -/
theorem Prs.take {w : World} {ao : Option Addr} {n cap : Nat} {l : List Pr} (h : Prs w (.slice ao n cap) l) {k : Nat} (hk : k ≤ l.length) : Prs w (.slice ao k cap) (l.take k) := by
  obtain ⟨hl, ao', c, he, hc, h⟩ := h
  cases he
  have e : (l.take k).length = k := by simp; omega
  refine ⟨pcells_len _, ao, cap, by rw [e], by omega, ?_⟩
  rcases h with h0 | ⟨b, off, rfl, hcs⟩
  · exact .inl (by omega)
  · refine .inr ⟨b, off, rfl, fun j hj => ?_⟩
    rw [pcells_len, e] at hj
    have h2 := pcells_len l
    rw [hcs j (by omega)]
    simp only [pcells_take]
    rw [List.getElem_take]
/-- The pairs from the k-th one on. -/
theorem Prs.drop {w : World} {b off n cap : Nat} {l : List Pr} (h : Prs w (.slice (some ⟨b, off, none⟩) n cap) l) {k m cap' : Nat} (hk : k ≤ l.length) (hm : m = l.length - k) (hc' : m ≤ cap') (o : Nat) (ho : o = off + k * 3 ∨ k = l.length) : Prs w (.slice (some ⟨b, o, none⟩) m cap') (l.drop k) := by
  obtain ⟨hl, ao', c, he, hc, h⟩ := h
  cases he
  have e : (l.drop k).length = m := by simp; omega
  refine ⟨pcells_len _, _, cap', by rw [e], by omega, ?_⟩
  by_cases h0 : k = l.length
  · exact .inl (by omega)
  · rcases h with h1 | ⟨b', off', he, hcs⟩
    · exact .inl (by omega)
    · cases he
      obtain rfl := ho.resolve_right h0
      refine .inr ⟨b, _, rfl, fun j hj => ?_⟩
      rw [pcells_len, e] at hj
      have h2 := pcells_len l
      rw [Nat.add_assoc, hcs (k * 3 + j) (by omega)]
      simp only [pcells_drop]
      rw [List.getElem_drop]
theorem Prs.of_nil {w : World} {n cap : Nat} {l : List Pr} (h : Prs w (.slice none n cap) l) : l = [] := by
  obtain ⟨_, ao, c, he, _, h0 | ⟨b, off, h, _⟩⟩ := h
  · exact List.eq_nil_of_length_eq_zero h0
  · cases he; cases h
theorem Prs.spot {w : World} {a : Addr} {n cap : Nat} {l : List Pr} (h : Prs w (.slice (some a) n cap) l) (h0 : l ≠ []) : ∃ b off, a = ⟨b, off, none⟩ := by
  obtain ⟨_, ao, c, he, _, h1 | ⟨b, off, h, _⟩⟩ := h
  · exact absurd (List.eq_nil_of_length_eq_zero h1) h0
  · cases he; cases h; exact ⟨b, off, rfl⟩

theorem pair_elem : Try.prog.elem 28 = 31 := by kernel_rfl
theorem pair_slice : Try.prog.underlying 28 = some (.slice (Try.prog.elem 28)) := by kernel_rfl
theorem pair_size (W : World) : (sizeOf 31).run Try.prog W = .ok 3 W := by
  have h : (Try.prog.info? 31).map (·.size) = some 3 := by kernel_rfl
  cases hq : Try.prog.info? 31 with
  | none => simp [hq] at h
  | some i =>
    have hs : i.size = 3 := by simpa [hq] using h
    simp [sizeOf, typeInfo, hq, hs]
/-- A slice from the n-th pair on. -/
theorem slice_from {w : World} {ao : Option Addr} {k cap : Nat} {l : List Pr} (h : Prs w (.slice ao k cap) l) (n m : Nat) (hn : n ≤ k) (hm : n + m = k) :
    ∃ a1 c1, (∀ W, (Instr.slice 28 (.slice ao k cap) (some (.int .i64 (n : Int))) none none).run Try.prog W = .ok (.slice a1 m c1) W) ∧ Prs w (.slice a1 m c1) (l.drop n) := by
  have hc : k ≤ cap ∧ k = l.length := by
    obtain ⟨_, ao', c, he, hc, _⟩ := h
    cases he
    exact ⟨hc, rfl⟩
  obtain ⟨hc, rfl⟩ := hc
  have hm' : m = l.length - n := by omega
  have hr : ∀ W, (Instr.slice 28 (.slice ao l.length cap) (some (.int .i64 (n : Int))) none none).run Try.prog W = .ok (sliced ao n l.length cap 3) W := by
    intro W
    rw [run_slice_l W _ ao l.length cap pair_slice .i64 n (by omega) (by omega), pair_elem, pair_size]
    rfl
  unfold sliced at hr
  rw [← hm'] at hr
  refine ⟨_, _, hr, ?_⟩
  cases ao with
  | none =>
    obtain rfl := h.of_nil
    obtain rfl : m = 0 := by simpa using hm'
    have e : (if cap = n then (none : Option Addr) else Option.map (fun a : Addr => a.add (n * 3)) none) = none := by split <;> rfl
    rw [e]
    rw [List.drop_nil]
    exact ⟨rfl, none, _, rfl, Nat.zero_le _, .inl rfl⟩
  | some a =>
    by_cases h0 : l = []
    · subst h0
      obtain rfl : m = 0 := by simpa using hm'
      rw [List.drop_nil]
      exact ⟨rfl, _, _, rfl, Nat.zero_le _, .inl rfl⟩
    · obtain ⟨b, off, rfl⟩ := h.spot h0
      by_cases hcn : cap = n
      · rw [if_pos hcn]
        exact h.drop hn hm' (cap' := cap - n) (by omega) off (.inr (by omega))
      · rw [if_neg hcn, Option.map_some, Go.WideShapes.add_plain]
        exact h.drop hn hm' (cap' := cap - n) (by omega) _ (.inl rfl)
/-- A slice of the first n pairs. -/
theorem slice_to {w : World} {ao : Option Addr} {k cap : Nat} {l : List Pr} (h : Prs w (.slice ao k cap) l) (n : Nat) (hn : n ≤ k) :
    (∀ W, (Instr.slice 28 (.slice ao k cap) none (some (.int .i64 (n : Int))) none).run Try.prog W = .ok (.slice ao n cap) W) ∧ Prs w (.slice ao n cap) (l.take n) := by
  have hc : k ≤ cap ∧ k = l.length := by
    obtain ⟨_, ao', c, he, hc, _⟩ := h
    cases he
    exact ⟨hc, rfl⟩
  obtain ⟨hc, rfl⟩ := hc
  refine ⟨fun W => ?_, h.take hn⟩
  rw [run_slice_h W _ ao l.length cap pair_slice .i64 n (by omega) (by omega), pair_elem, pair_size]
  cases ao <;> simp [sliced, Result.andThen, Addr.add]
theorem Prs.len {w : World} {ao : Option Addr} {k cap : Nat} {l : List Pr} (h : Prs w (.slice ao k cap) l) : l.length = k := by
  obtain ⟨_, ao', c, he, hc, _⟩ := h
  cases he
  rfl
/-- Pairs that are laid as they stand. -/
theorem prs_lit (w : World) (l : List Pr) (t : TypeId) : Prs (w.alloc (.cells (pcells l).toArray t)) (.slice (some ⟨w.heap.size, 0, none⟩) l.length l.length) l := by
  refine ⟨pcells_len l, _, _, rfl, Nat.le_refl _, .inr ⟨_, 0, rfl, fun j hj => ?_⟩⟩
  rw [Nat.zero_add, World.cell?_alloc_new]
  simp [List.getElem?_eq_getElem hj]

end Go.Proofs.Ytgbicdbmmjleoaa
