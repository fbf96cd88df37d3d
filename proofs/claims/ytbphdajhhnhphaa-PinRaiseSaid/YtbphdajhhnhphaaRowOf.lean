/-
  Rows of structs in general: each element is k cells. Reading, parts of them, appends of one and of a row. No function and no type is named here.
-/
import Derived.Test.YtbphdajhhnhphaaNilApp
import Derived.OwnWalk
namespace Go.Proofs.Ytbphdajhhnhphaa
set_option maxRecDepth 100000
open Go.RowKit

section
variable {α : Type} (cell : α → List Value) (k : Nat)
def cellsOf (l : List α) : List Value := l.flatMap cell
/-- Each element has k cells. -/
def CellsK : Prop := 0 < k ∧ ∀ x, (cell x).length = k
/-- Each of an element's cells is one. -/
def CellsO : Prop := ∀ x, ∀ u ∈ cell x, u.oneCell' = true
/-- The slice v reads as these elements. -/
def RowOf (w : World) (v : Value) (l : List α) : Prop := Rw w k v l.length (cellsOf cell l)
/-- A row of such elements in memory of the call's own; e is their type. -/
def OwnOf (e : TypeId) (w : World) (base : Nat) (v : Value) (l : List α) : Prop := w.ownsRow base e k v l.length (cellsOf cell l)
end

section
variable {α : Type} {cell : α → List Value} {k : Nat}
theorem cellsOf_cons (x : α) (r : List α) : cellsOf cell (x :: r) = cell x ++ cellsOf cell r := rfl
theorem cellsOf_append (a b : List α) : cellsOf cell (a ++ b) = cellsOf cell a ++ cellsOf cell b := by simp [cellsOf]
theorem cellsOf_one (h : CellsO cell) (l : List α) : ∀ u ∈ cellsOf cell l, u.oneCell' = true := by
  intro u hu
  obtain ⟨x, _, hx⟩ := List.mem_flatMap.1 hu
  exact h x u hx
theorem cellsOf_len (h : CellsK cell k) (l : List α) : (cellsOf cell l).length = l.length * k := by
  induction l with
  | nil => simp [cellsOf]
  | cons x r ih => rw [cellsOf_cons, List.length_append, h.2, ih, List.length_cons, Nat.succ_mul, Nat.add_comm]
theorem cellsOf_take (h : CellsK cell k) (l : List α) (n : Nat) : cellsOf cell (l.take n) = (cellsOf cell l).take (n * k) := by
  induction l generalizing n with
  | nil => simp [cellsOf]
  | cons x r ih =>
    cases n with
    | zero => simp [cellsOf]
    | succ n =>
      rw [List.take_succ_cons, cellsOf_cons, cellsOf_cons, ih, show (n + 1) * k = k + n * k by rw [Nat.succ_mul]; omega, List.take_append, h.2, List.take_of_length_le (l := cell x) (by rw [h.2]; omega), Nat.add_sub_cancel_left]
theorem cellsOf_drop (h : CellsK cell k) (l : List α) (n : Nat) : cellsOf cell (l.drop n) = (cellsOf cell l).drop (n * k) := by
  induction l generalizing n with
  | nil => simp [cellsOf]
  | cons x r ih =>
    cases n with
    | zero => simp
    | succ n =>
      rw [List.drop_succ_cons, cellsOf_cons, ih, show (n + 1) * k = k + n * k by rw [Nat.succ_mul]; omega, List.drop_append, h.2, List.drop_of_length_le (l := cell x) (by rw [h.2]; omega), Nat.add_sub_cancel_left, List.nil_append]
theorem cellsOf_at (h : CellsK cell k) {l : List α} {i : Nat} (hi : i < l.length) {j : Nat} {u : Value} (hj : (cell l[i])[j]? = some u) : (cellsOf cell l)[i * k + j]? = some u := by
  have hjk : j < k := by
    obtain ⟨h1, _⟩ := List.getElem?_eq_some_iff.1 hj
    rw [h.2] at h1
    exact h1
  induction l generalizing i with
  | nil => simp at hi
  | cons x r ih =>
    cases i with
    | zero =>
      rw [cellsOf_cons, Nat.zero_mul, Nat.zero_add, List.getElem?_append_left (by rw [h.2]; exact hjk)]
      exact hj
    | succ i =>
      have h1 := ih (i := i) (by simpa using hi) hj
      rw [cellsOf_cons, List.getElem?_append_right (by rw [h.2, Nat.succ_mul]; omega), h.2]
      rw [show (i + 1) * k + j - k = i * k + j by rw [Nat.succ_mul]; omega]
      exact h1

theorem RowOf.below {w w' : World} {v : Value} {l : List α} (h : RowOf cell k w v l) (hb : Below w.heap.size w w') : RowOf cell k w' v l := Rw.below h hb
theorem RowOf.form {w : World} {v : Value} {l : List α} (h : RowOf cell k w v l) : ∃ ao cap, v = .slice ao l.length cap := Rw.form h
theorem RowOf.nil (w : World) : RowOf cell k w (.slice none 0 0) [] := Rw.nil w k
theorem RowOf.len {w : World} {ao : Option Addr} {n cap : Nat} {l : List α} (h : RowOf cell k w (.slice ao n cap) l) : l.length = n := by
  obtain ⟨_, ao', c, he, _, _⟩ := h
  cases he
  rfl
theorem RowOf.of_nil {w : World} {n cap : Nat} {l : List α} (h : RowOf cell k w (.slice none n cap) l) : l = [] := by
  obtain ⟨_, ao, c, he, _, h0 | ⟨b, off, h, _⟩⟩ := h
  · exact List.eq_nil_of_length_eq_zero h0
  · cases he; cases h
theorem RowOf.spot {w : World} {a : Addr} {n cap : Nat} {l : List α} (h : RowOf cell k w (.slice (some a) n cap) l) (h0 : l ≠ []) : ∃ b off, a = ⟨b, off, none⟩ := by
  obtain ⟨_, ao, c, he, _, h1 | ⟨b, off, h, _⟩⟩ := h
  · exact absurd (List.eq_nil_of_length_eq_zero h1) h0
  · cases he; cases h; exact ⟨b, off, rfl⟩
/-- The cells of the i-th element: the j-th one lies at off + i * k + j. -/
theorem RowOf.at (hk : CellsK cell k) {w : World} {ao : Option Addr} {n cap : Nat} {l : List α} (h : RowOf cell k w (.slice ao n cap) l) {i : Nat} (hi : i < l.length) :
    ∃ b off, ao = some ⟨b, off, none⟩ ∧ ∀ j u, (cell l[i])[j]? = some u → w.cell? ⟨b, off + i * k + j, none⟩ = some u := by
  obtain ⟨hl, ao', cap', he, _, hc⟩ := h
  cases he
  rcases hc with h0 | ⟨b, off, rfl, hc⟩
  · omega
  · refine ⟨b, off, rfl, fun j u hj => ?_⟩
    have h1 := cellsOf_at hk hi hj
    obtain ⟨h2, h3⟩ := List.getElem?_eq_some_iff.1 h1
    rw [Nat.add_assoc, hc _ h2, h3]
theorem RowOf.take (hk : CellsK cell k) {w : World} {ao : Option Addr} {n cap : Nat} {l : List α} (h : RowOf cell k w (.slice ao n cap) l) {m : Nat} (hm : m ≤ l.length) : RowOf cell k w (.slice ao m cap) (l.take m) := by
  obtain ⟨hl, ao', c, he, hc, h⟩ := h
  cases he
  have e : (l.take m).length = m := by simp; omega
  refine ⟨cellsOf_len hk _, ao, cap, by rw [e], by omega, ?_⟩
  rcases h with h0 | ⟨b, off, rfl, hcs⟩
  · exact .inl (by omega)
  · refine .inr ⟨b, off, rfl, fun j hj => ?_⟩
    have hj2 := hj
    rw [cellsOf_take hk, List.length_take] at hj2
    rw [hcs j (by omega)]
    simp only [cellsOf_take hk]
    rw [List.getElem_take]
theorem RowOf.drop (hk : CellsK cell k) {w : World} {b off n cap : Nat} {l : List α} (h : RowOf cell k w (.slice (some ⟨b, off, none⟩) n cap) l) {i m cap' : Nat} (hi : i ≤ l.length) (hm : m = l.length - i) (hc' : m ≤ cap') (o : Nat) (ho : o = off + i * k ∨ i = l.length) : RowOf cell k w (.slice (some ⟨b, o, none⟩) m cap') (l.drop i) := by
  obtain ⟨hl, ao', c, he, hc, h⟩ := h
  cases he
  have e : (l.drop i).length = m := by simp; omega
  refine ⟨cellsOf_len hk _, _, cap', by rw [e], by omega, ?_⟩
  by_cases h0 : i = l.length
  · exact .inl (by omega)
  · rcases h with h1 | ⟨b', off', he, hcs⟩
    · exact .inl (by omega)
    · cases he
      obtain rfl := ho.resolve_right h0
      refine .inr ⟨b, _, rfl, fun j hj => ?_⟩
      have hj2 := hj
      rw [cellsOf_drop hk, List.length_drop] at hj2
      rw [Nat.add_assoc, hcs (i * k + j) (by omega)]
      simp only [cellsOf_drop hk]
      rw [List.getElem_drop]
/-- Elements that are laid as they stand. -/
theorem rowOf_lit (hk : CellsK cell k) (w : World) (l : List α) (t : TypeId) : RowOf cell k (w.alloc (.cells (cellsOf cell l).toArray t)) (.slice (some ⟨w.heap.size, 0, none⟩) l.length l.length) l := by
  refine ⟨cellsOf_len hk l, _, _, rfl, Nat.le_refl _, .inr ⟨_, 0, rfl, fun j hj => ?_⟩⟩
  rw [Nat.zero_add, World.cell?_alloc_new]
  simp [List.getElem?_eq_getElem hj]

variable {e : TypeId}
theorem OwnOf.row {w : World} {base : Nat} {v : Value} {l : List α} (h : OwnOf cell k e w base v l) : RowOf cell k w v l := Rw.own h
theorem OwnOf.form {w : World} {base : Nat} {v : Value} {l : List α} (h : OwnOf cell k e w base v l) : ∃ ao cap, v = .slice ao l.length cap := Rw.form h.row
theorem OwnOf.weak {w : World} {b b' : Nat} {v : Value} {l : List α} (h : OwnOf cell k e w b' v l) (hb : b ≤ b') : OwnOf cell k e w b v l := own_weak h hb
theorem OwnOf.stays {w w' : World} {base : Nat} {v : Value} {l : List α} (h : OwnOf cell k e w base v l) (hb : Below w.heap.size w w') : OwnOf cell k e w' base v l := own_stays h hb
theorem OwnOf.nil (w : World) (base : Nat) : OwnOf cell k e w base (.slice none 0 0) [] := World.ownsRow_nil _ _ _ _

/-- An append of a row. -/
theorem wpList_app_rowOf (hk : CellsK cell k) (h1 : CellsO cell) {w : World} {ops : Array Oper} {rest : List Oper} {o : Oper} {a : Act} {Q : Exit → Act → World → Prop} (hgd : o.guard = none) (s x : Operand) (t : TypeId)
    (ho : o.op = .call { callee := .builtin .append, args := #[s, x], argTypes := #[t, t] }) (i : TypeInfo) (z : Value) (bytes : Nat) (ht : Try.prog.underlying t = some (.slice e)) (hi : Try.prog.info? e = some i) (hz : i.zero = some z) (hsize : i.size = k) (hby : i.bytes = bytes) (hzs : z.cells.size = k) (hb : bytes ≤ 1000)
    (base : Nat) (v : Value) (T : List α) (hs : a.eval s = v) (hown : OwnOf cell k e w base v T)
    (ao : Option Addr) (m c : Nat) (R : List α) (hx : a.eval x = .slice ao m c) (hR : RowOf cell k w (.slice ao m c) R) (U : List α) (hU : T ++ R = U) (q : Nat) (hq : U.length = q) (hq2 : q ≤ 1000000) (w0 : World) (hB : Below base w0 w) (hb0 : base ≤ w0.heap.size)
    (h : ∀ ao' cap' w', OwnOf cell k e w' base (.slice ao' q cap') U → Below base w0 w' → wpList Try.prog ops Q rest (a.put o.dst (.slice ao' q cap')) w') : wpList Try.prog ops Q (o :: rest) a w := by
  have hm := hR.len
  have hkq : T.length + m = q := by rw [← hq, ← hU, List.length_append, hm]
  have hby2 : q * bytes ≤ 140737488355328 := by
    have : q * bytes ≤ 1000000 * 1000 := Nat.mul_le_mul hq2 hb
    omega
  refine wpList_append_rw hgd s x t ho base e i z k bytes ht hi hz hsize hby hzs hk.1 v T.length (cellsOf cell T) hs hown ao m c (cellsOf cell R) hx (by unfold RowOf at hR; rwa [hm] at hR) (cellsOf_one h1 R) q hkq (by unfold maxLen; omega) hby2 (Nat.le_trans hb0 hB.size) ?_
  intro a3 c3 w3 hown3 hg3
  refine h a3 c3 w3 ?_ (hB.grown hg3 (Nat.le_trans hb0 hB.size) (fun j e => (hown.lt j e).1))
  unfold OwnOf
  rw [hq, ← hU, cellsOf_append]
  exact hown3
/-- An append of one element, which was laid for it. -/
theorem wpList_app_of (hk : CellsK cell k) (h1 : CellsO cell) {w : World} {ops : Array Oper} {rest : List Oper} {o : Oper} {a : Act} {Q : Exit → Act → World → Prop} (hgd : o.guard = none) (s x : Operand) (t : TypeId)
    (ho : o.op = .call { callee := .builtin .append, args := #[s, x], argTypes := #[t, t] }) (i : TypeInfo) (z : Value) (bytes : Nat) (ht : Try.prog.underlying t = some (.slice e)) (hi : Try.prog.info? e = some i) (hz : i.zero = some z) (hsize : i.size = k) (hby : i.bytes = bytes) (hzs : z.cells.size = k) (hb : bytes ≤ 1000)
    (base : Nat) (v : Value) (T : List α) (hs : a.eval s = v) (hown : OwnOf cell k e w base v T) (y : α) (cs : Array Value) (hcs : cs = (cell y).toArray) (hx : a.eval x = .slice (some ⟨w.heap.size, 0, none⟩) 1 1)
    (hn : T.length < 1000000) (hbase : base ≤ w.heap.size)
    (h : ∀ ao' cap' w', OwnOf cell k e w' base (.slice ao' (T.length + 1) cap') (T ++ [y]) → (∀ w0, Below base w0 w → Below base w0 w') → wpList Try.prog ops Q rest (a.put o.dst (.slice ao' (T.length + 1) cap')) w') :
    wpList Try.prog ops Q (o :: rest) a (w.alloc (.cells cs e)) := by
  subst hcs
  have hl : RowOf cell k (w.alloc (.cells (cell y).toArray e)) (.slice (some ⟨w.heap.size, 0, none⟩) 1 1) [y] := by
    have hq := rowOf_lit hk w [y] e
    rw [show cellsOf cell [y] = cell y by simp [cellsOf]] at hq
    exact hq
  have hby2 : (T.length + 1) * bytes ≤ 140737488355328 := by
    have : (T.length + 1) * bytes ≤ 1000000 * 1000 := Nat.mul_le_mul hn hb
    omega
  have hown1 : OwnOf cell k e (w.alloc (.cells (cell y).toArray e)) base v T := World.ownsRow.alloc hown _
  refine wpList_append_rw hgd s x t ho base e i z k bytes ht hi hz hsize hby hzs hk.1 v T.length (cellsOf cell T) hs hown1 _ 1 1 (cellsOf cell [y]) hx hl (cellsOf_one h1 [y]) (T.length + 1) rfl (by unfold maxLen; omega) hby2 (by rw [World.size_alloc]; omega) ?_
  intro a3 c3 w3 h2 h3
  refine h a3 c3 w3 ?_ fun w0 hB => (hB.alloc hbase _).grown h3 (by rw [World.size_alloc]; omega) fun j e => (hown1.lt j e).1
  unfold OwnOf
  rw [List.length_append, cellsOf_append]
  exact h2
/-- A slice from the i-th element on. -/
theorem rowOf_from (hk : CellsK cell k) {t : TypeId} (ht : Try.prog.underlying t = some (.slice (Try.prog.elem t))) (hsz : ∀ W, (sizeOf (Try.prog.elem t)).run Try.prog W = .ok k W) {w : World} {ao : Option Addr} {n cap : Nat} {l : List α} (h : RowOf cell k w (.slice ao n cap) l) (i m : Nat) (hi : i ≤ n) (hm : i + m = n) :
    ∃ a1 c1, (∀ W, (Instr.slice t (.slice ao n cap) (some (.int .i64 (i : Int))) none none).run Try.prog W = .ok (.slice a1 m c1) W) ∧ RowOf cell k w (.slice a1 m c1) (l.drop i) := by
  have hc : n ≤ cap ∧ n = l.length := by
    obtain ⟨_, ao', c, he, hc, _⟩ := h
    cases he
    exact ⟨hc, rfl⟩
  obtain ⟨hc, rfl⟩ := hc
  have hm' : m = l.length - i := by omega
  have hr : ∀ W, (Instr.slice t (.slice ao l.length cap) (some (.int .i64 (i : Int))) none none).run Try.prog W = .ok (sliced ao i l.length cap k) W := by
    intro W
    rw [run_slice_l W _ ao l.length cap ht .i64 i (by omega) (by omega), hsz]
    rfl
  unfold sliced at hr
  rw [← hm'] at hr
  refine ⟨_, _, hr, ?_⟩
  cases ao with
  | none =>
    obtain rfl := h.of_nil
    obtain rfl : m = 0 := by simpa using hm'
    have e : (if cap = i then (none : Option Addr) else Option.map (fun a : Addr => a.add (i * k)) none) = none := by split <;> rfl
    rw [e]
    rw [List.drop_nil]
    exact ⟨by simp [cellsOf], none, _, rfl, Nat.zero_le _, .inl rfl⟩
  | some a =>
    by_cases h0 : l = []
    · subst h0
      obtain rfl : m = 0 := by simpa using hm'
      rw [List.drop_nil]
      exact ⟨by simp [cellsOf], _, _, rfl, Nat.zero_le _, .inl rfl⟩
    · obtain ⟨b, off, rfl⟩ := h.spot h0
      by_cases hcn : cap = i
      · rw [if_pos hcn]
        exact h.drop hk hi hm' (cap' := cap - i) (by omega) off (.inr (by omega))
      · rw [if_neg hcn, Option.map_some, Go.WideShapes.add_plain]
        exact h.drop hk hi hm' (cap' := cap - i) (by omega) _ (.inl rfl)
/-- A slice of the first i elements. -/
theorem rowOf_to (hk : CellsK cell k) {t : TypeId} (ht : Try.prog.underlying t = some (.slice (Try.prog.elem t))) (hsz : ∀ W, (sizeOf (Try.prog.elem t)).run Try.prog W = .ok k W) {w : World} {ao : Option Addr} {n cap : Nat} {l : List α} (h : RowOf cell k w (.slice ao n cap) l) (i : Nat) (hi : i ≤ n) :
    (∀ W, (Instr.slice t (.slice ao n cap) none (some (.int .i64 (i : Int))) none).run Try.prog W = .ok (.slice ao i cap) W) ∧ RowOf cell k w (.slice ao i cap) (l.take i) := by
  have hc : n ≤ cap ∧ n = l.length := by
    obtain ⟨_, ao', c, he, hc, _⟩ := h
    cases he
    exact ⟨hc, rfl⟩
  obtain ⟨hc, rfl⟩ := hc
  refine ⟨fun W => ?_, h.take hk hi⟩
  rw [run_slice_h W _ ao l.length cap ht .i64 i (by omega) (by omega), hsz]
  cases ao <;> simp [sliced, Result.andThen, Addr.add]
/-- The size of a type's cells, as a slice asks for it. -/
theorem size_of {t : TypeId} (h : (Try.prog.info? t).map (·.size) = some k) (W : World) : (sizeOf t).run Try.prog W = .ok k W := by
  cases hq : Try.prog.info? t with
  | none => simp [hq] at h
  | some i =>
    have hs : i.size = k := by simpa [hq] using h
    simp [sizeOf, typeInfo, hq, hs]
end

end Go.Proofs.Ytbphdajhhnhphaa
