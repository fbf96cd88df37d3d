/-
  Slices of writes: pairs of a number and a text, two cells each.
-/
import Derived.Test.YtcikgmgkaenpmaaBase
namespace Go.Proofs.Ytcikgmgkaenpmaa
open Go.RowKit

/-- A row of n elements of k cells each reads as these cells. -/
def Rw (w : World) (k : Nat) (v : Value) (n : Nat) (cs : List Value) : Prop :=
  cs.length = n * k ∧ ∃ ao cap, v = .slice ao n cap ∧ n ≤ cap ∧ (n = 0 ∨ ∃ b off, ao = some ⟨b, off, none⟩ ∧ ∀ j (h : j < cs.length), w.cell? ⟨b, off + j, none⟩ = some cs[j])

theorem Rw.below {w w' : World} {k n : Nat} {v : Value} {cs : List Value} (h : Rw w k v n cs) (hb : Below w.heap.size w w') : Rw w' k v n cs := by
  obtain ⟨hl, ao, cap, rfl, hc, h | ⟨b, off, rfl, hcs⟩⟩ := h
  · exact ⟨hl, ao, cap, rfl, hc, .inl h⟩
  · refine ⟨hl, _, cap, rfl, hc, .inr ⟨b, off, rfl, fun j hj => ?_⟩⟩
    have h1 := hcs j hj
    exact (hb.cell (p := ⟨b, off + j, none⟩) (World.block_lt_of_cell? w _ h1)).trans h1
theorem Rw.nil (w : World) (k : Nat) : Rw w k (.slice none 0 0) 0 [] := ⟨by simp, none, 0, rfl, Nat.le_refl _, .inl rfl⟩
theorem Rw.form {w : World} {k n : Nat} {v : Value} {cs : List Value} (h : Rw w k v n cs) : ∃ ao cap, v = .slice ao n cap := by
  obtain ⟨_, ao, cap, rfl, _⟩ := h
  exact ⟨ao, cap, rfl⟩
theorem Rw.own {w : World} {base k n : Nat} {e : TypeId} {v : Value} {cs : List Value} (h : w.ownsRow base e k v n cs) : Rw w k v n cs := by
  rcases h.2 with ⟨rfl, rfl⟩ | ⟨g, cap, cur, rfl, _, _, hc, _⟩
  · exact ⟨h.1, none, 0, rfl, Nat.le_refl _, .inl rfl⟩
  · refine ⟨h.1, _, cap, rfl, hc, .inr ⟨g, 0, rfl, fun j hj => ?_⟩⟩
    have h1 := h.cells (g := g) rfl j cs[j] (by simp [List.getElem?_eq_getElem hj])
    rw [Go.WideShapes.add_plain] at h1
    exact h1
theorem Rw.txts {w : World} {v : Value} {ls : List (List UInt8)} (h : Txts w v ls) : Rw w 1 v ls.length (ls.map SV) := by
  obtain ⟨ao, cap, rfl, hc, h⟩ := h
  refine ⟨by simp, ao, cap, rfl, hc, ?_⟩
  rcases h with h | ⟨b, off, rfl, hcs⟩
  · exact .inl (by simp [h])
  · exact .inr ⟨b, off, rfl, fun j hj => by rw [hcs j (by simpa using hj)]; simp⟩
theorem texts_one (ls : List (List UInt8)) : ∀ u ∈ ls.map SV, u.oneCell' = true := by
  intro u hu
  obtain ⟨t, _, rfl⟩ := List.mem_map.1 hu
  rfl

/-- A write: at which block, and which text. -/
abbrev Wr := Int × List UInt8
/-- A write's cells. -/
def wcell (x : Wr) : List Value := [.int .i64 x.1, SV x.2]
def wcells (ws : List Wr) : List Value := ws.flatMap wcell
theorem wcells_len (ws : List Wr) : (wcells ws).length = ws.length * 2 := by
  induction ws with
  | nil => rfl
  | cons x r ih => simp [wcells, wcell] at ih ⊢; omega
theorem wcells_cons (x : Wr) (r : List Wr) : wcells (x :: r) = .int .i64 x.1 :: SV x.2 :: wcells r := rfl
theorem wcells_append (a b : List Wr) : wcells (a ++ b) = wcells a ++ wcells b := by simp [wcells]
theorem wcells_at (ws : List Wr) (i : Nat) (h : i < ws.length) : (wcells ws)[i * 2]? = some (.int .i64 ws[i].1) ∧ (wcells ws)[i * 2 + 1]? = some (SV ws[i].2) := by
  induction ws generalizing i with
  | nil => simp at h
  | cons x r ih =>
    cases i with
    | zero => exact ⟨rfl, rfl⟩
    | succ i =>
      have h1 := ih i (by simpa using h)
      rw [wcells_cons]
      have e1 : (i + 1) * 2 = i * 2 + 1 + 1 := by omega
      rw [e1]
      simpa using h1
theorem wcells_one (ws : List Wr) : ∀ u ∈ wcells ws, u.oneCell' = true := by
  intro u hu
  obtain ⟨x, _, hx⟩ := List.mem_flatMap.1 hu
  simp [wcell, SV] at hx
  rcases hx with rfl | rfl <;> rfl

/-- The slice v reads as these writes. -/
def Wrs (w : World) (v : Value) (ws : List Wr) : Prop := Rw w 2 v ws.length (wcells ws)
theorem Wrs.below {w w' : World} {v : Value} {ws : List Wr} (h : Wrs w v ws) (hb : Below w.heap.size w w') : Wrs w' v ws := Rw.below h hb
theorem Wrs.form {w : World} {v : Value} {ws : List Wr} (h : Wrs w v ws) : ∃ ao cap, v = .slice ao ws.length cap := Rw.form h
theorem Wrs.own {w : World} {base : Nat} {e : TypeId} {v : Value} {ws : List Wr} (h : w.ownsRow base e 2 v ws.length (wcells ws)) : Wrs w v ws := Rw.own h
theorem Wrs.nil (w : World) : Wrs w (.slice none 0 0) [] := Rw.nil w 2
theorem Wrs.at {w : World} {ao : Option Addr} {n cap : Nat} {ws : List Wr} (h : Wrs w (.slice ao n cap) ws) {k : Nat} (hk : k < ws.length) :
    ∃ b off, ao = some ⟨b, off, none⟩ ∧ w.cell? ⟨b, off + k * 2, none⟩ = some (.int .i64 ws[k].1) ∧ w.cell? ⟨b, off + k * 2 + 1, none⟩ = some (.string ⟨ws[k].2.toArray⟩) := by
  obtain ⟨hl, ao', cap', he, _, hc⟩ := h
  cases he
  rcases hc with h0 | ⟨b, off, rfl, hc⟩
  · omega
  · have h2 := wcells_len ws
    obtain ⟨e1, e2⟩ := wcells_at ws k hk
    refine ⟨b, off, rfl, ?_, ?_⟩
    · rw [hc (k * 2) (by omega), ← e1, List.getElem?_eq_getElem (by omega)]
    · have e3 : (wcells ws)[k * 2 + 1]? = some (.string ⟨ws[k].2.toArray⟩) := e2
      rw [Nat.add_assoc, hc (k * 2 + 1) (by omega), ← e3, List.getElem?_eq_getElem (by omega)]

theorem below_alloc2 (w : World) (o1 o2 : Obj) : Below w.heap.size w ((w.alloc o1).alloc o2) := (below_alloc w o1).alloc (by simp) o2
theorem below_alloc3 (w : World) (o1 o2 o3 : Obj) : Below w.heap.size w (((w.alloc o1).alloc o2).alloc o3) := (below_alloc2 w o1 o2).alloc (by simp; omega) o3
/-- What there was reads as it did, cell by cell. -/
theorem bcell {W w1 : World} (hb : Below W.heap.size W w1) : (∀ b o, b < W.heap.size → w1.cell? ⟨b, o, none⟩ = W.cell? ⟨b, o, none⟩) ∧ (∀ b o, b < W.heap.size → w1.frozen? ⟨b, o, none⟩ = W.frozen? ⟨b, o, none⟩) :=
  ⟨fun b o h => hb.cell (p := ⟨b, o, none⟩) h, fun b o h => hb.frozen (p := ⟨b, o, none⟩) h⟩
/-- One cell that there was reads as it did. -/
theorem look_below {W w1 : World} {b o : Nat} {v : Value} (hb : Below W.heap.size W w1) (h : W.cell? ⟨b, o, none⟩ = some v) : w1.cell? ⟨b, o, none⟩ = some v :=
  (hb.cell (p := ⟨b, o, none⟩) (World.block_lt_of_cell? W _ h)).trans h
/-- Two cells, as one value. -/
theorem load_two {ty : TypeId} {fs : Array Field} (hu : Try.prog.underlying ty = some (.struct fs)) (hi : (Try.prog.info? ty).map (·.size) = some 2) (w : World) (g o : Nat) (v0 v1 : Value)
    (c0 : w.cell? ⟨g, o, none⟩ = some v0) (c1 : w.cell? ⟨g, o + 1, none⟩ = some v1) : (loadVar ty ⟨g, o, none⟩).run Try.prog w = .ok (.agg #[v0, v1]) w := by
  have hagg : (isAgg ty).run Try.prog w = .ok true w := by simp [isAgg, run_underlying hu]
  cases hq : Try.prog.info? ty with
  | none => simp [hq] at hi
  | some i =>
    have hs : i.size = 2 := by simpa [hq] using hi
    have hl : (loadCells ⟨g, o, none⟩ 2).run Try.prog w = .ok #[v0, v1] w := run_loadCells_list (P := Try.prog) (w := w) (a := ⟨g, o, none⟩) (cs := [v0, v1]) (fun j u hu => by
      rw [Go.WideShapes.add_plain]
      match j, hu with
      | 0, hu => simp at hu; subst hu; exact c0
      | 1, hu => simp at hu; subst hu; exact c1)
    simp [loadVar, hagg, sizeOf, typeInfo, hq, hs, hl]

theorem disk_under : ∃ fs, Try.prog.underlying 25 = some (.struct fs) := ⟨_, Try.underlying25⟩
theorem disk_size : (Try.prog.info? 25).map (·.size) = some 2 := by kernel_rfl
theorem load_disk (w : World) (g : Nat) (v0 v1 : Value) (c0 : w.cell? ⟨g, 0, none⟩ = some v0) (c1 : w.cell? ⟨g, 1, none⟩ = some v1) : (loadVar 25 ⟨g, 0, none⟩).run Try.prog w = .ok (.agg #[v0, v1]) w := by
  obtain ⟨fs, hu⟩ := disk_under
  exact load_two hu disk_size w g 0 v0 v1 c0 c1

/-- A disk is what comes out of a call. -/
theorem ret_disk {fn : Func} {p : Tmp} {R : Ending → World → Prop} {a : Act} {w : World} (h : fn.results = #[.cell p 25]) (hd : a.defers = []) (g : Nat) (v0 v1 : Value) (hp : a.tmps.getD p undef = .pointer (some ⟨g, 0, none⟩))
    (c0 : w.cell? ⟨g, 0, none⟩ = some v0) (c1 : w.cell? ⟨g, 1, none⟩ = some v1) (hR : R (.returned (.agg #[v0, v1])) w) : bodyPost Try.prog fn R .ret a w := by
  refine bodyPost_ret (v := .agg #[v0, v1]) ?_ hd hR
  have hp' : a.tmps[p]?.getD undef = .pointer (some ⟨g, 0, none⟩) := by simpa using hp
  simp [results, h, hp', asAddr, load_disk w g v0 v1 c0 c1]

/-- A disk and an error's number are what comes out of a call. -/
theorem ret_disk2 {fn : Func} {p q : Tmp} {R : Ending → World → Prop} {a : Act} {w : World} (h : fn.results = #[.cell p 25, .tmp q]) (hd : a.defers = []) (g : Nat) (v0 v1 v2 : Value) (hp : a.tmps.getD p undef = .pointer (some ⟨g, 0, none⟩))
    (hq : a.tmps.getD q undef = v2) (c0 : w.cell? ⟨g, 0, none⟩ = some v0) (c1 : w.cell? ⟨g, 1, none⟩ = some v1) (hR : R (.returned (.tuple #[.agg #[v0, v1], v2])) w) : bodyPost Try.prog fn R .ret a w := by
  refine bodyPost_ret (v := .tuple #[.agg #[v0, v1], v2]) ?_ hd hR
  have hp' : a.tmps[p]?.getD undef = .pointer (some ⟨g, 0, none⟩) := by simpa using hp
  have hq' : a.tmps[q]?.getD undef = v2 := by simpa using hq
  simp [results, h, hp', hq', asAddr, load_disk w g v0 v1 c0 c1]

theorem own_weak {w : World} {b b' k : Nat} {e : TypeId} {v : Value} {n : Nat} {xs : List Value} (h : w.ownsRow b' e k v n xs) (hb : b ≤ b') : w.ownsRow b e k v n xs := by
  refine ⟨h.1, ?_⟩
  rcases h.2 with hn | ⟨g, cap, cur, rfl, hbg, rest⟩
  · exact .inl hn
  · exact .inr ⟨g, cap, cur, rfl, Nat.le_trans hb hbg, rest⟩
theorem own_stays {w w' : World} {base k : Nat} {e : TypeId} {v : Value} {n : Nat} {xs : List Value} (h : w.ownsRow base e k v n xs) (hb : Below w.heap.size w w') : w'.ownsRow base e k v n xs :=
  h.kept (below_grown hb) (by cases hv : v.ownBlock <;> simp)
/-- A whole row is owned. -/
theorem own_whole {w : World} {base g k n : Nat} {e : TypeId} {cs : List Value} (hg : w.heap[g]? = some (.cells cs.toArray e (0, 0))) (hb : base ≤ g) (hl : cs.length = n * k) (hm : n ≤ 1000000) : w.ownsRow base e k (.slice (some ⟨g, 0, none⟩) n n) n cs :=
  ⟨hl, .inr ⟨g, n, cs.toArray, rfl, hb, hg, Nat.le_refl _, by unfold maxLen; omega, by simpa using hl, by simp [← hl]⟩⟩

theorem news_row (w : World) (o : Obj) (y z : Value) (t : TypeId) : ∀ j u, [y, z][j]? = some u → ((w.alloc o).alloc (.cells #[y, z] t)).cell? ((⟨w.heap.size + 1, 0, none⟩ : Addr).add j) = some u := by
  intro j u hu
  have hg := heap_alloc_new (w.alloc o) (.cells #[y, z] t)
  rw [World.size_alloc] at hg
  rw [Go.WideShapes.add_plain, cell_of_row _ _ _ _ _ _ hg]
  simpa using hu

/-- A disk in memory of the call's own. -/
def OwnD (w : World) (base : Nat) (vb : Value) (bs : List (List UInt8)) (vw : Value) (ws : List Wr) : Prop :=
  w.ownsRow base 9 1 vb bs.length (bs.map SV) ∧ w.ownsRow base 40 2 vw ws.length (wcells ws)
theorem OwnD.texts {w : World} {base : Nat} {vb vw : Value} {bs : List (List UInt8)} {ws : List Wr} (h : OwnD w base vb bs vw ws) : Txts w vb bs := Txts.own h.1
theorem OwnD.wrs {w : World} {base : Nat} {vb vw : Value} {bs : List (List UInt8)} {ws : List Wr} (h : OwnD w base vb bs vw ws) : Wrs w vw ws := Wrs.own h.2

end Go.Proofs.Ytcikgmgkaenpmaa
