/-
  The texts of one folder in one: Wrs, DSmall, DCheck, Copy, Copied, Does, After, Kept, DSpec, DMath, Big, Backw, Read, Nc, NilApp, Cx, Write, Sync, DRefC, Says, OwnT, RefWrite, RefSync, Crash, DNew, SameD, Opens.
-/
import Derived.Test.YtcipdmdliobdmaaDoorPkbase
import Derived.WalkMore
import Derived.Laws.CopyOwn
import Derived.RegionTactic
import Derived.BigRegion
import Derived.Deep.DeepCutAuto
import Derived.Maps.AppendAt
import Derived.Deep.AppendLies
import Derived.Deep.RegionLaw
import Derived.WalkLawsBesides
import Derived.BigQuiet
import Derived.RangeFuncNested
import Derived.RangeFuncBound
import Derived.RangeFuncCalls
import Derived.RangeFuncLeaves
import Derived.RangeFuncBox
import Derived.Shelf.Abstract
import Derived.Shelf.RegionOpen
import Derived.OwnWalkIn
import Derived.TacticsInMore
import Derived.LoopNIn
import Derived.LoopIn
import Derived.Outline
import Derived.Laws.OwnMore
import Derived.Deep.RegionWith
import Derived.Laws.AppendOwnNone
import Derived.Test.YtcipdmdliobdmaaDoorPks01
import Derived.Lib.SmallJoins
import Derived.Deep.SlicePairs
import Derived.Deep.Grids

/-
  Slices of writes: pairs of a number and a text, two cells each.
-/
namespace Go.Proofs.YtcipdmdliobdmaaDoor
open Go.RowKit

/-- A row of n elements of k cells each reads as these cells. -/
def Rw (w : World) (k : Nat) (v : Value) (n : Nat) (cs : List Value) : Prop :=
  cs.length = n * k ∧ ∃ ao cap, v = .slice ao n cap ∧ n ≤ cap ∧ (n = 0 ∨ ∃ b off, ao = some ⟨b, off, none⟩ ∧ ∀ j (h : j < cs.length), w.cell? ⟨b, off + j, none⟩ = some cs[j])

theorem Rw.below {w w' : World} {k n : Nat} {v : Value} {cs : List Value} (h : Rw w k v n cs) (hb : Below w.heap.size w w') : Rw w' k v n cs := by
  obtain ⟨hl, ao, cap, rfl, hc, h | ⟨b, off, rfl, hcs⟩⟩ := h
  · exact ⟨hl, ao, cap, rfl, hc, .inl h⟩
  · refine ⟨hl, _, cap, rfl, hc, .inr ⟨b, off, rfl, fun j hj => ?_⟩⟩
    have h1 := hcs j hj
    exact (hb.cell (p := ⟨b, off + j, none⟩) (World.block_lt_of_cell? w _ h1)).trans h1
theorem Rw.nil (w : World) (k : Nat) : Rw w k (.slice none 0 0) 0 [] := ⟨by simp, none, 0, rfl, Nat.le_refl _, .inl rfl⟩
theorem Rw.form {w : World} {k n : Nat} {v : Value} {cs : List Value} (h : Rw w k v n cs) : ∃ ao cap, v = .slice ao n cap := by
  obtain ⟨_, ao, cap, rfl, _⟩ := h
  exact ⟨ao, cap, rfl⟩
theorem Rw.own {w : World} {base k n : Nat} {e : TypeId} {v : Value} {cs : List Value} (h : w.ownsRow base e k v n cs) : Rw w k v n cs := by
  rcases h.2 with ⟨rfl, rfl⟩ | ⟨g, cap, cur, rfl, _, _, hc, _⟩
  · exact ⟨h.1, none, 0, rfl, Nat.le_refl _, .inl rfl⟩
  · refine ⟨h.1, _, cap, rfl, hc, .inr ⟨g, 0, rfl, fun j hj => ?_⟩⟩
    have h1 := h.cells (g := g) rfl j cs[j] (by simp [List.getElem?_eq_getElem hj])
    rw [Go.WideShapes.add_plain] at h1
    exact h1
theorem Rw.txts {w : World} {v : Value} {ls : List (List UInt8)} (h : Txts w v ls) : Rw w 1 v ls.length (ls.map SV) := by
  obtain ⟨ao, cap, rfl, hc, h⟩ := h
  refine ⟨by simp, ao, cap, rfl, hc, ?_⟩
  rcases h with h | ⟨b, off, rfl, hcs⟩
  · exact .inl (by simp [h])
  · exact .inr ⟨b, off, rfl, fun j hj => by rw [hcs j (by simpa using hj)]; simp⟩
theorem texts_one (ls : List (List UInt8)) : ∀ u ∈ ls.map SV, u.oneCell' = true := by
  intro u hu
  obtain ⟨t, _, rfl⟩ := List.mem_map.1 hu
  rfl

/-- A write: at which block, and which text. -/
abbrev Wr := Int × List UInt8
/-- A write's cells. -/
def wcell (x : Wr) : List Value := [.int .i64 x.1, SV x.2]
def wcells (ws : List Wr) : List Value := ws.flatMap wcell
theorem wcells_len (ws : List Wr) : (wcells ws).length = ws.length * 2 := by
  induction ws with
  | nil => rfl
  | cons x r ih => simp [wcells, wcell] at ih ⊢; omega
theorem wcells_cons (x : Wr) (r : List Wr) : wcells (x :: r) = .int .i64 x.1 :: SV x.2 :: wcells r := rfl
theorem wcells_append (a b : List Wr) : wcells (a ++ b) = wcells a ++ wcells b := by simp [wcells]
theorem wcells_at (ws : List Wr) (i : Nat) (h : i < ws.length) : (wcells ws)[i * 2]? = some (.int .i64 ws[i].1) ∧ (wcells ws)[i * 2 + 1]? = some (SV ws[i].2) := by
  induction ws generalizing i with
  | nil => simp at h
  | cons x r ih =>
    cases i with
    | zero => exact ⟨rfl, rfl⟩
    | succ i =>
      have h1 := ih i (by simpa using h)
      rw [wcells_cons]
      have e1 : (i + 1) * 2 = i * 2 + 1 + 1 := by omega
      rw [e1]
      simpa using h1
theorem wcells_one (ws : List Wr) : ∀ u ∈ wcells ws, u.oneCell' = true := by
  intro u hu
  obtain ⟨x, _, hx⟩ := List.mem_flatMap.1 hu
  simp [wcell, SV] at hx
  rcases hx with rfl | rfl <;> rfl

/-- The slice v reads as these writes. -/
def Wrs (w : World) (v : Value) (ws : List Wr) : Prop := Rw w 2 v ws.length (wcells ws)
theorem Wrs.below {w w' : World} {v : Value} {ws : List Wr} (h : Wrs w v ws) (hb : Below w.heap.size w w') : Wrs w' v ws := Rw.below h hb
theorem Wrs.form {w : World} {v : Value} {ws : List Wr} (h : Wrs w v ws) : ∃ ao cap, v = .slice ao ws.length cap := Rw.form h
theorem Wrs.own {w : World} {base : Nat} {e : TypeId} {v : Value} {ws : List Wr} (h : w.ownsRow base e 2 v ws.length (wcells ws)) : Wrs w v ws := Rw.own h
theorem Wrs.nil (w : World) : Wrs w (.slice none 0 0) [] := Rw.nil w 2
theorem Wrs.at {w : World} {ao : Option Addr} {n cap : Nat} {ws : List Wr} (h : Wrs w (.slice ao n cap) ws) {k : Nat} (hk : k < ws.length) :
    ∃ b off, ao = some ⟨b, off, none⟩ ∧ w.cell? ⟨b, off + k * 2, none⟩ = some (.int .i64 ws[k].1) ∧ w.cell? ⟨b, off + k * 2 + 1, none⟩ = some (.string ⟨ws[k].2.toArray⟩) := by
  obtain ⟨hl, ao', cap', he, _, hc⟩ := h
  cases he
  rcases hc with h0 | ⟨b, off, rfl, hc⟩
  · omega
  · have h2 := wcells_len ws
    obtain ⟨e1, e2⟩ := wcells_at ws k hk
    refine ⟨b, off, rfl, ?_, ?_⟩
    · rw [hc (k * 2) (by omega), ← e1, List.getElem?_eq_getElem (by omega)]
    · have e3 : (wcells ws)[k * 2 + 1]? = some (.string ⟨ws[k].2.toArray⟩) := e2
      rw [Nat.add_assoc, hc (k * 2 + 1) (by omega), ← e3, List.getElem?_eq_getElem (by omega)]

theorem below_alloc2 (w : World) (o1 o2 : Obj) : Below w.heap.size w ((w.alloc o1).alloc o2) := (below_alloc w o1).alloc (by simp) o2
theorem below_alloc3 (w : World) (o1 o2 o3 : Obj) : Below w.heap.size w (((w.alloc o1).alloc o2).alloc o3) := (below_alloc2 w o1 o2).alloc (by simp; omega) o3
/-- What there was reads as it did, cell by cell. -/
theorem bcell {W w1 : World} (hb : Below W.heap.size W w1) : (∀ b o, b < W.heap.size → w1.cell? ⟨b, o, none⟩ = W.cell? ⟨b, o, none⟩) ∧ (∀ b o, b < W.heap.size → w1.frozen? ⟨b, o, none⟩ = W.frozen? ⟨b, o, none⟩) :=
  ⟨fun b o h => hb.cell (p := ⟨b, o, none⟩) h, fun b o h => hb.frozen (p := ⟨b, o, none⟩) h⟩
/-- One cell that there was reads as it did. -/
theorem look_below {W w1 : World} {b o : Nat} {v : Value} (hb : Below W.heap.size W w1) (h : W.cell? ⟨b, o, none⟩ = some v) : w1.cell? ⟨b, o, none⟩ = some v :=
  (hb.cell (p := ⟨b, o, none⟩) (World.block_lt_of_cell? W _ h)).trans h
/-- Two cells, as one value. -/
theorem load_two {ty : TypeId} {fs : Array Field} (hu : Tryd.prog.underlying ty = some (.struct fs)) (hi : (Tryd.prog.info? ty).map (·.size) = some 2) (w : World) (g o : Nat) (v0 v1 : Value)
    (c0 : w.cell? ⟨g, o, none⟩ = some v0) (c1 : w.cell? ⟨g, o + 1, none⟩ = some v1) : (loadVar ty ⟨g, o, none⟩).run Tryd.prog w = .ok (.agg #[v0, v1]) w := by
  have hagg : (isAgg ty).run Tryd.prog w = .ok true w := by simp [isAgg, run_underlying hu]
  cases hq : Tryd.prog.info? ty with
  | none => simp [hq] at hi
  | some i =>
    have hs : i.size = 2 := by simpa [hq] using hi
    have hl : (loadCells ⟨g, o, none⟩ 2).run Tryd.prog w = .ok #[v0, v1] w := run_loadCells_list (P := Tryd.prog) (w := w) (a := ⟨g, o, none⟩) (cs := [v0, v1]) (fun j u hu => by
      rw [Go.WideShapes.add_plain]
      match j, hu with
      | 0, hu => simp at hu; subst hu; exact c0
      | 1, hu => simp at hu; subst hu; exact c1)
    simp [loadVar, hagg, sizeOf, typeInfo, hq, hs, hl]

theorem disk_under : ∃ fs, Tryd.prog.underlying 25 = some (.struct fs) := ⟨_, Tryd.underlying25⟩
theorem disk_size : (Tryd.prog.info? 25).map (·.size) = some 2 := by kernel_rfl
theorem load_disk (w : World) (g : Nat) (v0 v1 : Value) (c0 : w.cell? ⟨g, 0, none⟩ = some v0) (c1 : w.cell? ⟨g, 1, none⟩ = some v1) : (loadVar 25 ⟨g, 0, none⟩).run Tryd.prog w = .ok (.agg #[v0, v1]) w := by
  obtain ⟨fs, hu⟩ := disk_under
  exact load_two hu disk_size w g 0 v0 v1 c0 c1

/-- A disk is what comes out of a call. -/
theorem ret_disk {fn : Func} {p : Tmp} {R : Ending → World → Prop} {a : Act} {w : World} (h : fn.results = #[.cell p 25]) (hd : a.defers = []) (g : Nat) (v0 v1 : Value) (hp : a.tmps.getD p undef = .pointer (some ⟨g, 0, none⟩))
    (c0 : w.cell? ⟨g, 0, none⟩ = some v0) (c1 : w.cell? ⟨g, 1, none⟩ = some v1) (hR : R (.returned (.agg #[v0, v1])) w) : bodyPost Tryd.prog fn R .ret a w := by
  refine bodyPost_ret (v := .agg #[v0, v1]) ?_ hd hR
  have hp' : a.tmps[p]?.getD undef = .pointer (some ⟨g, 0, none⟩) := by simpa using hp
  simp [results, h, hp', asAddr, load_disk w g v0 v1 c0 c1]

/-- A disk and an error's number are what comes out of a call. -/
theorem ret_disk2 {fn : Func} {p q : Tmp} {R : Ending → World → Prop} {a : Act} {w : World} (h : fn.results = #[.cell p 25, .tmp q]) (hd : a.defers = []) (g : Nat) (v0 v1 v2 : Value) (hp : a.tmps.getD p undef = .pointer (some ⟨g, 0, none⟩))
    (hq : a.tmps.getD q undef = v2) (c0 : w.cell? ⟨g, 0, none⟩ = some v0) (c1 : w.cell? ⟨g, 1, none⟩ = some v1) (hR : R (.returned (.tuple #[.agg #[v0, v1], v2])) w) : bodyPost Tryd.prog fn R .ret a w := by
  refine bodyPost_ret (v := .tuple #[.agg #[v0, v1], v2]) ?_ hd hR
  have hp' : a.tmps[p]?.getD undef = .pointer (some ⟨g, 0, none⟩) := by simpa using hp
  have hq' : a.tmps[q]?.getD undef = v2 := by simpa using hq
  simp [results, h, hp', hq', asAddr, load_disk w g v0 v1 c0 c1]

theorem own_weak {w : World} {b b' k : Nat} {e : TypeId} {v : Value} {n : Nat} {xs : List Value} (h : w.ownsRow b' e k v n xs) (hb : b ≤ b') : w.ownsRow b e k v n xs := by
  refine ⟨h.1, ?_⟩
  rcases h.2 with hn | ⟨g, cap, cur, rfl, hbg, rest⟩
  · exact .inl hn
  · exact .inr ⟨g, cap, cur, rfl, Nat.le_trans hb hbg, rest⟩
theorem own_stays {w w' : World} {base k : Nat} {e : TypeId} {v : Value} {n : Nat} {xs : List Value} (h : w.ownsRow base e k v n xs) (hb : Below w.heap.size w w') : w'.ownsRow base e k v n xs :=
  h.kept (below_grown hb) (by cases hv : v.ownBlock <;> simp)
/-- A whole row is owned. -/
theorem own_whole {w : World} {base g k n : Nat} {e : TypeId} {cs : List Value} (hg : w.heap[g]? = some (.cells cs.toArray e (0, 0))) (hb : base ≤ g) (hl : cs.length = n * k) (hm : n ≤ 1000000) : w.ownsRow base e k (.slice (some ⟨g, 0, none⟩) n n) n cs :=
  ⟨hl, .inr ⟨g, n, cs.toArray, rfl, hb, hg, Nat.le_refl _, by unfold maxLen; omega, by simpa using hl, by simp [← hl]⟩⟩

theorem news_row (w : World) (o : Obj) (y z : Value) (t : TypeId) : ∀ j u, [y, z][j]? = some u → ((w.alloc o).alloc (.cells #[y, z] t)).cell? ((⟨w.heap.size + 1, 0, none⟩ : Addr).add j) = some u := by
  intro j u hu
  have hg := heap_alloc_new (w.alloc o) (.cells #[y, z] t)
  rw [World.size_alloc] at hg
  rw [Go.WideShapes.add_plain, cell_of_row _ _ _ _ _ _ hg]
  simpa using hu

/-- A disk in memory of the call's own. -/
def OwnD (w : World) (base : Nat) (vb : Value) (bs : List (List UInt8)) (vw : Value) (ws : List Wr) : Prop :=
  w.ownsRow base 9 1 vb bs.length (bs.map SV) ∧ w.ownsRow base 63 2 vw ws.length (wcells ws)
theorem OwnD.texts {w : World} {base : Nat} {vb vw : Value} {bs : List (List UInt8)} {ws : List Wr} (h : OwnD w base vb bs vw ws) : Txts w vb bs := Txts.own h.1
theorem OwnD.wrs {w : World} {base : Nat} {vb vw : Value} {bs : List (List UInt8)} {ws : List Wr} (h : OwnD w base vb bs vw ws) : Wrs w vw ws := Wrs.own h.2

end Go.Proofs.YtcipdmdliobdmaaDoor

/-
  disk: fits, has, still.
-/
namespace Go.Proofs.YtcipdmdliobdmaaDoor
open Go.RowKit

/-- Is there a block at? -/
def hasB (n : Nat) (at_ : Int) : Bool := decide (0 ≤ at_) && decide (at_ < n)

theorem fits_calls (s : List UInt8) (w : World) :
    Calls Tryd.prog 49 #[.string ⟨s.toArray⟩] w fun e w' => e = .returned (.bool (decide ((s.length : Int) ≤ 256))) ∧ w = w' := by
  go_enter Tryd.func49, Tryd.ntmps49
  go_wp2
  go_ret
  exact ⟨rfl, rfl⟩

theorem has_calls (ao : Option Addr) (n cap : Nat) (vw : Value) (i : Int) (w : World) :
    Calls Tryd.prog 48 #[.agg #[.slice ao n cap, vw], .int .i64 i] w fun e w' => e = .returned (.bool (hasB n i)) ∧ Below w.heap.size w w' := by
  have hB := below_alloc w (.cells #[.slice ao n cap, vw] 25)
  unfold hasB
  by_cases h0 : 0 ≤ i
  · go_enter Tryd.func48, Tryd.ntmps48
    go_wp2_with fail
    go_ret
    exact ⟨by simp [h0], hB⟩
  · go_enter Tryd.func48, Tryd.ntmps48
    go_wp2_with fail
    go_ret
    exact ⟨by simp; omega, hB⟩

/-- A disk whose writes are let go. -/
theorem still_calls (ab aw : Option Addr) (nb cb nw cw : Nat) (w : World) :
    Calls Tryd.prog 38 #[.agg #[.slice ab nb cb, .slice aw nw cw]] w fun e w' => e = .returned (.agg #[.slice ab nb cb, .slice none 0 0]) ∧ Below w.heap.size w w' := by
  go_enter Tryd.func38, Tryd.ntmps38
  go_wp2_with fail
  refine ret_disk (p := 2) (by kernel_rfl) rfl _ _ _ rfl ?_ ?_ ⟨rfl, ?_⟩
  · go_simp
  · go_simp
  · exact below_alloc2 w _ _

end Go.Proofs.YtcipdmdliobdmaaDoor

/-
  disk: Check.
-/
namespace Go.Proofs.YtcipdmdliobdmaaDoor
open Go.RowKit

def blockB (s : List UInt8) : Bool := decide (s.length ≤ 256)
def writeB (n : Nat) (x : Wr) : Bool := hasB n x.1 && blockB x.2
/-- Is a disk right? -/
def rightB (bs : List (List UInt8)) (ws : List Wr) : Bool :=
  decide (1 ≤ bs.length) && decide (bs.length ≤ 200) && decide (ws.length ≤ 100) && bs.all blockB && ws.all (writeB bs.length)

/-- The first k are all so. -/
def allTo {α : Type} (p : α → Bool) (l : List α) (k : Nat) : Prop := (l.take k).all p = true
theorem allTo_zero {α : Type} (p : α → Bool) (l : List α) : allTo p l 0 := by simp [allTo]
theorem allTo_succ {α : Type} {p : α → Bool} {l : List α} {k : Nat} (h : allTo p l k) (hk : k < l.length) (h1 : p l[k] = true) : allTo p l (k + 1) := by
  unfold allTo at h ⊢
  rw [List.take_succ_eq_append_getElem hk, List.all_append, h]
  simpa using h1
theorem allTo_all {α : Type} {p : α → Bool} {l : List α} (h : allTo p l l.length) : l.all p = true := by
  unfold allTo at h
  rwa [List.take_length] at h
theorem all_not {α : Type} {p : α → Bool} {l : List α} {k : Nat} (hk : k < l.length) (h1 : p l[k] = false) : l.all p = false := by
  rw [Bool.eq_false_iff]
  intro h
  have := List.all_eq_true.1 h _ (List.getElem_mem hk)
  rw [h1] at this
  cases this

theorem right_size {bs : List (List UInt8)} {ws : List Wr} (h : ¬ (1 ≤ bs.length ∧ bs.length ≤ 200 ∧ ws.length ≤ 100)) : rightB bs ws = false := by
  rw [Bool.eq_false_iff]
  intro h1
  apply h
  simp only [rightB, Bool.and_eq_true, decide_eq_true_eq] at h1
  exact ⟨h1.1.1.1.1, h1.1.1.1.2, h1.1.1.2⟩
theorem right_blocks {bs : List (List UInt8)} {ws : List Wr} (h : bs.all blockB = false) : rightB bs ws = false := by simp [rightB, h]
theorem right_writes {bs : List (List UInt8)} {ws : List Wr} (h : ws.all (writeB bs.length) = false) : rightB bs ws = false := by simp [rightB, h]
theorem right_mk {bs : List (List UInt8)} {ws : List Wr} (h1 : 1 ≤ bs.length) (h2 : bs.length ≤ 200) (h3 : ws.length ≤ 100) (h4 : bs.all blockB = true) (h5 : ws.all (writeB bs.length) = true) : rightB bs ws = true := by
  simp [rightB, h1, h2, h3, h4, h5]

set_option maxHeartbeats 4000000 in
theorem check_calls (vb vw : Value) (bs : List (List UInt8)) (ws : List Wr) (w : World) (hb : Txts w vb bs) (hw : Wrs w vw ws) :
    Calls Tryd.prog 36 #[.agg #[vb, vw]] w fun e w' => e = .returned (.bool (rightB bs ws)) ∧ Below w.heap.size w w' := by
  obtain ⟨ab, cb, rfl⟩ := hb.strs.form
  obtain ⟨aw, cw, rfl⟩ := hw.form
  have HB := Lib.hid hb
  have HW := Lib.hid hw
  clear hb hw
  by_cases hsz : 1 ≤ bs.length ∧ bs.length ≤ 200 ∧ ws.length ≤ 100
  · obtain ⟨h1, h2, h3⟩ := hsz
    have hB0 := below_alloc w (.cells #[.slice ab bs.length cb, .slice aw ws.length cw] 25)
    have d1 : decide ((bs.length : Int) < 1) = false := by simp; omega
    have d2 : decide ((200 : Int) < bs.length) = false := by simp; omega
    have d3 : decide ((100 : Int) < ws.length) = false := by simp; omega
    go_enter Tryd.func36, Tryd.ntmps36
    go_wp2_with fail
    go_loop [26] (fun i => ∃ k : Nat, k ≤ bs.length ∧ i = .int .i64 k ∧ allTo blockB bs k) (fun i => bs.length - (intOf i).toNat)
    case atStart => exact ⟨0, Nat.zero_le _, rfl, allTo_zero _ _⟩
    case round =>
      obtain ⟨k, hk, rfl, hf⟩ := hrel
      by_cases hlt : k < bs.length
      · obtain ⟨b, off, rfl, hcell⟩ := HB.out.strs.at hlt
        have hbl := World.block_lt_of_cell? w _ hcell
        generalize hs : bs[k] = s at hcell
        have HS := Lib.hid hs
        clear hs
        by_cases h4 : s.length ≤ 256
        · have d4 : decide ((s.length : Int) ≤ 256) = true := by simp; omega
          go_wp2_with (go_at_call 49; refine (fits_calls s _).mono ?_; rintro e w1 ⟨rfl, rfl⟩)
          go_round
          case rel => exact ⟨k + 1, by omega, by go_num, allTo_succ hf hlt (by rw [HS.out]; simpa [blockB] using h4)⟩
          case measure => simp [intOf]; omega
        · have d4 : decide ((s.length : Int) ≤ 256) = false := by simp; omega
          have hr := Lib.hid (right_blocks (ws := ws) (all_not hlt (by rw [HS.out]; simpa [blockB] using h4)))
          go_wp2_with (go_at_call 49; refine (fits_calls s _).mono ?_; rintro e w1 ⟨rfl, rfl⟩)
          go_ret
          exact ⟨by rw [hr.out]; rfl, hB0⟩
      · obtain rfl : k = bs.length := by omega
        have hbb := Lib.hid (allTo_all hf)
        clear hf
        go_wp2_with fail
        go_loopw [37] (fun i wr => ∃ k : Nat, k ≤ ws.length ∧ i = .int .i64 k ∧ allTo (writeB bs.length) ws k ∧ Below w.heap.size w wr ∧ wr.cell? ⟨w.heap.size, 0, none⟩ = some (.slice ab bs.length cb)
           ∧ wr.cell? ⟨w.heap.size, 1, none⟩ = some (.slice aw ws.length cw)) (fun i _ => ws.length - (intOf i).toNat)
        case atStart => exact ⟨0, Nat.zero_le _, rfl, allTo_zero _ _, hB0, by go_simp, by go_simp⟩
        case round =>
          obtain ⟨k, hk, rfl, hf, hB, hx0, hx1⟩ := hrel
          by_cases hlt : k < ws.length
          · obtain ⟨b, off, rfl, hc0, hc1⟩ := (HW.out.below hB).at hlt
            obtain ⟨i, hi⟩ : ∃ i, ws[k].1 = i := ⟨_, rfl⟩
            obtain ⟨s, hs⟩ : ∃ i, ws[k].2 = i := ⟨_, rfl⟩
            rw [hi] at hc0
            rw [hs] at hc1
            have HS := Lib.hid hs
            have HI := Lib.hid hi
            clear hs hi
            have hz : w.heap.size < wr.heap.size := World.block_lt_of_cell? wr _ hx0
            cases hq : hasB bs.length i with
            | false =>
              have hr := Lib.hid (right_writes (bs := bs) (all_not (p := writeB bs.length) hlt (by simp [writeB, HI.out, hq])))
              have HQ := Lib.hid hq
              clear hq
              go_wp2_with fail
              refine (has_calls _ _ _ _ _ _).mono ?_
              rintro e w1 ⟨rfl, hB1⟩
              rw [HQ.out]
              go_wp2_with fail
              go_ret
              exact ⟨by rw [hr.out]; rfl, below2 (hB.alloc (by omega) _) hB1⟩
            | true =>
              have HQ := Lib.hid hq
              clear hq
              go_wp2_with fail
              refine (has_calls _ _ _ _ _ _).mono ?_
              rintro e w1 ⟨rfl, hB1⟩
              rw [HQ.out]
              have hy1 := look_below hB1 (b := wr.heap.size) (o := 1) (v := .string ⟨s.toArray⟩) (by go_simp)
              have hy2 := look_below hB1 (b := w.heap.size) (o := 0) (v := .slice ab bs.length cb) (by go_simp)
              have hy3 := look_below hB1 (b := w.heap.size) (o := 1) (v := .slice (some ⟨b, off, none⟩) ws.length cw) (by go_simp)
              have hB2 := below2 (hB.alloc (by omega) _) hB1
              by_cases h4 : s.length ≤ 256
              · have d4 : decide ((s.length : Int) ≤ 256) = true := by simp; omega
                go_wp2_with (go_at_call 49; refine (fits_calls s _).mono ?_; rintro e w2 ⟨rfl, rfl⟩)
                go_roundw
                case rel => exact ⟨k + 1, by omega, by go_num, allTo_succ hf hlt (by simp [writeB, HI.out, HS.out, HQ.out, blockB, h4]), hB2, hy2, hy3⟩
                case measure => simp [intOf]; omega
              · have d4 : decide ((s.length : Int) ≤ 256) = false := by simp; omega
                have hr := Lib.hid (right_writes (bs := bs) (all_not (p := writeB bs.length) hlt (by simp [writeB, HS.out, blockB, h4])))
                go_wp2_with (go_at_call 49; refine (fits_calls s _).mono ?_; rintro e w2 ⟨rfl, rfl⟩)
                go_ret
                exact ⟨by rw [hr.out]; rfl, hB2⟩
          · obtain rfl : k = ws.length := by omega
            have hr := Lib.hid (right_mk h1 h2 h3 hbb.out (allTo_all hf))
            go_wp2_with fail
            go_ret
            exact ⟨by rw [hr.out]; rfl, hB⟩
  · have hr := Lib.hid (right_size hsz)
    have hB0 := below_alloc w (.cells #[.slice ab bs.length cb, .slice aw ws.length cw] 25)
    have hc : bs.length < 1 ∨ (1 ≤ bs.length ∧ 200 < bs.length) ∨ (1 ≤ bs.length ∧ bs.length ≤ 200 ∧ 100 < ws.length) := by omega
    clear hsz
    rcases hc with h | ⟨h, h'⟩ | ⟨h, h', h''⟩
    all_goals
      go_enter Tryd.func36, Tryd.ntmps36
      go_wp2_with fail
      go_ret
      exact ⟨by rw [hr.out]; rfl, hB0⟩

end Go.Proofs.YtcipdmdliobdmaaDoor

/-
  copy of a whole row into a row of the call's own, whatever the elements' size.
-/
namespace Go.Proofs.YtcipdmdliobdmaaDoor
open Go.RowKit

theorem run_copy_all {P : Program} (w : World) (dT sT ty elem : TypeId) (k n g dCap : Nat) (v : Value) (cur : Array Value) (t : TypeId) (cs : List Value)
    (hu : P.underlying dT = some (.slice elem)) (hs : (P.info? elem).map (·.size) = some k)
    (hg : w.heap[g]? = some (.cells cur t (0, 0))) (hcur : cur.size = n * k) (hsrc : Rw w k v n cs) (h1 : ∀ u ∈ cs, u.oneCell' = true) :
    (Builtin.copy_ #[dT, sT] ty #[.slice (some ⟨g, 0, none⟩) n dCap, v]).run P w = .ok (goInt n) (w.setRow g cs.toArray) := by
  obtain ⟨hl, ao, cap, rfl, hc, hr⟩ := hsrc
  cases hq : P.info? elem with
  | none => simp [hq] at hs
  | some i =>
    have hi : i.size = k := by simpa [hq] using hs
    have hst := run_storeCells_at P g 0 t cs 0 cur w hg (by omega) h1
    have hdrop : cur.toList.drop (0 + 0 + cs.length) = [] := by apply List.drop_eq_nil_of_le; simp; omega
    rw [hdrop] at hst
    simp only [Nat.add_zero, List.take_zero, List.nil_append, List.append_nil] at hst
    rcases hr with h0 | ⟨b, off, rfl, hcell⟩
    · subst h0
      have : cs = [] := List.eq_nil_of_length_eq_zero (by simpa using hl)
      subst this
      cases ao with
      | none =>
        simp [Builtin.copy_, run_underlying hu, Builtin.lenOf, Builtin.firstCells, sizeOf, typeInfo, hq, storeCells] at hst ⊢
        exact hst
      | some a => simp [Builtin.copy_, run_underlying hu, Builtin.lenOf, Builtin.firstCells, sizeOf, typeInfo, hq, loadCells, loadCellsFrom, hst]
    · have hld := run_loadCells_list (P := P) (w := w) ⟨b, off, none⟩ cs (fun j u hj => by
        rw [Go.WideShapes.add_plain]
        obtain ⟨hj1, rfl⟩ := List.getElem?_eq_some_iff.1 hj
        exact hcell j hj1)
      rw [hl] at hld
      simp [Builtin.copy_, run_underlying hu, Builtin.lenOf, Builtin.firstCells, sizeOf, typeInfo, hq, hi, hld, hst]

theorem setRow_grown (w : World) (g : Nat) (cs : Array Value) : w.grownBy (w.setRow g cs) (some g) :=
  ⟨rfl, rfl, rfl, by simp [World.setRow], fun k _ hne => setRow_other w g k cs (by intro e; subst e; exact hne rfl)⟩

theorem wpList_copy_all {P : Program} {w : World} {ops : Array Oper} {rest : List Oper} {o : Oper} {a : Act} {Q : Exit → Act → World → Prop} (hgd : o.guard = none) (d s : Operand) (dT sT : TypeId)
    (ho : o.op = .call { callee := .builtin .copy, args := #[d, s], argTypes := #[dT, sT] }) (elem : TypeId) (hu : P.underlying dT = some (.slice elem)) (k : Nat) (hsz : (P.info? elem).map (·.size) = some k)
    (n g dCap : Nat) (v : Value) (hd : a.eval d = .slice (some ⟨g, 0, none⟩) n dCap) (hs : a.eval s = v) (cs : List Value) (hsrc : Rw w k v n cs) (h1 : ∀ u ∈ cs, u.oneCell' = true)
    (cur : Array Value) (t : TypeId) (hg : w.heap[g]? = some (.cells cur t (0, 0))) (hcur : cur.size = n * k)
    (h : ∀ w', w'.heap[g]? = some (.cells cs.toArray t (0, 0)) → w.grownBy w' (some g) → wpList P ops Q rest (a.put o.dst (goInt n)) w') :
    wpList P ops Q (o :: rest) a w := by
  refine wpList_plain hgd fun K hK => ?_
  have hrun := run_copy_all (P := P) w dT sT o.type elem k n g dCap v cur t cs hu hsz hg hcur hsrc h1
  unfold Oper.wp
  simp [execOp, ho, resolve, invoke, builtin, hd, hs, hrun, Result.andThen]
  exact hK _ _ (h _ (setRow_heap w g cur _ t _ hg) (setRow_grown w g _))

end Go.Proofs.YtcipdmdliobdmaaDoor

/-
  disk: copied.
-/
namespace Go.Proofs.YtcipdmdliobdmaaDoor
open Go.RowKit

theorem infoW : (Tryd.prog.info? 63).map (fun i => (i.zero, i.size, i.bytes)) = some (some (.agg #[.int .i64 0, .string ⟨#[]⟩]), 2, 24) := by kernel_rfl
theorem make_texts (n : Nat) (h : n ≤ 1000000) (w : World) : (Instr.makeSlice 22 (.int .i64 (n : Int)) (.int .i64 (n : Int))).run Tryd.prog w = .ok (.slice (some ⟨w.heap.size, 0, none⟩) n n) (w.alloc (.cells (madeCells #[.string ⟨#[]⟩] n) 9)) := by
  obtain ⟨i0, hi, hz0, hz1, hz2⟩ := info_parts info9
  have hr := run_make (P := Tryd.prog) w 22 9 i0 _ Tryd.underlying22 hi hz0 .i64 .i64 n n (by omega) (Int.le_refl _) (by rw [hz2]; omega) (by omega)
  simpa [hz1, Value.cells] using hr
theorem make_writes (n : Nat) (h : n ≤ 1000000) (w : World) : (Instr.makeSlice 23 (.int .i64 (n : Int)) (.int .i64 (n : Int))).run Tryd.prog w = .ok (.slice (some ⟨w.heap.size, 0, none⟩) n n) (w.alloc (.cells (madeCells #[.int .i64 0, .string ⟨#[]⟩] (n * 2)) 63)) := by
  obtain ⟨i0, hi, hz0, hz1, hz2⟩ := info_parts infoW
  have hr := run_make (P := Tryd.prog) w 23 63 i0 _ Tryd.underlying23 hi hz0 .i64 .i64 n n (by omega) (Int.le_refl _) (by rw [hz2]; omega) (by omega)
  simpa [hz1, Value.cells] using hr

theorem size9 : (Tryd.prog.info? 9).map (·.size) = some 1 := by kernel_rfl
theorem sizeW : (Tryd.prog.info? 63).map (·.size) = some 2 := by kernel_rfl
/-- The world where a copy is made. -/
def CpAt (w wr : World) (vb vw : Value) (n1 n2 : Nat) (A1 A2 : Array Value) (g1 g2 g3 : Nat) : Prop :=
  wr.heap[w.heap.size]? = some (.cells #[vb, vw] 25 (0, 0)) ∧ wr.heap[w.heap.size + 1]? = some (.cells #[.slice none 0 0, .slice none 0 0] 25 (0, 0)) ∧
  wr.heap[g3]? = some (.cells #[.slice (some ⟨g1, 0, none⟩) n1 n1, .slice (some ⟨g2, 0, none⟩) n2 n2] 25 (0, 0)) ∧
  wr.heap[g1]? = some (.cells A1 9 (0, 0)) ∧ wr.heap[g2]? = some (.cells A2 63 (0, 0)) ∧
  w.heap.size + 2 ≤ g1 ∧ w.heap.size + 2 ≤ g2 ∧ w.heap.size + 2 ≤ g3 ∧ Below w.heap.size w wr

theorem heap5 (w : World) (a b c d e : Obj) : (((((w.alloc a).alloc b).alloc c).alloc d).alloc e).drew.heap[w.heap.size]? = some a ∧ (((((w.alloc a).alloc b).alloc c).alloc d).alloc e).drew.heap[w.heap.size + 1]? = some b ∧
    (((((w.alloc a).alloc b).alloc c).alloc d).alloc e).drew.heap[w.heap.size + 1 + 1]? = some c ∧ (((((w.alloc a).alloc b).alloc c).alloc d).alloc e).drew.heap[w.heap.size + 1 + 1 + 1]? = some d ∧
    (((((w.alloc a).alloc b).alloc c).alloc d).alloc e).drew.heap[w.heap.size + 1 + 1 + 1 + 1]? = some e ∧ Below w.heap.size w (((((w.alloc a).alloc b).alloc c).alloc d).alloc e).drew := by
  refine ⟨?_, ?_, ?_, ?_, ?_, below2 ((((below_alloc2 w a b).alloc (by simp; omega) c).alloc (by simp; omega) d).alloc (by simp; omega) e) (drew_below _)⟩
  · exact (heap_alloc_old _ e (by simp <;> omega)).trans ((heap_alloc_old _ d (by simp <;> omega)).trans ((heap_alloc_old _ c (by simp <;> omega)).trans ((heap_alloc_old _ b (by simp)).trans (heap_alloc_new w a))))
  · exact (heap_alloc_old _ e (by simp <;> omega)).trans ((heap_alloc_old _ d (by simp <;> omega)).trans ((heap_alloc_old _ c (by simp)).trans (by simpa using heap_alloc_new (w.alloc a) b)))
  · exact (heap_alloc_old _ e (by simp <;> omega)).trans ((heap_alloc_old _ d (by simp)).trans (by simpa using heap_alloc_new ((w.alloc a).alloc b) c))
  · exact (heap_alloc_old _ e (by simp)).trans (by simpa using heap_alloc_new (((w.alloc a).alloc b).alloc c) d)
  · show ((((((w.alloc a).alloc b).alloc c).alloc d).alloc e)).heap[w.heap.size + 1 + 1 + 1 + 1]? = some e
    simpa using heap_alloc_new ((((w.alloc a).alloc b).alloc c).alloc d) e

theorem CpAt.one {w wc w1 : World} {vb vw : Value} {n1 n2 : Nat} {A1 A2 A : Array Value} {g1 g2 g3 : Nat} (h : CpAt w wc vb vw n1 n2 A1 A2 g1 g2 g3)
    (hg : w1.heap[g1]? = some (.cells A 9 (0, 0))) (hgr : wc.grownBy w1 (some g1)) : CpAt w w1 vb vw n1 n2 A A2 g1 g2 g3 := by
  obtain ⟨q0, q1, q2, q3, q4, l1, l2, l3, hB⟩ := h
  have lt : ∀ {k : Nat} {o : Obj}, wc.heap[k]? = some o → k < wc.heap.size := fun h => (Array.getElem?_eq_some_iff.1 h).1
  have h21 : g2 ≠ g1 := fun e => by rw [e, q3] at q4; cases q4
  have h31 : g3 ≠ g1 := fun e => by rw [e, q3] at q2; cases q2
  refine ⟨?_, ?_, ?_, hg, ?_, l1, l2, l3, hB.grown hgr (by have := lt q0; omega) (fun k e => by cases e; omega)⟩
  · rw [hgr.block _ (lt q0) (by simp; omega)]; exact q0
  · rw [hgr.block _ (lt q1) (by simp; omega)]; exact q1
  · rw [hgr.block _ (lt q2) (by simpa using h31)]; exact q2
  · rw [hgr.block _ (lt q4) (by simpa using h21)]; exact q4
theorem CpAt.two {w wc w1 : World} {vb vw : Value} {n1 n2 : Nat} {A1 A2 A : Array Value} {g1 g2 g3 : Nat} (h : CpAt w wc vb vw n1 n2 A1 A2 g1 g2 g3)
    (hg : w1.heap[g2]? = some (.cells A 63 (0, 0))) (hgr : wc.grownBy w1 (some g2)) : CpAt w w1 vb vw n1 n2 A1 A g1 g2 g3 := by
  obtain ⟨q0, q1, q2, q3, q4, l1, l2, l3, hB⟩ := h
  have lt : ∀ {k : Nat} {o : Obj}, wc.heap[k]? = some o → k < wc.heap.size := fun h => (Array.getElem?_eq_some_iff.1 h).1
  have h12 : g1 ≠ g2 := fun e => by rw [e, q4] at q3; cases q3
  have h32 : g3 ≠ g2 := fun e => by rw [e, q4] at q2; cases q2
  refine ⟨?_, ?_, ?_, ?_, hg, l1, l2, l3, hB.grown hgr (by have := lt q0; omega) (fun k e => by cases e; omega)⟩
  · rw [hgr.block _ (lt q0) (by simp; omega)]; exact q0
  · rw [hgr.block _ (lt q1) (by simp; omega)]; exact q1
  · rw [hgr.block _ (lt q2) (by simpa using h32)]; exact q2
  · rw [hgr.block _ (lt q3) (by simpa using h12)]; exact q3
theorem CpAt.cells {w wc : World} {vb vw : Value} {n1 n2 : Nat} {A1 A2 : Array Value} {g1 g2 g3 : Nat} (h : CpAt w wc vb vw n1 n2 A1 A2 g1 g2 g3) :
    wc.cell? ⟨w.heap.size, 0, none⟩ = some vb ∧ wc.cell? ⟨w.heap.size, 1, none⟩ = some vw ∧ wc.cell? ⟨g3, 0, none⟩ = some (.slice (some ⟨g1, 0, none⟩) n1 n1) ∧ wc.cell? ⟨g3, 1, none⟩ = some (.slice (some ⟨g2, 0, none⟩) n2 n2) ∧
    wc.cell? ⟨w.heap.size + 1, 0, none⟩ = some (.slice none 0 0) ∧ wc.cell? ⟨w.heap.size + 1, 1, none⟩ = some (.slice none 0 0) ∧ wc.frozen? ⟨w.heap.size + 1, 0, none⟩ = false ∧ wc.frozen? ⟨w.heap.size + 1, 1, none⟩ = false := by
  obtain ⟨q0, q1, q2, q3, q4, l1, l2, l3, hB⟩ := h
  exact ⟨cell_of_row wc _ 0 _ _ _ q0, cell_of_row wc _ 1 _ _ _ q0, cell_of_row wc _ 0 _ _ _ q2, cell_of_row wc _ 1 _ _ _ q2, cell_of_row wc _ 0 _ _ _ q1, cell_of_row wc _ 1 _ _ _ q1, by simp [World.frozen?, q1], by simp [World.frozen?, q1]⟩

set_option maxHeartbeats 4000000 in
theorem copied_calls (vb vw : Value) (bs : List (List UInt8)) (ws : List Wr) (w : World) (hb : Txts w vb bs) (hw : Wrs w vw ws) (hbl : bs.length ≤ 1000000) (hwl : ws.length ≤ 1000000) :
    Calls Tryd.prog 55 #[.agg #[vb, vw]] w fun e w' => ∃ vb' vw', e = .returned (.agg #[vb', vw']) ∧ OwnD w' w.heap.size vb' bs vw' ws ∧ Below w.heap.size w w' := by
  obtain ⟨ab, cb, rfl⟩ := hb.strs.form
  obtain ⟨aw, cw, rfl⟩ := hw.form
  have HB := Lib.hid hb
  have HW := Lib.hid hw
  clear hb hw
  have hm1 := make_texts bs.length hbl
  have hm2 := make_writes ws.length hwl
  generalize hn1 : bs.length = n1 at hm1
  generalize hn2 : ws.length = n2 at hm2
  have hs1 := size_madeCells #[.string ⟨#[]⟩] n1
  have hs2 := size_madeCells #[.int .i64 0, .string ⟨#[]⟩] (n2 * 2)
  generalize madeCells #[.string ⟨#[]⟩] n1 = A1 at hm1 hs1
  generalize madeCells #[.int .i64 0, .string ⟨#[]⟩] (n2 * 2) = A2 at hm2 hs2
  have HS1 := Lib.hid hs1
  have HS2 := Lib.hid hs2
  have HN1 := Lib.hid hn1
  have HN2 := Lib.hid hn2
  clear hs1 hs2 hn1 hn2
  go_enter Tryd.func55, Tryd.ntmps55
  go_upto_region 1 with (fail)
  go_cut [3] (fun t wr => ∃ g1 g2 g3, t = .pointer (some ⟨g3, 0, none⟩) ∧ CpAt w wr (.slice ab n1 cb) (.slice aw n2 cw) n1 n2 A1 A2 g1 g2 g3)
  case first =>
    go_region
    all_goals
      go_wp2_with fail
      go_meet
      case rel =>
        obtain ⟨q0, q1, q2, q3, q4, qb⟩ := heap5 w _ _ _ _ _
        exact ⟨_, _, _, rfl, q0, q1, by first | exact q2 | exact q3 | exact q4, by first | exact q2 | exact q3 | exact q4, by first | exact q2 | exact q3 | exact q4, by omega, by omega, by omega, qb⟩
  case rest =>
    obtain ⟨g1, g2, g3, rfl, hcp⟩ := hcut
    obtain ⟨x0, x1, x2, x3, _⟩ := hcp.cells
    have hB := hcp.2.2.2.2.2.2.2.2
    have HT : Hid (Rw wc 1 (.slice ab n1 cb) n1 (bs.map SV)) := Lib.hid (HN1.out ▸ (Rw.txts HB.out).below hB)
    have HV : Hid (Rw wc 2 (.slice aw n2 cw) n2 (wcells ws)) := Lib.hid (HN2.out ▸ HW.out.below hB)
    have HC := Lib.hid hcp
    clear hcp hB
    go_wp2_with (first
      | ((with_reducible show wpList _ _ _ _ _ _); refine wpList_copy_all rfl (.tmp 14) (.tmp 16) 22 22 rfl 9 Tryd.underlying22 1 size9 n1 g1 n1 (.slice ab n1 cb) rfl rfl _ HT.out (texts_one bs) A1 _ HC.out.2.2.2.1 (by rw [HS1.out]; omega) ?_; intro w1 hg1 hgr; have hcp := HC.out.one hg1 hgr; obtain ⟨y0, y1, y2, y3, _⟩ := hcp.cells; have HV1 : Hid (Rw w1 2 (.slice aw n2 cw) n2 (wcells ws)) := Lib.hid (HN2.out ▸ HW.out.below hcp.2.2.2.2.2.2.2.2); have HC1 := Lib.hid hcp; clear hcp hg1 hgr HT HC x0 x1 x2 x3)
      | ((with_reducible show wpList _ _ _ _ _ _); refine wpList_copy_all rfl (.tmp 19) (.tmp 21) 23 23 rfl 63 Tryd.underlying23 2 sizeW n2 g2 n2 (.slice aw n2 cw) rfl rfl _ HV1.out (wcells_one ws) A2 _ HC1.out.2.2.2.2.1 (by rw [HS2.out]) ?_; intro w2 hg2 hgr2; have hcp2 := HC1.out.two hg2 hgr2; obtain ⟨z0, z1, z2, z3, z4, z5, z6, z7⟩ := hcp2.cells; have HC2 := Lib.hid hcp2; clear hcp2 hg2 hgr2 HV1 HC1 y0 y1 y2 y3))
    refine ret_disk (p := 2) (by kernel_rfl) rfl (w.heap.size + 1) (.slice (some ⟨g1, 0, none⟩) n1 n1) (.slice (some ⟨g2, 0, none⟩) n2 n2) rfl (by go_simp) (by go_simp) ?_
    obtain ⟨q0, q1, q2, q3, q4, l1, l2, l3, hB⟩ := HC2.out
    have e1 := HN1.out
    have e2 := HN2.out
    have o1 : w2.ownsRow (w.heap.size + 2) 9 1 (.slice (some ⟨g1, 0, none⟩) n1 n1) n1 (bs.map SV) := own_whole q3 l1 (by simp [e1]) (by omega)
    have o2 : w2.ownsRow (w.heap.size + 2) 63 2 (.slice (some ⟨g2, 0, none⟩) n2 n2) n2 (wcells ws) := own_whole q4 l2 (by rw [wcells_len, e2]) (by omega)
    refine ⟨_, _, rfl, ⟨?_, ?_⟩, (hB.setCell (by simp) _).setCell (by simp) _⟩
    · rw [e1]
      exact own_weak (ownsRow_setCell_below (ownsRow_setCell_below o1 (by simp) _) (by simp) _) (by omega)
    · rw [e2]
      exact own_weak (ownsRow_setCell_below (ownsRow_setCell_below o2 (by simp) _) (by simp) _) (by omega)

end Go.Proofs.YtcipdmdliobdmaaDoor

/-
  disk: wait, lay: what is done to a disk behind a pointer.
-/
namespace Go.Proofs.YtcipdmdliobdmaaDoor
open Go.RowKit

/-- A disk's two cells, in a block of their own. -/
def Bx (w : World) (b : Nat) (vb vw : Value) : Prop := w.heap[b]? = some (.cells #[vb, vw] 25 (0, 0))
theorem Bx.cells {w : World} {b : Nat} {vb vw : Value} (h : Bx w b vb vw) : w.cell? ⟨b, 0, none⟩ = some vb ∧ w.cell? ⟨b, 1, none⟩ = some vw ∧ w.frozen? ⟨b, 0, none⟩ = false ∧ w.frozen? ⟨b, 1, none⟩ = false ∧ b < w.heap.size :=
  ⟨cell_of_row w b 0 _ _ _ h, cell_of_row w b 1 _ _ _ h, by unfold Bx at h; simp [World.frozen?, h], by unfold Bx at h; simp [World.frozen?, h], (Array.getElem?_eq_some_iff.1 h).1⟩
theorem Bx.not_row {w : World} {b base k : Nat} {vb vw : Value} {e : TypeId} {v : Value} {n : Nat} {xs : List Value} (h : Bx w b vb vw) (ho : w.ownsRow base e k v n xs) (he : e ≠ 25) : v.ownBlock ≠ some b := by
  intro hv
  rcases ho.2 with ⟨rfl, _⟩ | ⟨g, cap, cur, rfl, _, hg, _⟩
  · simp [Value.ownBlock] at hv
  · simp [Value.ownBlock] at hv
    subst hv
    unfold Bx at h
    rw [hg] at h
    simp at h
    exact he h.2
theorem Bx.kept {w w' : World} {b : Nat} {vb vw : Value} {row : Option Nat} (h : Bx w b vb vw) (hg : w.grownBy w' row) (hr : row ≠ some b) : Bx w' b vb vw := by
  unfold Bx at h ⊢
  rw [hg.block _ (Array.getElem?_eq_some_iff.1 h).1 (Ne.symm hr)]
  exact h
theorem Bx.below {w w' : World} {b : Nat} {vb vw : Value} (h : Bx w b vb vw) (hb : Below w.heap.size w w') : Bx w' b vb vw := h.kept (below_grown hb) (by simp)
theorem Bx.new (w : World) (vb vw : Value) : Bx (w.alloc (.cells #[vb, vw] 25)) w.heap.size vb vw := heap_alloc_new w _
theorem rows_apart {w : World} {base base' k k' : Nat} {e e' : TypeId} {v v' : Value} {n n' : Nat} {xs xs' : List Value} (h : w.ownsRow base e k v n xs) (h' : w.ownsRow base' e' k' v' n' xs') (he : e ≠ e') : v.ownBlock = none ∨ v.ownBlock ≠ v'.ownBlock := by
  rcases h.2 with ⟨rfl, _⟩ | ⟨g, cap, cur, rfl, _, hg, _⟩
  · exact .inl rfl
  · refine .inr fun hv => ?_
    rcases h'.2 with ⟨rfl, _⟩ | ⟨g', cap', cur', rfl, _, hg', _⟩
    · simp [Value.ownBlock] at hv
    · simp [Value.ownBlock] at hv
      subst hv
      rw [hg'] at hg
      simp at hg
      exact he hg.2.symm

theorem news_two (w : World) (o : Obj) (y z : Value) (t : TypeId) : ∀ j u, [y, z][j]? = some u → ((w.alloc o).alloc (.cells #[y, z] t)).drew.cell? ((⟨w.heap.size + 1, 0, none⟩ : Addr).add j) = some u := by
  intro j u hu
  have h := World.news_of_block (heap_alloc_new (w.alloc o) (.cells #[y, z] t)) j u hu
  rw [World.size_alloc] at h
  exact h

/-- Behind the append: the world is as it was but for the row. -/
theorem wait_end {w : World} {base Bc : Nat} {vb vw : Value} {bs : List (List UInt8)} {ws : List Wr} {x : Wr} {o1 o2 : Obj} {w1 : World} {v' : Value} (hbx : Bx w Bc vb vw) (ho : OwnD w base vb bs vw ws) (hb1 : base ≤ w.heap.size) (hb2 : base ≤ Bc)
    (hown : w1.ownsRow base 63 2 v' (ws.length + 1) (wcells ws ++ wcell x)) (hg : ((w.alloc o1).alloc o2).drew.grownBy w1 vw.ownBlock) :
    Bx w1 Bc vb vw ∧ (Bx (w1.setCell ⟨Bc, 1, none⟩ v') Bc vb v' ∧ OwnD (w1.setCell ⟨Bc, 1, none⟩ v') base vb bs v' (ws ++ [x]) ∧ Below base w (w1.setCell ⟨Bc, 1, none⟩ v')) := by
  have hB0 : Below w.heap.size w ((w.alloc o1).alloc o2).drew := below2 (below_alloc2 w o1 o2) (drew_below _)
  have hx0 := hbx.below hB0
  have o2' := own_stays ho.1 hB0
  have o3' := own_stays ho.2 hB0
  have hx1 : Bx w1 Bc vb vw := hx0.kept hg (hx0.not_row o3' (by decide))
  have ob : w1.ownsRow base 9 1 vb bs.length (bs.map SV) := o2'.kept hg (rows_apart o2' o3' (by decide))
  refine ⟨hx1, ?_, ⟨?_, ?_⟩, ?_⟩
  · have := heap_setCell_same w1 Bc 1 _ _ v' hx1
    exact this
  · exact ownsRow_setCell_other ob (by simpa using hx1.not_row ob (by decide)) _
  · have h1 := ownsRow_setCell_other hown (a := ⟨Bc, 1, none⟩) (by simpa using hx1.not_row hown (by decide)) v'
    rw [wcells_append]
    simpa [wcells] using h1
  · have hB1 : Below base w ((w.alloc o1).alloc o2).drew := ((((Below.refl base w).alloc hb1 _).alloc (by simp; omega) _).drew)
    exact (hB1.grown hg (by simp; omega) (fun k e => (o3'.lt k e).1)).setCell hb2 _

set_option maxRecDepth 100000 in
set_option maxHeartbeats 4000000 in
theorem wait_calls (w : World) (base Bc : Nat) (vb vw : Value) (bs : List (List UInt8)) (ws : List Wr) (x : Wr) (hbx : Bx w Bc vb vw) (ho : OwnD w base vb bs vw ws) (hb1 : base ≤ w.heap.size) (hb2 : base ≤ Bc) (hl : ws.length ≤ 1000) :
    Calls Tryd.prog 50 #[.pointer (some ⟨Bc, 0, none⟩), .agg #[.int .i64 x.1, .string ⟨x.2.toArray⟩]] w fun e w' => ∃ vw', e = .returned (.tuple #[]) ∧ Bx w' Bc vb vw' ∧ OwnD w' base vb bs vw' (ws ++ [x]) ∧ Below base w w' := by
  obtain ⟨i0, hi, hz0, hz1, hz2⟩ := info_parts infoW
  obtain ⟨a, s⟩ := x
  obtain ⟨hc0, hc1, hf0, hf1, hlt⟩ := hbx.cells
  have HX := Lib.hid hbx
  have HO := Lib.hid ho
  clear hbx ho
  obtain ⟨aw, cw, rfl⟩ := (Wrs.own HO.out.2).form
  obtain ⟨ab, cb, rfl⟩ := (Txts.own HO.out.1).strs.form
  go_enter Tryd.func50, Tryd.ntmps50
  go_wp2_with fail
  have hW := Lib.hid (fun (w1 : World) (v' : Value) => wait_end (w1 := w1) (v' := v') (x := (a, s)) (o1 := .cells #[.int .i64 a, .string ⟨s.toArray⟩] 63) (o2 := .cells #[.int .i64 a, .string ⟨s.toArray⟩] 63) HX.out HO.out hb1 hb2)
  have hownW : Hid ((((w.alloc (.cells #[.int .i64 a, .string ⟨s.toArray⟩] 63)).alloc (.cells #[.int .i64 a, .string ⟨s.toArray⟩] 63)).drew).ownsRow base 63 2 (.slice aw ws.length cw) ws.length (wcells ws)) := Lib.hid (own_stays HO.out.2 (below2 (below_alloc2 w _ _) (drew_below _)))
  have hnewsW := Lib.hid (news_two w (.cells #[.int .i64 a, .string ⟨s.toArray⟩] 63) (.int .i64 a) (.string ⟨s.toArray⟩) 63)
  go_region_law (refine step_append_lies _ rfl (.tmp 8) (.tmp 10) 23 rfl base 63 i0 (.agg #[.int .i64 0, .string ⟨#[]⟩]) 2 24 Tryd.underlying23 hi hz0 hz1 hz2 rfl (by decide) (.slice aw ws.length cw) ws.length (wcells ws) (by simp [Act.eval]) hownW.out ⟨w.heap.size + 1, 0, none⟩ 1 1 [.int .i64 a, .string ⟨s.toArray⟩] (by simp [Act.eval]) rfl hnewsW.out (by simp [Value.oneCell']) (by omega) (by unfold maxLen; omega) (by omega) (by simp; omega) (w.heap.size + 2) (by simp) ?_; intro g cap w1 hown' hgrow hg hlt1; have HE := Lib.hid (hW.out _ _ hown' hgrow); have hbx1 := HE.out.1; obtain ⟨hd0, hd1, hg0, hg1, _⟩ := hbx1.cells; clear hown' hgrow)
  all_goals
    go_wp2_with fail
    go_end0
    exact ⟨_, rfl, HE.out.2⟩

/-- Behind the store: the block has the text. -/
theorem lay_end {w : World} {base Bc : Nat} {vb vw : Value} {bs : List (List UInt8)} {ws : List Wr} {k : Nat} {s : List UInt8} {o1 : Obj} {g cap : Nat} (hv : vb = .slice (some ⟨g, 0, none⟩) bs.length cap) (hbx : Bx w Bc vb vw) (ho : OwnD w base vb bs vw ws) (hb1 : base ≤ w.heap.size) :
    Bx ((w.setCell ⟨g, k, none⟩ (.string ⟨s.toArray⟩)).alloc o1).drew Bc vb vw ∧ OwnD ((w.setCell ⟨g, k, none⟩ (.string ⟨s.toArray⟩)).alloc o1).drew base vb (bs.set k s) vw ws ∧ Below base w ((w.setCell ⟨g, k, none⟩ (.string ⟨s.toArray⟩)).alloc o1).drew := by
  subst hv
  obtain ⟨s1, s2⟩ := ho.1.stored k (.string ⟨s.toArray⟩)
  have hbg := (ho.1.lt g rfl).1
  have hx1 := hbx.kept s2 (hbx.not_row ho.1 (by decide))
  have hB0 : Below (w.setCell ⟨g, k, none⟩ (.string ⟨s.toArray⟩)).heap.size (w.setCell ⟨g, k, none⟩ (.string ⟨s.toArray⟩)) ((w.setCell ⟨g, k, none⟩ (.string ⟨s.toArray⟩)).alloc o1).drew := below2 (below_alloc _ o1) (drew_below _)
  refine ⟨hx1.below hB0, ⟨own_stays ?_ hB0, own_stays (ho.2.kept s2 (rows_apart ho.2 ho.1 (by decide))) hB0⟩, (((Below.refl base w).setCell (by simpa using hbg) _).alloc (by simpa using hb1) _).drew⟩
  have e : (bs.set k s).map SV = (bs.map SV).set k (.string ⟨s.toArray⟩) := by rw [List.map_set]; rfl
  rw [e]
  simpa using s1

set_option maxRecDepth 100000 in
set_option maxHeartbeats 4000000 in
theorem lay_calls (w : World) (base Bc : Nat) (vb vw : Value) (bs : List (List UInt8)) (ws : List Wr) (x : Wr) (hbx : Bx w Bc vb vw) (ho : OwnD w base vb bs vw ws) (hb1 : base ≤ w.heap.size) (hx : hasB bs.length x.1 = true) :
    Calls Tryd.prog 39 #[.pointer (some ⟨Bc, 0, none⟩), .agg #[.int .i64 x.1, .string ⟨x.2.toArray⟩]] w fun e w' => e = .returned (.tuple #[]) ∧ Bx w' Bc vb vw ∧ OwnD w' base vb (bs.set x.1.toNat x.2) vw ws ∧ Below base w w' := by
  obtain ⟨a, s⟩ := x
  have ha : 0 ≤ a ∧ a < bs.length := by simpa [hasB] using hx
  obtain ⟨k, rfl⟩ : ∃ k : Nat, a = (k : Int) := ⟨a.toNat, by omega⟩
  have hk : k < bs.length := by omega
  obtain ⟨g, cap, rfl⟩ : ∃ g cap, vb = .slice (some ⟨g, 0, none⟩) bs.length cap := by
    obtain ⟨g, cap, h, _⟩ := ho.1.form (by omega)
    exact ⟨g, cap, h⟩
  obtain ⟨hc0, hc1, hf0, hf1, hlt⟩ := hbx.cells
  obtain ⟨aw, cw, rfl⟩ := (Wrs.own ho.2).form
  have hce : w.cell? ⟨g, k, none⟩ = some (.string ⟨bs[k].toArray⟩) := by
    rw [ho.1.cellAt k (by omega)]; simp [List.getElem?_eq_getElem hk, SV]
  have hfe := ho.1.frozenAt k
  have hgl := (ho.1.lt g rfl).2
  have HE := Lib.hid (lay_end (s := s) (o1 := .cells #[.int .i64 k, .string ⟨s.toArray⟩] 63) (k := k) rfl hbx ho hb1)
  generalize bs[k] = old at hce
  clear hbx ho hx ha
  go_enter Tryd.func39, Tryd.ntmps39
  go_wp2_with fail
  go_region
  all_goals
    go_wp2_with fail
    go_end0
    exact ⟨rfl, HE.out⟩

end Go.Proofs.YtcipdmdliobdmaaDoor

/-
  disk: after: a copy of a disk to which the writes are done.
-/
namespace Go.Proofs.YtcipdmdliobdmaaDoor
open Go.RowKit

/-- The writes become their blocks' texts, in their order. -/
def layL (bs : List (List UInt8)) (xs : List Wr) : List (List UInt8) := xs.foldl (fun b x => b.set x.1.toNat x.2) bs
theorem layL_len (bs : List (List UInt8)) (xs : List Wr) : (layL bs xs).length = bs.length := by
  unfold layL
  induction xs generalizing bs with
  | nil => rfl
  | cons x r ih => simp only [List.foldl_cons]; rw [ih]; simp
theorem layL_snoc (bs : List (List UInt8)) (xs : List Wr) (x : Wr) : layL bs (xs ++ [x]) = (layL bs xs).set x.1.toNat x.2 := by simp [layL]
theorem layL_append (bs : List (List UInt8)) (xs ys : List Wr) : layL bs (xs ++ ys) = layL (layL bs xs) ys := by simp [layL]

/-- The disk behind k writes that are laid. -/
def LayAt (w w1 wr : World) (base : Nat) (bs : List (List UInt8)) (ws xs : List Wr) (k : Nat) : Prop :=
  ∃ vb vw, Bx wr w1.heap.size vb vw ∧ OwnD wr base vb (layL bs (xs.take k)) vw ws ∧ Bx wr (w.heap.size + 1) (.slice none 0 0) (.slice none 0 0) ∧ Below w.heap.size w wr
/-- The disk behind k writes that wait. -/
def WaitAt (w w1 wr : World) (base : Nat) (bs : List (List UInt8)) (ws xs : List Wr) (k : Nat) : Prop :=
  ∃ vb vw, Bx wr w1.heap.size vb vw ∧ OwnD wr base vb bs vw (ws ++ xs.take k) ∧ Bx wr (w.heap.size + 1) (.slice none 0 0) (.slice none 0 0) ∧ Below w.heap.size w wr

set_option maxRecDepth 100000 in
set_option maxHeartbeats 4000000 in
theorem after_lay_calls (vb vw v : Value) (bs : List (List UInt8)) (ws xs : List Wr) (w : World) (hb : Txts w vb bs) (hw : Wrs w vw ws) (hx : Wrs w v xs) (hbl : bs.length ≤ 1000) (hwl : ws.length ≤ 400) (hxl : xs.length ≤ 400) (hok : ∀ y ∈ xs, hasB bs.length y.1 = true) :
    Calls Tryd.prog 37 #[.agg #[vb, vw], .func (.func 39) #[] #[], v] w fun e w' => ∃ vb' vw', e = .returned (.agg #[vb', vw']) ∧ OwnD w' w.heap.size vb' (layL bs xs) vw' (ws) ∧ Below w.heap.size w w' := by
  obtain ⟨ab, cb, rfl⟩ := hb.strs.form
  obtain ⟨aw, cw, rfl⟩ := hw.form
  obtain ⟨ax, cx, rfl⟩ := hx.form
  have HX := Lib.hid hx
  have hB0 := below_alloc2 w (.cells #[.slice ab bs.length cb, .slice aw ws.length cw] 25) (.cells #[.slice none 0 0, .slice none 0 0] 25)
  have CC := copied_calls _ _ bs ws _ (hb.below hB0) (hw.below hB0) (by omega) (by omega)
  have hr0 : Bx ((w.alloc (.cells #[.slice ab bs.length cb, .slice aw ws.length cw] 25)).alloc (.cells #[.slice none 0 0, .slice none 0 0] 25)) (w.heap.size + 1) (.slice none 0 0) (.slice none 0 0) := by
    have h := Bx.new (w.alloc (.cells #[.slice ab bs.length cb, .slice aw ws.length cw] 25)) (.slice none 0 0) (.slice none 0 0)
    rw [World.size_alloc] at h
    exact h
  have HR := Lib.hid hr0
  clear hb hw hx hr0
  go_enter Tryd.func37, Tryd.ntmps37
  go_wp2_with fail
  refine CC.mono ?_
  rintro e w1 ⟨vb1, vw1, rfl, ho1, hB1⟩
  have hr1 := Lib.hid (HR.out.below hB1)
  have hB2 := below2 hB0 hB1
  have hsz : w.heap.size + 1 + 1 ≤ w1.heap.size := by have := hB1.size; simp at this; omega
  obtain ⟨aw1, cw1, rfl⟩ := (Wrs.own ho1.2).form
  obtain ⟨ab1, cb1, rfl⟩ := (Txts.own ho1.1).strs.form
  have HO1 := Lib.hid ho1
  clear CC HR ho1 hB1
  go_wp2_with fail
  go_loopw [14] (fun i wr => ∃ k : Nat, k ≤ xs.length ∧ i = .int .i64 k ∧ LayAt w w1 wr (w.heap.size + 1 + 1) bs ws xs k) (fun i _ => xs.length - (intOf i).toNat)
  case atStart =>
    have hB3 := below_alloc w1 (.cells #[.slice ab1 bs.length cb1, .slice aw1 ws.length cw1] 25)
    refine ⟨0, Nat.zero_le _, rfl, _, _, Bx.new w1 _ _, ?_, hr1.out.below hB3, below2 hB2 hB3⟩
    have h := HO1.out
    simp only [World.size_alloc] at h
    exact ⟨own_stays (by simpa [layL] using h.1) hB3, own_stays (by simpa using h.2) hB3⟩
  case round =>
    obtain ⟨k, hk, rfl, hat⟩ := hrel
    obtain ⟨vb2, vw2, hx2, ho2, hr2, hB3⟩ := hat
    obtain ⟨hc0, hc1, hf0, hf1, hlt⟩ := hx2.cells
    obtain ⟨hd0, hd1, hg0, hg1, hlt2⟩ := hr2.cells
    by_cases hkl : k < xs.length
    · obtain ⟨b, off, rfl, he0, he1⟩ := (HX.out.below hB3).at hkl
      obtain ⟨⟨a, s⟩, hxk⟩ : ∃ y, xs[k] = y := ⟨_, rfl⟩
      rw [hxk] at he0 he1
      have hxs := Lib.hid (show xs.take (k + 1) = xs.take k ++ [(a, s)] by rw [List.take_succ_eq_append_getElem hkl, hxk])
      have hBa := below_alloc wr (.cells #[.int .i64 a, .string ⟨s.toArray⟩] 63)
      have DC := lay_calls _ (w.heap.size + 1 + 1) w1.heap.size vb2 vw2 _ ws (a, s) (hx2.below hBa) ⟨own_stays ho2.1 hBa, own_stays ho2.2 hBa⟩ (by simp; omega) (by rw [layL_len]; exact hok _ (hxk ▸ List.getElem_mem hkl))
      have HR2 := Lib.hid (hr2.below hBa)
      have HB3 := Lib.hid (below2 hB3 hBa)
      clear hx2 ho2 hr2 hxk hBa hB3
      go_wp2_with fail
      refine DC.mono ?_
      rintro e w4 ⟨rfl, hx4, ho4, hB4⟩
      go_wp2_with fail
      go_roundw
      case rel =>
        refine ⟨k + 1, by omega, by go_num, _, _, hx4, by rw [hxs.out]; rw [layL_snoc]; exact ho4, ?_, ?_⟩
        · have h := HR2.out
          unfold Bx at h ⊢
          rw [hB4.block _ (by omega)]
          exact h
        · exact HB3.out.trans (hB4.mono (by omega))
      case measure => simp [intOf]; omega
    · obtain rfl : k = xs.length := by omega
      have ho3 : OwnD wr (w.heap.size + 1 + 1) vb2 (layL bs xs) vw2 (ws) := by simpa using ho2
      obtain ⟨aw3, cw3, hv3⟩ := (Wrs.own ho3.2).form
      obtain ⟨ab3, cb3, hv4⟩ := (Txts.own ho3.1).strs.form
      subst hv3 hv4
      have HO3 := Lib.hid ho3
      clear ho2 ho3 hx2 hr2
      go_wp2_with fail
      refine ret_disk (p := 6) (by kernel_rfl) rfl (w.heap.size + 1) (.slice ab3 (layL bs xs).length cb3) (.slice aw3 (ws).length cw3) rfl (by go_simp) (by go_simp) ?_
      exact ⟨_, _, rfl, ⟨own_weak (ownsRow_setCell_below (ownsRow_setCell_below HO3.out.1 (by simp) _) (by simp) _) (by omega), own_weak (ownsRow_setCell_below (ownsRow_setCell_below HO3.out.2 (by simp) _) (by simp) _) (by omega)⟩, (hB3.setCell (by simp) _).setCell (by simp) _⟩

set_option maxRecDepth 100000 in
set_option maxHeartbeats 4000000 in
theorem after_wait_calls (vb vw v : Value) (bs : List (List UInt8)) (ws xs : List Wr) (w : World) (hb : Txts w vb bs) (hw : Wrs w vw ws) (hx : Wrs w v xs) (hbl : bs.length ≤ 1000) (hwl : ws.length ≤ 400) (hxl : xs.length ≤ 400) :
    Calls Tryd.prog 37 #[.agg #[vb, vw], .func (.func 50) #[] #[], v] w fun e w' => ∃ vb' vw', e = .returned (.agg #[vb', vw']) ∧ OwnD w' w.heap.size vb' (bs) vw' (ws ++ xs) ∧ Below w.heap.size w w' := by
  obtain ⟨ab, cb, rfl⟩ := hb.strs.form
  obtain ⟨aw, cw, rfl⟩ := hw.form
  obtain ⟨ax, cx, rfl⟩ := hx.form
  have HX := Lib.hid hx
  have hB0 := below_alloc2 w (.cells #[.slice ab bs.length cb, .slice aw ws.length cw] 25) (.cells #[.slice none 0 0, .slice none 0 0] 25)
  have CC := copied_calls _ _ bs ws _ (hb.below hB0) (hw.below hB0) (by omega) (by omega)
  have hr0 : Bx ((w.alloc (.cells #[.slice ab bs.length cb, .slice aw ws.length cw] 25)).alloc (.cells #[.slice none 0 0, .slice none 0 0] 25)) (w.heap.size + 1) (.slice none 0 0) (.slice none 0 0) := by
    have h := Bx.new (w.alloc (.cells #[.slice ab bs.length cb, .slice aw ws.length cw] 25)) (.slice none 0 0) (.slice none 0 0)
    rw [World.size_alloc] at h
    exact h
  have HR := Lib.hid hr0
  clear hb hw hx hr0
  go_enter Tryd.func37, Tryd.ntmps37
  go_wp2_with fail
  refine CC.mono ?_
  rintro e w1 ⟨vb1, vw1, rfl, ho1, hB1⟩
  have hr1 := Lib.hid (HR.out.below hB1)
  have hB2 := below2 hB0 hB1
  have hsz : w.heap.size + 1 + 1 ≤ w1.heap.size := by have := hB1.size; simp at this; omega
  obtain ⟨aw1, cw1, rfl⟩ := (Wrs.own ho1.2).form
  obtain ⟨ab1, cb1, rfl⟩ := (Txts.own ho1.1).strs.form
  have HO1 := Lib.hid ho1
  clear CC HR ho1 hB1
  go_wp2_with fail
  go_loopw [14] (fun i wr => ∃ k : Nat, k ≤ xs.length ∧ i = .int .i64 k ∧ WaitAt w w1 wr (w.heap.size + 1 + 1) bs ws xs k) (fun i _ => xs.length - (intOf i).toNat)
  case atStart =>
    have hB3 := below_alloc w1 (.cells #[.slice ab1 bs.length cb1, .slice aw1 ws.length cw1] 25)
    refine ⟨0, Nat.zero_le _, rfl, _, _, Bx.new w1 _ _, ?_, hr1.out.below hB3, below2 hB2 hB3⟩
    have h := HO1.out
    simp only [World.size_alloc] at h
    exact ⟨own_stays (by simpa [layL] using h.1) hB3, own_stays (by simpa using h.2) hB3⟩
  case round =>
    obtain ⟨k, hk, rfl, hat⟩ := hrel
    obtain ⟨vb2, vw2, hx2, ho2, hr2, hB3⟩ := hat
    obtain ⟨hc0, hc1, hf0, hf1, hlt⟩ := hx2.cells
    obtain ⟨hd0, hd1, hg0, hg1, hlt2⟩ := hr2.cells
    by_cases hkl : k < xs.length
    · obtain ⟨b, off, rfl, he0, he1⟩ := (HX.out.below hB3).at hkl
      obtain ⟨⟨a, s⟩, hxk⟩ : ∃ y, xs[k] = y := ⟨_, rfl⟩
      rw [hxk] at he0 he1
      have hxs := Lib.hid (show xs.take (k + 1) = xs.take k ++ [(a, s)] by rw [List.take_succ_eq_append_getElem hkl, hxk])
      have hBa := below_alloc wr (.cells #[.int .i64 a, .string ⟨s.toArray⟩] 63)
      have DC := wait_calls _ (w.heap.size + 1 + 1) w1.heap.size vb2 vw2 bs _ (a, s) (hx2.below hBa) ⟨own_stays ho2.1 hBa, own_stays ho2.2 hBa⟩ (by simp; omega) hsz (by simp; omega)
      have HR2 := Lib.hid (hr2.below hBa)
      have HB3 := Lib.hid (below2 hB3 hBa)
      clear hx2 ho2 hr2 hxk hBa hB3
      go_wp2_with fail
      refine DC.mono ?_
      rintro e w4 ⟨vw4, rfl, hx4, ho4, hB4⟩
      go_wp2_with fail
      go_roundw
      case rel =>
        refine ⟨k + 1, by omega, by go_num, _, _, hx4, by rw [hxs.out]; simpa using ho4, ?_, ?_⟩
        · have h := HR2.out
          unfold Bx at h ⊢
          rw [hB4.block _ (by omega)]
          exact h
        · exact HB3.out.trans (hB4.mono (by omega))
      case measure => simp [intOf]; omega
    · obtain rfl : k = xs.length := by omega
      have ho3 : OwnD wr (w.heap.size + 1 + 1) vb2 (bs) vw2 (ws ++ xs) := by simpa using ho2
      obtain ⟨aw3, cw3, hv3⟩ := (Wrs.own ho3.2).form
      obtain ⟨ab3, cb3, hv4⟩ := (Txts.own ho3.1).strs.form
      subst hv3 hv4
      have HO3 := Lib.hid ho3
      clear ho2 ho3 hx2 hr2
      go_wp2_with fail
      refine ret_disk (p := 6) (by kernel_rfl) rfl (w.heap.size + 1) (.slice ab3 (bs).length cb3) (.slice aw3 (ws ++ xs).length cw3) rfl (by go_simp) (by go_simp) ?_
      exact ⟨_, _, rfl, ⟨own_weak (ownsRow_setCell_below (ownsRow_setCell_below HO3.out.1 (by simp) _) (by simp) _) (by omega), own_weak (ownsRow_setCell_below (ownsRow_setCell_below HO3.out.2 (by simp) _) (by simp) _) (by omega)⟩, (hB3.setCell (by simp) _).setCell (by simp) _⟩

end Go.Proofs.YtcipdmdliobdmaaDoor

/-
  disk: kept: the writes that a crash leaves.
-/
namespace Go.Proofs.YtcipdmdliobdmaaDoor
open Go.RowKit

/-- The slice v reads as these bools. -/
def Bools (w : World) (v : Value) (ks : List Bool) : Prop := Rw w 1 v ks.length (ks.map Value.bool)
theorem Bools.below {w w' : World} {v : Value} {ks : List Bool} (h : Bools w v ks) (hb : Below w.heap.size w w') : Bools w' v ks := Rw.below h hb
theorem Bools.form {w : World} {v : Value} {ks : List Bool} (h : Bools w v ks) : ∃ ao cap, v = .slice ao ks.length cap := Rw.form h
theorem Bools.nil (w : World) : Bools w (.slice none 0 0) [] := Rw.nil w 1
theorem Bools.at {w : World} {ao : Option Addr} {n cap : Nat} {ks : List Bool} (h : Bools w (.slice ao n cap) ks) {k : Nat} (hk : k < ks.length) : ∃ b off, ao = some ⟨b, off, none⟩ ∧ w.cell? ⟨b, off + k, none⟩ = some (.bool ks[k]) := by
  obtain ⟨hl, ao', cap', he, _, hc⟩ := h
  cases he
  rcases hc with h0 | ⟨b, off, rfl, hc⟩
  · omega
  · exact ⟨b, off, rfl, by rw [hc k (by simpa using hk)]; simp⟩

/-- The writes at whose place keep has true. -/
def keptL : List Wr → List Bool → List Wr
  | x :: r, b :: q => if b then x :: keptL r q else keptL r q
  | _, _ => []
/-- The writes among the first k that are kept. -/
def keptTo (ws : List Wr) (ks : List Bool) (k : Nat) : List Wr := keptL (ws.take k) ks
theorem keptL_nil (ws : List Wr) : keptL ws [] = [] := by cases ws <;> rfl
theorem keptL_le (ws : List Wr) (ks : List Bool) : (keptL ws ks).length ≤ ws.length := by
  induction ws generalizing ks with
  | nil => simp [keptL]
  | cons x r ih =>
    cases ks with
    | nil => simp [keptL]
    | cons b q =>
      have := ih q
      cases b <;> simp [keptL] <;> omega
theorem keptL_mem {x : Wr} {ws : List Wr} {ks : List Bool} (h : x ∈ keptL ws ks) : x ∈ ws := by
  induction ws generalizing ks with
  | nil => simp [keptL] at h
  | cons y r ih =>
    cases ks with
    | nil => simp [keptL] at h
    | cons b q =>
      cases b
      · exact List.mem_cons_of_mem _ (ih (ks := q) (by simpa [keptL] using h))
      · rcases List.mem_cons.1 (show x ∈ y :: keptL r q by simpa [keptL] using h) with rfl | h'
        · exact List.mem_cons_self
        · exact List.mem_cons_of_mem _ (ih h')
theorem keptTo_le (ws : List Wr) (ks : List Bool) (k : Nat) : (keptTo ws ks k).length ≤ k := by
  have h1 := keptL_le (ws.take k) ks
  have h2 := List.length_take_le k ws
  unfold keptTo
  omega
theorem keptTo_zero (ws : List Wr) (ks : List Bool) : keptTo ws ks 0 = [] := by cases ks <;> rfl
theorem keptTo_all (ws : List Wr) (ks : List Bool) : keptTo ws ks ws.length = keptL ws ks := by simp [keptTo]
/-- The one more write. -/
theorem keptTo_succ (ws : List Wr) (ks : List Bool) (k : Nat) (h : k < ws.length) : keptTo ws ks (k + 1) = keptTo ws ks k ++ (if ks[k]? = some true then [ws[k]] else []) := by
  unfold keptTo
  induction ws generalizing ks k with
  | nil => simp at h
  | cons x r ih =>
    cases k with
    | zero =>
      cases ks with
      | nil => simp [keptL]
      | cons b q => cases b <;> simp [keptL]
    | succ k =>
      cases ks with
      | nil => simp [keptL]
      | cons b q =>
        have h1 := ih q k (by simpa using h)
        cases b
        · simpa [keptL] using h1
        · simp [keptL]
          simpa using h1

theorem infoWr : (Tryd.prog.info? 63).map (fun i => (i.zero, i.size, i.bytes)) = some (some (.agg #[.int .i64 0, .string ⟨#[]⟩]), 2, 24) := by kernel_rfl

set_option maxRecDepth 100000 in
set_option maxHeartbeats 4000000 in
theorem kept_calls (vw vk : Value) (ws : List Wr) (ks : List Bool) (w : World) (hw : Wrs w vw ws) (hk : Bools w vk ks) (hwl : ws.length ≤ 1000) :
    Calls Tryd.prog 40 #[vw, vk] w fun e w' => ∃ v, e = .returned v ∧ w'.ownsRow w.heap.size 63 2 v (keptL ws ks).length (wcells (keptL ws ks)) ∧ Below w.heap.size w w' := by
  obtain ⟨i0, hi, hz0, hz1, hz2⟩ := info_parts infoWr
  obtain ⟨aw, cw, rfl⟩ := hw.form
  obtain ⟨ak, ck, rfl⟩ := hk.form
  have HW := Lib.hid hw
  have HK := Lib.hid hk
  clear hw hk
  go_enter Tryd.func40, Tryd.ntmps40
  go_wp2_with fail
  go_loopw [5, 10] (fun v i wr => ∃ k : Nat, k ≤ ws.length ∧ i = .int .i64 k ∧ wr.ownsRow w.heap.size 63 2 v (keptTo ws ks k).length (wcells (keptTo ws ks k)) ∧ Below w.heap.size w wr) (fun _ i _ => ws.length - (intOf i).toNat)
  case atStart => exact ⟨0, Nat.zero_le _, rfl, by rw [keptTo_zero]; exact World.ownsRow_nil _ _ _ _, Below.refl _ _⟩
  case round =>
    obtain ⟨k, hkl, rfl, hown, hB⟩ := hrel
    by_cases hlt : k < ws.length
    · obtain ⟨b, off, rfl, hc0, hc1⟩ := (HW.out.below hB).at hlt
      obtain ⟨⟨a, s⟩, hx⟩ : ∃ y, ws[k] = y := ⟨_, rfl⟩
      rw [hx] at hc0 hc1
      have hbl := World.block_lt_of_cell? wr _ hc0
      have hkt := keptTo_le ws ks k
      have HS := Lib.hid (keptTo_succ ws ks k hlt)
      have HX := Lib.hid hx
      have hBa := hB.alloc (by have := hB.size; omega) (.cells #[.int .i64 a, .string ⟨s.toArray⟩] 63)
      by_cases hq : ks[k]? = some true
      · have hkk : k < ks.length := by
          rcases Nat.lt_or_ge k ks.length with h | h
          · exact h
          · rw [List.getElem?_eq_none h] at hq; cases hq
        obtain ⟨bk, offk, rfl, hck⟩ := (HK.out.below hB).at hkk
        have hbk : ks[k] = true := by rw [List.getElem?_eq_getElem hkk] at hq; simpa using hq
        rw [hbk] at hck
        have hbkl := World.block_lt_of_cell? wr _ hck
        have e3 : keptTo ws ks (k + 1) = keptTo ws ks k ++ [(a, s)] := by rw [HS.out, if_pos hq, HX.out]
        have H3 := Lib.hid e3
        clear e3 hq hx hbk
        have HN := Lib.hid (news_row wr (.cells #[.int .i64 a, .string ⟨s.toArray⟩] 63) (.int .i64 a) (.string ⟨s.toArray⟩) 63)
        go_wp2_with (at_builtin; refine wpList_append_own _ rfl (.tmp 25) (.tmp 27) 23 rfl w.heap.size 63 i0 (.agg #[.int .i64 0, .string ⟨#[]⟩]) 2 24 Tryd.underlying23 hi hz0 hz1 hz2 rfl (by decide) _ _ _ rfl ((hown.alloc _).alloc _) ⟨wr.heap.size + 1, 0, none⟩ 1 1 [.int .i64 a, .string ⟨s.toArray⟩] rfl rfl HN.out (by simp [Value.oneCell']) (by unfold maxLen; omega) (by omega) (by have := hB.size; simp; omega) ?_; intro v3 w3 hown3 hg3 _)
        go_roundw
        case rel =>
          refine ⟨k + 1, by omega, by go_num, ?_, ((hBa.alloc (by have := hB.size; simp; omega) _).grown hg3 (by have := hB.size; simp; omega) (fun j e => (hown.lt j e).1))⟩
          rw [H3.out, wcells_append]
          simpa [wcells, wcell, SV] using hown3
        case measure => simp [intOf]; omega
      · have e3 : keptTo ws ks (k + 1) = keptTo ws ks k := by rw [HS.out, if_neg hq]; simp
        have H3 := Lib.hid e3
        have hown2 := Lib.hid (hown.alloc (.cells #[.int .i64 a, .string ⟨s.toArray⟩] 63))
        by_cases hkk : k < ks.length
        · obtain ⟨bk, offk, rfl, hck⟩ := (HK.out.below hB).at hkk
          have hbk : ks[k] = false := by rw [List.getElem?_eq_getElem hkk] at hq; simpa using hq
          rw [hbk] at hck
          have hbkl := World.block_lt_of_cell? wr _ hck
          clear e3 hq hx hbk hown
          go_wp2_with fail
          go_roundw
          case rel => exact ⟨k + 1, by omega, by go_num, by rw [H3.out]; exact hown2.out, hBa⟩
          case measure => simp [intOf]; omega
        · clear e3 hq hx hown
          go_wp2_with fail
          go_roundw
          case rel => exact ⟨k + 1, by omega, by go_num, by rw [H3.out]; exact hown2.out, hBa⟩
          case measure => simp [intOf]; omega
    · obtain rfl : k = ws.length := by omega
      rw [keptTo_all] at hown
      have HO := Lib.hid hown
      clear hown
      go_wp2_with fail
      go_ret
      exact ⟨_, rfl, HO.out, hB⟩

end Go.Proofs.YtcipdmdliobdmaaDoor

/-
  What the calls on a disk answer; what is laid where a disk is handed in and another one comes out.
-/
namespace Go.Proofs.YtcipdmdliobdmaaDoor
open Go.RowKit

def writeE (bs : List (List UInt8)) (ws : List Wr) (i : Int) (s : List UInt8) : Int :=
  if rightB bs ws = true then (if hasB bs.length i = true then (if s.length ≤ 256 then (if ws.length < 100 then 0 else 41) else 1) else 40) else 1
def writeBs (bs : List (List UInt8)) (ws : List Wr) (i : Int) (s : List UInt8) : List (List UInt8) := if writeE bs ws i s = 0 then bs else []
def writeWs (bs : List (List UInt8)) (ws : List Wr) (i : Int) (s : List UInt8) : List Wr := if writeE bs ws i s = 0 then ws ++ [(i, s)] else []
def syncE (bs : List (List UInt8)) (ws : List Wr) : Int := if rightB bs ws = true then 0 else 1
def syncBs (bs : List (List UInt8)) (ws : List Wr) : List (List UInt8) := if rightB bs ws = true then layL bs ws else []
def crashBs (bs : List (List UInt8)) (ws : List Wr) (ks : List Bool) : List (List UInt8) := if rightB bs ws = true then layL bs (keptL ws ks) else []
/-- What a block says: the text of the last one that waits for it. -/
def saysL (bs : List (List UInt8)) (ws : List Wr) (i : Int) : List UInt8 := (layL bs ws).getD i.toNat []
def readE (bs : List (List UInt8)) (ws : List Wr) (i : Int) : Int := if rightB bs ws = true then (if hasB bs.length i = true then 0 else 40) else 1
def readT (bs : List (List UInt8)) (ws : List Wr) (i : Int) : List UInt8 := if readE bs ws i = 0 then saysL bs ws i else []

theorem right_parts {bs : List (List UInt8)} {ws : List Wr} (h : rightB bs ws = true) : 1 ≤ bs.length ∧ bs.length ≤ 200 ∧ ws.length ≤ 100 ∧ (∀ s ∈ bs, s.length ≤ 256) ∧ ∀ x ∈ ws, hasB bs.length x.1 = true ∧ x.2.length ≤ 256 := by
  simp only [rightB, Bool.and_eq_true, decide_eq_true_eq, List.all_eq_true] at h
  obtain ⟨⟨⟨⟨h1, h2⟩, h3⟩, h4⟩, h5⟩ := h
  refine ⟨h1, h2, h3, fun s hs => by simpa [blockB] using h4 s hs, fun x hx => ?_⟩
  have := h5 x hx
  simpa [writeB, blockB] using this

theorem nil_own (w : World) (B : Nat) : OwnD w B (.slice none 0 0) [] (.slice none 0 0) [] := ⟨World.ownsRow_nil _ _ _ _, World.ownsRow_nil _ _ _ _⟩
/-- The two boxes at a call's beginning: the disk that came in, and the one that goes out. -/
theorem entry2 (w : World) (vb vw : Value) : Bx ((w.alloc (.cells #[vb, vw] 25)).alloc (.cells #[.slice none 0 0, .slice none 0 0] 25)) w.heap.size vb vw ∧
    Bx ((w.alloc (.cells #[vb, vw] 25)).alloc (.cells #[.slice none 0 0, .slice none 0 0] 25)) (w.heap.size + 1) (.slice none 0 0) (.slice none 0 0) ∧
    Below w.heap.size w ((w.alloc (.cells #[vb, vw] 25)).alloc (.cells #[.slice none 0 0, .slice none 0 0] 25)) := by
  refine ⟨(Bx.new w vb vw).below (below_alloc _ _), ?_, below_alloc2 w _ _⟩
  have h := Bx.new (w.alloc (.cells #[vb, vw] 25)) (.slice none 0 0) (.slice none 0 0)
  rw [World.size_alloc] at h
  exact h
theorem ret_own {w w4 : World} {B : Nat} {vb vw x y : Value} {bs : List (List UInt8)} {ws : List Wr} (ho : OwnD w4 B vb bs vw ws) (hB : w.heap.size + 2 ≤ B) (hb : Below w.heap.size w w4) :
    OwnD ((w4.setCell ⟨w.heap.size + 1, 0, none⟩ x).setCell ⟨w.heap.size + 1, 1, none⟩ y) w.heap.size vb bs vw ws ∧ Below w.heap.size w ((w4.setCell ⟨w.heap.size + 1, 0, none⟩ x).setCell ⟨w.heap.size + 1, 1, none⟩ y) := by
  refine ⟨⟨own_weak (ownsRow_setCell_below (ownsRow_setCell_below ho.1 ?_ _) ?_ _) (by omega), own_weak (ownsRow_setCell_below (ownsRow_setCell_below ho.2 ?_ _) ?_ _) (by omega)⟩, (hb.setCell ?_ _).setCell ?_ _⟩
  all_goals simp
  all_goals omega
theorem OwnD.forms {w : World} {B : Nat} {vb vw : Value} {bs : List (List UInt8)} {ws : List Wr} (h : OwnD w B vb bs vw ws) : ∃ ab nb cb aw nw cw, vb = .slice ab nb cb ∧ vw = .slice aw nw cw ∧ nb = bs.length ∧ nw = ws.length := by
  obtain ⟨ab, cb, h1⟩ := h.texts.strs.form
  obtain ⟨aw, cw, h2⟩ := h.wrs.form
  exact ⟨ab, _, cb, aw, _, cw, h1, h2, rfl, rfl⟩
theorem txts_form' {w : World} {v : Value} {ls : List (List UInt8)} (h : Txts w v ls) : ∃ ao n cap, v = .slice ao n cap := by
  obtain ⟨ao, cap, rfl⟩ := h.strs.form
  exact ⟨ao, _, cap, rfl⟩

theorem OwnD.below {w w' : World} {base : Nat} {vb vw : Value} {bs : List (List UInt8)} {ws : List Wr} (h : OwnD w base vb bs vw ws) (hb : Below w.heap.size w w') : OwnD w' base vb bs vw ws := ⟨own_stays h.1 hb, own_stays h.2 hb⟩
theorem bx_set {w : World} {B : Nat} {v x : Value} (h : Bx w B v x) (v' x' : Value) : Bx ((w.setCell ⟨B, 0, none⟩ v').setCell ⟨B, 1, none⟩ x') B v' x' := by
  unfold Bx at h ⊢
  have h1 := heap_setCell_same w B 0 _ _ v' h
  have h2 := heap_setCell_same _ B 1 _ _ x' h1
  exact h2
theorem own_sets {w : World} {base B : Nat} {vb vw : Value} {bs : List (List UInt8)} {ws : List Wr} (h : OwnD w base vb bs vw ws) (hB : B < base) (v x : Value) : OwnD ((w.setCell ⟨B, 0, none⟩ v).setCell ⟨B, 1, none⟩ x) base vb bs vw ws :=
  ⟨ownsRow_setCell_below (ownsRow_setCell_below h.1 (by simpa using hB) _) (by simpa using hB) _, ownsRow_setCell_below (ownsRow_setCell_below h.2 (by simpa using hB) _) (by simpa using hB) _⟩
theorem bx_other {w : World} {B B' : Nat} {v x : Value} (h : Bx w B v x) (hne : B ≠ B') (v' x' : Value) : Bx ((w.setCell ⟨B', 0, none⟩ v').setCell ⟨B', 1, none⟩ x') B v x := by
  unfold Bx at h ⊢
  rw [heap_setCell_other _ ⟨B', 1, none⟩ B x' hne, heap_setCell_other _ ⟨B', 0, none⟩ B v' hne]
  exact h

/-- One write, in a slice of its own. -/
theorem Wrs.one (w : World) (a : Int) (s : List UInt8) (t : TypeId) : Wrs (w.alloc (.cells #[.int .i64 a, .string ⟨s.toArray⟩] t)) (.slice (some ⟨w.heap.size, 0, none⟩) 1 1) [(a, s)] := by
  refine ⟨rfl, _, 1, rfl, Nat.le_refl _, .inr ⟨w.heap.size, 0, rfl, fun j hj => ?_⟩⟩
  have h := cell_of_row _ _ j _ _ _ (heap_alloc_new w (.cells #[.int .i64 a, .string ⟨s.toArray⟩] t))
  rw [Nat.zero_add, h]
  match j, hj with
  | 0, _ => rfl
  | 1, _ => rfl

end Go.Proofs.YtcipdmdliobdmaaDoor

/-
  What follows of the calls on a disk, in plain words: what is written is read; what is laid; what a crash leaves.
-/
namespace Go.Proofs.YtcipdmdliobdmaaDoor
open Go.RowKit

/-- What was laid last at a block. -/
theorem says_cons_hit (bs : List (List UInt8)) (ws : List Wr) (x : Wr) (i : Int) (h : x.1 = i) (h0 : hasB bs.length i = true) : saysL bs (ws ++ [x]) i = x.2 := by
  have hi : 0 ≤ i ∧ i < bs.length := by simpa [hasB] using h0
  unfold saysL
  rw [layL_snoc, h]
  have hl := layL_len bs ws
  have h2 : i.toNat < bs.length := by omega
  simp [List.getD, hl, h2]
theorem says_cons_miss (bs : List (List UInt8)) (ws : List Wr) (x : Wr) (i : Int) (h : x.1 ≠ i) (hx : hasB bs.length x.1 = true) (h0 : hasB bs.length i = true) : saysL bs (ws ++ [x]) i = saysL bs ws i := by
  have hi : 0 ≤ i ∧ i < bs.length := by simpa [hasB] using h0
  have hj : 0 ≤ x.1 ∧ x.1 < bs.length := by simpa [hasB] using hx
  unfold saysL
  rw [layL_snoc]
  simp [List.getD, List.getElem?_set]
  have : ¬ x.1.toNat = i.toNat := by omega
  simp [this]
theorem write_ok {bs : List (List UInt8)} {ws : List Wr} {i : Int} {s : List UInt8} (h : writeE bs ws i s = 0) : rightB bs ws = true ∧ hasB bs.length i = true ∧ s.length ≤ 256 ∧ ws.length < 100 := by
  unfold writeE at h
  split at h
  · split at h
    · split at h
      · split at h
        · exact ⟨by assumption, by assumption, by assumption, by assumption⟩
        · omega
      · omega
    · omega
  · omega
theorem right_more {bs : List (List UInt8)} {ws : List Wr} {i : Int} {s : List UInt8} (h : writeE bs ws i s = 0) : rightB bs (ws ++ [(i, s)]) = true := by
  obtain ⟨h1, h2, h3, h4⟩ := write_ok h
  simp only [rightB, Bool.and_eq_true, decide_eq_true_eq] at h1 ⊢
  obtain ⟨⟨⟨⟨a1, a2⟩, a3⟩, a4⟩, a5⟩ := h1
  refine ⟨⟨⟨⟨a1, a2⟩, by simp; omega⟩, a4⟩, ?_⟩
  rw [List.all_append, a5]
  simp [writeB, h2, blockB, h3]
theorem read_at {bs : List (List UInt8)} {ws : List Wr} {i : Int} {s : List UInt8} (h : writeE bs ws i s = 0) : readE bs (ws ++ [(i, s)]) i = 0 ∧ readT bs (ws ++ [(i, s)]) i = s := by
  have h1 := right_more h
  have h2 := (write_ok h).2.1
  have e : readE bs (ws ++ [(i, s)]) i = 0 := by simp [readE, h1, h2]
  exact ⟨e, by rw [readT, if_pos e]; exact says_cons_hit bs ws (i, s) i rfl h2⟩
theorem read_other {bs : List (List UInt8)} {ws : List Wr} {i : Int} {s : List UInt8} (h : writeE bs ws i s = 0) (j : Int) : readE bs (ws ++ [(i, s)]) j = readE bs ws j ∧ (j ≠ i → readT bs (ws ++ [(i, s)]) j = readT bs ws j) := by
  have h1 := right_more h
  have h2 := (write_ok h).2.1
  have h0 := (write_ok h).1
  have e : readE bs (ws ++ [(i, s)]) j = readE bs ws j := by simp [readE, h1, h0]
  refine ⟨e, fun hj => ?_⟩
  unfold readT
  rw [e]
  split
  · rename_i hz
    have hj2 : hasB bs.length j = true := by
      unfold readE at hz
      rw [if_pos h0] at hz
      split at hz
      · assumption
      · omega
    exact says_cons_miss bs ws (i, s) j (fun e => hj e.symm) h2 hj2
  · rfl

theorem hasB_len {bs : List (List UInt8)} {ws : List Wr} (i : Int) : hasB (layL bs ws).length i = hasB bs.length i := by rw [layL_len]
theorem lay_all {bs : List (List UInt8)} {xs : List Wr} (h : bs.all blockB = true) (hx : ∀ x ∈ xs, blockB x.2 = true) : (layL bs xs).all blockB = true := by
  induction xs generalizing bs with
  | nil => exact h
  | cons x r ih =>
    show (layL (bs.set x.1.toNat x.2) r).all blockB = true
    refine ih ?_ (fun y hy => hx y (List.mem_cons_of_mem _ hy))
    rw [List.all_eq_true] at h ⊢
    intro y hy
    rcases List.mem_or_eq_of_mem_set hy with h1 | rfl
    · exact h y h1
    · exact hx x List.mem_cons_self
/-- A disk to which some of its writes were laid is right. -/
theorem right_lay {bs : List (List UInt8)} {ws xs : List Wr} (h : rightB bs ws = true) (hx : ∀ x ∈ xs, x ∈ ws) : rightB (layL bs xs) [] = true := by
  simp only [rightB, Bool.and_eq_true, decide_eq_true_eq] at h ⊢
  obtain ⟨⟨⟨⟨a1, a2⟩, a3⟩, a4⟩, a5⟩ := h
  rw [layL_len]
  refine ⟨⟨⟨⟨a1, a2⟩, by simp⟩, ?_⟩, by simp⟩
  refine lay_all a4 (fun x hx' => ?_)
  have := List.all_eq_true.1 a5 x (hx x hx')
  simp only [writeB, Bool.and_eq_true] at this
  exact this.2
theorem keptL_true (ws : List Wr) : keptL ws (List.replicate ws.length true) = ws := by
  induction ws with
  | nil => rfl
  | cons x r ih => simp [List.replicate_succ, keptL, ih]
theorem keptL_none (ks : List Bool) : keptL [] ks = [] := by cases ks <;> rfl

/-- What is laid is a block's own text, or one that was written to it. -/
theorem lay_from (bs : List (List UInt8)) (xs : List Wr) (hx : ∀ x ∈ xs, hasB bs.length x.1 = true) (q : Nat) (hq : q < bs.length) : (layL bs xs).getD q [] = bs.getD q [] ∨ ∃ x ∈ xs, x.1 = q ∧ x.2 = (layL bs xs).getD q [] := by
  induction xs generalizing bs with
  | nil => exact .inl rfl
  | cons x r ih =>
    have e : layL bs (x :: r) = layL (bs.set x.1.toNat x.2) r := rfl
    rw [e]
    have h0 : 0 ≤ x.1 ∧ x.1 < bs.length := by simpa [hasB] using hx x List.mem_cons_self
    rcases ih (bs.set x.1.toNat x.2) (by simpa using fun a b h => hx (a, b) (List.mem_cons_of_mem _ h)) (by simpa using hq) with h | ⟨y, hy, h1, h2⟩
    · by_cases hj : x.1.toNat = q
      · right
        refine ⟨x, List.mem_cons_self, by omega, ?_⟩
        rw [h]
        have h2 : x.1.toNat < bs.length := by omega
        simp [List.getD, hj, hq]
      · left
        rw [h]
        simp [List.getD, hj]
    · exact .inr ⟨y, List.mem_cons_of_mem _ hy, h1, h2⟩

theorem readE_cases (bs : List (List UInt8)) (ws : List Wr) (i : Int) : readE bs ws i = 0 ∨ readE bs ws i = 1 ∨ readE bs ws i = 40 := by
  unfold readE; repeat' split
  all_goals omega
theorem read_ok {bs : List (List UInt8)} {ws : List Wr} {i : Int} : readE bs ws i = 0 ↔ (rightB bs ws = true ∧ hasB bs.length i = true) := by
  unfold readE
  constructor
  · intro h
    split at h
    · split at h
      · exact ⟨by assumption, by assumption⟩
      · omega
    · omega
  · rintro ⟨h1, h2⟩
    simp [h1, h2]
theorem hasB_iff {n : Nat} {i : Int} : hasB n i = true ↔ 0 ≤ i ∧ i < n := by simp [hasB]

end Go.Proofs.YtcipdmdliobdmaaDoor

/-
  The document's own Big: is a disk more than is looked at?
-/
namespace Go.Proofs.YtcipdmdliobdmaaDoor
open Go.RowKit

def longB (s : List UInt8) : Bool := decide (400 < s.length)
def longW (x : Wr) : Bool := decide (400 < x.2.length)
def bigB (bs : List (List UInt8)) (ws : List Wr) : Bool := decide (250 < bs.length) || decide (150 < ws.length) || bs.any longB || ws.any longW
/-- n is over 400, if one of the first k texts is that long (or b). -/
def MaxTo {α : Type} (p : α → Bool) (b : Bool) (l : List α) (k m : Nat) : Prop := decide (400 < m) = (b || (l.take k).any p)
theorem maxTo_zero {α : Type} (p : α → Bool) (b : Bool) (l : List α) (m : Nat) (h : decide (400 < m) = b) : MaxTo p b l 0 m := by simp [MaxTo, h]
theorem maxTo_succ {α : Type} {p : α → Bool} {b : Bool} {l : List α} {k m n : Nat} (h : MaxTo p b l k m) (hk : k < l.length) (hn : p l[k] = decide (400 < n)) : MaxTo p b l (k + 1) (max m n) := by
  unfold MaxTo at h ⊢
  rw [List.take_succ_eq_append_getElem hk, List.any_append, ← Bool.or_assoc, ← h]
  simp only [List.any_cons, List.any_nil, Bool.or_false, hn]
  rw [Bool.eq_iff_iff]
  simp
  omega
theorem maxTo_all {α : Type} {p : α → Bool} {b : Bool} {l : List α} {m : Nat} (h : MaxTo p b l l.length m) : decide (400 < m) = (b || l.any p) := by
  unfold MaxTo at h
  rwa [List.take_length] at h
theorem big_small {bs : List (List UInt8)} {ws : List Wr} {m : Nat} (h1 : bs.length ≤ 250) (h2 : ws.length ≤ 150) (h : decide (400 < m) = (bs.any longB || ws.any longW)) : bigB bs ws = decide (400 < m) := by
  have e1 : decide (250 < bs.length) = false := by simp; omega
  have e2 : decide (150 < ws.length) = false := by simp; omega
  rw [h]
  simp only [bigB, e1, e2, Bool.false_or]
theorem big_blocks {bs : List (List UInt8)} {ws : List Wr} (h1 : 250 < bs.length) : bigB bs ws = true := by simp [bigB, h1]
theorem big_writes {bs : List (List UInt8)} {ws : List Wr} (h1 : 150 < ws.length) : bigB bs ws = true := by simp [bigB, h1]
theorem big_not {bs : List (List UInt8)} {ws : List Wr} (h : bigB bs ws = false) : bs.length ≤ 250 ∧ ws.length ≤ 150 := by
  simp only [bigB, Bool.or_eq_false_iff, decide_eq_false_iff_not] at h
  obtain ⟨⟨⟨h1, h2⟩, _⟩, _⟩ := h
  omega

set_option maxRecDepth 100000 in
set_option maxHeartbeats 4000000 in
theorem big_calls (vb vw : Value) (bs : List (List UInt8)) (ws : List Wr) (w : World) (hb : Txts w vb bs) (hw : Wrs w vw ws) :
    Calls Tryd.prog 23 #[.agg #[vb, vw]] w fun e w' => e = .returned (.bool (bigB bs ws)) ∧ Below w.heap.size w w' := by
  obtain ⟨ab, cb, rfl⟩ := hb.strs.form
  obtain ⟨aw, cw, rfl⟩ := hw.form
  have hB0 := below_alloc w (.cells #[.slice ab bs.length cb, .slice aw ws.length cw] 25)
  have HB := Lib.hid hb
  have HW := Lib.hid hw
  clear hb hw
  have max_int : ∀ m n : Nat, (if m < n then (n : Int) else (m : Int)) = ((max m n : Nat) : Int) := by intro m n; split <;> omega
  have hmx := Lib.hid max_int
  clear max_int
  by_cases h1 : bs.length ≤ 250
  · by_cases h2 : ws.length ≤ 150
    · have d1 : decide ((bs.length : Int) ≤ 250) = true := by simp; omega
      have d2 : decide ((ws.length : Int) ≤ 150) = true := by simp; omega
      go_enter Tryd.func23, Tryd.ntmps23
      go_wp2_with fail
      go_loop [3, 4] (fun n i => ∃ k m : Nat, k ≤ bs.length ∧ i = .int .i64 k ∧ n = .int .i64 m ∧ MaxTo longB false bs k m) (fun _ i => bs.length - (intOf i).toNat)
      case atStart => exact ⟨0, 0, Nat.zero_le _, rfl, rfl, maxTo_zero _ _ _ _ rfl⟩
      case round =>
        obtain ⟨k, m, hk, rfl, rfl, hf⟩ := hrel
        by_cases hlt : k < bs.length
        · obtain ⟨b, off, rfl, hcell⟩ := HB.out.strs.at hlt
          have hbl2 := World.block_lt_of_cell? w _ hcell
          have HM := Lib.hid (maxTo_succ (n := bs[k].length) hf hlt rfl)
          generalize bs[k] = s at hcell HM
          go_wp2_with fail
          go_round
          case rel => exact ⟨k + 1, _, by omega, by go_num, by first | rw [hmx.out] | exact congrArg (Value.int .i64) (by omega), HM.out⟩
          case measure => simp [intOf]; omega
        · obtain rfl : k = bs.length := by omega
          have hm1 := Lib.hid (maxTo_all hf)
          clear hf
          go_wp2_with fail
          go_loop [3, 5] (fun n i => ∃ k m : Nat, k ≤ ws.length ∧ i = .int .i64 k ∧ n = .int .i64 m ∧ MaxTo longW (bs.any longB) ws k m) (fun _ i => ws.length - (intOf i).toNat)
          case atStart => exact ⟨0, m, Nat.zero_le _, rfl, rfl, maxTo_zero _ _ _ _ (by rw [hm1.out]; simp)⟩
          case round =>
            obtain ⟨k, m, hk, rfl, rfl, hf⟩ := hrel
            by_cases hlt : k < ws.length
            · obtain ⟨b, off, rfl, hc0, hcell⟩ := HW.out.at hlt
              have hbl2 := World.block_lt_of_cell? w _ hcell
              have HM := Lib.hid (maxTo_succ (n := ws[k].2.length) hf hlt rfl)
              generalize ws[k].2 = s at hcell HM
              go_wp2_with fail
              go_round
              case rel => exact ⟨k + 1, _, by omega, by go_num, by first | rw [hmx.out] | exact congrArg (Value.int .i64) (by omega), HM.out⟩
              case measure => simp [intOf]; omega
            · obtain rfl : k = ws.length := by omega
              have hmm := Lib.hid (show decide ((400 : Int) < (m : Int)) = decide (400 < m) by rw [Bool.eq_iff_iff]; simp only [decide_eq_true_eq]; omega)
              have f1 : decide ((250 : Int) < bs.length) = false := by simp; omega
              have f2 : decide ((150 : Int) < ws.length) = false := by simp; omega
              have hr := Lib.hid (big_small h1 h2 (maxTo_all hf))
              clear hf
              go_wp2_with fail
              go_ret
              exact ⟨by rw [hr.out, ← hmm.out]; rfl, hB0⟩
    · have d1 : decide ((bs.length : Int) ≤ 250) = true := by simp; omega
      have d2 : decide ((ws.length : Int) ≤ 150) = false := by simp; omega
      go_enter Tryd.func23, Tryd.ntmps23
      go_wp2_with fail
      go_loop [3, 4] (fun n i => ∃ k m : Nat, k ≤ bs.length ∧ i = .int .i64 k ∧ n = .int .i64 m ∧ MaxTo longB false bs k m) (fun _ i => bs.length - (intOf i).toNat)
      case atStart => exact ⟨0, 0, Nat.zero_le _, rfl, rfl, maxTo_zero _ _ _ _ rfl⟩
      case round =>
        obtain ⟨k, m, hk, rfl, rfl, hf⟩ := hrel
        by_cases hlt : k < bs.length
        · obtain ⟨b, off, rfl, hcell⟩ := HB.out.strs.at hlt
          have hbl2 := World.block_lt_of_cell? w _ hcell
          have HM := Lib.hid (maxTo_succ (n := bs[k].length) hf hlt rfl)
          generalize bs[k] = s at hcell HM
          go_wp2_with fail
          go_round
          case rel => exact ⟨k + 1, _, by omega, by go_num, by first | rw [hmx.out] | exact congrArg (Value.int .i64) (by omega), HM.out⟩
          case measure => simp [intOf]; omega
        · obtain rfl : k = bs.length := by omega
          have hm1 := Lib.hid (maxTo_all hf)
          clear hf
          go_wp2_with fail
          go_loop [5] (fun i => i = .int .i64 0) (fun _ => 0)
          case atStart => exact rfl
          case round =>
            subst hrel
            · have hr := Lib.hid (big_writes (bs := bs) (ws := ws) (by omega))
              go_wp2_with fail
              go_ret
              exact ⟨by rw [hr.out]; rfl, hB0⟩
  · by_cases h2 : ws.length ≤ 150
    · have d1 : decide ((bs.length : Int) ≤ 250) = false := by simp; omega
      have d2 : decide ((ws.length : Int) ≤ 150) = true := by simp; omega
      go_enter Tryd.func23, Tryd.ntmps23
      go_wp2_with fail
      go_loop [3, 4] (fun n i => n = .int .i64 0 ∧ i = .int .i64 0) (fun _ _ => 0)
      case atStart => exact ⟨rfl, rfl⟩
      case round =>
        obtain ⟨rfl, rfl⟩ := hrel
        · obtain ⟨m, hm⟩ : ∃ m : Nat, m = 0 := ⟨0, rfl⟩
          go_wp2_with fail
          go_loop [3, 5] (fun n i => ∃ k m : Nat, k ≤ ws.length ∧ i = .int .i64 k ∧ n = .int .i64 m ∧ True) (fun _ i => ws.length - (intOf i).toNat)
          case atStart => exact ⟨0, 0, Nat.zero_le _, rfl, rfl, trivial⟩
          case round =>
            obtain ⟨k, m, hk, rfl, rfl, hf⟩ := hrel
            by_cases hlt : k < ws.length
            · obtain ⟨b, off, rfl, hc0, hcell⟩ := HW.out.at hlt
              have hbl2 := World.block_lt_of_cell? w _ hcell
              have HM := Lib.hid (trivial)
              generalize ws[k].2 = s at hcell HM
              go_wp2_with fail
              go_round
              case rel => exact ⟨k + 1, max m s.length, by omega, by go_num, by first | rw [hmx.out] | exact congrArg (Value.int .i64) (by omega), HM.out⟩
              case measure => simp [intOf]; omega
            · obtain rfl : k = ws.length := by omega
              have hr := Lib.hid (big_blocks (bs := bs) (ws := ws) (by omega))
              clear hf
              go_wp2_with fail
              go_ret
              exact ⟨by rw [hr.out]; rfl, hB0⟩
    · have d1 : decide ((bs.length : Int) ≤ 250) = false := by simp; omega
      have d2 : decide ((ws.length : Int) ≤ 150) = false := by simp; omega
      go_enter Tryd.func23, Tryd.ntmps23
      go_wp2_with fail
      go_loop [3, 4] (fun n i => n = .int .i64 0 ∧ i = .int .i64 0) (fun _ _ => 0)
      case atStart => exact ⟨rfl, rfl⟩
      case round =>
        obtain ⟨rfl, rfl⟩ := hrel
        · obtain ⟨m, hm⟩ : ∃ m : Nat, m = 0 := ⟨0, rfl⟩
          go_wp2_with fail
          go_loop [5] (fun i => i = .int .i64 0) (fun _ => 0)
          case atStart => exact rfl
          case round =>
            subst hrel
            · have hr := Lib.hid (big_blocks (bs := bs) (ws := ws) (by omega))
              go_wp2_with fail
              go_ret
              exact ⟨by rw [hr.out]; rfl, hB0⟩

end Go.Proofs.YtcipdmdliobdmaaDoor

/-
  slices.Backward over a row of writes: the iterator hands on the places and the writes, the last one first.
-/
namespace Go.Proofs.YtcipdmdliobdmaaDoor
open Go.RowKit Go.Shelf
attribute [local go_sem] Oper.semAt_some

/-- The first k writes with their places, the last one first. -/
def backTo (ws : List Wr) : Nat → List (Int × Wr)
  | 0 => []
  | k + 1 => ((k : Int), ws.getD k (0, [])) :: backTo ws k
def backL (ws : List Wr) : List (Int × Wr) := backTo ws ws.length
theorem backTo_len (ws : List Wr) (k : Nat) : (backTo ws k).length = k := by
  induction k with
  | zero => rfl
  | succ k ih => simp [backTo, ih]
/-- What a round is handed. -/
def encB (x : Int × Wr) : Array Value := #[.int .i64 x.1, .agg #[.int .i64 x.2.1, .string ⟨x.2.2.toArray⟩]]

set_option maxRecDepth 100000 in
set_option maxHeartbeats 1000000 in
theorem backward_in (n : Nat) (hn : 2 ≤ n) (l Bn : Nat) (v : Value) (ws : List Wr) (w : World) (hBn : Boxed w Bn 23 v) (hw : Wrs w v ws) (hl : ws.length ≤ 1000000) (J Jx : List (Int × Wr) → World → Prop)
    (hY : ∀ pre x W, J pre W → pre.length < ws.length → YieldAt Fence.wide (n - 1) Tryd.prog l (encB x) W fun e W' =>
      (e = .returned (.bool true) ∧ J (pre ++ [x]) W' ∧ Below w.heap.size W W') ∨ (e = .returned (.bool false) ∧ Jx (pre ++ [x]) W'))
    (W : World) (hB : Below w.heap.size w W) (h0 : J [] W) :
    CallsIn Fence.wide n Tryd.prog 66 #[.func (.yield l) #[] #[], .pointer (some ⟨Bn, 0, none⟩)] W fun e W' => (∃ v, e = .returned v) ∧
      ((∃ ys, ys = backL ws ∧ J ys W') ∨ (∃ pre, pre <+: backL ws ∧ Jx pre W')) := by
  obtain ⟨ao, cap, rfl⟩ := hw.form
  have hc0 := (hB.cell (p := ⟨Bn, 0, none⟩) hBn.lt).trans hBn.cell
  have hfw : ∀ f, Fence.wide.fn f := fun _ => trivial
  have hn1 : 1 ≤ n := by omega
  have HW := Lib.hid hw
  clear hw
  refine callsIn_of_wp Tryd.func66 rfl trivial ?_ rfl
  simp only [Tryd.ntmps66, List.size_toArray, List.length_cons, List.length_nil, Nat.reduceAdd, Nat.reduceSub, Array.replicate_succ, Array.replicate_zero, List.push_toArray, List.append_toArray, List.nil_append, List.cons_append]
  gi_wp2
  gi_loopw [3] (fun p wr => ∃ (pre : List (Int × Wr)) (k : Nat), p = .int .i64 ((k : Int) - 1) ∧ k ≤ ws.length ∧ pre ++ backTo ws k = backL ws ∧ Below w.heap.size w wr ∧ J pre wr)
    (fun p _ => (intOf p + 1).toNat)
  case atStart =>
    exact ⟨[], ws.length, rfl, Nat.le_refl _, rfl, hB, h0⟩
  case round =>
    obtain ⟨pre, k, rfl, hk, hp, hb, hJs⟩ := hrel
    have hc := (hb.cell (p := ⟨Bn, 0, none⟩) hBn.lt).trans hBn.cell
    have HP := Lib.hid hp
    clear hp hc0
    cases k with
    | zero =>
      gi_wp2
      go_end0
      exact ⟨⟨_, rfl⟩, .inl ⟨pre, by simpa [backTo] using HP.out, hJs⟩⟩
    | succ k =>
      have hlt : pre.length < ws.length := by
        have := congrArg List.length HP.out
        simp [backTo_len, backL] at this
        omega
      obtain ⟨b, off, rfl, he0, he1⟩ := (HW.out.below hb).at (k := k) (by omega)
      obtain ⟨⟨a, s⟩, hx⟩ : ∃ y, ws[k] = y := ⟨_, rfl⟩
      rw [hx] at he0 he1
      have hgd : ws.getD k (0, []) = (a, s) := by simp [List.getD, List.getElem?_eq_getElem (show k < ws.length by omega), hx]
      have HP2 : Hid (pre ++ [((k : Int), (a, s))] ++ backTo ws k = backL ws) := Lib.hid (by rw [← HP.out, backTo, hgd]; simp)
      obtain ⟨fn, tmps, assign, body, hy, hR⟩ := hY pre ((k : Int), (a, s)) wr hJs hlt
      clear hY hx hgd
      dsimp only [encB] at hy
      gi_wp2
      refine hR.mono ?_
      rintro e W3 (⟨rfl, hJ3, hk3⟩ | ⟨rfl, hJx3⟩)
      · gi_wp2
        go_roundw
        case rel => exact ⟨_, k, by go_num, by omega, HP2.out, hb.trans hk3, hJ3⟩
        case measure => simp [intOf]
      · gi_wp2
        refine bodyPost_ret (results_none rfl _ _ _) rfl ?_
        exact ⟨⟨_, rfl⟩, .inr ⟨_, ⟨backTo ws k, HP2.out⟩, hJx3⟩⟩

theorem backward_stops (n : Nat) (hn : 2 ≤ n) (Bn : Nat) (v : Value) (ws : List Wr) (w : World) (hBn : Boxed w Bn 23 v) (hw : Wrs w v ws) (hl : ws.length ≤ 1000000) :
    SeqStopsK Fence.wide n Tryd.prog 66 #[.pointer (some ⟨Bn, 0, none⟩)] encB (Below w.heap.size) (fun ys => ys = backL ws) (fun pre => pre <+: backL ws) ws.length w := fun l J Jx W hW _ _ hY h0 =>
  backward_in n hn l Bn v ws w hBn hw hl J Jx hY W hW h0

set_option maxHeartbeats 1000000 in
theorem backward_calls (n : Nat) (ao : Option Addr) (m cap : Nat) (w : World) :
    CallsIn Fence.wide n Tryd.prog 56 #[.slice ao m cap] w fun e w' => e = .returned (.func (.func 66) #[] #[.pointer (some ⟨w.heap.size, 0, none⟩)]) ∧ w' = w.alloc (.cells #[.slice ao m cap] 23) := by
  refine callsIn_of_wp Tryd.func56 rfl trivial ?_ rfl
  simp only [Tryd.ntmps56, List.size_toArray, List.length_cons, List.length_nil, Nat.reduceAdd, Nat.reduceSub, Array.replicate_succ, Array.replicate_zero, List.push_toArray, List.append_toArray, List.nil_append, List.cons_append]
  gi_wp2
  go_ret
  exact ⟨rfl, rfl⟩

end Go.Proofs.YtcipdmdliobdmaaDoor

/-
  disk: Read.
-/
namespace Go.Proofs.YtcipdmdliobdmaaDoor
open Go.RowKit Go.Shelf
attribute [local go_sem] Oper.semAt_some

/-- The first one that is met from behind. -/
def metB (bs : List (List UInt8)) (l : List (Int × Wr)) (i : Int) : List UInt8 := match l.find? (fun y => y.2.1 == i) with
  | some y => y.2.2
  | none => bs.getD i.toNat []
theorem met_back (bs : List (List UInt8)) (ws : List Wr) (i : Int) (h0 : hasB bs.length i = true) (hok : ∀ y ∈ ws, hasB bs.length y.1 = true) (k : Nat) (hk : k ≤ ws.length) : metB bs (backTo ws k) i = saysL bs (ws.take k) i := by
  induction k with
  | zero => rfl
  | succ k ih =>
    have hlt : k < ws.length := by omega
    have hx := hok _ (List.getElem_mem hlt)
    have ih := ih (by omega)
    rw [List.take_succ_eq_append_getElem hlt]
    have e : ws.getD k (0, []) = ws[k] := by simp [List.getD, List.getElem?_eq_getElem hlt]
    generalize ws[k] = x at hx e
    unfold metB at ih ⊢
    rw [backTo, e, List.find?_cons]
    by_cases h : x.1 = i
    · simp only [h, beq_self_eq_true]
      rw [says_cons_hit bs _ x i h h0]
    · have hb : (x.1 == i) = false := by simpa using h
      simp only [hb]
      rw [says_cons_miss bs _ x i h hx h0]
      exact ih
theorem met_all (bs : List (List UInt8)) (ws : List Wr) (i : Int) (h0 : hasB bs.length i = true) (hok : ∀ y ∈ ws, hasB bs.length y.1 = true) : metB bs (backL ws) i = saysL bs ws i := by
  have h := met_back bs ws i h0 hok ws.length (Nat.le_refl _)
  rw [List.take_length] at h
  exact h
theorem met_none {bs : List (List UInt8)} {l : List (Int × Wr)} {i : Int} (h : ∀ y ∈ l, y.2.1 ≠ i) : metB bs l i = bs.getD i.toNat [] := by
  have : l.find? (fun y => y.2.1 == i) = none := List.find?_eq_none.2 (fun y hy => by simpa using h y hy)
  unfold metB
  rw [this]
theorem met_some {bs : List (List UInt8)} {l pre : List (Int × Wr)} {x : Int × Wr} {i : Int} (hp : pre ++ [x] <+: l) (h : ∀ y ∈ pre, y.2.1 ≠ i) (hx : x.2.1 = i) : metB bs l i = x.2.2 := by
  obtain ⟨q, rfl⟩ := hp
  have h1 : pre.find? (fun y => y.2.1 == i) = none := List.find?_eq_none.2 (fun y hy => by simpa using h y hy)
  unfold metB
  rw [List.append_assoc, List.find?_append, h1]
  simp [hx]

theorem load_text (w : World) (g : Nat) (v : Value) (c : w.cell? ⟨g, 0, none⟩ = some v) : (loadVar 9 ⟨g, 0, none⟩).run Tryd.prog w = .ok v w := by
  have hagg : (isAgg 9).run Tryd.prog w = .ok false w := by simp [isAgg, run_underlying Tryd.underlying9]
  simp only [loadVar, Sem.run_bind, hagg, Result.andThen_ok]
  simp [c]
theorem load_errno (w : World) (g : Nat) (v : Value) (c : w.cell? ⟨g, 0, none⟩ = some v) : (loadVar 29 ⟨g, 0, none⟩).run Tryd.prog w = .ok v w := by
  have hagg : (isAgg 29).run Tryd.prog w = .ok false w := by simp [isAgg, run_underlying Tryd.underlying29]
  simp only [loadVar, Sem.run_bind, hagg, Result.andThen_ok]
  simp [c]
theorem res_cells {fn : Func} {p q : Tmp} (h : fn.results = #[.cell p 9, .cell q 29]) (tmps : Array Value) (w : World) (g1 g2 : Nat) (v1 v2 : Value) (hp : tmps.getD p undef = .pointer (some ⟨g1, 0, none⟩)) (hq : tmps.getD q undef = .pointer (some ⟨g2, 0, none⟩))
    (c1 : w.cell? ⟨g1, 0, none⟩ = some v1) (c2 : w.cell? ⟨g2, 0, none⟩ = some v2) : (results fn tmps).run Tryd.prog w = .ok (.tuple #[v1, v2]) w := by
  have hp' : tmps[p]?.getD undef = .pointer (some ⟨g1, 0, none⟩) := by simpa using hp
  have hq' : tmps[q]?.getD undef = .pointer (some ⟨g2, 0, none⟩) := by simpa using hq
  simp [results, h, hp', hq', asAddr, load_text w g1 v1 c1, load_errno w g2 v2 c2]

theorem entryR (w : World) (vb vw : Value) (i : Int) : ∃ W, W = (((w.alloc (.cells #[vb, vw] 25)).alloc (.cells #[.int .i64 i] 3)).alloc (.cells #[.string ⟨#[]⟩] 9)).alloc (.cells #[.int .i64 0] 29) ∧
    Bx W w.heap.size vb vw ∧ Boxed W (w.heap.size + 1) 3 (.int .i64 i) ∧ Boxed W (w.heap.size + 1 + 1) 9 (.string ⟨#[]⟩) ∧ Boxed W (w.heap.size + 1 + 1 + 1) 29 (.int .i64 0) ∧ Below w.heap.size w W := by
  obtain ⟨q0, q1, q2, q3, _, qb⟩ := heap5 w (.cells #[vb, vw] 25) (.cells #[.int .i64 i] 3) (.cells #[.string ⟨#[]⟩] 9) (.cells #[.int .i64 0] 29) (.cells #[] 0)
  refine ⟨_, rfl, ?_, ?_, ?_, ?_, ?_⟩
  · exact (heap_alloc_old _ (.cells #[] 0) (by simp <;> omega)).symm.trans q0
  · exact (heap_alloc_old _ (.cells #[] 0) (by simp <;> omega)).symm.trans q1
  · exact (heap_alloc_old _ (.cells #[] 0) (by simp <;> omega)).symm.trans q2
  · exact (heap_alloc_old _ (.cells #[] 0) (by simp <;> omega)).symm.trans q3
  · exact (((below_alloc2 w _ _).alloc (by simp; omega) _).alloc (by simp; omega) _)

theorem two_set {W : World} {b1 b2 : Nat} {t1 t2 : TypeId} {x y : Value} (h1 : Boxed W b1 t1 x) (h2 : Boxed W b2 t2 y) (hne : b1 ≠ b2) (v1 v2 : Value) :
    Boxed ((W.setCell ⟨b1, 0, none⟩ v1).setCell ⟨b2, 0, none⟩ v2) b1 t1 v1 ∧ Boxed ((W.setCell ⟨b1, 0, none⟩ v1).setCell ⟨b2, 0, none⟩ v2) b2 t2 v2 :=
  ⟨(h1.set v1).kept (grownBy_setCell' _ b2 v2) (by simpa using hne), Boxed.set v2 (h2.kept (grownBy_setCell' _ b1 v1) (by simpa using hne.symm))⟩

/-- One write that is met has the place, none ahead of it. -/
def FoundAt (w : World) (i : Int) (pre : List (Int × Wr)) (W : World) : Prop :=
  ∃ pre' x, pre = pre' ++ [x] ∧ (∀ y ∈ pre', y.2.1 ≠ i) ∧ x.2.1 = i ∧ Boxed W (w.heap.size + 1 + 1) 9 (.string ⟨x.2.2.toArray⟩) ∧ Boxed W (w.heap.size + 1 + 1 + 1) 29 (.int .i64 0) ∧ Below w.heap.size w W
theorem found_own (w : World) (i : Int) (B : Nat) (hB : w.heap.size ≤ B) : OwnFrom B (FoundAt w i) := by
  rintro pre W W' row ⟨pre', x, e, h1, h2, h3, h4, h5⟩ hg hr
  exact ⟨pre', x, e, h1, h2, (boxed_own _ _ (fun _ : Unit => _)) () W W' row h3 hg (fun r e => (hr r e).2), (boxed_own _ _ (fun _ : Unit => _)) () W W' row h4 hg (fun r e => (hr r e).2),
    h5.grown hg h5.size (fun k e => Nat.le_trans hB (hr k e).1)⟩

set_option maxRecDepth 100000 in
set_option maxHeartbeats 4000000 in
theorem read_calls (vb vw : Value) (bs : List (List UInt8)) (ws : List Wr) (i : Int) (w : World) (hb : Txts w vb bs) (hw : Wrs w vw ws) :
    Calls Tryd.prog 42 #[.agg #[vb, vw], .int .i64 i] w fun e w' => e = .returned (.tuple #[.string ⟨(readT bs ws i).toArray⟩, .int .i64 (readE bs ws i)]) ∧ Below w.heap.size w w' := by
  obtain ⟨ab, cb, rfl⟩ := hb.strs.form
  obtain ⟨aw, cw, rfl⟩ := hw.form
  obtain ⟨W0, hW0, hx0, hi0, hs0, he0, hB0⟩ := entryR w (.slice ab bs.length cb) (.slice aw ws.length cw) i
  have C1 := check_calls _ _ bs ws _ (hb.below hB0) (hw.below hB0)
  cases hR : rightB bs ws with
  | false =>
    have E1 := Lib.hid (show readE bs ws i = 1 by simp [readE, hR])
    have E2 := Lib.hid (show readT bs ws i = [] by simp [readT, E1.out])
    rw [hR, hW0] at C1
    have K1 := Lib.hid C1
    have HW0 := Lib.hid hW0
    clear C1 hR hW0
    go_enter Tryd.func42, Tryd.ntmps42
    go_wp2_with fail
    refine K1.out.mono ?_
    rw [← HW0.out]
    rintro e w1 ⟨rfl, hB1⟩
    have hs1 := hs0.kept (below_grown hB1) (by simp)
    have he1 := he0.kept (below_grown hB1) (by simp)
    have hs1c := hs1.cell
    have hs1f := hs1.frozen
    have he1c := he1.cell
    have he1f := he1.frozen
    go_wp2_with fail
    obtain ⟨z1, z2⟩ := two_set hs1 he1 (by omega) (.string ⟨#[]⟩) (.int .i64 1)
    refine bodyPost_ret (res_cells (p := 4) (q := 5) (by kernel_rfl) _ _ (w.heap.size + 1 + 1) (w.heap.size + 1 + 1 + 1) _ _ rfl rfl z1.cell z2.cell) rfl ?_
    exact ⟨by rw [E1.out, E2.out], ((below2 hB0 hB1).setCell (by simp; omega) _).setCell (by simp; omega) _⟩
  | true =>
    cases hH : hasB bs.length i with
    | false =>
      have E1 := Lib.hid (show readE bs ws i = 40 by simp [readE, hR, hH])
      have E2 := Lib.hid (show readT bs ws i = [] by simp [readT, E1.out])
      rw [hR, hW0] at C1
      have K1 := Lib.hid C1
      have HW0 := Lib.hid hW0
      have HH := Lib.hid hH
      clear C1 hR hW0 hH
      go_enter Tryd.func42, Tryd.ntmps42
      go_wp2_with fail
      refine K1.out.mono ?_
      rw [← HW0.out]
      rintro e w1 ⟨rfl, hB1⟩
      have hx1 := hx0.below hB1
      have hi1 := hi0.kept (below_grown hB1) (by simp)
      have hs1 := hs0.kept (below_grown hB1) (by simp)
      have he1 := he0.kept (below_grown hB1) (by simp)
      obtain ⟨p10, p11, _⟩ := hx1.cells
      have hi1c := hi1.cell
      go_wp2_with fail
      refine (has_calls _ _ _ _ _ _).mono ?_
      rintro e w2 ⟨rfl, hB2⟩
      rw [HH.out]
      have hs2 := hs1.kept (below_grown hB2) (by simp)
      have he2 := he1.kept (below_grown hB2) (by simp)
      have hs2c := hs2.cell
      have hs2f := hs2.frozen
      have he2c := he2.cell
      have he2f := he2.frozen
      go_wp2_with fail
      obtain ⟨z1, z2⟩ := two_set hs2 he2 (by omega) (.string ⟨#[]⟩) (.int .i64 40)
      refine bodyPost_ret (res_cells (p := 4) (q := 5) (by kernel_rfl) _ _ (w.heap.size + 1 + 1) (w.heap.size + 1 + 1 + 1) _ _ rfl rfl z1.cell z2.cell) rfl ?_
      exact ⟨by rw [E1.out, E2.out], ((below3 hB0 hB1 hB2).setCell (by simp; omega) _).setCell (by simp; omega) _⟩
    | true =>
      have E1 := Lib.hid (show readE bs ws i = 0 by simp [readE, hR, hH])
      have E2 := Lib.hid (show readT bs ws i = saysL bs ws i by simp [readT, E1.out])
      obtain ⟨hl1, hl2, hl3, hl4, hl5⟩ := right_parts hR
      have HM := Lib.hid (met_all bs ws i hH (fun y hy => (hl5 y hy).1))
      have hij : 0 ≤ i ∧ i < bs.length := by simpa [hasB] using hH
      rw [hR, hW0] at C1
      have K1 := Lib.hid C1
      have HW0 := Lib.hid hW0
      have HH := Lib.hid hH
      clear C1 hR hW0 hH hl4 hl5
      refine (callsIn_wide (n := 6)).1 ?_
      refine callsIn_of_wp_marks Tryd.func42 rfl trivial ?_ rfl
      simp only [Tryd.ntmps42, List.size_toArray, List.length_cons, List.length_nil, Nat.reduceAdd, Nat.reduceSub, Array.replicate_succ, Array.replicate_zero, List.push_toArray, List.append_toArray, List.nil_append, List.cons_append]
      refine wpIn_wide.2 ?_
      go_wp2_with fail
      refine K1.out.mono ?_
      rw [← HW0.out]
      rintro e w1 ⟨rfl, hB1⟩
      have hx1 := hx0.below hB1
      have hi1 := hi0.kept (below_grown hB1) (by simp)
      have hs1 := hs0.kept (below_grown hB1) (by simp)
      have he1 := he0.kept (below_grown hB1) (by simp)
      obtain ⟨p10, p11, _⟩ := hx1.cells
      have hi1c := hi1.cell
      go_wp2_with fail
      refine (has_calls _ _ _ _ _ _).mono ?_
      rintro e w2 ⟨rfl, hB2⟩
      rw [HH.out]
      have hx2 := hx1.below hB2
      have hi2 := hi1.kept (below_grown hB2) (by simp)
      have hs2 := hs1.kept (below_grown hB2) (by simp)
      have he2 := he1.kept (below_grown hB2) (by simp)
      have hBB2 := below3 hB0 hB1 hB2
      obtain ⟨p20, p21, _⟩ := hx2.cells
      have hw2 := Lib.hid (hw.below hBB2)
      clear p10 p11 hi1c hx1 hi1 hs1 he1 hx0 hi0 hs0 he0
      go_wp2_with (go_at_call 56; refine (callsIn_wide.1 (backward_calls 5 _ _ _ _)).mono ?_; rintro e w' ⟨rfl, rfl⟩)
      have hBl := below_alloc w2 (.cells #[.slice aw ws.length cw] 23)
      have hxl := hx2.below hBl
      have hil := hi2.alloc (.cells #[.slice aw ws.length cw] 23)
      have hsl := hs2.alloc (.cells #[.slice aw ws.length cw] 23)
      have hel := he2.alloc (.cells #[.slice aw ws.length cw] 23)
      have hbl := Boxed.new w2 23 (.slice aw ws.length cw)
      have hwl := hw2.out.below hBl
      have hBBl := below2 hBB2 hBl
      generalize hWl : w2.alloc (.cells #[.slice aw ws.length cw] 23) = Wl at hBl hxl hil hsl hel hbl hwl hBBl ⊢
      clear hWl hBl hw2 p20 p21
      refine (wpIn_wide (n := 6)).1 ?_
      refine wpIn_rangeFunc_ownH rfl (by omega) (gf := 66) (lb := #[.pointer (some ⟨w2.heap.size, 0, none⟩)]) rfl trivial (enters_of Tryd.func66 (by kernel_rfl) rfl)
        (backward_stops 5 (by omega) w2.heap.size _ ws Wl hbl hwl (by omega)) belowK_t (belowK_b (Nat.le_refl _)) (Below.refl _ _) (fun _ => rfl)
        (fun pre W => Below Wl.heap.size Wl W ∧ ∀ y ∈ pre, y.2.1 ≠ i)
        (fun c pre W => c = .ret ∧ FoundAt w i pre W)
        (OwnFrom.and (ownFrom_below (Nat.le_refl _) (Nat.le_refl _)) (ownFrom_pure _ (fun pre : List (Int × Wr) => ∀ y ∈ pre, y.2.1 ≠ i)))
        (fun c => OwnFrom.and (ownFrom_pure _ (fun _ : List (Int × Wr) => c = .ret)) (found_own w i _ hBBl.size))
        ⟨Below.refl _ _, by simp⟩
        (fun x a' W => ∃ Bw, Wl.heap.size ≤ Bw ∧ W.heap[Bw]? = some (.cells #[.int .i64 x.2.1, .string ⟨x.2.2.toArray⟩] 63 (0, 0)) ∧ a' = { tmps := #[.agg #[.slice ab bs.length cb, .slice aw ws.length cw], .int .i64 i, .pointer (some ⟨w.heap.size, 0, none⟩), .pointer (some ⟨w.heap.size + 1, 0, none⟩), .pointer (some ⟨w.heap.size + 1 + 1, 0, none⟩), .pointer (some ⟨w.heap.size + 1 + 1 + 1, 0, none⟩), undef, .pointer (some ⟨Bw, 0, none⟩),
          .agg #[.slice ab bs.length cb, .slice aw ws.length cw], .bool true, .bool false, .agg #[.slice ab bs.length cb, .slice aw ws.length cw], .int .i64 i, .bool true, .bool false, .pointer (some ⟨w.heap.size, 1, none⟩), .slice aw ws.length cw, .func (.func 66) #[] #[.pointer (some ⟨w2.heap.size, 0, none⟩)],
          .int .i64 x.1, .agg #[.int .i64 x.2.1, .string ⟨x.2.2.toArray⟩], undef, undef, undef, undef, undef, undef, undef, undef, undef, undef, undef], defers := [] })
        ?hAx ?assign ?body ?done ?stop
      case hAx =>
        rintro x a' u W W' row ⟨Bw, h1, h2, h3⟩ hg hr
        refine ⟨Bw, h1, ?_, h3⟩
        rw [hg.block Bw (Array.getElem?_eq_some_iff.1 h2).1 (fun e => by obtain ⟨_, o, ho, hc⟩ := hr Bw e.symm; rw [h2] at ho; cases ho; cases hc)]
        exact h2
      case assign =>
        rintro l pre ⟨j, a, s⟩ W K ⟨hBe, hno⟩ hK
        dsimp only [encB]
        gi_wp2
        exact hK _ _ ((KeepsOthers.alloc _ _).from _) ((Below.refl _ W).alloc hBe.size _) ⟨hBe.alloc hBe.size _, hno⟩ ⟨W.heap.size, hBe.size, heap_alloc_new W _, rfl⟩
      case body =>
        rintro l pre ⟨j, a, s⟩ a' W hl ⟨r, hr⟩ ⟨hBe, hno⟩ ⟨Bw, hBw, bW, rfl⟩ hlt
        have hnoH := Lib.hid hno
        have hiW := (hil.kept (below_grown hBe) (by simp)).cell
        have hsW := hsl.kept (below_grown hBe) (by simp)
        have heW := hel.kept (below_grown hBe) (by simp)
        have hsc := hsW.cell
        have hsf := hsW.frozen
        have hec := heW.cell
        have hef := heW.frozen
        have w0 : W.cell? ⟨Bw, 0, none⟩ = some (.int .i64 a) := cell_of_row W Bw 0 _ _ _ bW
        have w1c : W.cell? ⟨Bw, 1, none⟩ = some (.string ⟨s.toArray⟩) := cell_of_row W Bw 1 _ _ _ bW
        clear bW hno
        by_cases hai : a = i
        · have hab : (a == i) = true := by simp [hai]
          have HAI := Lib.hid hai
          clear hai
          gi_wp2
          obtain ⟨z1, z2⟩ := two_set hsW heW (by omega) (.string ⟨s.toArray⟩) (.int .i64 0)
          exact ⟨((KeepsOthers.setCell _ _ _).trans (KeepsOthers.setCell _ _ _)).from _, rfl, pre, (j, a, s), rfl, hnoH.out, HAI.out, z1, z2, ((hBBl.trans (hBe.mono hBBl.size)).setCell (by simp; omega) _).setCell (by simp; omega) _⟩
        · have hab : (a == i) = false := by simp [hai]
          have HAI := Lib.hid hai
          clear hai
          gi_wp2
          refine ⟨KeepsFrom.refl _ _, Below.refl _ _, hBe, fun y hy => ?_⟩
          rcases List.mem_append.1 hy with h | h
          · exact hnoH.out y h
          · obtain rfl := List.mem_singleton.1 h
            exact HAI.out
      case done =>
        rintro D ys W hD rfl ⟨hBe, hno⟩ hK
        have HN := Lib.hid (met_none (bs := bs) hno)
        have hxW := hxl.kept (below_grown hBe) (by simp)
        have hiW := (hil.kept (below_grown hBe) (by simp)).cell
        have hsW := hsl.kept (below_grown hBe) (by simp)
        have heW := hel.kept (below_grown hBe) (by simp)
        have hsc := hsW.cell
        have hsf := hsW.frozen
        have hec := heW.cell
        have hef := heW.frozen
        obtain ⟨p0, p1, _⟩ := hxW.cells
        obtain ⟨k, rfl⟩ : ∃ k : Nat, i = (k : Int) := ⟨i.toNat, by omega⟩
        have hk : k < bs.length := by omega
        have hBBW := hBBl.trans (hBe.mono hBBl.size)
        obtain ⟨b, off, rfl, hcell⟩ := (hb.below hBBW).strs.at hk
        have HS := Lib.hid (show saysL bs ws (k : Int) = bs[k] by rw [← HM.out, HN.out]; simp [List.getD, List.getElem?_eq_getElem hk])
        generalize bs[k] = s at hcell HS
        clear hno
        go_wp2_with fail
        obtain ⟨z1, z2⟩ := two_set hsW heW (by omega) (.string ⟨s.toArray⟩) (.int .i64 0)
        have hK2 := ((KeepsOthers.setCell W ⟨w.heap.size + 1 + 1, 0, none⟩ (.string ⟨s.toArray⟩)).trans (KeepsOthers.setCell _ ⟨w.heap.size + 1 + 1 + 1, 0, none⟩ (.int .i64 0))).same D _ hK rfl
        have hne1 : w.heap.size + 1 + 1 ≠ D := by have := hsl.lt; omega
        have hne2 : w.heap.size + 1 + 1 + 1 ≠ D := by have := hel.lt; omega
        have y1 := z1.kept (grownBy_putObj' _ D (.deferred none)) (by simpa using hne1)
        have y2 := z2.kept (grownBy_putObj' _ D (.deferred none)) (by simpa using hne2)
        refine ⟨by simp, .inl ⟨_, _, rfl, run_takeDeferred hK2, ?_⟩⟩
        refine ⟨_, res_cells (p := 4) (q := 5) (by kernel_rfl) _ _ (w.heap.size + 1 + 1) (w.heap.size + 1 + 1 + 1) _ _ rfl rfl y1.cell y2.cell, ?_, ?_⟩
        · rw [E1.out, E2.out, HS.out]
        · have h := hBBl.size
          exact ((hBBW.setCell (by simp; omega) _).setCell (by simp; omega) _).trans (belowK_b (w := Wl) (n₀ := w.heap.size) h _ D _ _ hD hK2 rfl rfl)
      case stop =>
        rintro D c pre W hD hpre ⟨rfl, pre', x, rfl, h1, h2, h3, h4, h5⟩ hK
        have HS := Lib.hid (show saysL bs ws i = x.2.2 by rw [← HM.out]; exact met_some hpre h1 h2)
        gi_wp2
        have hne1 : w.heap.size + 1 + 1 ≠ D := by have := hsl.lt; omega
        have hne2 : w.heap.size + 1 + 1 + 1 ≠ D := by have := hel.lt; omega
        have y1 := h3.kept (grownBy_putObj' _ D (.deferred none)) (by simpa using hne1)
        have y2 := h4.kept (grownBy_putObj' _ D (.deferred none)) (by simpa using hne2)
        refine ⟨by simp, .inl ⟨_, _, rfl, run_takeDeferred hK, ?_⟩⟩
        refine ⟨_, res_cells (p := 4) (q := 5) (by kernel_rfl) _ _ (w.heap.size + 1 + 1) (w.heap.size + 1 + 1 + 1) _ _ rfl rfl y1.cell y2.cell, ?_, ?_⟩
        · rw [E1.out, E2.out, HS.out]
        · exact h5.trans (belowK_b (w := Wl) (n₀ := w.heap.size) hBBl.size _ D _ _ hD hK rfl rfl)

end Go.Proofs.YtcipdmdliobdmaaDoor

/-
  Boxes and disks of the call's own stay where other blocks are written.
-/
namespace Go.Proofs.YtcipdmdliobdmaaDoor
open Go.RowKit Go.Shelf

/-- A disk of the call's own stays as it is where another box is written. -/
theorem own_sets2 {w : World} {base B : Nat} {vb vw p q : Value} {bs : List (List UInt8)} {ws : List Wr} (h : OwnD w base vb bs vw ws) (hx : Bx w B p q) (v x : Value) : OwnD ((w.setCell ⟨B, 0, none⟩ v).setCell ⟨B, 1, none⟩ x) base vb bs vw ws := by
  have k1 : OwnD (w.setCell ⟨B, 0, none⟩ v) base vb bs vw ws := ⟨ownsRow_setCell_other h.1 (by simpa using hx.not_row h.1 (by decide)) _, ownsRow_setCell_other h.2 (by simpa using hx.not_row h.2 (by decide)) _⟩
  have hx1 : Bx (w.setCell ⟨B, 0, none⟩ v) B v q := by
    unfold Bx at hx ⊢
    exact heap_setCell_same w B 0 _ _ v hx
  exact ⟨ownsRow_setCell_other k1.1 (by simpa using hx1.not_row k1.1 (by decide)) _, ownsRow_setCell_other k1.2 (by simpa using hx1.not_row k1.2 (by decide)) _⟩
theorem load_bool (w : World) (g : Nat) (v : Value) (c : w.cell? ⟨g, 0, none⟩ = some v) : (loadVar 4 ⟨g, 0, none⟩).run Tryd.prog w = .ok v w := by
  have hagg : (isAgg 4).run Tryd.prog w = .ok false w := by simp [isAgg, run_underlying Tryd.underlying4]
  simp only [loadVar, Sem.run_bind, hagg, Result.andThen_ok]
  simp [c]
theorem own_nc {w w' : World} {base k n : Nat} {e : TypeId} {v : Value} {xs : List Value} (h : w.ownsRow base e k v n xs) {row : Option Nat} (hg : w.grownBy w' row) (hr : ∀ r, row = some r → ∃ o : Obj, w.heap[r]? = some o ∧ o.isCells = false) : w'.ownsRow base e k v n xs := by
  refine h.kept hg ?_
  rcases h.2 with ⟨rfl, _⟩ | ⟨g, cap, cur, rfl, _, hgb, _⟩
  · exact .inl rfl
  · refine .inr fun e' => ?_
    obtain ⟨o, ho, hc⟩ := hr g (by simpa [Value.ownBlock] using e'.symm)
    rw [hgb] at ho
    cases ho
    cases hc
theorem bx_nc {w w' : World} {b : Nat} {x y : Value} (h : Bx w b x y) {row : Option Nat} (hg : w.grownBy w' row) (hr : ∀ r, row = some r → ∃ o : Obj, w.heap[r]? = some o ∧ o.isCells = false) : Bx w' b x y :=
  h.kept hg (fun e => by
    obtain ⟨o, ho, hc⟩ := hr b e
    rw [show w.heap[b]? = _ from h] at ho
    cases ho
    cases hc)
theorem boxed_nc {w w' : World} {b : Nat} {t : TypeId} {x : Value} (h : Boxed w b t x) {row : Option Nat} (hg : w.grownBy w' row) (hr : ∀ r, row = some r → ∃ o : Obj, w.heap[r]? = some o ∧ o.isCells = false) : Boxed w' b t x :=
  h.kept hg (fun e => by
    obtain ⟨o, ho, hc⟩ := hr b e.symm
    rw [show w.heap[b]? = _ from h] at ho
    cases ho
    cases hc)
theorem boxed_below {w w' : World} {b : Nat} {t : TypeId} {x : Value} (h : Boxed w b t x) (hB : Below w.heap.size w w') : Boxed w' b t x := h.kept (below_grown hB) (by simp)
theorem bx_one {w : World} {B B' : Nat} {v x : Value} (h : Bx w B v x) (hne : B ≠ B') (u : Value) : Bx (w.setCell ⟨B', 0, none⟩ u) B v x := by
  unfold Bx at h ⊢
  rw [heap_setCell_other _ ⟨B', 0, none⟩ B u hne]
  exact h
theorem boxed_two {w : World} {B B' : Nat} {t : TypeId} {v : Value} (h : Boxed w B t v) (hne : B ≠ B') (x y : Value) : Boxed ((w.setCell ⟨B', 0, none⟩ x).setCell ⟨B', 1, none⟩ y) B t v := by
  unfold Boxed at h ⊢
  rw [heap_setCell_other _ ⟨B', 1, none⟩ B y hne, heap_setCell_other _ ⟨B', 0, none⟩ B x hne]
  exact h
theorem own_boxed {w : World} {base B : Nat} {vb vw u : Value} {t : TypeId} {bs : List (List UInt8)} {ws : List Wr} (h : OwnD w base vb bs vw ws) (hx : Boxed w B t u) (h1 : t ≠ 9) (h2 : t ≠ 63) (v : Value) : OwnD (w.setCell ⟨B, 0, none⟩ v) base vb bs vw ws :=
  ⟨ownsRow_setCell_other h.1 (by have := hx.not_row h1 h.1; simpa using Ne.symm this) _, ownsRow_setCell_other h.2 (by have := hx.not_row h2 h.2; simpa using Ne.symm this) _⟩
theorem Bools.two (w : World) (a b : Bool) (t : TypeId) : Bools (w.alloc (.cells #[.bool a, .bool b] t)) (.slice (some ⟨w.heap.size, 0, none⟩) 2 2) [a, b] := by
  refine ⟨rfl, _, 2, rfl, Nat.le_refl _, .inr ⟨w.heap.size, 0, rfl, fun j hj => ?_⟩⟩
  have h := cell_of_row _ _ j _ _ _ (heap_alloc_new w (.cells #[.bool a, .bool b] t))
  rw [Nat.zero_add, h]
  match j, hj with
  | 0, _ => rfl
  | 1, _ => rfl

theorem txts_lit (w : World) (o : Obj) (ls : List (List UInt8)) (t : TypeId) : Txts ((w.alloc o).alloc (.cells (ls.map SV).toArray t)) (.slice (some ⟨w.heap.size + 1, 0, none⟩) ls.length ls.length) ls := by
  have h := Txts.new (w.alloc o) ls t
  rwa [World.size_alloc] at h

end Go.Proofs.YtcipdmdliobdmaaDoor

/-
  An append to nil of whatever row, as one step of a region that draws.
-/
namespace Go.Proofs.YtcipdmdliobdmaaDoor
open Go.RowKit

theorem rowN_news {w : World} {k n cap : Nat} {a : Addr} {cs : List Value} (h : Rw w k (.slice (some a) n cap) n cs) : ∀ j u, cs[j]? = some u → w.cell? (a.add j) = some u := by
  intro j u hj
  obtain ⟨hj1, hju⟩ := List.getElem?_eq_some_iff.1 hj
  obtain ⟨hl, ao, c, he, _, h0 | ⟨b, off, rfl, hc⟩⟩ := h
  · subst h0; omega
  · cases he
    rw [Go.WideShapes.add_plain, hc j hj1, hju]
/-- An append of a nil slice to nil. -/
theorem run_append_nils (w : World) (t ty e : TypeId) (i : TypeInfo) (ht : Tryd.prog.underlying t = some (.slice e)) (hi : Tryd.prog.info? e = some i) (c : Nat) :
    (Builtin.append_ #[t, t] ty #[.slice none 0 0, .slice none 0 c]).run Tryd.prog w = .ok (.slice none 0 0) w := by
  simp [Builtin.append_, run_underlying ht, sizeOf, typeInfo, hi, Builtin.lenOf, Builtin.firstCells]
/-- An append to nil, as one step of a region that draws: of whatever row. -/
theorem step_append_nil {w : World} {ops : Array Oper} {o : Oper} {a : Act} {K : Act → World → Prop} {Q : Exit → Act → World → Prop} {E : Prop} (hgd : o.guard = none) (s x : Operand) (t : TypeId)
    (ho : o.op = .call { callee := .builtin .append, args := #[s, x], argTypes := #[t, t] })
    (base : Nat) (e : TypeId) (i : TypeInfo) (z : Value) (size bytes : Nat) (ht : Tryd.prog.underlying t = some (.slice e)) (hi : Tryd.prog.info? e = some i) (hz : i.zero = some z)
    (hsize : i.size = size) (hby : i.bytes = bytes) (hzs : z.cells.size = size) (hsz : 0 < size)
    (hs : a.eval s = .slice none 0 0) (ao : Option Addr) (m c : Nat) (news : List Value) (hx : a.eval x = .slice ao m c) (hR : Rw w size (.slice ao m c) m news) (h1 : ∀ u ∈ news, u.oneCell' = true)
    (hm : m ≤ 1000) (hbytes : bytes ≤ 1000) (hbase : base ≤ w.heap.size)
    (h : ∀ ao' cap' w', w'.ownsRow base e size (.slice ao' m cap') m news → Below w.heap.size w w' → K (a.put o.dst (.slice ao' m cap')) w') :
    if Region.wanted o (yielded ops a.tmps) = true then Oper.wp Tryd.prog o a w K Q else E := by
  have hw : Region.wanted o (yielded ops a.tmps) = true := by simp [Region.wanted, hgd]
  rw [if_pos hw]
  cases ao with
  | none =>
    have hm0 : m = 0 := by
      obtain ⟨_, ao, c', he, _, h0 | ⟨b, off, h, _⟩⟩ := hR
      · exact h0
      · cases he; cases h
    subst hm0
    obtain rfl : news = [] := List.eq_nil_of_length_eq_zero (by rw [hR.1]; omega)
    have hrun := run_append_nils w t o.type e i ht hi c
    unfold Oper.wp
    simp [execOp, ho, resolve, invoke, builtin, hs, hx, hrun, Result.andThen]
    exact h none 0 w (World.ownsRow_nil _ _ _ _) (Below.refl _ _)
  | some ad =>
    have hb : (0 + m) * bytes ≤ 140737488355328 := by
      have : m * bytes ≤ 1000 * 1000 := Nat.mul_le_mul hm hbytes
      rw [Nat.zero_add]
      omega
    obtain ⟨v', w', hr, h2, h3, _, _⟩ := run_append_own_at (P := Tryd.prog) w base t o.type e i z size bytes ht hi hz hsize hby hzs hsz (.slice none 0 0) 0 [] (World.ownsRow_nil _ _ _ _) ad m c news hR.1 (rowN_news hR) h1 (by unfold maxLen; omega) hb hbase
    rw [Nat.zero_add, List.nil_append] at h2
    obtain ⟨ao', cap', rfl⟩ := (Rw.own h2).form
    unfold Oper.wp
    simp only [execOp, ho, resolve, invoke, builtin, Sem.run_bind, Sem.run_pure, Result.andThen_ok, List.map_toArray, List.map_cons, List.map_nil, hs, hx, hr]
    exact h ao' cap' w' h2 ⟨h3.os, h3.tape, h3.output, h3.size, fun k hk => h3.block k hk (by simp [Value.ownBlock])⟩

end Go.Proofs.YtcipdmdliobdmaaDoor

/-
  Blocks of several cells: what is loaded of them, and a disk, a bool and an error as results; the bounds of an int.
-/
namespace Go.Proofs.YtcipdmdliobdmaaDoor
open Go.RowKit

/-- As many cells as a value has, read as one. -/
theorem load_many {ty : TypeId} {w : World} {g o : Nat} {cs : List Value} (ha : (isAgg ty).run Tryd.prog w = .ok true w) (hi : (Tryd.prog.info? ty).map (·.size) = some cs.length)
    (hc : ∀ j u, cs[j]? = some u → w.cell? ⟨g, o + j, none⟩ = some u) : (loadVar ty ⟨g, o, none⟩).run Tryd.prog w = .ok (.agg cs.toArray) w := by
  cases hq : Tryd.prog.info? ty with
  | none => simp [hq] at hi
  | some i =>
    have hs : i.size = cs.length := by simpa [hq] using hi
    have hl : (loadCells ⟨g, o, none⟩ cs.length).run Tryd.prog w = .ok cs.toArray w := run_loadCells_list (P := Tryd.prog) (w := w) (a := ⟨g, o, none⟩) (cs := cs) (fun j u hu => by
      rw [Go.WideShapes.add_plain]
      exact hc j u hu)
    simp [loadVar, ha, sizeOf, typeInfo, hq, hs, hl]
/-- A block of a call's own, with these cells. -/
def Cx (w : World) (b : Nat) (t : TypeId) (cs : List Value) : Prop := w.heap[b]? = some (.cells cs.toArray t (0, 0))
theorem Cx.lt {w : World} {b : Nat} {t : TypeId} {cs : List Value} (h : Cx w b t cs) : b < w.heap.size := (Array.getElem?_eq_some_iff.1 h).1
theorem Cx.cell {w : World} {b : Nat} {t : TypeId} {cs : List Value} (h : Cx w b t cs) {j : Nat} {v : Value} (hj : cs[j]? = some v) : w.cell? ⟨b, j, none⟩ = some v := by
  rw [cell_of_row w b j _ _ _ h]
  simpa using hj
theorem Cx.frozen {w : World} {b : Nat} {t : TypeId} {cs : List Value} (h : Cx w b t cs) (j : Nat) : w.frozen? ⟨b, j, none⟩ = false := by
  unfold Cx at h
  simp [World.frozen?, h]
theorem Cx.below {w w' : World} {b : Nat} {t : TypeId} {cs : List Value} (h : Cx w b t cs) (hb : Below w.heap.size w w') : Cx w' b t cs := by
  unfold Cx
  rw [hb.block _ h.lt]
  exact h
theorem Cx.new (w : World) (t : TypeId) (cs : List Value) : Cx (w.alloc (.cells cs.toArray t)) w.heap.size t cs := heap_alloc_new w _
theorem Cx.set {w : World} {b : Nat} {t : TypeId} {cs : List Value} (h : Cx w b t cs) (j : Nat) (v : Value) : Cx (w.setCell ⟨b, j, none⟩ v) b t (cs.set j v) := by
  have h1 := heap_setCell_same w b j _ _ v h
  unfold Cx
  rw [h1]
  simp
theorem Cx.other {w : World} {b b' j : Nat} {t : TypeId} {cs : List Value} (h : Cx w b t cs) (hne : b ≠ b') (v : Value) : Cx (w.setCell ⟨b', j, none⟩ v) b t cs := by
  unfold Cx
  rw [heap_setCell_other _ ⟨b', j, none⟩ b v hne]
  exact h
theorem Cx.three {w : World} {b : Nat} {t : TypeId} {v0 v1 v2 : Value} (h : Cx w b t [v0, v1, v2]) : w.cell? ⟨b, 0, none⟩ = some v0 ∧ w.cell? ⟨b, 1, none⟩ = some v1 ∧ w.cell? ⟨b, 2, none⟩ = some v2 ∧
    w.frozen? ⟨b, 0, none⟩ = false ∧ w.frozen? ⟨b, 1, none⟩ = false ∧ w.frozen? ⟨b, 2, none⟩ = false ∧ b < w.heap.size :=
  ⟨h.cell rfl, h.cell rfl, h.cell rfl, h.frozen _, h.frozen _, h.frozen _, h.lt⟩
/-- Cells of a box of one's own, which reads as these. -/
theorem cells_box {w : World} {g : Nat} {t : TypeId} {cs : List Value} (h : w.heap[g]? = some (.cells cs.toArray t (0, 0))) : ∀ j u, cs[j]? = some u → w.cell? ⟨g, 0 + j, none⟩ = some u := by
  intro j u hu
  rw [Nat.zero_add, cell_of_row w g j _ _ _ h]
  simpa using hu
/-- A disk, a bool and an error's number are what comes out of a call. -/
theorem ret_disk3 {fn : Func} {p q r : Tmp} {R : Ending → World → Prop} {a : Act} {w : World} (h : fn.results = #[.cell p 25, .tmp q, .tmp r]) (hd : a.defers = []) (g : Nat) (v0 v1 x y : Value) (hp : a.tmps.getD p undef = .pointer (some ⟨g, 0, none⟩))
    (hq : a.tmps.getD q undef = x) (hr : a.tmps.getD r undef = y) (c0 : w.cell? ⟨g, 0, none⟩ = some v0) (c1 : w.cell? ⟨g, 1, none⟩ = some v1) (hR : R (.returned (.tuple #[.agg #[v0, v1], x, y])) w) : bodyPost Tryd.prog fn R .ret a w := by
  refine bodyPost_ret (v := .tuple #[.agg #[v0, v1], x, y]) ?_ hd hR
  have hp' : a.tmps[p]?.getD undef = .pointer (some ⟨g, 0, none⟩) := by simpa using hp
  have hq' : a.tmps[q]?.getD undef = x := by simpa using hq
  have hr' : a.tmps[r]?.getD undef = y := by simpa using hr
  simp [results, h, hp', hq', hr', asAddr, load_disk w g v0 v1 c0 c1]
theorem i64_bounds {a : Int} (h : (Lit.int .i64 a).wf = true) : -9223372036854775808 ≤ a ∧ a ≤ 9223372036854775807 := by
  simp only [Lit.wf, IntKind.min, IntKind.max, IntKind.signed, IntKind.bits, Bool.and_eq_true] at h
  simpa using h

end Go.Proofs.YtcipdmdliobdmaaDoor

/-
  disk: Write.
-/
namespace Go.Proofs.YtcipdmdliobdmaaDoor
open Go.RowKit

set_option maxRecDepth 100000 in
set_option maxHeartbeats 4000000 in
theorem write_calls (vb vw : Value) (bs : List (List UInt8)) (ws : List Wr) (i : Int) (s : List UInt8) (w : World) (hb : Txts w vb bs) (hw : Wrs w vw ws) :
    Calls Tryd.prog 29 #[.agg #[vb, vw], .int .i64 i, .string ⟨s.toArray⟩] w fun e w' => ∃ vb' vw', e = .returned (.tuple #[.agg #[vb', vw'], .int .i64 (writeE bs ws i s)]) ∧ OwnD w' w.heap.size vb' (writeBs bs ws i s) vw' (writeWs bs ws i s) ∧ Below w.heap.size w w' := by
  obtain ⟨ab, cb, rfl⟩ := hb.strs.form
  obtain ⟨aw, cw, rfl⟩ := hw.form
  obtain ⟨hx0, hr0, hB0⟩ := entry2 w (.slice ab bs.length cb) (.slice aw ws.length cw)
  have C1 := check_calls _ _ bs ws _ (hb.below hB0) (hw.below hB0)
  cases hR : rightB bs ws with
  | false =>
    have E1 := Lib.hid (show writeE bs ws i s = 1 by simp [writeE, hR])
    have E2 := Lib.hid (show writeBs bs ws i s = [] by simp [writeBs, E1.out])
    have E3 := Lib.hid (show writeWs bs ws i s = [] by simp [writeWs, E1.out])
    rw [hR] at C1
    have K1 := Lib.hid C1
    clear C1 hR
    go_enter Tryd.func29, Tryd.ntmps29
    go_wp2_with fail
    refine K1.out.mono ?_
    rintro e w1 ⟨rfl, hB1⟩
    obtain ⟨q0, q1, q2, q3, q4⟩ := (hr0.below hB1).cells
    have hBB := below2 hB0 hB1
    go_wp2_with fail
    obtain ⟨r1, r2⟩ := ret_own (x := .slice none 0 0) (y := .slice none 0 0) (nil_own w1 (w.heap.size + 2)) (Nat.le_refl _) hBB
    refine ret_disk2 (p := 6) (q := 7) (by kernel_rfl) rfl (w.heap.size + 1) (.slice none 0 0) (.slice none 0 0) (.int .i64 1) rfl rfl (by go_simp) (by go_simp) ?_
    exact ⟨_, _, by rw [E1.out], by rw [E2.out, E3.out]; exact r1, r2⟩
  | true =>
    cases hH : hasB bs.length i with
    | false =>
      have E1 := Lib.hid (show writeE bs ws i s = 40 by simp [writeE, hR, hH])
      have E2 := Lib.hid (show writeBs bs ws i s = [] by simp [writeBs, E1.out])
      have E3 := Lib.hid (show writeWs bs ws i s = [] by simp [writeWs, E1.out])
      have hH := Lib.hid hH
      rw [hR] at C1
      have K1 := Lib.hid C1
      have hBB0 := hB0
      obtain ⟨p00, p01, p02, p03, p04⟩ := hx0.cells
      obtain ⟨q00, q01, q02, q03, q04⟩ := hr0.cells
      clear C1 hR
      go_enter Tryd.func29, Tryd.ntmps29
      go_wp2_with fail
      refine K1.out.mono ?_
      rintro e w1 ⟨rfl, hB1⟩
      have hx1 := hx0.below hB1
      have hr1 := hr0.below hB1
      have hBB1 := below2 hBB0 hB1
      obtain ⟨p10, p11, p12, p13, p14⟩ := hx1.cells
      obtain ⟨q10, q11, q12, q13, q14⟩ := hr1.cells
      clear p00 p01 p02 p03 p04 q00 q01 q02 q03 q04
      go_wp2_with fail
      refine (has_calls _ _ _ _ _ _).mono ?_
      rintro e w2 ⟨rfl, hB2⟩
      rw [hH.out]
      have hx2 := hx1.below hB2
      have hr2 := hr1.below hB2
      have hBB2 := below2 hBB1 hB2
      obtain ⟨p20, p21, p22, p23, p24⟩ := hx2.cells
      obtain ⟨q20, q21, q22, q23, q24⟩ := hr2.cells
      clear p10 p11 p12 p13 p14 q10 q11 q12 q13 q14
      go_wp2_with fail
      obtain ⟨r1, r2⟩ := ret_own (x := .slice none 0 0) (y := .slice none 0 0) (nil_own w2 (w.heap.size + 2)) (Nat.le_refl _) hBB2
      refine ret_disk2 (p := 6) (q := 7) (by kernel_rfl) rfl (w.heap.size + 1) (.slice none 0 0) (.slice none 0 0) (.int .i64 40) rfl rfl (by go_simp) (by go_simp) ?_
      exact ⟨_, _, by rw [E1.out], by rw [E2.out, E3.out]; exact r1, r2⟩
    | true =>
      by_cases h3 : s.length ≤ 256
      · have d3 : decide ((s.length : Int) ≤ 256) = true := by simp; omega
        by_cases h4 : ws.length < 100
        · have d4 : ((ws.length : Int) == 100) = false := by rw [beq_eq_false_iff_ne]; omega
          have E1 := Lib.hid (show writeE bs ws i s = 0 by simp [writeE, hR, hH, h3, h4])
          have E2 := Lib.hid (show writeBs bs ws i s = bs by simp [writeBs, E1.out])
          have E3 := Lib.hid (show writeWs bs ws i s = ws ++ [(i, s)] by simp [writeWs, E1.out])
          have hH := Lib.hid hH
          obtain ⟨hl1, hl2, hl3, _⟩ := right_parts hR
          rw [hR] at C1
          have K1 := Lib.hid C1
          have hBB0 := hB0
          obtain ⟨p00, p01, p02, p03, p04⟩ := hx0.cells
          obtain ⟨q00, q01, q02, q03, q04⟩ := hr0.cells
          clear C1 hR
          go_enter Tryd.func29, Tryd.ntmps29
          go_wp2_with fail
          refine K1.out.mono ?_
          rintro e w1 ⟨rfl, hB1⟩
          have hx1 := hx0.below hB1
          have hr1 := hr0.below hB1
          have hBB1 := below2 hBB0 hB1
          obtain ⟨p10, p11, p12, p13, p14⟩ := hx1.cells
          obtain ⟨q10, q11, q12, q13, q14⟩ := hr1.cells
          clear p00 p01 p02 p03 p04 q00 q01 q02 q03 q04
          go_wp2_with fail
          refine (has_calls _ _ _ _ _ _).mono ?_
          rintro e w2 ⟨rfl, hB2⟩
          rw [hH.out]
          have hx2 := hx1.below hB2
          have hr2 := hr1.below hB2
          have hBB2 := below2 hBB1 hB2
          obtain ⟨p20, p21, p22, p23, p24⟩ := hx2.cells
          obtain ⟨q20, q21, q22, q23, q24⟩ := hr2.cells
          clear p10 p11 p12 p13 p14 q10 q11 q12 q13 q14
          go_wp2_with (go_at_call 49; refine (fits_calls s _).mono ?_; rintro e w3 ⟨rfl, rfl⟩)
          have hBa := below_alloc w2 (.cells #[.int .i64 i, .string ⟨s.toArray⟩] 63)
          have hT := (hb.below hBB2).below hBa
          have hV := (hw.below hBB2).below hBa
          refine (after_wait_calls _ _ _ bs ws [(i, s)] _ hT hV (Wrs.one w2 i s _) (by omega) (by omega) (by simp)).mono ?_
          rintro e w4 ⟨vb4, vw4, rfl, ho4, hB4⟩
          have hr4 := (hr2.below hBa).below hB4
          have hBB4 := below2 (below2 hBB2 hBa) hB4
          obtain ⟨q40, q41, q42, q43, q44⟩ := hr4.cells
          obtain ⟨aw4, cw4, hv3⟩ := (Wrs.own ho4.2).form
          obtain ⟨ab4, cb4, hv4⟩ := (Txts.own ho4.1).strs.form
          rw [show (ws ++ [(i, s)]).length = ws.length + 1 by simp] at hv3
          subst hv3 hv4
          have HO4 := Lib.hid ho4
          clear ho4 p20 p21 p22 p23 p24 q20 q21 q22 q23
          go_wp2_with fail
          obtain ⟨r1, r2⟩ := ret_own (w := w) (x := .slice ab4 bs.length cb4) (y := .slice aw4 (ws.length + 1) cw4) HO4.out (by simp; omega) hBB4
          refine ret_disk2 (p := 6) (q := 7) (by kernel_rfl) rfl (w.heap.size + 1) (.slice ab4 bs.length cb4) (.slice aw4 (ws.length + 1) cw4) (.int .i64 0) rfl rfl (by go_simp) (by go_simp) ?_
          exact ⟨_, _, by rw [E1.out], by rw [E2.out, E3.out]; exact r1, r2⟩
        · have d4 : ((ws.length : Int) == 100) = true := by
            have := (right_parts hR).2.2.1
            rw [beq_iff_eq]; omega
          have E1 := Lib.hid (show writeE bs ws i s = 41 by simp [writeE, hR, hH, h3, h4])
          have E2 := Lib.hid (show writeBs bs ws i s = [] by simp [writeBs, E1.out])
          have E3 := Lib.hid (show writeWs bs ws i s = [] by simp [writeWs, E1.out])
          have hH := Lib.hid hH
          rw [hR] at C1
          have K1 := Lib.hid C1
          have hBB0 := hB0
          obtain ⟨p00, p01, p02, p03, p04⟩ := hx0.cells
          obtain ⟨q00, q01, q02, q03, q04⟩ := hr0.cells
          clear C1 hR
          go_enter Tryd.func29, Tryd.ntmps29
          go_wp2_with fail
          refine K1.out.mono ?_
          rintro e w1 ⟨rfl, hB1⟩
          have hx1 := hx0.below hB1
          have hr1 := hr0.below hB1
          have hBB1 := below2 hBB0 hB1
          obtain ⟨p10, p11, p12, p13, p14⟩ := hx1.cells
          obtain ⟨q10, q11, q12, q13, q14⟩ := hr1.cells
          clear p00 p01 p02 p03 p04 q00 q01 q02 q03 q04
          go_wp2_with fail
          refine (has_calls _ _ _ _ _ _).mono ?_
          rintro e w2 ⟨rfl, hB2⟩
          rw [hH.out]
          have hx2 := hx1.below hB2
          have hr2 := hr1.below hB2
          have hBB2 := below2 hBB1 hB2
          obtain ⟨p20, p21, p22, p23, p24⟩ := hx2.cells
          obtain ⟨q20, q21, q22, q23, q24⟩ := hr2.cells
          clear p10 p11 p12 p13 p14 q10 q11 q12 q13 q14
          go_wp2_with (go_at_call 49; refine (fits_calls s _).mono ?_; rintro e w3 ⟨rfl, rfl⟩)
          go_wp2_with fail
          obtain ⟨r1, r2⟩ := ret_own (x := .slice none 0 0) (y := .slice none 0 0) (nil_own w2 (w.heap.size + 2)) (Nat.le_refl _) hBB2
          refine ret_disk2 (p := 6) (q := 7) (by kernel_rfl) rfl (w.heap.size + 1) (.slice none 0 0) (.slice none 0 0) (.int .i64 41) rfl rfl (by go_simp) (by go_simp) ?_
          exact ⟨_, _, by rw [E1.out], by rw [E2.out, E3.out]; exact r1, r2⟩
      · have d3 : decide ((s.length : Int) ≤ 256) = false := by simp; omega
        have E1 := Lib.hid (show writeE bs ws i s = 1 by simp [writeE, hR, hH, h3])
        have E2 := Lib.hid (show writeBs bs ws i s = [] by simp [writeBs, E1.out])
        have E3 := Lib.hid (show writeWs bs ws i s = [] by simp [writeWs, E1.out])
        have hH := Lib.hid hH
        rw [hR] at C1
        have K1 := Lib.hid C1
        have hBB0 := hB0
        obtain ⟨p00, p01, p02, p03, p04⟩ := hx0.cells
        obtain ⟨q00, q01, q02, q03, q04⟩ := hr0.cells
        clear C1 hR
        go_enter Tryd.func29, Tryd.ntmps29
        go_wp2_with fail
        refine K1.out.mono ?_
        rintro e w1 ⟨rfl, hB1⟩
        have hx1 := hx0.below hB1
        have hr1 := hr0.below hB1
        have hBB1 := below2 hBB0 hB1
        obtain ⟨p10, p11, p12, p13, p14⟩ := hx1.cells
        obtain ⟨q10, q11, q12, q13, q14⟩ := hr1.cells
        clear p00 p01 p02 p03 p04 q00 q01 q02 q03 q04
        go_wp2_with fail
        refine (has_calls _ _ _ _ _ _).mono ?_
        rintro e w2 ⟨rfl, hB2⟩
        rw [hH.out]
        have hx2 := hx1.below hB2
        have hr2 := hr1.below hB2
        have hBB2 := below2 hBB1 hB2
        obtain ⟨p20, p21, p22, p23, p24⟩ := hx2.cells
        obtain ⟨q20, q21, q22, q23, q24⟩ := hr2.cells
        clear p10 p11 p12 p13 p14 q10 q11 q12 q13 q14
        go_wp2_with (go_at_call 49; refine (fits_calls s _).mono ?_; rintro e w3 ⟨rfl, rfl⟩)
        go_wp2_with fail
        obtain ⟨r1, r2⟩ := ret_own (x := .slice none 0 0) (y := .slice none 0 0) (nil_own w2 (w.heap.size + 2)) (Nat.le_refl _) hBB2
        refine ret_disk2 (p := 6) (q := 7) (by kernel_rfl) rfl (w.heap.size + 1) (.slice none 0 0) (.slice none 0 0) (.int .i64 1) rfl rfl (by go_simp) (by go_simp) ?_
        exact ⟨_, _, by rw [E1.out], by rw [E2.out, E3.out]; exact r1, r2⟩

end Go.Proofs.YtcipdmdliobdmaaDoor

/-
  disk: Sync.
-/
namespace Go.Proofs.YtcipdmdliobdmaaDoor
open Go.RowKit

set_option maxRecDepth 100000 in
set_option maxHeartbeats 4000000 in
theorem sync_calls (vb vw : Value) (bs : List (List UInt8)) (ws : List Wr) (w : World) (hb : Txts w vb bs) (hw : Wrs w vw ws) :
    Calls Tryd.prog 34 #[.agg #[vb, vw]] w fun e w' => ∃ vb' vw', e = .returned (.tuple #[.agg #[vb', vw'], .int .i64 (syncE bs ws)]) ∧ OwnD w' w.heap.size vb' (syncBs bs ws) vw' [] ∧ Below w.heap.size w w' := by
  obtain ⟨ab, cb, rfl⟩ := hb.strs.form
  obtain ⟨aw, cw, rfl⟩ := hw.form
  obtain ⟨hx0, hr0, hB0⟩ := entry2 w (.slice ab bs.length cb) (.slice aw ws.length cw)
  have C1 := check_calls _ _ bs ws _ (hb.below hB0) (hw.below hB0)
  cases hR : rightB bs ws with
  | false =>
    have E1 := Lib.hid (show syncE bs ws = 1 by simp [syncE, hR])
    have E2 := Lib.hid (show syncBs bs ws = [] by simp [syncBs, hR])
    rw [hR] at C1
    have K1 := Lib.hid C1
    clear C1 hR
    go_enter Tryd.func34, Tryd.ntmps34
    go_wp2_with fail
    refine K1.out.mono ?_
    rintro e w1 ⟨rfl, hB1⟩
    obtain ⟨q0, q1, q2, q3, q4⟩ := (hr0.below hB1).cells
    have hBB := below2 hB0 hB1
    go_wp2_with fail
    obtain ⟨r1, r2⟩ := ret_own (x := .slice none 0 0) (y := .slice none 0 0) (nil_own w1 (w.heap.size + 2)) (Nat.le_refl _) hBB
    refine ret_disk2 (p := 2) (q := 3) (by kernel_rfl) rfl (w.heap.size + 1) (.slice none 0 0) (.slice none 0 0) (.int .i64 1) rfl rfl (by go_simp) (by go_simp) ?_
    exact ⟨_, _, by rw [E1.out], by rw [E2.out]; exact r1, r2⟩
  | true =>
    have E1 := Lib.hid (show syncE bs ws = 0 by simp [syncE, hR])
    have E2 := Lib.hid (show syncBs bs ws = layL bs ws by simp [syncBs, hR])
    obtain ⟨hl1, hl2, hl3, hl4, hl5⟩ := right_parts hR
    have HL5 := Lib.hid (fun x hx => (hl5 x hx).1)
    rw [hR] at C1
    have K1 := Lib.hid C1
    clear C1 hR hl4 hl5
    go_enter Tryd.func34, Tryd.ntmps34
    go_wp2_with fail
    refine K1.out.mono ?_
    rintro e w1 ⟨rfl, hB1⟩
    have hx1 := hx0.below hB1
    have hr1 := hr0.below hB1
    have hBB1 := below2 hB0 hB1
    obtain ⟨p10, p11, p12, p13, p14⟩ := hx1.cells
    obtain ⟨q10, q11, q12, q13, q14⟩ := hr1.cells
    go_upto_region 3 with fail
    go_region_with (first
      | (go_at_call 38; refine (still_calls _ _ _ _ _ _ _).mono ?_; rintro e w2 ⟨rfl, hB2⟩; have hB2' := below2 (drew_below w1) hB2; have hx2 := hx1.below hB2'; have hr2 := hr1.below hB2'; have hBB2 := below2 hBB1 hB2'; have hsz2 : w.heap.size + 2 ≤ w2.heap.size := hr2.cells.2.2.2.2; obtain ⟨p20, p21, p22, p23, p24⟩ := hx2.cells; obtain ⟨q20, q21, q22, q23, q24⟩ := hr2.cells)
      | (go_at_call 37; refine (after_lay_calls _ _ _ bs [] ws _ (hb.below hBB2) (Wrs.nil _) (hw.below hBB2) (by omega) (by simp) (by omega) HL5.out).mono ?_; rintro e w4 ⟨vb4, vw4, rfl, ho4, hB4⟩; obtain ⟨q40, q41, q42, q43, q44⟩ := (hr2.below hB4).cells; obtain ⟨aw4, cw4, hv3⟩ := (Wrs.own ho4.2).form; obtain ⟨ab4, cb4, hv4⟩ := (Txts.own ho4.1).strs.form; rw [layL_len] at hv4; rw [List.length_nil] at hv3; subst hv3 hv4; have hBB4 := below2 hBB2 hB4; have HO4 := Lib.hid ho4; clear ho4 p20 p21 p22 p23 p24 q20 q21 q22 q23))
    all_goals
      go_wp2_with fail
      obtain ⟨r1, r2⟩ := ret_own (w := w) (x := .slice ab4 bs.length cb4) (y := .slice aw4 0 cw4) HO4.out hsz2 hBB4
      refine ret_disk2 (p := 2) (q := 3) (by kernel_rfl) rfl (w.heap.size + 1) (.slice ab4 bs.length cb4) (.slice aw4 0 cw4) (.int .i64 0) rfl rfl (by go_simp) (by go_simp) ?_
      exact ⟨_, _, by rw [E1.out], by rw [E2.out]; exact r1, r2⟩

end Go.Proofs.YtcipdmdliobdmaaDoor

/-
  The document's own Check.
-/
namespace Go.Proofs.YtcipdmdliobdmaaDoor
open Go.RowKit

set_option maxHeartbeats 4000000 in
theorem refCheck_calls (vb vw : Value) (bs : List (List UInt8)) (ws : List Wr) (w : World) (hb : Txts w vb bs) (hw : Wrs w vw ws) :
    Calls Tryd.prog 44 #[.agg #[vb, vw]] w fun e w' => e = .returned (.bool (rightB bs ws)) ∧ Below w.heap.size w w' := by
  obtain ⟨ab, cb, rfl⟩ := hb.strs.form
  obtain ⟨aw, cw, rfl⟩ := hw.form
  have HB := Lib.hid hb
  have HW := Lib.hid hw
  clear hb hw
  by_cases hsz : 1 ≤ bs.length ∧ bs.length ≤ 200 ∧ ws.length ≤ 100
  · obtain ⟨h1, h2, h3⟩ := hsz
    have hB0 := below_alloc w (.cells #[.slice ab bs.length cb, .slice aw ws.length cw] 25)
    have d1 : decide ((bs.length : Int) < 1) = false := by simp; omega
    have d2 : decide ((200 : Int) < bs.length) = false := by simp; omega
    have d3 : decide ((100 : Int) < ws.length) = false := by simp; omega
    go_enter Tryd.func44, Tryd.ntmps44
    go_wp2_with fail
    go_loop [3] (fun i => ∃ k : Nat, k ≤ bs.length ∧ i = .int .i64 k ∧ allTo blockB bs k) (fun i => bs.length - (intOf i).toNat)
    case atStart => exact ⟨0, Nat.zero_le _, rfl, allTo_zero _ _⟩
    case round =>
      obtain ⟨k, hk, rfl, hf⟩ := hrel
      by_cases hlt : k < bs.length
      · obtain ⟨b, off, rfl, hcell⟩ := HB.out.strs.at hlt
        have hbl := World.block_lt_of_cell? w _ hcell
        generalize hs : bs[k] = s at hcell
        have HS := Lib.hid hs
        clear hs
        by_cases h4 : s.length ≤ 256
        · have d4 : decide ((s.length : Int) ≤ 256) = true := by simp; omega
          go_wp2_with fail
          go_round
          case rel => exact ⟨k + 1, by omega, by go_num, allTo_succ hf hlt (by rw [HS.out]; simpa [blockB] using h4)⟩
          case measure => simp [intOf]; omega
        · have d4 : decide ((s.length : Int) ≤ 256) = false := by simp; omega
          have hr := Lib.hid (right_blocks (ws := ws) (all_not hlt (by rw [HS.out]; simpa [blockB] using h4)))
          go_wp2_with fail
          go_ret
          exact ⟨by rw [hr.out]; rfl, hB0⟩
      · obtain rfl : k = bs.length := by omega
        have hbb := Lib.hid (allTo_all hf)
        clear hf
        go_wp2_with fail
        go_loopw [4] (fun i wr => ∃ k : Nat, k ≤ ws.length ∧ i = .int .i64 k ∧ allTo (writeB bs.length) ws k ∧ Below w.heap.size w wr ∧ wr.cell? ⟨w.heap.size, 0, none⟩ = some (.slice ab bs.length cb)
           ∧ wr.cell? ⟨w.heap.size, 1, none⟩ = some (.slice aw ws.length cw)) (fun i _ => ws.length - (intOf i).toNat)
        case atStart => exact ⟨0, Nat.zero_le _, rfl, allTo_zero _ _, hB0, by go_simp, by go_simp⟩
        case round =>
          obtain ⟨k, hk, rfl, hf, hB, hx0, hx1⟩ := hrel
          by_cases hlt : k < ws.length
          · obtain ⟨b, off, rfl, hc0, hc1⟩ := (HW.out.below hB).at hlt
            obtain ⟨i, hi⟩ : ∃ i, ws[k].1 = i := ⟨_, rfl⟩
            obtain ⟨s, hs⟩ : ∃ i, ws[k].2 = i := ⟨_, rfl⟩
            rw [hi] at hc0
            rw [hs] at hc1
            have HS := Lib.hid hs
            have HI := Lib.hid hi
            clear hs hi
            have hz : w.heap.size < wr.heap.size := World.block_lt_of_cell? wr _ hx0
            have hB2 := hB.alloc (by omega) (.cells #[.int .i64 i, .string ⟨s.toArray⟩] 63)
            by_cases hq : hasB bs.length i = true ∧ s.length ≤ 256
            · have hn := Lib.hid (allTo_succ (p := writeB bs.length) hf hlt (by simp [writeB, HI.out, HS.out, hq.1, blockB, hq.2]))
              obtain ⟨hq1, hq2⟩ := hq
              have hq3 : 0 ≤ i ∧ i < bs.length := by simpa [hasB] using hq1
              obtain ⟨hi0, hi1⟩ := hq3
              clear hq1
              go_wp2_with fail
              go_roundw
              case rel => exact ⟨k + 1, by omega, by go_num, hn.out, hB2, by go_simp, by go_simp⟩
              case measure => simp [intOf]; omega
            · have hr := Lib.hid (right_writes (bs := bs) (all_not (p := writeB bs.length) hlt (by
                simp only [writeB, HI.out, HS.out, blockB]
                cases hh : hasB bs.length i with
                | false => simp
                | true => simp; simpa [hh] using hq)))
              have hc : i < 0 ∨ (0 ≤ i ∧ bs.length ≤ i) ∨ (0 ≤ i ∧ i < bs.length ∧ 256 < s.length) := by
                by_cases a : i < 0
                · exact .inl a
                · by_cases b : (bs.length : Int) ≤ i
                  · exact .inr (.inl ⟨by omega, b⟩)
                  · refine .inr (.inr ⟨by omega, by omega, ?_⟩)
                    have : hasB bs.length i = true := by simp [hasB]; omega
                    simp [this] at hq
                    omega
              clear hq
              rcases hc with h | ⟨h, h'⟩ | ⟨h, h', h''⟩
              all_goals
                go_wp2_with fail
                go_ret
                exact ⟨by rw [hr.out]; rfl, hB2⟩
          · obtain rfl : k = ws.length := by omega
            have hr := Lib.hid (right_mk h1 h2 h3 hbb.out (allTo_all hf))
            go_wp2_with fail
            go_ret
            exact ⟨by rw [hr.out]; rfl, hB⟩
  · have hr := Lib.hid (right_size hsz)
    have hB0 := below_alloc w (.cells #[.slice ab bs.length cb, .slice aw ws.length cw] 25)
    have hc : bs.length < 1 ∨ (1 ≤ bs.length ∧ 200 < bs.length) ∨ (1 ≤ bs.length ∧ bs.length ≤ 200 ∧ 100 < ws.length) := by omega
    clear hsz
    rcases hc with h | ⟨h, h'⟩ | ⟨h, h', h''⟩
    all_goals
      go_enter Tryd.func44, Tryd.ntmps44
      go_wp2_with fail
      go_ret
      exact ⟨by rw [hr.out]; rfl, hB0⟩

end Go.Proofs.YtcipdmdliobdmaaDoor

/-
  The document's own says and Read.
-/
namespace Go.Proofs.YtcipdmdliobdmaaDoor
open Go.RowKit

/-- What block i says behind k of the writes. -/
def saysTo (bs : List (List UInt8)) (ws : List Wr) (i : Int) (k : Nat) : List UInt8 := saysL bs (ws.take k) i

set_option maxRecDepth 100000 in
set_option maxHeartbeats 4000000 in
theorem says_calls (vb vw : Value) (bs : List (List UInt8)) (ws : List Wr) (i : Int) (w : World) (hb : Txts w vb bs) (hw : Wrs w vw ws) (hwl : ws.length ≤ 1000) (h0 : hasB bs.length i = true) (hok : ∀ y ∈ ws, hasB bs.length y.1 = true) :
    Calls Tryd.prog 45 #[.agg #[vb, vw], .int .i64 i] w fun e w' => e = .returned (.string ⟨(saysL bs ws i).toArray⟩) ∧ Below w.heap.size w w' := by
  obtain ⟨ab, cb, rfl⟩ := hb.strs.form
  obtain ⟨aw, cw, rfl⟩ := hw.form
  have hij : 0 ≤ i ∧ i < bs.length := by simpa [hasB] using h0
  obtain ⟨q, rfl⟩ : ∃ q : Nat, i = (q : Int) := ⟨i.toNat, by omega⟩
  have hq : q < bs.length := by omega
  obtain ⟨b1, o1, rfl, e1⟩ := hb.strs.at hq
  have hb1 := World.block_lt_of_cell? w _ e1
  have HS0 := Lib.hid (show saysTo bs ws q 0 = bs[q] by simp [saysTo, saysL, layL, List.getD, List.getElem?_eq_getElem hq])
  have HW := Lib.hid hw
  have HH := Lib.hid (fun (k : Nat) (hk : k < ws.length) (x : Wr) (hx : ws[k] = x) => And.intro (fun h : x.1 = (q : Int) => show saysTo bs ws q (k + 1) = x.2 by
      rw [saysTo, List.take_succ_eq_append_getElem hk, hx]; exact says_cons_hit bs _ x q h h0)
    (fun h : x.1 ≠ (q : Int) => show saysTo bs ws q (k + 1) = saysTo bs ws q k by
      rw [saysTo, List.take_succ_eq_append_getElem hk, hx]; exact says_cons_miss bs _ x q h (hok x (hx ▸ List.getElem_mem hk)) h0))
  generalize bs[q] = s0 at e1 HS0
  have hB0 := below_alloc w (.cells #[.slice (some ⟨b1, o1, none⟩) bs.length cb, .slice aw ws.length cw] 25)
  clear hb hw h0 hok hij
  go_enter Tryd.func45, Tryd.ntmps45
  go_wp2_with fail
  go_loop [5, 6] (fun t i => ∃ k : Nat, k ≤ ws.length ∧ i = .int .i64 k ∧ t = .string ⟨(saysTo bs ws q k).toArray⟩) (fun _ i => ws.length - (intOf i).toNat)
  case atStart => exact ⟨0, Nat.zero_le _, rfl, by rw [HS0.out]⟩
  case round =>
    obtain ⟨k, hk, rfl, rfl⟩ := hrel
    by_cases hlt : k < ws.length
    · obtain ⟨b, off, rfl, c0, c1⟩ := HW.out.at hlt
      have hbl := World.block_lt_of_cell? w _ c0
      obtain ⟨⟨a, s⟩, hx⟩ : ∃ y, ws[k] = y := ⟨_, rfl⟩
      rw [hx] at c0 c1
      have H2 := Lib.hid (HH.out k hlt _ hx)
      clear hx
      generalize saysTo bs ws q k = t at H2
      by_cases ha : a = (q : Int)
      · have ha1 : (a == (q : Int)) = true := by simp [ha]
        have H3 := Lib.hid (H2.out.1 ha)
        clear ha
        go_wp2_with fail
        go_round
        case rel => exact ⟨k + 1, by omega, by go_num, by rw [H3.out]⟩
        case measure => simp [intOf]; omega
      · have ha1 : (a == (q : Int)) = false := by simp [ha]
        have H3 := Lib.hid (H2.out.2 ha)
        clear ha
        go_wp2_with fail
        go_round
        case rel => exact ⟨k + 1, by omega, by go_num, by rw [H3.out]⟩
        case measure => simp [intOf]; omega
    · obtain rfl : k = ws.length := by omega
      have HE := Lib.hid (show saysTo bs ws q ws.length = saysL bs ws q by rw [saysTo, List.take_length])
      go_wp2_with fail
      go_ret
      exact ⟨by rw [← HE.out]; rfl, hB0⟩

set_option maxRecDepth 100000 in
set_option maxHeartbeats 4000000 in
theorem refRead_calls (vb vw : Value) (bs : List (List UInt8)) (ws : List Wr) (i : Int) (w : World) (hb : Txts w vb bs) (hw : Wrs w vw ws) :
    Calls Tryd.prog 27 #[.agg #[vb, vw], .int .i64 i] w fun e w' => e = .returned (.tuple #[.string ⟨(readT bs ws i).toArray⟩, .int .i64 (readE bs ws i)]) ∧ Below w.heap.size w w' := by
  obtain ⟨ab, cb, rfl⟩ := hb.strs.form
  obtain ⟨aw, cw, rfl⟩ := hw.form
  have hB0 := below_alloc w (.cells #[.slice ab bs.length cb, .slice aw ws.length cw] 25)
  have hx0 := Bx.new w (.slice ab bs.length cb) (.slice aw ws.length cw)
  have C1 := refCheck_calls _ _ bs ws _ (hb.below hB0) (hw.below hB0)
  cases hR : rightB bs ws with
  | false =>
    have E1 := Lib.hid (show readE bs ws i = 1 by simp [readE, hR])
    have E2 := Lib.hid (show readT bs ws i = [] by simp [readT, E1.out])
    rw [hR] at C1
    have K1 := Lib.hid C1
    clear C1 hR
    go_enter Tryd.func27, Tryd.ntmps27
    go_wp2_with fail
    refine K1.out.mono ?_
    rintro e w1 ⟨rfl, hB1⟩
    go_wp2_with fail
    go_ret2
    exact ⟨by rw [E1.out, E2.out]; rfl, below2 hB0 hB1⟩
  | true =>
    rw [hR] at C1
    have K1 := Lib.hid C1
    clear C1
    obtain ⟨hl1, hl2, hl3, hl4, hl5⟩ := right_parts hR
    have HL5 := Lib.hid (fun x hx => (hl5 x hx).1)
    cases hH : hasB bs.length i with
    | false =>
      have E1 := Lib.hid (show readE bs ws i = 40 by simp [readE, hR, hH])
      have E2 := Lib.hid (show readT bs ws i = [] by simp [readT, E1.out])
      have hc : i < 0 ∨ (0 ≤ i ∧ bs.length ≤ i) := by
        have := hH
        simp [hasB] at this
        omega
      clear hH hR hl4 hl5
      rcases hc with h | ⟨h, h'⟩
      all_goals
        go_enter Tryd.func27, Tryd.ntmps27
        go_wp2_with fail
        refine K1.out.mono ?_
        rintro e w1 ⟨rfl, hB1⟩
        obtain ⟨p0, p1, _⟩ := (hx0.below hB1).cells
        go_wp2_with fail
        go_ret2
        exact ⟨by rw [E1.out, E2.out]; rfl, below2 hB0 hB1⟩
    | true =>
      have E1 := Lib.hid (show readE bs ws i = 0 by simp [readE, hR, hH])
      have E2 := Lib.hid (show readT bs ws i = saysL bs ws i by simp [readT, E1.out])
      have hij : 0 ≤ i ∧ i < bs.length := by simpa [hasB] using hH
      obtain ⟨hi0, hi1⟩ := hij
      have HH := Lib.hid hH
      clear hH hR hl4 hl5
      go_enter Tryd.func27, Tryd.ntmps27
      go_wp2_with fail
      refine K1.out.mono ?_
      rintro e w1 ⟨rfl, hB1⟩
      obtain ⟨p0, p1, _⟩ := (hx0.below hB1).cells
      have hBB1 := below2 hB0 hB1
      go_wp2_with fail
      refine (says_calls _ _ bs ws i _ (hb.below hBB1) (hw.below hBB1) (by omega) HH.out HL5.out).mono ?_
      rintro e w2 ⟨rfl, hB2⟩
      go_wp2_with fail
      go_ret2
      exact ⟨by rw [E1.out, E2.out]; rfl, below2 hBB1 hB2⟩

end Go.Proofs.YtcipdmdliobdmaaDoor

/-
  The document's own Own: texts, and a disk, in memory of their own.
-/
namespace Go.Proofs.YtcipdmdliobdmaaDoor
open Go.RowKit

theorem rw_news {w : World} {k n cap : Nat} {a : Addr} {cs : List Value} (h : Rw w k (.slice (some a) n cap) n cs) : ∀ j u, cs[j]? = some u → w.cell? (a.add j) = some u := by
  intro j u hj
  obtain ⟨hj1, hju⟩ := List.getElem?_eq_some_iff.1 hj
  obtain ⟨hl, ao, c, he, _, h0 | ⟨b, off, rfl, hc⟩⟩ := h
  · subst h0; omega
  · cases he
    rw [Go.WideShapes.add_plain, hc j hj1, hju]

theorem own_form {w : World} {base k n : Nat} {e : TypeId} {v : Value} {xs : List Value} (h : w.ownsRow base e k v n xs) : ∃ ao n cap, v = .slice ao n cap := by
  obtain ⟨ao, cap, rfl⟩ := (Rw.own h).form
  exact ⟨ao, _, cap, rfl⟩
theorem below_of_grown {w w' : World} (h : w.grownBy w' none) : Below w.heap.size w w' := ⟨h.os, h.tape, h.output, h.size, fun k hk => h.block k hk (by simp)⟩

set_option maxHeartbeats 1000000 in
theorem ownT_calls (v : Value) (ls : List (List UInt8)) (w : World) (hs : Strs w v ls) (hl : ls.length ≤ 1100) :
    Calls Tryd.prog 8 #[v] w fun e w' => ∃ v', e = .returned v' ∧ w'.ownsRow w.heap.size 9 1 v' ls.length (ls.map SV) ∧ Below w.heap.size w w' := by
  obtain ⟨i0, hi, hz0, hz1, hz2⟩ := info_parts info9
  obtain ⟨ao, cap, rfl⟩ := hs.form
  cases ao with
  | none =>
    obtain rfl : ls = [] := by
      obtain ⟨ao, c, he, hc⟩ := hs
      cases he
      rcases hc with h0 | ⟨b, off, he, _⟩
      · exact h0
      · cases he
    clear hs
    go_enter Tryd.func8, Tryd.ntmps8
    go_wp2
    go_ret
    exact ⟨_, rfl, World.ownsRow_nil _ _ _ _, Below.refl _ _⟩
  | some a =>
    have hc := Lib.hid (strs_cells hs)
    clear hs
    go_enter Tryd.func8, Tryd.ntmps8
    go_wp2_with (at_builtin; refine wpList_append_own _ rfl _ _ 22 rfl w.heap.size 9 i0 (.string ⟨#[]⟩) 1 16 Tryd.underlying22 hi hz0 hz1 hz2 rfl (by decide) _ _ _ rfl (World.ownsRow_nil _ _ _ _) a ls.length cap (ls.map SV) rfl (by simp) hc.out (texts_one ls) (by unfold maxLen; omega) (by omega) (Nat.le_refl _) ?_; intro v3 w3 hown3 hg3 _)
    go_ret
    exact ⟨v3, rfl, by simpa using hown3, (Below.refl _ w).grown hg3 (Nat.le_refl _) (fun j e => by cases e)⟩

set_option maxRecDepth 100000 in
set_option maxHeartbeats 4000000 in
theorem refOwn_calls (vb vw : Value) (bs : List (List UInt8)) (ws : List Wr) (w : World) (hb : Txts w vb bs) (hw : Wrs w vw ws) (hbl : bs.length ≤ 1000) (hwl : ws.length ≤ 1000) :
    Calls Tryd.prog 7 #[.agg #[vb, vw]] w fun e w' => ∃ vb' vw', e = .returned (.agg #[vb', vw']) ∧ OwnD w' w.heap.size vb' bs vw' ws ∧ Below w.heap.size w w' := by
  obtain ⟨i0, hi, hz0, hz1, hz2⟩ := info_parts infoW
  obtain ⟨ab, cb, rfl⟩ := hb.strs.form
  obtain ⟨aw, cw, rfl⟩ := hw.form
  obtain ⟨hx0, hr0, hB0⟩ := entry2 w (.slice ab bs.length cb) (.slice aw ws.length cw)
  have C1 := ownT_calls _ bs _ (hb.below hB0).strs (by omega)
  have HBL := Lib.hid (And.intro hb hB0)
  cases aw with
  | none =>
    obtain rfl : ws = [] := List.eq_nil_of_length_eq_zero (by
      obtain ⟨_, ao, c, he, _, h0 | ⟨b, off, h, _⟩⟩ := hw
      · exact h0
      · cases he; cases h)
    clear hb
    go_enter Tryd.func7, Tryd.ntmps7
    go_wp2_with fail
    refine C1.mono ?_
    rintro e w1 ⟨vb1, rfl, ho1, hB1⟩
    obtain ⟨a1, n1, c1, rfl⟩ := txts_form' (Txts.own ho1)
    have hx1 := hx0.below hB1
    have hr1 := hr0.below hB1
    have hBB1 := below2 hB0 hB1
    obtain ⟨p10, p11, _, _, l1⟩ := hx1.cells
    obtain ⟨q10, q11, q12, q13, m1⟩ := hr1.cells
    go_wp2_with fail
    have hB2 := below_alloc ((w1.setCell ⟨w.heap.size + 1, 0, none⟩ (.slice a1 n1 c1)).setCell ⟨w.heap.size + 1, 1, none⟩ (.slice none 0 0)) (.cells #[.slice a1 n1 c1, .slice none 0 0] 25)
    have hod : OwnD w1 (w.heap.size + 2) (.slice a1 n1 c1) bs (.slice none 0 0) [] := ⟨by simpa using ho1, World.ownsRow_nil _ _ _ _⟩
    obtain ⟨r1, r2⟩ := ret_own (x := .slice a1 n1 c1) (y := .slice none 0 0) hod (Nat.le_refl _) hBB1
    have hr3 := (bx_set hr1 (.slice a1 n1 c1) (.slice none 0 0)).below hB2
    refine ret_disk (p := 2) (by kernel_rfl) rfl (w.heap.size + 1) _ _ rfl hr3.cells.1 hr3.cells.2.1 ?_
    exact ⟨_, _, rfl, OwnD.below r1 hB2, below2 r2 hB2⟩
  | some a =>
    clear hb
    go_enter Tryd.func7, Tryd.ntmps7
    go_wp2_with fail
    refine C1.mono ?_
    rintro e w1 ⟨vb1, rfl, ho1, hB1⟩
    obtain ⟨a1, n1, c1, rfl⟩ := txts_form' (Txts.own ho1)
    have hx1 := hx0.below hB1
    have hr1 := hr0.below hB1
    have hBB1 := below2 hB0 hB1
    have hnw := Lib.hid (rw_news (hw.below (below2 hBB1 (below_alloc w1 (.cells #[.slice a1 n1 c1, .slice none 0 0] 25)))))
    obtain ⟨p10, p11, _, _, l1⟩ := hx1.cells
    obtain ⟨q10, q11, q12, q13, m1⟩ := hr1.cells
    clear hw
    go_wp2_with (at_builtin; refine wpList_append_own _ rfl (.tmp 9) (.tmp 11) 23 rfl (w.heap.size + 2) 63 i0 (.agg #[.int .i64 0, .string ⟨#[]⟩]) 2 24 Tryd.underlying23 hi hz0 hz1 hz2 rfl (by decide) _ _ _ rfl (World.ownsRow_nil _ _ _ _) a ws.length cw (wcells ws) rfl (wcells_len ws) hnw.out (wcells_one ws) (by unfold maxLen; omega) (by omega) (by have := hB1.size; simp at this; simp; omega) ?_; intro v3 w3 hown3 hg3 _; obtain ⟨a3, n3, c3, rfl⟩ := own_form hown3; have hB3 := below_of_grown hg3; have hx3 := (hx1.below (below_alloc _ _)).below hB3; have hr3 := (hr1.below (below_alloc _ _)).below hB3; have hz3 := (Bx.new w1 _ _).below hB3; obtain ⟨p30, p31, _, _, l3⟩ := hx3.cells; obtain ⟨q30, q31, q32, q33, m3⟩ := hr3.cells; obtain ⟨z30, z31, z32, z33, z34⟩ := hz3.cells; have HO3 := Lib.hid hown3; clear hown3 hg3 p10 p11 q10 q11 q12 q13)
    have hod : OwnD w3 (w.heap.size + 2) (.slice a1 n1 c1) bs (.slice a3 n3 c3) ws := ⟨own_stays (own_stays (by simpa using ho1) (below_alloc _ _)) hB3, by simpa using HO3.out⟩
    have hod2 : OwnD (w3.setCell ⟨w1.heap.size, 1, none⟩ (.slice a3 n3 c3)) (w.heap.size + 2) (.slice a1 n1 c1) bs (.slice a3 n3 c3) ws :=
      ⟨ownsRow_setCell_other hod.1 (by simpa using hz3.not_row hod.1 (by decide)) _, ownsRow_setCell_other hod.2 (by simpa using hz3.not_row hod.2 (by decide)) _⟩
    have hr4 : Bx (w3.setCell ⟨w1.heap.size, 1, none⟩ (.slice a3 n3 c3)) (w.heap.size + 1) (.slice none 0 0) (.slice none 0 0) := by
      have h := hr3
      unfold Bx at h ⊢
      rw [heap_setCell_other _ _ _ _ (by simp; omega)]
      exact h
    have hBB3 := below3 hBB1 (below_alloc w1 (.cells #[.slice a1 n1 c1, .slice none 0 0] 25)) hB3
    obtain ⟨r1, r2⟩ := ret_own (w := w) (x := .slice a1 n1 c1) (y := .slice a3 n3 c3) hod2 (Nat.le_refl _) (hBB3.setCell (by simp; omega) _)
    have hr5 := bx_set hr4 (.slice a1 n1 c1) (.slice a3 n3 c3)
    refine ret_disk (p := 2) (by kernel_rfl) rfl (w.heap.size + 1) _ _ rfl hr5.cells.1 hr5.cells.2.1 ?_
    exact ⟨_, _, rfl, r1, r2⟩

/-- Behind an append to the writes of a disk of the call's own (W: the world ahead of it, two blocks on): the boxes and the texts are as they were. -/
theorem append_kept {w2 W w3 : World} {base Br Bz : Nat} {vb vw vr xr v1 x1 : Value} {bs : List (List UInt8)} {ws : List Wr} {o : Obj} (ho : OwnD w2 base vb bs vw ws) (hr : Bx w2 Br vr xr) (hz : Bx W Bz v1 x1) (hW : Below w2.heap.size w2 W)
    (hg : (W.alloc o).grownBy w3 vw.ownBlock) (hb : base ≤ w2.heap.size) : Bx w3 Br vr xr ∧ Bx w3 Bz v1 x1 ∧ w3.ownsRow base 9 1 vb bs.length (bs.map SV) ∧ Below base w2 w3 := by
  have hBa := below2 hW (below_alloc W o)
  have o1 := own_stays ho.1 hBa
  have o2 := own_stays ho.2 hBa
  have h1 := hr.below hBa
  have h2 := hz.below (below_alloc W o)
  exact ⟨h1.kept hg (h1.not_row o2 (by decide)), h2.kept hg (h2.not_row o2 (by decide)), o1.kept hg (rows_apart o1 o2 (by decide)), (hBa.mono hb).grown hg (Nat.le_trans hb hBa.size) (fun k e => (o2.lt k e).1)⟩

/-- A disk that was made in a box of its own is handed on. -/
theorem ret_made {w w3 : World} {Bz base : Nat} {v1 x1 p q vb vw : Value} {bs : List (List UInt8)} {ws : List Wr} (hr : Bx w3 (w.heap.size + 1) p q) (hz : Bx w3 Bz v1 x1) (hBz : w.heap.size + 2 ≤ Bz) (ho : OwnD w3 base vb bs vw ws) (hbase : w.heap.size + 2 ≤ base) (hB : Below w.heap.size w w3) (c : Nat) (u x y : Value) :
    OwnD (((w3.setCell ⟨Bz, c, none⟩ u).setCell ⟨w.heap.size + 1, 0, none⟩ x).setCell ⟨w.heap.size + 1, 1, none⟩ y) w.heap.size vb bs vw ws ∧ Below w.heap.size w (((w3.setCell ⟨Bz, c, none⟩ u).setCell ⟨w.heap.size + 1, 0, none⟩ x).setCell ⟨w.heap.size + 1, 1, none⟩ y) ∧
    Bx (((w3.setCell ⟨Bz, c, none⟩ u).setCell ⟨w.heap.size + 1, 0, none⟩ x).setCell ⟨w.heap.size + 1, 1, none⟩ y) (w.heap.size + 1) x y := by
  have hod2 : OwnD (w3.setCell ⟨Bz, c, none⟩ u) base vb bs vw ws := ⟨ownsRow_setCell_other ho.1 (by simpa using hz.not_row ho.1 (by decide)) _, ownsRow_setCell_other ho.2 (by simpa using hz.not_row ho.2 (by decide)) _⟩
  have hr4 : Bx (w3.setCell ⟨Bz, c, none⟩ u) (w.heap.size + 1) p q := by
    have h := hr
    unfold Bx at h ⊢
    rw [heap_setCell_other _ _ _ _ (by simp; omega)]
    exact h
  obtain ⟨r1, r2⟩ := ret_own (w := w) (x := x) (y := y) hod2 hbase (hB.setCell (by simp; omega) _)
  exact ⟨r1, r2, bx_set hr4 x y⟩

end Go.Proofs.YtcipdmdliobdmaaDoor

/-
  The document's own Write.
-/
namespace Go.Proofs.YtcipdmdliobdmaaDoor
open Go.RowKit

set_option maxRecDepth 100000 in
set_option maxHeartbeats 8000000 in
theorem refWrite_calls (vb vw : Value) (bs : List (List UInt8)) (ws : List Wr) (i : Int) (s : List UInt8) (w : World) (hb : Txts w vb bs) (hw : Wrs w vw ws) :
    Calls Tryd.prog 31 #[.agg #[vb, vw], .int .i64 i, .string ⟨s.toArray⟩] w fun e w' => ∃ vb' vw', e = .returned (.tuple #[.agg #[vb', vw'], .int .i64 (writeE bs ws i s)]) ∧ OwnD w' w.heap.size vb' (writeBs bs ws i s) vw' (writeWs bs ws i s) ∧ Below w.heap.size w w' := by
  obtain ⟨i0, hi, hz0, hz1, hz2⟩ := info_parts infoW
  obtain ⟨ab, cb, rfl⟩ := hb.strs.form
  obtain ⟨aw, cw, rfl⟩ := hw.form
  obtain ⟨hx0, hr0, hB0⟩ := entry2 w (.slice ab bs.length cb) (.slice aw ws.length cw)
  have C1 := refCheck_calls _ _ bs ws _ (hb.below hB0) (hw.below hB0)
  cases hR : rightB bs ws with
  | false =>
    have E1 := Lib.hid (show writeE bs ws i s = 1 by simp [writeE, hR])
    have E2 := Lib.hid (show writeBs bs ws i s = [] by simp [writeBs, E1.out])
    have E3 := Lib.hid (show writeWs bs ws i s = [] by simp [writeWs, E1.out])
    rw [hR] at C1
    have K1 := Lib.hid C1
    clear C1 hR
    go_enter Tryd.func31, Tryd.ntmps31
    go_wp2_with fail
    refine K1.out.mono ?_
    rintro e w1 ⟨rfl, hB1⟩
    have hx1 := hx0.below hB1
    have hr1 := hr0.below hB1
    have hBB1 := below2 hB0 hB1
    obtain ⟨p0, p1, p2, p3, p4⟩ := hx1.cells
    obtain ⟨q0, q1, q2, q3, q4⟩ := hr1.cells
    go_wp2_with fail
    obtain ⟨r1, r2⟩ := ret_own (x := .slice none 0 0) (y := .slice none 0 0) (nil_own w1 (w.heap.size + 2)) (Nat.le_refl _) hBB1
    refine ret_disk2 (p := 6) (q := 7) (by kernel_rfl) rfl (w.heap.size + 1) (.slice none 0 0) (.slice none 0 0) (.int .i64 1) rfl rfl (by go_simp) (by go_simp) ?_
    exact ⟨_, _, by rw [E1.out], by rw [E2.out, E3.out]; exact r1, r2⟩
  | true =>
    cases hH : hasB bs.length i with
    | false =>
      have E1 := Lib.hid (show writeE bs ws i s = 40 by simp [writeE, hR, hH])
      have E2 := Lib.hid (show writeBs bs ws i s = [] by simp [writeBs, E1.out])
      have E3 := Lib.hid (show writeWs bs ws i s = [] by simp [writeWs, E1.out])
      have hc : i < 0 ∨ (0 ≤ i ∧ bs.length ≤ i) := by
        have := hH
        simp [hasB] at this
        omega
      rw [hR] at C1
      have K1 := Lib.hid C1
      clear C1 hR
      clear hH
      rcases hc with h | ⟨h, h'⟩
      all_goals
        go_enter Tryd.func31, Tryd.ntmps31
        go_wp2_with fail
        refine K1.out.mono ?_
        rintro e w1 ⟨rfl, hB1⟩
        have hx1 := hx0.below hB1
        have hr1 := hr0.below hB1
        have hBB1 := below2 hB0 hB1
        obtain ⟨p0, p1, p2, p3, p4⟩ := hx1.cells
        obtain ⟨q0, q1, q2, q3, q4⟩ := hr1.cells
        go_wp2_with fail
        obtain ⟨r1, r2⟩ := ret_own (x := .slice none 0 0) (y := .slice none 0 0) (nil_own w1 (w.heap.size + 2)) (Nat.le_refl _) hBB1
        refine ret_disk2 (p := 6) (q := 7) (by kernel_rfl) rfl (w.heap.size + 1) (.slice none 0 0) (.slice none 0 0) (.int .i64 40) rfl rfl (by go_simp) (by go_simp) ?_
        exact ⟨_, _, by rw [E1.out], by rw [E2.out, E3.out]; exact r1, r2⟩
    | true =>
      obtain ⟨hl1, hl2, hl3, hl4, hl5⟩ := right_parts hR
      have hij : 0 ≤ i ∧ i < bs.length := by simpa [hasB] using hH
      obtain ⟨hi0, hi1⟩ := hij
      clear hl4 hl5
      by_cases h3 : s.length ≤ 256
      · have d3 : decide ((256 : Int) < s.length) = false := by simp; omega
        by_cases h4 : ws.length < 100
        · have d4 : decide ((100 : Int) ≤ ws.length) = false := by simp; omega
          have E1 := Lib.hid (show writeE bs ws i s = 0 by simp [writeE, hR, hH, h3, h4])
          have E2 := Lib.hid (show writeBs bs ws i s = bs by simp [writeBs, E1.out])
          have E3 := Lib.hid (show writeWs bs ws i s = ws ++ [(i, s)] by simp [writeWs, E1.out])
          clear hH
          rw [hR] at C1
          have K1 := Lib.hid C1
          clear C1 hR
          go_enter Tryd.func31, Tryd.ntmps31
          go_wp2_with fail
          refine K1.out.mono ?_
          rintro e w1 ⟨rfl, hB1⟩
          have hx1 := hx0.below hB1
          have hr1 := hr0.below hB1
          have hBB1 := below2 hB0 hB1
          obtain ⟨p0, p1, p2, p3, p4⟩ := hx1.cells
          obtain ⟨q0, q1, q2, q3, q4⟩ := hr1.cells
          go_wp2_with fail
          refine (refOwn_calls _ _ bs ws _ (hb.below hBB1) (hw.below hBB1) (by omega) (by omega)).mono ?_
          rintro e w2 ⟨vb2, vw2, rfl, ho2, hB2⟩
          obtain ⟨ab2, nb2, cb2, aw2, nw2, cw2, rfl, rfl, hnb2, hnw2⟩ := ho2.forms
          have N2 := Lib.hid (And.intro hnb2 hnw2)
          have hr2 := hr1.below hB2
          have hBB2 := below2 hBB1 hB2
          have hsz : w.heap.size + 2 ≤ w1.heap.size := q4
          have hsz2 := hB2.size
          have O2 := Lib.hid (ho2.2.alloc (.cells #[.slice ab2 nb2 cb2, .slice aw2 nw2 cw2] 25))
          have HO2 := Lib.hid ho2
          clear ho2 hnb2 hnw2 p0 p1 p2 p3 p4 q0 q1 q2 q3
          have HN := Lib.hid (news_row w2 (.cells #[.slice ab2 nb2 cb2, .slice aw2 nw2 cw2] 25) (.int .i64 i) (.string ⟨s.toArray⟩) 63)
          go_wp2_with (at_builtin; refine wpList_append_own _ rfl (.tmp 35) (.tmp 39) 23 rfl w1.heap.size 63 i0 (.agg #[.int .i64 0, .string ⟨#[]⟩]) 2 24 Tryd.underlying23 hi hz0 hz1 hz2 rfl (by decide) (.slice aw2 nw2 cw2) ws.length (wcells ws) rfl (O2.out.alloc _) ⟨w2.heap.size + 1, 0, none⟩ 1 1 [.int .i64 i, .string ⟨s.toArray⟩] rfl rfl HN.out (by simp [Value.oneCell']) (by unfold maxLen; omega) (by omega) (by simp; omega) ?_; intro v3 w3 hown3 hg3 _; obtain ⟨a3, n3, c3, rfl⟩ := own_form hown3; have hd3 := append_kept HO2.out hr2 (Bx.new w2 _ _) (below_alloc w2 _) hg3 (by omega); obtain ⟨hr3, hz3, hb3, hB3⟩ := hd3; obtain ⟨q30, q31, q32, q33, q34⟩ := hr3.cells; obtain ⟨z30, z31, z32, z33, z34⟩ := hz3.cells; have HO3 := Lib.hid hown3; clear hown3 hg3)
          have hod : OwnD w3 w1.heap.size (.slice ab2 nb2 cb2) bs (.slice a3 n3 c3) (ws ++ [(i, s)]) := ⟨hb3, by rw [wcells_append]; simpa [wcells, wcell, SV] using HO3.out⟩
          obtain ⟨r1, r2, r3⟩ := ret_made (w := w) hr3 hz3 (by omega) hod hsz (hBB2.trans (hB3.mono hBB1.size)) 1 (.slice a3 n3 c3) (.slice ab2 nb2 cb2) (.slice a3 n3 c3)
          refine ret_disk2 (p := 6) (q := 7) (by kernel_rfl) rfl (w.heap.size + 1) _ _ (.int .i64 0) rfl rfl r3.cells.1 r3.cells.2.1 ?_
          exact ⟨_, _, by rw [E1.out], by rw [E2.out, E3.out]; exact r1, r2⟩
        · have d4 : decide ((100 : Int) ≤ ws.length) = true := by simp; omega
          have E1 := Lib.hid (show writeE bs ws i s = 41 by simp [writeE, hR, hH, h3, h4])
          have E2 := Lib.hid (show writeBs bs ws i s = [] by simp [writeBs, E1.out])
          have E3 := Lib.hid (show writeWs bs ws i s = [] by simp [writeWs, E1.out])
          clear hH
          rw [hR] at C1
          have K1 := Lib.hid C1
          clear C1 hR
          go_enter Tryd.func31, Tryd.ntmps31
          go_wp2_with fail
          refine K1.out.mono ?_
          rintro e w1 ⟨rfl, hB1⟩
          have hx1 := hx0.below hB1
          have hr1 := hr0.below hB1
          have hBB1 := below2 hB0 hB1
          obtain ⟨p0, p1, p2, p3, p4⟩ := hx1.cells
          obtain ⟨q0, q1, q2, q3, q4⟩ := hr1.cells
          go_wp2_with fail
          obtain ⟨r1, r2⟩ := ret_own (x := .slice none 0 0) (y := .slice none 0 0) (nil_own w1 (w.heap.size + 2)) (Nat.le_refl _) hBB1
          refine ret_disk2 (p := 6) (q := 7) (by kernel_rfl) rfl (w.heap.size + 1) (.slice none 0 0) (.slice none 0 0) (.int .i64 41) rfl rfl (by go_simp) (by go_simp) ?_
          exact ⟨_, _, by rw [E1.out], by rw [E2.out, E3.out]; exact r1, r2⟩
      · have d3 : decide ((256 : Int) < s.length) = true := by simp; omega
        have E1 := Lib.hid (show writeE bs ws i s = 1 by simp [writeE, hR, hH, h3])
        have E2 := Lib.hid (show writeBs bs ws i s = [] by simp [writeBs, E1.out])
        have E3 := Lib.hid (show writeWs bs ws i s = [] by simp [writeWs, E1.out])
        clear hH
        rw [hR] at C1
        have K1 := Lib.hid C1
        clear C1 hR
        go_enter Tryd.func31, Tryd.ntmps31
        go_wp2_with fail
        refine K1.out.mono ?_
        rintro e w1 ⟨rfl, hB1⟩
        have hx1 := hx0.below hB1
        have hr1 := hr0.below hB1
        have hBB1 := below2 hB0 hB1
        obtain ⟨p0, p1, p2, p3, p4⟩ := hx1.cells
        obtain ⟨q0, q1, q2, q3, q4⟩ := hr1.cells
        go_wp2_with fail
        obtain ⟨r1, r2⟩ := ret_own (x := .slice none 0 0) (y := .slice none 0 0) (nil_own w1 (w.heap.size + 2)) (Nat.le_refl _) hBB1
        refine ret_disk2 (p := 6) (q := 7) (by kernel_rfl) rfl (w.heap.size + 1) (.slice none 0 0) (.slice none 0 0) (.int .i64 1) rfl rfl (by go_simp) (by go_simp) ?_
        exact ⟨_, _, by rw [E1.out], by rw [E2.out, E3.out]; exact r1, r2⟩

end Go.Proofs.YtcipdmdliobdmaaDoor

/-
  The document's own Sync.
-/
namespace Go.Proofs.YtcipdmdliobdmaaDoor
open Go.RowKit

theorem bx_set0 {w : World} {B : Nat} {v x : Value} (h : Bx w B v x) (v' : Value) : Bx (w.setCell ⟨B, 0, none⟩ v') B v' x := heap_setCell_same w B 0 _ _ v' h
theorem bx_far {w : World} {B B' c : Nat} {v x : Value} (h : Bx w B v x) (hne : B ≠ B') (u : Value) : Bx (w.setCell ⟨B', c, none⟩ u) B v x := by
  unfold Bx at h ⊢
  rw [heap_setCell_other _ _ _ _ hne]
  exact h

/-- The first k blocks are laid. -/
def SyncAt (w w1 : World) (L : List (List UInt8)) (vb vw : Value) (k : Nat) (wr : World) : Prop :=
  ∃ v, Bx wr w1.heap.size v (.slice none 0 0) ∧ wr.ownsRow (w.heap.size + 2) 9 1 v k ((L.take k).map SV) ∧ Bx wr w.heap.size vb vw ∧ Bx wr (w.heap.size + 1) (.slice none 0 0) (.slice none 0 0) ∧ Below w.heap.size w wr
theorem sync_step {w w1 wr W w3 : World} {L : List (List UInt8)} {vb vw v v3 : Value} {s : List UInt8} {k : Nat} (hsz : w.heap.size + 2 ≤ w1.heap.size) (hx : Bx wr w1.heap.size v (.slice none 0 0)) (ho : wr.ownsRow (w.heap.size + 2) 9 1 v k ((L.take k).map SV)) (hp : Bx wr w.heap.size vb vw) (hr : Bx wr (w.heap.size + 1) (.slice none 0 0) (.slice none 0 0))
    (hB : Below w.heap.size w wr) (hW : Below wr.heap.size wr W) (hk : k < L.length) (hs : L[k] = s) (hown : w3.ownsRow (w.heap.size + 2) 9 1 v3 (k + 1) ((L.take k).map SV ++ [.string ⟨s.toArray⟩])) (hg : W.grownBy w3 v.ownBlock) : SyncAt w w1 L vb vw (k + 1) (w3.setCell ⟨w1.heap.size, 0, none⟩ v3) ∧ Bx w3 w1.heap.size v (.slice none 0 0) := by
  have o2 := own_stays ho hW
  have hxW := hx.below hW
  have hx3 := hxW.kept hg (hxW.not_row o2 (by decide))
  have hpW := hp.below hW
  have hp3 := hpW.kept hg (hpW.not_row o2 (by decide))
  have hrW := hr.below hW
  have hr3 := hrW.kept hg (hrW.not_row o2 (by decide))
  refine ⟨⟨v3, bx_set0 hx3 v3, ?_, bx_far hp3 (by omega) _, bx_far hr3 (by omega) _, ?_⟩, hx3⟩
  · have h := ownsRow_setCell_other hown (a := ⟨w1.heap.size, 0, none⟩) (by simpa using hx3.not_row hown (by decide)) v3
    rw [List.take_succ_eq_append_getElem hk, hs, List.map_append]
    exact h
  · refine ((below2 hB hW).grown hg (below2 hB hW).size (fun j e => ?_)).setCell ?_ _
    · have := (o2.lt j e).1; omega
    · simp; omega

set_option maxRecDepth 100000 in
set_option maxHeartbeats 8000000 in
theorem refSync_calls (vb vw : Value) (bs : List (List UInt8)) (ws : List Wr) (w : World) (hb : Txts w vb bs) (hw : Wrs w vw ws) :
    Calls Tryd.prog 35 #[.agg #[vb, vw]] w fun e w' => ∃ vb' vw', e = .returned (.tuple #[.agg #[vb', vw'], .int .i64 (syncE bs ws)]) ∧ OwnD w' w.heap.size vb' (syncBs bs ws) vw' [] ∧ Below w.heap.size w w' := by
  obtain ⟨i0, hi, hz0, hz1, hz2⟩ := info_parts info9
  obtain ⟨ab, cb, rfl⟩ := hb.strs.form
  obtain ⟨aw, cw, rfl⟩ := hw.form
  obtain ⟨hx0, hr0, hB0⟩ := entry2 w (.slice ab bs.length cb) (.slice aw ws.length cw)
  have C1 := refCheck_calls _ _ bs ws _ (hb.below hB0) (hw.below hB0)
  cases hR : rightB bs ws with
  | false =>
    have E1 := Lib.hid (show syncE bs ws = 1 by simp [syncE, hR])
    have E2 := Lib.hid (show syncBs bs ws = [] by simp [syncBs, hR])
    rw [hR] at C1
    have K1 := Lib.hid C1
    clear C1 hR
    go_enter Tryd.func35, Tryd.ntmps35
    go_wp2_with fail
    refine K1.out.mono ?_
    rintro e w1 ⟨rfl, hB1⟩
    obtain ⟨q0, q1, q2, q3, q4⟩ := (hr0.below hB1).cells
    have hBB := below2 hB0 hB1
    go_wp2_with fail
    obtain ⟨r1, r2⟩ := ret_own (x := .slice none 0 0) (y := .slice none 0 0) (nil_own w1 (w.heap.size + 2)) (Nat.le_refl _) hBB
    refine ret_disk2 (p := 2) (q := 3) (by kernel_rfl) rfl (w.heap.size + 1) (.slice none 0 0) (.slice none 0 0) (.int .i64 1) rfl rfl (by go_simp) (by go_simp) ?_
    exact ⟨_, _, by rw [E1.out], by rw [E2.out]; exact r1, r2⟩
  | true =>
    have E1 := Lib.hid (show syncE bs ws = 0 by simp [syncE, hR])
    have E2 := Lib.hid (show syncBs bs ws = layL bs ws by simp [syncBs, hR])
    obtain ⟨hl1, hl2, hl3, hl4, hl5⟩ := right_parts hR
    have HL5 := Lib.hid (fun x hx => (hl5 x hx).1)
    obtain ⟨L, hL⟩ : ∃ L, L = layL bs ws := ⟨_, rfl⟩
    have hLL := layL_len bs ws
    rw [← hL] at E2 hLL
    have HLL := Lib.hid hLL
    have HSY := Lib.hid (fun (k : Nat) (hk : k < L.length) => show saysL bs ws (k : Int) = L[k] by simp [saysL, ← hL, List.getD, List.getElem?_eq_getElem hk])
    rw [hR] at C1
    have K1 := Lib.hid C1
    clear C1 hR hl4 hl5 hL hLL
    go_enter Tryd.func35, Tryd.ntmps35
    go_wp2_with fail
    refine K1.out.mono ?_
    rintro e w1 ⟨rfl, hB1⟩
    have hx1 := hx0.below hB1
    have hr1 := hr0.below hB1
    have hBB1 := below2 hB0 hB1
    obtain ⟨p10, p11, p12, p13, p14⟩ := hx1.cells
    obtain ⟨q10, q11, q12, q13, q14⟩ := hr1.cells
    have hsz : w.heap.size + 2 ≤ w1.heap.size := q14
    have hst : SyncAt w w1 L (.slice ab bs.length cb) (.slice aw ws.length cw) 0 (w1.alloc (.cells #[.slice none 0 0, .slice none 0 0] 25)) :=
      ⟨_, Bx.new w1 _ _, World.ownsRow_nil _ _ _ _, hx1.below (below_alloc _ _), hr1.below (below_alloc _ _), below2 hBB1 (below_alloc _ _)⟩
    have HST := Lib.hid hst
    clear hst hx1 hr1
    go_wp2_with fail
    go_loopw [5] (fun i wr => ∃ k : Nat, k ≤ bs.length ∧ i = .int .i64 k ∧ SyncAt w w1 L (.slice ab bs.length cb) (.slice aw ws.length cw) k wr) (fun i _ => bs.length - (intOf i).toNat)
    case atStart => exact ⟨0, Nat.zero_le _, rfl, HST.out⟩
    case round =>
      clear p10 p11 p12 p13 q10 q11 q12 q13
      obtain ⟨k, hk, rfl, v, hxv, hov, hpv, hrv, hBv⟩ := hrel
      obtain ⟨p20, p21, p22, p23, p24⟩ := hpv.cells
      by_cases hlt : k < bs.length
      · have hltL : k < L.length := by have := HLL.out; omega
        have hH : hasB bs.length (k : Int) = true := by simp [hasB]; omega
        have HK := Lib.hid (HSY.out k hltL)
        go_wp2_with fail
        refine (says_calls _ _ bs ws (k : Int) _ (hb.below hBv) (hw.below hBv) (by omega) hH HL5.out).mono ?_
        rintro e w2 ⟨he, hB2⟩
        rw [HK.out] at he
        obtain ⟨s, hs⟩ : ∃ s, L[k] = s := ⟨_, rfl⟩
        rw [hs] at he
        subst he
        have HS := Lib.hid hs
        have hxv2 := hxv.below hB2
        obtain ⟨x20, x21, x22, x23, x24⟩ := hxv2.cells
        obtain ⟨av, nv, cv, rfl⟩ := own_form hov
        have O2 := Lib.hid (own_stays hov hB2)
        have HOV := Lib.hid hov
        clear hs hov hH
        go_wp2_with (at_builtin; refine wpList_append_own _ rfl (.tmp 22) (.tmp 24) 22 rfl (w.heap.size + 2) 9 i0 (.string ⟨#[]⟩) 1 16 Tryd.underlying22 hi hz0 hz1 hz2 rfl (by decide) (.slice av nv cv) k ((L.take k).map SV) rfl (O2.out.alloc _) ⟨w2.heap.size, 0, none⟩ 1 1 [.string ⟨s.toArray⟩] rfl rfl (cell_one_new _ _ _) (by simp [Value.oneCell']) (by unfold maxLen; omega) (by omega) (by have := hBv.size; have := hB2.size; simp; omega) ?_; intro v3 w3 hown3 hg3 _; obtain ⟨a3, n3, c3, rfl⟩ := own_form hown3; have HE := Lib.hid (sync_step hsz hxv HOV.out hpv hrv hBv (below2 hB2 (below_alloc _ _)) hltL HS.out hown3 hg3); have hx3 := HE.out.2; obtain ⟨y0, y1, y2, y3, y4⟩ := hx3.cells; clear hown3 hg3)
        go_roundw
        case rel => exact ⟨k + 1, by omega, by go_num, HE.out.1⟩
        case measure => simp [intOf]; omega
      · obtain rfl : k = bs.length := by omega
        obtain ⟨av, nv, cv, rfl⟩ := own_form hov
        obtain ⟨x20, x21, x22, x23, x24⟩ := hxv.cells
        obtain ⟨q20, q21, q22, q23, q24⟩ := hrv.cells
        have HOV := Lib.hid hov
        clear hov
        go_wp2_with fail
        have hod : OwnD wr (w.heap.size + 2) (.slice av nv cv) L (.slice none 0 0) [] := by
          have h := HOV.out
          have hl := HLL.out
          rw [List.take_of_length_le (by omega)] at h
          refine ⟨by rw [hl]; exact h, World.ownsRow_nil _ _ _ _⟩
        obtain ⟨r1, r2⟩ := ret_own (w := w) (x := .slice av nv cv) (y := .slice none 0 0) hod (Nat.le_refl _) hBv
        have hr4 := bx_set hrv (.slice av nv cv) (.slice none 0 0)
        refine ret_disk2 (p := 2) (q := 3) (by kernel_rfl) rfl (w.heap.size + 1) _ _ (.int .i64 0) rfl rfl hr4.cells.1 hr4.cells.2.1 ?_
        exact ⟨_, _, by rw [E1.out], by rw [E2.out]; exact r1, r2⟩

end Go.Proofs.YtcipdmdliobdmaaDoor

/-
  disk: Crash.
-/
namespace Go.Proofs.YtcipdmdliobdmaaDoor
open Go.RowKit

set_option maxRecDepth 100000 in
set_option maxHeartbeats 4000000 in
theorem crash_calls (vb vw vk : Value) (bs : List (List UInt8)) (ws : List Wr) (ks : List Bool) (w : World) (hb : Txts w vb bs) (hw : Wrs w vw ws) (hk : Bools w vk ks) :
    Calls Tryd.prog 21 #[.agg #[vb, vw], vk] w fun e w' => ∃ vb' vw', e = .returned (.tuple #[.agg #[vb', vw'], .int .i64 (syncE bs ws)]) ∧ OwnD w' w.heap.size vb' (crashBs bs ws ks) vw' [] ∧ Below w.heap.size w w' := by
  obtain ⟨ab, cb, rfl⟩ := hb.strs.form
  obtain ⟨aw, cw, rfl⟩ := hw.form
  obtain ⟨ak, ck, rfl⟩ := hk.form
  obtain ⟨hx0, hr0, hB0⟩ := entry2 w (.slice ab bs.length cb) (.slice aw ws.length cw)
  have C1 := check_calls _ _ bs ws _ (hb.below hB0) (hw.below hB0)
  cases hR : rightB bs ws with
  | false =>
    have E1 := Lib.hid (show syncE bs ws = 1 by simp [syncE, hR])
    have E2 := Lib.hid (show crashBs bs ws ks = [] by simp [crashBs, hR])
    rw [hR] at C1
    have K1 := Lib.hid C1
    clear C1 hR
    go_enter Tryd.func21, Tryd.ntmps21
    go_wp2_with fail
    refine K1.out.mono ?_
    rintro e w1 ⟨rfl, hB1⟩
    obtain ⟨q0, q1, q2, q3, q4⟩ := (hr0.below hB1).cells
    have hBB := below2 hB0 hB1
    go_wp2_with fail
    obtain ⟨r1, r2⟩ := ret_own (x := .slice none 0 0) (y := .slice none 0 0) (nil_own w1 (w.heap.size + 2)) (Nat.le_refl _) hBB
    refine ret_disk2 (p := 4) (q := 5) (by kernel_rfl) rfl (w.heap.size + 1) (.slice none 0 0) (.slice none 0 0) (.int .i64 1) rfl rfl (by go_simp) (by go_simp) ?_
    exact ⟨_, _, by rw [E1.out], by rw [E2.out]; exact r1, r2⟩
  | true =>
    have E1 := Lib.hid (show syncE bs ws = 0 by simp [syncE, hR])
    have E2 := Lib.hid (show crashBs bs ws ks = layL bs (keptL ws ks) by simp [crashBs, hR])
    obtain ⟨hl1, hl2, hl3, hl4, hl5⟩ := right_parts hR
    have HL5 := Lib.hid (fun x hx => (hl5 x (keptL_mem (ks := ks) hx)).1)
    rw [hR] at C1
    have K1 := Lib.hid C1
    clear C1 hR hl4 hl5
    go_enter Tryd.func21, Tryd.ntmps21
    go_wp2_with fail
    refine K1.out.mono ?_
    rintro e w1 ⟨rfl, hB1⟩
    have hxc := (hx0.below hB1).below (drew_below w1)
    have hrc := (hr0.below hB1).below (drew_below w1)
    have hBB1 := below2 hB0 hB1
    have hBBc := below2 hBB1 (drew_below w1)
    obtain ⟨p10, p11, p12, p13, p14⟩ := (hx0.below hB1).cells
    obtain ⟨q10, q11, q12, q13, q14⟩ := (hr0.below hB1).cells
    have hkl := keptL_le ws ks
    go_upto_region 3 with fail
    go_region_with (first
      | (go_at_call 38; refine (still_calls _ _ _ _ _ _ _).mono ?_; rintro e w2 ⟨rfl, hBs⟩; have hxc := hxc.below hBs; have hrc := hrc.below hBs; have hBBc := below2 hBBc hBs; obtain ⟨p20, p21, p22, p23, p24⟩ := hxc.cells; obtain ⟨q20, q21, q22, q23, q24⟩ := hrc.cells)
      | (go_at_call 40; refine (kept_calls _ _ ws ks _ (hw.below hBBc) (hk.below hBBc) (by omega)).mono ?_; rintro e w3 ⟨v3, rfl, hok, hBk⟩; have hok := Lib.hid (Wrs.own hok); have hxc := hxc.below hBk; have hrc := hrc.below hBk; have hBBc := below2 hBBc hBk; obtain ⟨p30, p31, p32, p33, p34⟩ := hxc.cells; obtain ⟨q30, q31, q32, q33, q34⟩ := hrc.cells)
      | (go_at_call 37; (first | refine (after_lay_calls _ _ _ bs [] (keptL ws ks) _ (hb.below hBBc) (Wrs.nil _) hok.out (by omega) (by simp) (by omega) HL5.out).mono ?_ | refine (after_lay_calls _ _ _ bs [] (keptL ws ks) _ (hb.below hBBc) (Wrs.nil _) (hok.out.below hBs) (by omega) (by simp) (by omega) HL5.out).mono ?_); rintro e w4 ⟨vb4, vw4, rfl, ho4, hB4⟩; obtain ⟨q40, q41, q42, q43, q44⟩ := (hrc.below hB4).cells; obtain ⟨aw4, cw4, hv3⟩ := (Wrs.own ho4.2).form; obtain ⟨ab4, cb4, hv4⟩ := (Txts.own ho4.1).strs.form; rw [layL_len] at hv4; rw [List.length_nil] at hv3; subst hv3 hv4; have hsz2 := hrc.cells.2.2.2.2; have hBB4 := below2 hBBc hB4; have HO4 := Lib.hid ho4; clear ho4))
    all_goals
      go_wp2_with fail
      obtain ⟨r1, r2⟩ := ret_own (w := w) (x := .slice ab4 bs.length cb4) (y := .slice aw4 0 cw4) HO4.out hsz2 hBB4
      refine ret_disk2 (p := 4) (q := 5) (by kernel_rfl) rfl (w.heap.size + 1) (.slice ab4 bs.length cb4) (.slice aw4 0 cw4) (.int .i64 0) rfl rfl (by go_simp) (by go_simp) ?_
      exact ⟨_, _, by rw [E1.out], by rw [E2.out]; exact r1, r2⟩

end Go.Proofs.YtcipdmdliobdmaaDoor

/-
  disk: New.
-/
namespace Go.Proofs.YtcipdmdliobdmaaDoor
open Go.RowKit

/-- What New answers: its blocks, and the error. -/
def newB (n : Int) : List (List UInt8) := if 1 ≤ n ∧ n ≤ 200 then List.replicate n.toNat [] else []
def newE (n : Int) : Int := if 1 ≤ n ∧ n ≤ 200 then 0 else 1

theorem madeTexts (n : Nat) : madeCells #[.string ⟨#[]⟩] n = ((List.replicate n ([] : List UInt8)).map SV).toArray := by
  apply Array.toList_inj.1
  rw [toList_madeCells_one]
  simp [SV]

set_option maxHeartbeats 4000000 in
theorem new_calls (n : Int) (w : World) :
    Calls Tryd.prog 20 #[.int .i64 n] w fun e w' => ∃ vb vw, e = .returned (.tuple #[.agg #[vb, vw], .int .i64 (newE n)]) ∧ OwnD w' w.heap.size vb (newB n) vw [] ∧ Below w.heap.size w w' := by
  by_cases h : 1 ≤ n ∧ n ≤ 200
  · obtain ⟨h1, h2⟩ := h
    obtain ⟨k, rfl⟩ : ∃ k : Nat, n = (k : Int) := ⟨n.toNat, by omega⟩
    have hm1 := make_texts k (by omega)
    have e1 : newB k = List.replicate k [] := by simp [newB, h1, h2]
    have e2 : newE k = 0 := by simp [newE, h1, h2]
    rw [madeTexts] at hm1
    obtain ⟨A, hA⟩ : ∃ A, A = ((List.replicate k ([] : List UInt8)).map SV).toArray := ⟨_, rfl⟩
    rw [← hA] at hm1
    have HA := Lib.hid hA
    clear hA
    have E1 := Lib.hid e1
    have E2 := Lib.hid e2
    clear e1 e2
    go_enter Tryd.func20, Tryd.ntmps20
    go_wp2_with fail
    refine ret_disk2 (p := 2) (q := 3) (by kernel_rfl) rfl w.heap.size (.slice (some ⟨w.heap.size + 1, 0, none⟩) k k) (.slice none 0 0) (.int .i64 0) rfl rfl (by go_simp) (by go_simp) ?_
    refine ⟨_, _, by rw [E2.out], ?_, below_alloc2 w _ _⟩
    rw [E1.out]
    have hg := heap_alloc_new (w.alloc (.cells #[.slice (some ⟨w.heap.size + 1, 0, none⟩) k k, .slice none 0 0] 25)) (.cells A 9)
    rw [World.size_alloc, HA.out] at hg
    rw [HA.out]
    have h := own_whole (base := w.heap.size) (k := 1) (n := k) hg (by omega) (by simp) (by omega)
    exact ⟨by simpa using h, World.ownsRow_nil _ _ _ _⟩
  · have e1 : newB n = [] := by simp [newB, h]
    have e2 : newE n = 1 := by simp [newE, h]
    have E1 := Lib.hid e1
    have E2 := Lib.hid e2
    clear e1 e2
    have hc : n < 1 ∨ (1 ≤ n ∧ 200 < n) := by omega
    clear h
    rcases hc with h | ⟨h, h'⟩
    all_goals
      go_enter Tryd.func20, Tryd.ntmps20
      go_wp2_with fail
      refine ret_disk2 (p := 2) (q := 3) (by kernel_rfl) rfl w.heap.size (.slice none 0 0) (.slice none 0 0) (.int .i64 1) rfl rfl (by go_simp) (by go_simp) ?_
      exact ⟨_, _, by rw [E2.out], by rw [E1.out]; exact ⟨World.ownsRow_nil _ _ _ _, World.ownsRow_nil _ _ _ _⟩, below_alloc w _⟩

end Go.Proofs.YtcipdmdliobdmaaDoor

/-
  The document's own Same: are two disks the same?
-/
namespace Go.Proofs.YtcipdmdliobdmaaDoor
open Go.RowKit

/-- The first k writes are the same. -/
def sameW (a b : List Wr) (k : Nat) : Prop := a.take k = b.take k
theorem sameW_succ {a b : List Wr} {k : Nat} (h : sameW a b k) (ha : k < a.length) (hb : k < b.length) (he : a[k] = b[k]) : sameW a b (k + 1) := by
  unfold sameW at h ⊢
  rw [List.take_succ_eq_append_getElem ha, List.take_succ_eq_append_getElem hb, h, he]
def sameD (bs cs : List (List UInt8)) (ws xs : List Wr) : Bool := decide (bs = cs) && decide (ws = xs)
theorem sameD_texts {bs cs : List (List UInt8)} (ws xs : List Wr) (h : decide (bs = cs) = false) : sameD bs cs ws xs = false := by simp only [sameD, h, Bool.false_and]
theorem sameD_writes (bs cs : List (List UInt8)) {ws xs : List Wr} (h : ws ≠ xs) : sameD bs cs ws xs = false := by simp [sameD, h]
theorem sameD_refl (bs : List (List UInt8)) (ws : List Wr) : sameD bs bs ws ws = true := by simp [sameD]
theorem sameD_all {bs cs : List (List UInt8)} {ws xs : List Wr} (h : decide (bs = cs) = true) (hl : ws.length = xs.length) (hs : sameW ws xs ws.length) : sameD bs cs ws xs = true := by
  unfold sameW at hs
  rw [List.take_length, hl, List.take_length] at hs
  rw [sameD, h]
  simp [hs]

set_option maxRecDepth 100000 in
set_option maxHeartbeats 4000000 in
theorem same_calls (va vw vc vx : Value) (bs cs : List (List UInt8)) (ws xs : List Wr) (w : World) (hb : Txts w va bs) (hw : Wrs w vw ws) (hc : Txts w vc cs) (hx : Wrs w vx xs) (hbl : bs.length ≤ 9223372036854775807) (hwl : ws.length ≤ 1000000) :
    Calls Tryd.prog 19 #[.agg #[va, vw], .agg #[vc, vx]] w fun e w' => e = .returned (.bool (sameD bs cs ws xs)) ∧ Below w.heap.size w w' := by
  obtain ⟨ab, cb, rfl⟩ := hb.strs.form
  obtain ⟨aw, cw, rfl⟩ := hw.form
  obtain ⟨ac, cc, rfl⟩ := hc.strs.form
  obtain ⟨ax, cx, rfl⟩ := hx.form
  have hB0 := below_alloc2 w (.cells #[.slice ab bs.length cb, .slice aw ws.length cw] 25) (.cells #[.slice ac cs.length cc, .slice ax xs.length cx] 25)
  have CT := texts_calls _ _ bs cs _ (hb.below hB0).strs (hc.below hB0).strs hbl
  have HW := Lib.hid hw
  have HX := Lib.hid hx
  clear hb hc hw hx
  cases hT : decide (bs = cs) with
  | false =>
    have hr := Lib.hid (sameD_texts ws xs hT)
    rw [hT] at CT
    have K := Lib.hid CT
    clear CT hT
    go_enter Tryd.func19, Tryd.ntmps19
    go_wp2_with fail
    refine K.out.mono ?_
    rintro e w1 ⟨rfl, hB1⟩
    go_wp2_with fail
    go_ret
    exact ⟨by rw [hr.out]; rfl, below2 hB0 hB1⟩
  | true =>
    have HT := Lib.hid hT
    rw [hT] at CT
    have K := Lib.hid CT
    clear CT hT
    by_cases hl : ws.length = xs.length
    · have hne : ((ws.length : Int) != (xs.length : Int)) = false := by simp [hl]
      have HL := Lib.hid hl
      have hle1 : ws.length ≤ xs.length := by omega
      have hle2 : xs.length ≤ ws.length := by omega
      clear hl
      go_enter Tryd.func19, Tryd.ntmps19
      go_wp2_with fail
      refine K.out.mono ?_
      rintro e w1 ⟨rfl, hB1⟩
      have a0 := look_below hB1 (b := w.heap.size) (o := 1) (v := .slice aw ws.length cw) (by go_simp)
      have a1 := look_below hB1 (b := w.heap.size + 1) (o := 1) (v := .slice ax xs.length cx) (by go_simp)
      have hBB1 := below2 hB0 hB1
      go_wp2_with fail
      go_loopw [5] (fun i wr => ∃ k : Nat, k ≤ ws.length ∧ i = .int .i64 k ∧ sameW ws xs k ∧ wr.cell? ⟨w.heap.size, 1, none⟩ = some (.slice aw ws.length cw) ∧ wr.cell? ⟨w.heap.size + 1, 1, none⟩ = some (.slice ax xs.length cx) ∧ Below w.heap.size w wr) (fun i _ => ws.length - (intOf i).toNat)
      case atStart => exact ⟨0, Nat.zero_le _, rfl, by simp [sameW], a0, a1, hBB1⟩
      case round =>
        obtain ⟨k, hk, rfl, hf, c0, c1, hB⟩ := hrel
        clear a0 a1
        by_cases hlt : k < ws.length
        · have hlt2 : k < xs.length := by omega
          obtain ⟨b1, o1, rfl, e0, e1⟩ := (HW.out.below hB).at hlt
          obtain ⟨b2, o2, rfl, f0, f1⟩ := (HX.out.below hB).at hlt2
          obtain ⟨⟨a, s⟩, hx1⟩ : ∃ y, ws[k] = y := ⟨_, rfl⟩
          obtain ⟨⟨b, t⟩, hx2⟩ : ∃ y, xs[k] = y := ⟨_, rfl⟩
          rw [hx1] at e0 e1
          rw [hx2] at f0 f1
          have HX1 := Lib.hid hx1
          have HX2 := Lib.hid hx2
          clear hx1 hx2
          by_cases hs : a = b ∧ s = t
          · obtain ⟨rfl, rfl⟩ := hs
            go_wp2_with fail
            go_quiet (fail)
            go_wp2_with fail
            go_roundw
            case rel => exact ⟨k + 1, by omega, by go_num, sameW_succ hf hlt hlt2 (by rw [HX1.out, HX2.out]), c0, c1, below_drewN hB _⟩
            case measure => simp [intOf]; omega
          · have hr := Lib.hid (sameD_writes bs cs (ws := ws) (xs := xs) (fun e => by
              have h : ws[k] = xs[k] := by subst e; rfl
              rw [HX1.out, HX2.out] at h
              exact hs (Prod.mk.injEq .. ▸ h)))
            have hc : (a == b) = false ∨ ((a == b) = true ∧ (s == t) = false) := by
              by_cases h : a = b
              · right
                exact ⟨by simp [h], by simpa using fun e => hs ⟨h, e⟩⟩
              · left; simp [h]
            have hc := Lib.hid hc
            clear hs
            rcases hc.out with h1 | ⟨h1, h2⟩
            · go_wp2_with fail
              go_quiet (fail)
              go_wp2_with fail
              go_ret
              exact ⟨by rw [hr.out]; rfl, below_drewN hB _⟩
            · go_wp2_with fail
              go_quiet (fail)
              go_wp2_with fail
              go_ret
              exact ⟨by rw [hr.out]; rfl, below_drewN hB _⟩
        · obtain rfl : k = ws.length := by omega
          have hr := Lib.hid (sameD_all HT.out HL.out hf)
          go_wp2_with fail
          go_ret
          exact ⟨by rw [hr.out]; rfl, hB⟩
    · have hne : ((ws.length : Int) != (xs.length : Int)) = true := by simp; omega
      have hr := Lib.hid (sameD_writes bs cs (ws := ws) (xs := xs) (fun e => hl (by rw [e])))
      clear hl
      go_enter Tryd.func19, Tryd.ntmps19
      go_wp2_with fail
      refine K.out.mono ?_
      rintro e w1 ⟨rfl, hB1⟩
      have a0 := look_below hB1 (b := w.heap.size) (o := 1) (v := .slice aw ws.length cw) (by go_simp)
      have a1 := look_below hB1 (b := w.heap.size + 1) (o := 1) (v := .slice ax xs.length cx) (by go_simp)
      go_wp2_with fail
      go_ret
      exact ⟨by rw [hr.out]; rfl, below2 hB0 hB1⟩

end Go.Proofs.YtcipdmdliobdmaaDoor

/-
  Arguments that came in, opened: disks, rows of writes, rows of bools.
-/
namespace Go.Proofs.YtcipdmdliobdmaaDoor
open Go.RowKit Go.Joins Go.ChangeShapes Go.WideShapes Go.Deep

/-- A row of strings reads as some texts. -/
theorem txts_trod {W : World} {n : Nat} {v : Value} {H : Type} {enc : TypeId × Value → H} {x : DataW H × List MemPlace}
    (hf : DataW.trod enc Tryd.prog W 0 (fun _ => true) true n 22 [v] = some x) : ∃ ls : List (List UInt8), Txts W v ls ∧ ls.length ≤ maxLen := by
  rcases open_strings Tryd.underlying22 Tryd.underlying9 (by kernel_rfl) hf with ⟨hcs, _⟩ | ⟨a, l, c, ss, hcs, _, hl, hm, hz, _, hcell, _⟩
  · simp at hcs
    subst hcs
    exact ⟨[], Txts.nil W, by simp⟩
  · simp at hcs
    subst hcs
    have hz' : ss.length = c := by simpa using hz
    have hll : ((ss.take l).map fun s => s.data.toList).length = l := by simp; omega
    refine ⟨(ss.take l).map fun s => s.data.toList, ⟨some a, c, by rw [hll], by rw [hll]; omega, ?_⟩, by rw [hll]; omega⟩
    by_cases h0 : l = 0
    · left; subst h0; simp
    · right
      obtain ⟨b, off, spot⟩ := a
      have hspot : spot = none := by simpa [Addr.add] using World.cell?_spot (hcell 0 (by omega))
      subst hspot
      refine ⟨b, off, rfl, fun i hi => ?_⟩
      rw [hll] at hi
      have h1 := hcell i (by omega)
      rw [Go.WideShapes.add_plain] at h1
      rw [h1]
      have hi2 : i < ss.length := by omega
      simp [List.getD, List.getElem?_eq_getElem hi2, SV]

/-- A row of writes reads as some writes. -/
theorem wrs_trod {W : World} {n : Nat} {v : Value} {H : Type} {enc : TypeId × Value → H} {x : DataW H × List MemPlace}
    (hf : DataW.trod enc Tryd.prog W 0 (fun _ => true) true n 23 [v] = some x) : ∃ ws : List Wr, Wrs W v ws ∧ ws.length ≤ maxLen := by
  rcases open_slice_pairs Tryd.underlying23 Tryd.underlying63 (by kernel_rfl) rfl rfl (by kernel_rfl) (by kernel_rfl) hf with ⟨hcs, _⟩ | ⟨a, l, c, m, k, V0, V1, D0, D1, P0, P1, hcs, _, hl, hm, hz, _, hcell⟩
  · simp at hcs
    subst hcs
    exact ⟨[], Wrs.nil W, by simp⟩
  · simp at hcs
    subst hcs
    have hz' : m = c := by simpa using hz
    have each : ∀ i, i < m → ∃ y : Wr, W.cell? (a.add (i * 2)) = some (.int .i64 y.1) ∧ W.cell? (a.add (i * 2 + 1)) = some (SV y.2) := by
      intro i hi
      obtain ⟨h0, h1, t0, t1⟩ := hcell i hi
      obtain ⟨z, e0, _, _⟩ := DataW.trod_int Tryd.underlying3 t0
      obtain ⟨s, e1, _, _⟩ := DataW.trod_string Tryd.underlying9 t1
      simp at e0 e1
      exact ⟨(z, s.data.toList), by rw [h0, e0], by rw [h1, e1, SV_data]⟩
    obtain ⟨Y, hY⟩ := choose_lt each
    have hll : ((List.range l).map Y).length = l := by simp
    refine ⟨(List.range l).map Y, ⟨wcells_len _, some a, c, by rw [hll], by rw [hll]; omega, ?_⟩, by rw [hll]; omega⟩
    by_cases h0 : l = 0
    · left; rw [hll]; exact h0
    · right
      obtain ⟨b, off, spot⟩ := a
      have hspot : spot = none := by simpa [Addr.add] using World.cell?_spot (hY 0 (by omega)).1
      subst hspot
      refine ⟨b, off, rfl, fun j hj => ?_⟩
      have hj2 : j < l * 2 := by rw [wcells_len, hll] at hj; exact hj
      have hq : j / 2 < l := by omega
      obtain ⟨e0, e1⟩ := wcells_at ((List.range l).map Y) (j / 2) (by rw [hll]; exact hq)
      obtain ⟨y0, y1⟩ := hY (j / 2) (by omega)
      rw [Go.WideShapes.add_plain] at y0 y1
      simp only [List.getElem_map, List.getElem_range] at e0 e1
      rcases Nat.mod_two_eq_zero_or_one j with h | h
      · have ej : j / 2 * 2 = j := by omega
        rw [ej] at e0 y0
        rw [y0, ← e0, List.getElem?_eq_getElem hj]
      · have ej : j / 2 * 2 + 1 = j := by omega
        rw [ej] at e1 y1
        rw [y1, ← e1, List.getElem?_eq_getElem hj]

/-- A row of bools reads as some bools. -/
theorem bools_trod {W : World} {n : Nat} {v : Value} {H : Type} {enc : TypeId × Value → H} {x : DataW H × List MemPlace}
    (hf : DataW.trod enc Tryd.prog W 0 (fun _ => true) true n 42 [v] = some x) : ∃ ks : List Bool, Bools W v ks ∧ ks.length ≤ maxLen := by
  rcases open_bools Tryd.underlying42 Tryd.underlying4 (by kernel_rfl) hf with ⟨hcs, _⟩ | ⟨a, l, c, B, hcs, _, hl, hm, _, hcell⟩
  · simp at hcs
    subst hcs
    exact ⟨[], Bools.nil W, by simp⟩
  · simp at hcs
    subst hcs
    have hll : ((List.range l).map B).length = l := by simp
    refine ⟨(List.range l).map B, ⟨by simp, some a, c, by rw [hll], by rw [hll]; omega, ?_⟩, by rw [hll]; omega⟩
    by_cases h0 : l = 0
    · left; rw [hll]; exact h0
    · right
      obtain ⟨b, off, spot⟩ := a
      have hspot : spot = none := by simpa [Addr.add] using World.cell?_spot (hcell 0 (by omega))
      subst hspot
      refine ⟨b, off, rfl, fun j hj => ?_⟩
      have hj2 : j < l := by simpa using hj
      have h1 := hcell j (by omega)
      rw [Go.WideShapes.add_plain] at h1
      rw [h1]
      simp

theorem diskCells : Tryd.prog.cellsOf 25 = 2 := by kernel_rfl
set_option maxRecDepth 100000 in
/-- A disk that came in. -/
theorem disk_open {W : World} {base : Nat} {v : Value} {H : Type} {enc : TypeId × Value → H} {d : DataW H} {p : List MemPlace} (hv : Value.okWide Tryd.prog W .any base 25 v)
    (h : DataW.Trod enc Tryd.prog W 0 (fun _ => true) true 25 v d p) : ∃ vb vw bs ws, v = .agg #[vb, vw] ∧ Txts W vb bs ∧ Wrs W vw ws ∧ bs.length ≤ maxLen ∧ ws.length ≤ maxLen := by
  obtain ⟨c0, c1, y0, y1, n, rfl, _, _, t0, t1⟩ := open_agg2 Tryd.underlying25 (by kernel_rfl) diskCells hv h
  obtain ⟨bs, hb, hbl⟩ := txts_trod t0
  obtain ⟨ws, hw, hwl⟩ := wrs_trod t1
  exact ⟨c0, c1, bs, ws, rfl, hb, hw, hbl, hwl⟩
set_option maxRecDepth 100000 in
theorem writes_open {W : World} {base : Nat} {v : Value} {H : Type} {enc : TypeId × Value → H} {d : DataW H} {p : List MemPlace} (hv : Value.okWide Tryd.prog W .any base 23 v)
    (h : DataW.Trod enc Tryd.prog W 0 (fun _ => true) true 23 v d p) : ∃ ws, Wrs W v ws ∧ ws.length ≤ maxLen := by
  obtain ⟨a0, len, cap, rfl⟩ := okWide_slice Tryd.underlying23 hv
  obtain ⟨fuel, hf⟩ := h
  exact wrs_trod (by simpa [Value.cells] using hf)
set_option maxRecDepth 100000 in
theorem bools_open {W : World} {base : Nat} {v : Value} {H : Type} {enc : TypeId × Value → H} {d : DataW H} {p : List MemPlace} (hv : Value.okWide Tryd.prog W .any base 42 v)
    (h : DataW.Trod enc Tryd.prog W 0 (fun _ => true) true 42 v d p) : ∃ ks, Bools W v ks ∧ ks.length ≤ maxLen := by
  obtain ⟨a0, len, cap, rfl⟩ := okWide_slice Tryd.underlying42 hv
  obtain ⟨fuel, hf⟩ := h
  exact bools_trod (by simpa [Value.cells] using hf)

end Go.Proofs.YtcipdmdliobdmaaDoor
