/-
  The texts of one folder in one: BaSpec, BaMath, BaText, Cgs, BaOpen, BaApp, BaMay, BaCmp, BaIs, BaBig.
-/
import Derived.Test.YtaaabmnaindgaaaGreatDoorPks02
import Derived.Test.YtaaabmnaindgaaaGreatDoorPks08
import Derived.Test.YtaaabmnaindgaaaGreatDoorPks12
import Derived.Test.YtaaabmnaindgaaaGreatDoorPks01
import Derived.Test.YtaaabmnaindgaaaGreatDoorPkbase
import Derived.Deep.Grids
import Derived.Test.YtaaabmnaindgaaaGreatDoorShelf
import Derived.Sort.Grow
import Derived.Deep.RegionHeld3

/-
  Batches in plain words: changes that may be, rows of them by their paths, the last change of each path; their bytes. No program is named here.
-/
namespace Go.Proofs.YtaaabmnaindgaaaGreatDoor
set_option maxRecDepth 100000

/-- A change: its path, whether it is gone, its meta. -/
abbrev Cg := List UInt8 × Bool × Mt
/-- May it be? -/
def mayB (c : Cg) : Bool := (c.1 != []) && (isP c.1 && (metaB c.2.2.1 c.2.2.2.1 c.2.2.2.2 && (!c.2.1 || sameM c.2.2.1 c.2.2.2.1 c.2.2.2.2 0 0 [])))
theorem mayB_iff {c : Cg} : mayB c = true ↔ c.1 ≠ [] ∧ isP c.1 = true ∧ metaB c.2.2.1 c.2.2.2.1 c.2.2.2.2 = true ∧ (c.2.1 = true → c.2.2 = (0, 0, [])) := by
  unfold mayB
  rw [Bool.and_eq_true, Bool.and_eq_true, Bool.and_eq_true, Bool.or_eq_true, bne_iff_ne, sameM_iff]
  cases c.2.1 <;> simp [Prod.ext_iff]
/-- Do their paths rise? -/
def riseC : List Cg → Bool
  | x :: y :: r => Op.bytesLess x.1 y.1 && riseC (y :: r)
  | _ => true
def isB (l : List Cg) : Bool := decide (1 ≤ l.length) && (decide (l.length ≤ 20) && (l.all mayB && riseC l))
/-- Paths that rise, each against each. -/
def SortC (l : List Cg) : Prop := l.Pairwise fun x y => Op.bytesLess x.1 y.1 = true
theorem rise_sort : ∀ l : List Cg, riseC l = true ↔ SortC l
  | [] => ⟨fun _ => List.Pairwise.nil, fun _ => rfl⟩
  | [x] => ⟨fun _ => by simp [SortC], fun _ => rfl⟩
  | x :: y :: r => by
    have ih := rise_sort (y :: r)
    unfold SortC at *
    rw [riseC, Bool.and_eq_true, ih, List.pairwise_cons (a := x)]
    constructor
    · rintro ⟨h1, h2⟩
      refine ⟨fun z hz => ?_, h2⟩
      rcases List.mem_cons.1 hz with rfl | hz
      · exact h1
      · exact less_trans h1 ((List.pairwise_cons.1 h2).1 z hz)
    · rintro ⟨h1, h2⟩
      exact ⟨h1 y (by simp), h2⟩
/-- Neighbours that do not rise. -/
theorem baRise_not {l : List Cg} {k : Nat} (hk : k + 1 < l.length) (h : Op.bytesLess l[k].1 l[k + 1].1 = false) : riseC l = false := by
  cases hr : riseC l with
  | false => rfl
  | true =>
    have := List.pairwise_iff_getElem.1 ((rise_sort l).1 hr) k (k + 1) (by omega) hk (by omega)
    rw [h] at this
    cases this
theorem rise_all {l : List Cg} (h : ∀ (k : Nat) (hk : k + 1 < l.length), Op.bytesLess l[k].1 l[k + 1].1 = true) : riseC l = true := by
  match l with
  | [] => rfl
  | [_] => rfl
  | x :: y :: r =>
    rw [riseC, Bool.and_eq_true]
    refine ⟨h 0 (by simp), rise_all (l := y :: r) fun k hk => ?_⟩
    exact h (k + 1) (by simpa using hk)
theorem isB_iff {l : List Cg} : isB l = true ↔ 1 ≤ l.length ∧ l.length ≤ 20 ∧ (∀ c ∈ l, mayB c = true) ∧ SortC l := by
  unfold isB
  rw [Bool.and_eq_true, Bool.and_eq_true, Bool.and_eq_true, decide_eq_true_eq, decide_eq_true_eq, List.all_eq_true, rise_sort]

/-! ### Rows that rise -/

end Go.Proofs.YtaaabmnaindgaaaGreatDoor

/-
  What follows of batches in plain words: the order of unlike paths, two rows joined.
-/
namespace Go.Proofs.YtaaabmnaindgaaaGreatDoor
set_option maxRecDepth 100000

/-- No two have one path. -/
def UnlikeC (l : List Cg) : Prop := l.Pairwise fun x y => x.1 ≠ y.1
/-! ### How many -/

/-! ### Two batches joined -/

/-! ### A change's place, as a loop finds it -/

/-- Are changes more than are looked at? -/
def bigC (l : List Cg) : Bool := decide (50 < l.length) || l.any fun c => decide (200 < c.1.length) || decide (30 < c.2.2.2.2.length)
theorem bigC_not {l : List Cg} (h : bigC l = false) : l.length ≤ 50 ∧ ∀ c ∈ l, c.1.length ≤ 200 ∧ c.2.2.2.2.length ≤ 30 := by
  unfold bigC at h
  rw [Bool.or_eq_false_iff, List.any_eq_false] at h
  refine ⟨by have := of_decide_eq_false h.1; omega, fun c hc => ?_⟩
  have := h.2 c hc
  simp at this
  omega

end Go.Proofs.YtaaabmnaindgaaaGreatDoor

/-
  A batch's bytes in plain words.
-/
namespace Go.Proofs.YtaaabmnaindgaaaGreatDoor
set_option maxRecDepth 100000

/-- A value's bytes. -/
def cval (c : Cg) : List UInt8 := valM c.2.2.1 c.2.2.2.1 c.2.2.2.2 c.2.1
theorem isP_len {s : List UInt8} (h : isP s = true) : s.length ≤ 100 := by
  obtain ⟨l, hl⟩ := isP_some h
  exact (names_fine hl).2.2
theorem cval_len {c : Cg} (h : mayB c = true) : (cval c).length ≤ 96 := by
  obtain ⟨_, _, h3, _⟩ := mayB_iff.1 h
  have h4 := (metaB_iff.1 h3).1
  have h5 := metaT_len c.2.2.1 c.2.2.2.1 c.2.2.2.2
  unfold cval valM
  cases c.2.1 with
  | true => simp
  | false =>
    rw [if_neg (by simp), if_pos h3, List.length_cons]
    omega
/-! ### What is laid is read, what is read is laid -/

theorem red_one {t : List UInt8} {x : Mt} (h : getM t = some x) : redE (1 :: t) = 0 ∧ redM (1 :: t) = x := by
  have h1 : (1 :: t : List UInt8).head? = some 1 := rfl
  have hne : (1 :: t : List UInt8) ≠ [0] := by simp
  rw [redE, redM, if_neg hne, if_pos h1, if_pos h1, List.tail_cons, gotE, gotM, h]
  exact ⟨rfl, rfl⟩
theorem val_red {c : Cg} (h : mayB c = true) : redE (cval c) = 0 ∧ redG (cval c) = c.2.1 ∧ redM (cval c) = c.2.2 := by
  obtain ⟨_, _, h3, h4⟩ := mayB_iff.1 h
  unfold cval valM
  cases hg : c.2.1 with
  | true =>
    rw [if_pos rfl, h4 hg]
    exact ⟨rfl, rfl, rfl⟩
  | false =>
    have hm := getM_laid h3
    rw [if_neg (by simp), if_pos h3]
    obtain ⟨r1, r2⟩ := red_one hm
    exact ⟨r1, by rw [redG]; simp, r2⟩
end Go.Proofs.YtaaabmnaindgaaaGreatDoor

/-
  Rows of changes: five cells each, the last one a row of numbers.
-/
namespace Go.Proofs.YtaaabmnaindgaaaGreatDoor
set_option maxRecDepth 100000
open Go.RowKit

/-- A change, and the slice of its meta's Chunks. -/
abbrev Cv := Cg × Value
def ccell (x : Cv) : List Value := [.string ⟨x.1.1.toArray⟩, .bool x.1.2.1, .int .i64 x.1.2.2.1, .int .i64 x.1.2.2.2.1, x.2]
def ccells (S : List Cv) : List Value := S.flatMap ccell
/-- The changes alone. -/
abbrev chs (S : List Cv) : List Cg := S.map Prod.fst
theorem ccells_cons (x : Cv) (r : List Cv) : ccells (x :: r) = .string ⟨x.1.1.toArray⟩ :: .bool x.1.2.1 :: .int .i64 x.1.2.2.1 :: .int .i64 x.1.2.2.2.1 :: x.2 :: ccells r := rfl
theorem ccells_len (S : List Cv) : (ccells S).length = S.length * 5 := by
  induction S with
  | nil => rfl
  | cons x r ih => rw [ccells_cons]; simp only [List.length_cons, ih]; omega
theorem ccells_take (S : List Cv) (n : Nat) : ccells (S.take n) = (ccells S).take (n * 5) := by
  induction S generalizing n with
  | nil => simp [ccells]
  | cons x r ih =>
    cases n with
    | zero => simp [ccells]
    | succ n =>
      rw [List.take_succ_cons, ccells_cons, ccells_cons, ih, show (n + 1) * 5 = n * 5 + 1 + 1 + 1 + 1 + 1 by omega]
      simp
theorem ccells_drop (S : List Cv) (n : Nat) : ccells (S.drop n) = (ccells S).drop (n * 5) := by
  induction S generalizing n with
  | nil => simp [ccells]
  | cons x r ih =>
    cases n with
    | zero => simp
    | succ n =>
      rw [List.drop_succ_cons, ccells_cons, ih, show (n + 1) * 5 = n * 5 + 1 + 1 + 1 + 1 + 1 by omega]
      simp
theorem ccells_at (S : List Cv) (i : Nat) (h : i < S.length) : (ccells S)[i * 5]? = some (.string ⟨S[i].1.1.toArray⟩) ∧ (ccells S)[i * 5 + 1]? = some (.bool S[i].1.2.1) ∧ (ccells S)[i * 5 + 2]? = some (.int .i64 S[i].1.2.2.1) ∧
    (ccells S)[i * 5 + 3]? = some (.int .i64 S[i].1.2.2.2.1) ∧ (ccells S)[i * 5 + 4]? = some S[i].2 := by
  induction S generalizing i with
  | nil => simp at h
  | cons x r ih =>
    cases i with
    | zero => exact ⟨rfl, rfl, rfl, rfl, rfl⟩
    | succ i =>
      have h1 := ih i (by simpa using h)
      rw [ccells_cons, show (i + 1) * 5 = i * 5 + 1 + 1 + 1 + 1 + 1 by omega]
      exact h1

/-- The slice v reads as these changes. -/
def Cgs (w : World) (v : Value) (S : List Cv) : Prop := Rw w 5 v S.length (ccells S) ∧ ∀ x ∈ S, Ints w x.2 x.1.2.2.2.2
theorem Cgs.below {w w' : World} {v : Value} {S : List Cv} (h : Cgs w v S) (hb : Below w.heap.size w w') : Cgs w' v S := ⟨Rw.below h.1 hb, fun x hx => (h.2 x hx).below hb⟩
theorem Cgs.form {w : World} {v : Value} {S : List Cv} (h : Cgs w v S) : ∃ ao cap, v = .slice ao S.length cap := Rw.form h.1
theorem Cgs.nil (w : World) : Cgs w (.slice none 0 0) [] := ⟨Rw.nil w 5, fun x hx => by cases hx⟩
theorem Cgs.at {w : World} {ao : Option Addr} {n cap : Nat} {S : List Cv} (h : Cgs w (.slice ao n cap) S) {k : Nat} (hk : k < S.length) :
    ∃ b off, ao = some ⟨b, off, none⟩ ∧ (w.cell? ⟨b, off + k * 5, none⟩ = some (.string ⟨S[k].1.1.toArray⟩) ∧ w.cell? ⟨b, off + k * 5 + 1, none⟩ = some (.bool S[k].1.2.1) ∧ w.cell? ⟨b, off + k * 5 + 2, none⟩ = some (.int .i64 S[k].1.2.2.1) ∧
      w.cell? ⟨b, off + k * 5 + 3, none⟩ = some (.int .i64 S[k].1.2.2.2.1) ∧ w.cell? ⟨b, off + k * 5 + 4, none⟩ = some S[k].2) ∧ Ints w S[k].2 S[k].1.2.2.2.2 := by
  obtain ⟨⟨hl, ao', cap', he, _, hc⟩, hx⟩ := h
  cases he
  rcases hc with h0 | ⟨b, off, rfl, hc⟩
  · omega
  · have h2 := ccells_len S
    obtain ⟨e1, e2, e3, e4, e5⟩ := ccells_at S k hk
    refine ⟨b, off, rfl, ⟨?_, ?_, ?_, ?_, ?_⟩, hx _ (List.getElem_mem hk)⟩
    · rw [hc (k * 5) (by omega), ← e1, List.getElem?_eq_getElem (by omega)]
    · rw [Nat.add_assoc, hc (k * 5 + 1) (by omega), ← e2, List.getElem?_eq_getElem (by omega)]
    · rw [Nat.add_assoc, hc (k * 5 + 2) (by omega), ← e3, List.getElem?_eq_getElem (by omega)]
    · rw [Nat.add_assoc, hc (k * 5 + 3) (by omega), ← e4, List.getElem?_eq_getElem (by omega)]
    · rw [Nat.add_assoc, hc (k * 5 + 4) (by omega), ← e5, List.getElem?_eq_getElem (by omega)]
theorem Cgs.len {w : World} {ao : Option Addr} {k cap : Nat} {S : List Cv} (h : Cgs w (.slice ao k cap) S) : S.length = k := by
  obtain ⟨⟨_, ao', c, he, _⟩, _⟩ := h
  cases he
  rfl
/-- The first k changes. -/
theorem Cgs.take {w : World} {ao : Option Addr} {n cap : Nat} {S : List Cv} (h : Cgs w (.slice ao n cap) S) {k : Nat} (hk : k ≤ S.length) : Cgs w (.slice ao k cap) (S.take k) := by
  obtain ⟨⟨hl, ao', c, he, hc, h⟩, hx⟩ := h
  cases he
  have e : (S.take k).length = k := by simp; omega
  refine ⟨⟨ccells_len _, ao, cap, by rw [e], by omega, ?_⟩, fun x hm => hx x (List.mem_of_mem_take hm)⟩
  rcases h with h0 | ⟨b, off, rfl, hcs⟩
  · exact .inl (by omega)
  · refine .inr ⟨b, off, rfl, fun j hj => ?_⟩
    rw [ccells_len, e] at hj
    have h2 := ccells_len S
    rw [hcs j (by omega)]
    simp only [ccells_take]
    rw [List.getElem_take]
/-- The changes from the k-th one on. -/
theorem Cgs.drop {w : World} {b off n cap : Nat} {S : List Cv} (h : Cgs w (.slice (some ⟨b, off, none⟩) n cap) S) {k m cap' : Nat} (hk : k ≤ S.length) (hm : m = S.length - k) (hc' : m ≤ cap') (o : Nat) (ho : o = off + k * 5 ∨ k = S.length) : Cgs w (.slice (some ⟨b, o, none⟩) m cap') (S.drop k) := by
  obtain ⟨⟨hl, ao', c, he, hc, h⟩, hx⟩ := h
  cases he
  have e : (S.drop k).length = m := by simp; omega
  refine ⟨⟨ccells_len _, _, cap', by rw [e], by omega, ?_⟩, fun x hm => hx x (List.mem_of_mem_drop hm)⟩
  by_cases h0 : k = S.length
  · exact .inl (by omega)
  · rcases h with h1 | ⟨b', off', he, hcs⟩
    · exact .inl (by omega)
    · cases he
      obtain rfl := ho.resolve_right h0
      refine .inr ⟨b, _, rfl, fun j hj => ?_⟩
      rw [ccells_len, e] at hj
      have h2 := ccells_len S
      rw [Nat.add_assoc, hcs (k * 5 + j) (by omega)]
      simp only [ccells_drop]
      rw [List.getElem_drop]
theorem Cgs.of_nil {w : World} {n cap : Nat} {S : List Cv} (h : Cgs w (.slice none n cap) S) : S = [] := by
  obtain ⟨⟨_, ao, c, he, _, h0 | ⟨b, off, h, _⟩⟩, _⟩ := h
  · exact List.eq_nil_of_length_eq_zero h0
  · cases he; cases h
theorem Cgs.spot {w : World} {a : Addr} {n cap : Nat} {S : List Cv} (h : Cgs w (.slice (some a) n cap) S) (h0 : S ≠ []) : ∃ b off, a = ⟨b, off, none⟩ := by
  obtain ⟨⟨_, ao, c, he, _, h1 | ⟨b, off, h, _⟩⟩, _⟩ := h
  · exact absurd (List.eq_nil_of_length_eq_zero h1) h0
  · cases he; cases h; exact ⟨b, off, rfl⟩
end Go.Proofs.YtaaabmnaindgaaaGreatDoor

/-
  Changes that came in, opened.
-/
namespace Go.Proofs.YtaaabmnaindgaaaGreatDoor
set_option maxRecDepth 100000
open Go.RowKit Go.Joins Go.ChangeShapes Go.WideShapes Go.Deep

theorem changeCells : Tryz.prog.cellsOf 128 = 5 := by kernel_rfl
/-- Five cells that are a change. -/
theorem change_trod {W : World} {n : Nat} {H : Type} {enc : TypeId × Value → H} {x : DataW H × List MemPlace} {c0 c1 c2 c3 c4 : Value}
    (hf : DataW.trod enc Tryz.prog W 0 (fun _ => true) true n 128 [c0, c1, c2, c3, c4] = some x) : ∃ y : Cv, (c0 = .string ⟨y.1.1.toArray⟩ ∧ c1 = .bool y.1.2.1 ∧ c2 = .int .i64 y.1.2.2.1 ∧ c3 = .int .i64 y.1.2.2.2.1 ∧ c4 = y.2) ∧ Ints W y.2 y.1.2.2.2.2 ∧ y.1.1.length ≤ maxLen ∧ y.1.2.2.2.2.length ≤ maxLen := by
  have ks : Tryz.prog.cellsOf 9 = 1 := by kernel_rfl
  have kb : Tryz.prog.cellsOf 4 = 1 := by kernel_rfl
  have km : Tryz.prog.cellsOf 51 = 3 := metaCells
  have ki : Tryz.prog.cellsOf 3 = 1 := by kernel_rfl
  have kr : Tryz.prog.cellsOf 49 = 1 := by kernel_rfl
  obtain ⟨xs, k, _, _, _, hl, hc⟩ := DataW.trod_struct Tryz.underlying128 hf
  match xs, hl with
  | [x0, x1, x2], _ =>
    have g0 := hc 0 _ rfl
    have g1 := hc 1 _ rfl
    have g2 := hc 2 _ rfl
    simp [ks] at g0
    simp [kb] at g1
    simp [km] at g2
    obtain ⟨ys, j, _, _, _, hm, hd⟩ := DataW.trod_struct Tryz.underlying51 g2
    match ys, hm with
    | [y0, y1, y2], _ =>
      have f0 := hd 0 _ rfl
      have f1 := hd 1 _ rfl
      have f2 := hd 2 _ rfl
      simp [ki] at f0
      simp [ki] at f1
      simp [kr] at f2
      obtain ⟨s0, e0, _, hs0⟩ := DataW.trod_string Tryz.underlying9 g0
      obtain ⟨b, e1, _⟩ := DataW.trod_bool Tryz.underlying4 g1
      obtain ⟨z, e2, _, _⟩ := DataW.trod_int Tryz.underlying3 f0
      obtain ⟨d, e3, _, _⟩ := DataW.trod_int Tryz.underlying3 f1
      obtain ⟨cs, i1, i2⟩ := ints_trod f2
      simp at e0 e1 e2 e3
      subst e0 e1 e2 e3
      obtain ⟨l0, rfl⟩ := bytes_list s0
      exact ⟨((l0, b, z, d, cs), c4), ⟨rfl, rfl, rfl, rfl, rfl⟩, i1, by simpa [ByteArray.size] using hs0, i2⟩

set_option maxHeartbeats 1000000 in
/-- A row of changes that a field holds. -/
theorem changes_trod {W : World} {n : Nat} {u : Value} {H : Type} {enc : TypeId × Value → H} {x : DataW H × List MemPlace} (hf : DataW.trod enc Tryz.prog W 0 (fun _ => true) true n 88 [u] = some x) : ∃ S : List Cv, Cgs W u S ∧ S.length ≤ maxLen ∧ ∀ c ∈ chs S, c.1.length ≤ maxLen ∧ c.2.2.2.2.length ≤ maxLen := by
  rcases open_slice Tryz.underlying88 hf with ⟨hcs, _⟩ | ⟨a, len0, cap0, m, k, D, Pl, hcs, _, hl, hm, hz, _, hcell⟩
  · simp at hcs
    subst hcs
    exact ⟨[], Cgs.nil W, by simp, fun x hx => by cases hx⟩
  · simp at hcs
    subst hcs
    have hz' : m = cap0 := by simpa using hz
    rw [changeCells] at hcell
    have each : ∀ i, i < m → ∃ y : Cv, (W.cell? (a.add (i * 5)) = some (.string ⟨y.1.1.toArray⟩) ∧ W.cell? (a.add (i * 5 + 1)) = some (.bool y.1.2.1) ∧ W.cell? (a.add (i * 5 + 2)) = some (.int .i64 y.1.2.2.1) ∧ W.cell? (a.add (i * 5 + 3)) = some (.int .i64 y.1.2.2.2.1) ∧ W.cell? (a.add (i * 5 + 4)) = some y.2) ∧ Ints W y.2 y.1.2.2.2.2 ∧ y.1.1.length ≤ maxLen ∧ y.1.2.2.2.2.length ≤ maxLen := by
      intro i hi
      obtain ⟨cs', h1, h2⟩ := hcell i hi
      obtain ⟨_, hlen, hc⟩ := World.cells?_some h1
      match cs', hlen with
      | [v0, v1, v2, v3, v4], _ =>
        have e0 := hc 0 (by omega)
        have e1 := hc 1 (by omega)
        have e2 := hc 2 (by omega)
        have e3 := hc 3 (by omega)
        have e4 := hc 4 (by omega)
        rw [add_add] at e0 e1 e2 e3 e4
        obtain ⟨y, ⟨rfl, rfl, rfl, rfl, rfl⟩, hy⟩ := change_trod h2
        exact ⟨y, ⟨by simpa using e0, by simpa using e1, by simpa using e2, by simpa using e3, by simpa using e4⟩, hy⟩
    obtain ⟨Y, hY⟩ := choose_lt each
    have hll : ((List.range len0).map Y).length = len0 := by simp
    refine ⟨(List.range len0).map Y, ⟨⟨ccells_len _, some a, cap0, by rw [hll], by rw [hll]; omega, ?_⟩, ?_⟩, by rw [hll]; omega, ?_⟩
    · by_cases h0 : len0 = 0
      · left; rw [hll]; exact h0
      · right
        obtain ⟨b, off, spot⟩ := a
        have hspot : spot = none := by simpa [Addr.add] using World.cell?_spot (hY 0 (by omega)).1.1
        subst hspot
        refine ⟨b, off, rfl, fun j hj => ?_⟩
        have hj2 : j < len0 * 5 := by rw [ccells_len, hll] at hj; exact hj
        have hq : j / 5 < len0 := by omega
        obtain ⟨e0, e1, e2, e3, e4⟩ := ccells_at ((List.range len0).map Y) (j / 5) (by rw [hll]; exact hq)
        obtain ⟨⟨y0, y1, y2, y3, y4⟩, _⟩ := hY (j / 5) (by omega)
        rw [Go.WideShapes.add_plain] at y0 y1 y2 y3 y4
        simp only [List.getElem_map, List.getElem_range] at e0 e1 e2 e3 e4
        rcases (by omega : j % 5 = 0 ∨ j % 5 = 1 ∨ j % 5 = 2 ∨ j % 5 = 3 ∨ j % 5 = 4) with h | h | h | h | h
        · have ej : j / 5 * 5 = j := by omega
          rw [ej] at e0 y0
          rw [y0, ← e0, List.getElem?_eq_getElem hj]
        · have ej : j / 5 * 5 + 1 = j := by omega
          rw [ej] at e1 y1
          rw [y1, ← e1, List.getElem?_eq_getElem hj]
        · have ej : j / 5 * 5 + 2 = j := by omega
          rw [ej] at e2 y2
          rw [y2, ← e2, List.getElem?_eq_getElem hj]
        · have ej : j / 5 * 5 + 3 = j := by omega
          rw [ej] at e3 y3
          rw [y3, ← e3, List.getElem?_eq_getElem hj]
        · have ej : j / 5 * 5 + 4 = j := by omega
          rw [ej] at e4 y4
          rw [y4, ← e4, List.getElem?_eq_getElem hj]
    · intro x hx
      obtain ⟨r, hr, rfl⟩ := List.mem_map.1 hx
      exact (hY r (by have := List.mem_range.1 hr; omega)).2.1
    · intro c hc
      obtain ⟨x, hx, rfl⟩ := List.mem_map.1 hc
      obtain ⟨r, hr, rfl⟩ := List.mem_map.1 hx
      exact (hY r (by have := List.mem_range.1 hr; omega)).2.2

end Go.Proofs.YtaaabmnaindgaaaGreatDoor

/-
  Rows of changes of a call's own; an append of a change.
-/
namespace Go.Proofs.YtaaabmnaindgaaaGreatDoor
set_option maxRecDepth 100000
open Go.RowKit

theorem ba_apart {w : World} {base base' k k' : Nat} {e e' : TypeId} {v v' : Value} {n n' : Nat} {xs xs' : List Value} (h : w.ownsRow base e k v n xs) (h' : w.ownsRow base' e' k' v' n' xs') (he : e ≠ e') : v.ownBlock = none ∨ v.ownBlock ≠ v'.ownBlock := by
  rcases h.2 with ⟨rfl, _⟩ | ⟨g, cap, cur, rfl, _, hg, _⟩
  · exact .inl rfl
  · refine .inr fun hv => ?_
    rcases h'.2 with ⟨rfl, _⟩ | ⟨g', cap', cur', rfl, _, hg', _⟩
    · simp [Value.ownBlock] at hv
    · simp [Value.ownBlock] at hv
      subst hv
      rw [hg'] at hg
      cases hg
      exact he rfl

/-- A row of changes of the call's own, their Chunks too. -/
def OwnC (w : World) (base : Nat) (v : Value) (S : List Cv) : Prop := w.ownsRow base 128 5 v S.length (ccells S) ∧ ∀ x ∈ S, OwnI w base x.2 x.1.2.2.2.2
theorem OwnC.nil (w : World) (base : Nat) : OwnC w base (.slice none 0 0) [] := ⟨World.ownsRow_nil _ _ _ _, fun x h => by cases h⟩
theorem OwnC.cgs {w : World} {base : Nat} {v : Value} {S : List Cv} (h : OwnC w base v S) : Cgs w v S := ⟨Rw.own h.1, fun x hx => ints_own (h.2 x hx)⟩
theorem OwnC.form {w : World} {base : Nat} {v : Value} {S : List Cv} (h : OwnC w base v S) : ∃ ao cap, v = .slice ao S.length cap := h.cgs.form
theorem OwnC.weak {w : World} {b b' : Nat} {v : Value} {S : List Cv} (h : OwnC w b' v S) (hb : b ≤ b') : OwnC w b v S := ⟨own_weak h.1 hb, fun x hx => own_weak (h.2 x hx) hb⟩
theorem OwnC.stays {w w' : World} {base : Nat} {v : Value} {S : List Cv} (h : OwnC w base v S) (hb : Below w.heap.size w w') : OwnC w' base v S := ⟨own_stays h.1 hb, fun x hx => own_stays (h.2 x hx) hb⟩
/-- Behind an append to a row of changes: what else is the call's own stays. -/
def KeepC (w w' : World) : Prop := ∀ (base : Nat) (e : TypeId) (k n : Nat) (v : Value) (xs : List Value), e ≠ 128 → w.ownsRow base e k v n xs → w'.ownsRow base e k v n xs
theorem KeepC.trans {a b c : World} (h : KeepC a b) (k : KeepC b c) : KeepC a c := fun _ _ _ _ _ _ he ho => k _ _ _ _ _ _ he (h _ _ _ _ _ _ he ho)
theorem KeepC.below {a b : World} (h : Below a.heap.size a b) : KeepC a b := fun _ _ _ _ _ _ _ ho => own_stays ho h
theorem KeepC.grown {w w' : World} {base : Nat} {v : Value} {k n : Nat} {xs : List Value} (ho : w.ownsRow base 128 k v n xs) (hg : w.grownBy w' v.ownBlock) : KeepC w w' :=
  fun _ _ _ _ _ _ he h => h.kept hg (ba_apart h ho he)

end Go.Proofs.YtaaabmnaindgaaaGreatDoor

/-
  batch: isZero, mayBe.
-/
namespace Go.Proofs.YtaaabmnaindgaaaGreatDoor
set_option maxRecDepth 100000
open Go.RowKit

theorem Cx.five {w : World} {b : Nat} {t : TypeId} {v0 v1 v2 v3 v4 : Value} (h : Cx w b t [v0, v1, v2, v3, v4]) : w.cell? ⟨b, 0, none⟩ = some v0 ∧ w.cell? ⟨b, 1, none⟩ = some v1 ∧ w.cell? ⟨b, 2, none⟩ = some v2 ∧ w.cell? ⟨b, 3, none⟩ = some v3 ∧ w.cell? ⟨b, 4, none⟩ = some v4 :=
  ⟨h.cell (j := 0) rfl, h.cell (j := 1) rfl, h.cell (j := 2) rfl, h.cell (j := 3) rfl, h.cell (j := 4) rfl⟩
/-- A change as a value. -/
abbrev CV (p : List UInt8) (g : Bool) (z d : Int) (v : Value) : Value := .agg #[.string ⟨p.toArray⟩, .bool g, .int .i64 z, .int .i64 d, v]

set_option maxHeartbeats 2000000 in
theorem isZero_calls (z d : Int) (v : Value) (cs : List Int) (w : World) (hv : Ints w v cs) (hl : cs.length ≤ 1000000) :
    Calls Tryz.prog 123 #[MV z d v] w fun e w' => e = .returned (.bool (sameM z d cs 0 0 [])) ∧ Below w.heap.size w w' := by
  obtain ⟨ao, cap, rfl⟩ := hv.form
  clear hv
  have hs : sameM z d cs 0 0 [] = ((z == 0) && ((d == 0) && ((cs.length : Int) == 0))) := by
    unfold sameM
    cases cs with
    | nil => rfl
    | cons x r =>
      have e : (((x :: r).length : Int) == 0) = false := by rw [beq_eq_false_iff_ne]; simp; omega
      rw [e]
      simp
  rw [hs]
  clear hs
  cases hz : (z == 0) with
  | false =>
    go_enter Tryz.func123, Tryz.ntmps123
    go_wp2_with fail
    go_ret
    exact ⟨rfl, below_alloc _ _⟩
  | true =>
  cases hd : (d == 0) with
  | false =>
    go_enter Tryz.func123, Tryz.ntmps123
    go_wp2_with fail
    go_ret
    exact ⟨rfl, below_alloc _ _⟩
  | true =>
    cases hc : ((cs.length : Int) == 0) with
    | _ =>
      go_enter Tryz.func123, Tryz.ntmps123
      go_wp2_with fail
      go_ret
      exact ⟨rfl, below_alloc _ _⟩

theorem empty_no {p : List UInt8} (h : p ≠ []) : p.isEmpty = false ∧ (p != []) = true := by
  cases p with
  | nil => exact absurd rfl h
  | cons x r => exact ⟨rfl, rfl⟩

set_option maxHeartbeats 4000000 in
theorem mayBe_calls (p : List UInt8) (g : Bool) (z d : Int) (v : Value) (cs : List Int) (w : World) (hv : Ints w v cs) (hl : cs.length ≤ 1000000) (hp : p.length ≤ 1000000) (hm : Ml w) :
    Calls Tryz.prog 100 #[CV p g z d v] w fun e w' => e = .returned (.bool (mayB (p, g, z, d, cs))) ∧ Below w.heap.size w w' := by
  obtain ⟨ao, cap, rfl⟩ := hv.form
  have hB0 := below_alloc w (.cells #[.string ⟨p.toArray⟩, .bool g, .int .i64 z, .int .i64 d, .slice ao cs.length cap] 161)
  have HB := Lib.hid hB0
  have KP := Lib.hid (is_calls p (by omega) _ (hm.below hB0))
  have HV := Lib.hid (hv.below hB0)
  have HX := Lib.hid (Cx.new w 161 [.string ⟨p.toArray⟩, .bool g, .int .i64 z, .int .i64 d, .slice ao cs.length cap])
  have e : mayB (p, g, z, d, cs) = ((p != []) && (isP p && (metaB z d cs && (!g || sameM z d cs 0 0 [])))) := rfl
  rw [e]
  clear hv hm hB0 e
  by_cases h0 : p = []
  · subst h0
    go_enter Tryz.func100, Tryz.ntmps100
    go_wp2_with fail
    go_ret
    exact ⟨rfl, HB.out⟩
  obtain ⟨he, hne⟩ := empty_no h0
  rw [hne, Bool.true_and]
  clear h0
  generalize isP p = b at KP ⊢
  cases b with
  | false =>
    go_enter Tryz.func100, Tryz.ntmps100
    go_wp2_with fail
    refine KP.out.mono ?_
    rintro e w1 ⟨rfl, hB1⟩
    go_wp2_with fail
    go_ret
    exact ⟨rfl, below2 HB.out hB1⟩
  | true =>
  rw [Bool.true_and]
  have KM := fun W h => mIs_calls z d _ cs W (HV.out.below h) hl
  have KZ := fun W h => isZero_calls z d _ cs W (HV.out.below h) hl
  generalize metaB z d cs = b at KM ⊢
  generalize sameM z d cs 0 0 [] = c at KZ ⊢
  have KM := Lib.hid KM
  have KZ := Lib.hid KZ
  cases b with
  | false =>
    go_enter Tryz.func100, Tryz.ntmps100
    go_wp2_with fail
    refine KP.out.mono ?_
    rintro e w1 ⟨rfl, hB1⟩
    obtain ⟨c0, c1, c2, c3, c4⟩ := (HX.out.below hB1).five
    go_wp2_with fail
    refine (KM.out _ hB1).mono ?_
    rintro e w2 ⟨rfl, hB2⟩
    go_wp2_with fail
    go_ret
    exact ⟨rfl, below3 HB.out hB1 hB2⟩
  | true =>
  rw [Bool.true_and]
  cases g with
  | false =>
    go_enter Tryz.func100, Tryz.ntmps100
    go_wp2_with fail
    refine KP.out.mono ?_
    rintro e w1 ⟨rfl, hB1⟩
    obtain ⟨c0, c1, c2, c3, c4⟩ := (HX.out.below hB1).five
    go_wp2_with fail
    refine (KM.out _ hB1).mono ?_
    rintro e w2 ⟨rfl, hB2⟩
    have d1 := look_below hB2 c1
    go_wp2_with fail
    go_ret
    exact ⟨rfl, below3 HB.out hB1 hB2⟩
  | true =>
    go_enter Tryz.func100, Tryz.ntmps100
    go_wp2_with fail
    refine KP.out.mono ?_
    rintro e w1 ⟨rfl, hB1⟩
    obtain ⟨c0, c1, c2, c3, c4⟩ := (HX.out.below hB1).five
    go_wp2_with fail
    refine (KM.out _ hB1).mono ?_
    rintro e w2 ⟨rfl, hB2⟩
    have hB12 := below2 hB1 hB2
    obtain ⟨d0, d1, d2, d3, d4⟩ := (HX.out.below hB12).five
    clear c0 c1 c2 c3 c4
    go_wp2_with fail
    refine (KZ.out _ hB12).mono ?_
    rintro e w3 ⟨rfl, hB3⟩
    go_wp2_with fail
    go_ret
    exact ⟨by simp, below2 (below2 HB.out hB12) hB3⟩

end Go.Proofs.YtaaabmnaindgaaaGreatDoor

/-
  batch: byPath.
-/
namespace Go.Proofs.YtaaabmnaindgaaaGreatDoor
set_option maxRecDepth 100000
open Go.RowKit Go.Sort

/-- A slice's three parts; a change with its Chunks' slice. -/
abbrev Sl := Option Addr × Nat × Nat
abbrev Cs := Cg × Sl
def sval (s : Sl) : Value := .slice s.1 s.2.1 s.2.2
def toCv (x : Cs) : Cv := (x.1, sval x.2)
def encCs (x : Cs) : List Value := ccell (toCv x)
/-- A change as a value, whole. -/
def CsV (x : Cs) : Value := .agg (encCs x).toArray
set_option maxHeartbeats 1000000 in
theorem baPath_calls (x y : Cs) (w : World) :
    Calls Tryz.prog 101 #[CsV x, CsV y] w fun e w' => e = .returned (.int .i64 (Lib.compareBytes x.1.1 y.1.1)) ∧ ∃ q os', w' = grow (w.drewN q) os' := by
  obtain ⟨⟨p, g, z, d, cs⟩, s1, s2, s3⟩ := x
  obtain ⟨⟨p', g', z', d', cs'⟩, t1, t2, t3⟩ := y
  show Calls Tryz.prog 101 #[CV p g z d (.slice s1 s2 s3), CV p' g' z' d' (.slice t1 t2 t3)] w _
  go_enter Tryz.func101, Tryz.ntmps101
  go_wp2_with (go_at_call 124; refine (Tryz.strings_Compare _ _ _).mono ?_; rintro e w1 ⟨rfl, rfl⟩)
  go_ret
  exact ⟨rfl, 0, _, by rw [alloc_eq_grow, alloc_eq_grow, grow_grow]; rfl⟩
theorem grow_below (w : World) (q : Nat) (os : Array Obj) : Below w.heap.size w (grow (w.drewN q) os) :=
  ⟨rfl, rfl, rfl, by simp [grow], fun k hk => by
    show (w.heap ++ os)[k]? = _
    rw [Array.getElem?_append_left hk]⟩
theorem byPath_below (x y : Cs) (w : World) :
    Calls Tryz.prog 101 #[CsV x, CsV y] w fun e w' => e = .returned (.int .i64 (Lib.compareBytes x.1.1 y.1.1)) ∧ Below w.heap.size w w' :=
  (baPath_calls x y w).mono fun _ _ ⟨he, q, os, hw⟩ => ⟨he, hw ▸ grow_below w q os⟩

end Go.Proofs.YtaaabmnaindgaaaGreatDoor

/-
  batch: Is.
-/
namespace Go.Proofs.YtaaabmnaindgaaaGreatDoor
set_option maxRecDepth 100000
open Go.RowKit

/-- The first k changes may be, and rise. -/
def okTo (l : List Cg) (k : Nat) : Prop := (∀ (i : Nat) (hi : i < l.length), i < k → mayB l[i] = true) ∧ ∀ (i : Nat) (hi : i + 1 < l.length), i + 1 < k → Op.bytesLess l[i].1 l[i + 1].1 = true
theorem okTo_zero (l : List Cg) : okTo l 0 := ⟨fun _ _ h => absurd h (Nat.not_lt_zero _), fun _ _ h => absurd h (Nat.not_lt_zero _)⟩
theorem okTo_one {l : List Cg} (hk : 0 < l.length) (h1 : mayB l[0] = true) : okTo l 1 :=
  ⟨fun i _ hik => by
    obtain rfl : i = 0 := by omega
    exact h1, fun i _ hik => by omega⟩
theorem okTo_succ {l : List Cg} {k : Nat} (h : okTo l (k + 1)) (hk : k + 1 < l.length) (h1 : mayB l[k + 1] = true) (h2 : Op.bytesLess l[k].1 l[k + 1].1 = true) : okTo l (k + 1 + 1) := by
  refine ⟨fun i hi hik => ?_, fun i hi hik => ?_⟩
  · by_cases he : i = k + 1
    · subst he; exact h1
    · exact h.1 i hi (by omega)
  · by_cases he : i = k
    · subst he; exact h2
    · exact h.2 i hi (by omega)
theorem okTo_all {l : List Cg} (h : okTo l l.length) (h1 : 1 ≤ l.length) (h2 : l.length ≤ 20) : isB l = true := by
  rw [isB_iff]
  refine ⟨h1, h2, fun c hc => ?_, (rise_sort l).1 (rise_all fun k hk => h.2 k hk hk)⟩
  obtain ⟨i, hi, rfl⟩ := List.getElem_of_mem hc
  exact h.1 i hi hi
theorem isB_may_not {l : List Cg} {k : Nat} (hk : k < l.length) (h : mayB l[k] = false) : isB l = false := by
  cases hb : isB l with
  | false => rfl
  | true =>
    have := (isB_iff.1 hb).2.2.1 _ (List.getElem_mem hk)
    rw [h] at this
    cases this
theorem isB_rise_not {l : List Cg} {k : Nat} (hk : k + 1 < l.length) (h : Op.bytesLess l[k].1 l[k + 1].1 = false) : isB l = false := by
  cases hb : isB l with
  | false => rfl
  | true =>
    have := (rise_sort l).2 (isB_iff.1 hb).2.2.2
    rw [baRise_not hk h] at this
    cases this
theorem isB_few {l : List Cg} (h : l.length < 1 ∨ 20 < l.length) : isB l = false := by
  cases hb : isB l with
  | false => rfl
  | true =>
    obtain ⟨h1, h2, _⟩ := isB_iff.1 hb
    omega

/-- Changes that are not too great to be looked at. -/
def SmallC (l : List Cg) : Prop := ∀ c ∈ l, c.1.length ≤ 1000000 ∧ c.2.2.2.2.length ≤ 1000000

theorem cmp_val {p q : List UInt8} : (Op.bytesLess p q = true → Lib.compareBytes p q = -1) ∧ (Op.bytesLess p q = false → ∃ c : Int, Lib.compareBytes p q = c ∧ 0 ≤ c ∧ c ≤ 1) := by
  rw [cmp_less]
  constructor
  · intro h
    rw [if_pos h]
  · intro h
    rw [if_neg (by simp [h])]
    split
    · exact ⟨0, rfl, by omega, by omega⟩
    · exact ⟨1, rfl, by omega, by omega⟩

set_option maxHeartbeats 8000000 in
theorem baIs_calls (v : Value) (S : List Cv) (w : World) (h : Cgs w v S) (hn : S.length ≤ 1000000) (hs : SmallC (chs S)) (hm : Ml w) :
    Calls Tryz.prog 68 #[v] w fun e w' => e = .returned (.bool (isB (chs S))) ∧ Below w.heap.size w w' := by
  obtain ⟨ao, cap, rfl⟩ := h.form
  by_cases hf : S.length < 1
  · have HF := Lib.hid (show isB (chs S) = false from isB_few (by rw [List.length_map]; omega))
    rw [HF.out]
    obtain rfl : S = [] := List.eq_nil_of_length_eq_zero (by omega)
    clear h hf hn hs
    go_enter Tryz.func68, Tryz.ntmps68
    go_wp2_with fail
    go_ret
    exact ⟨rfl, Below.refl _ _⟩
  have h1 : decide ((S.length : Int) < 1) = false := by rw [decide_eq_false_iff_not]; omega
  by_cases hg : 20 < S.length
  · have HF := Lib.hid (show isB (chs S) = false from isB_few (by rw [List.length_map]; omega))
    rw [HF.out]
    have h2 : decide ((20 : Int) < (S.length : Int)) = true := by rw [decide_eq_true_eq]; omega
    clear h hf hs hg
    go_enter Tryz.func68, Tryz.ntmps68
    go_wp2_with fail
    go_ret
    exact ⟨rfl, Below.refl _ _⟩
  have h2 : decide ((20 : Int) < (S.length : Int)) = false := by rw [decide_eq_false_iff_not]; omega
  have HL := Lib.hid (show 1 ≤ (chs S).length ∧ (chs S).length ≤ 20 by simp; omega)
  have hn20 : S.length ≤ 20 := by omega
  have HH := Lib.hid h
  have HS0 := Lib.hid hs
  have HM := Lib.hid hm
  clear h hf hg hs hm
  go_enter Tryz.func68, Tryz.ntmps68
  go_wp2_with fail
  go_loopw [15] (fun i wr => ∃ k : Nat, i = .int .i64 k ∧ k ≤ S.length ∧ Hid (okTo (chs S) k) ∧ Hid (Below w.heap.size w wr)) (fun i _ => S.length - (intOf i).toNat)
  case atStart => exact ⟨0, rfl, Nat.zero_le _, Lib.hid (okTo_zero _), Lib.hid (Below.refl _ _)⟩
  case round =>
    obtain ⟨k, rfl, hk, hf, hB⟩ := hrel
    by_cases hlt : k < S.length
    · obtain ⟨b, off, rfl, ⟨c0, c1, c2, c3, c4⟩, hI⟩ := (HH.out.below hB.out).at hlt
      have hltc : k < (chs S).length := by simpa using hlt
      have hsm := HS0.out _ (List.getElem_mem hltc)
      have hgo1 := fun (h1 : 0 < S.length) h => okTo_one (l := chs S) (by simpa using h1) h
      have hgo := fun (j : Nat) (h1 : j + 1 < S.length) hf h h2 => okTo_succ (l := chs S) (k := j) hf (by simpa using h1) h h2
      have hno := fun h => isB_may_not (l := chs S) hltc h
      have hno2 := fun (j : Nat) (h1 : j + 1 < S.length) h => isB_rise_not (l := chs S) (k := j) (by simpa using h1) h
      have hat := fun (j : Nat) (hj : j < S.length) => (HH.out.below hB.out).at (k := j) hj
      have hsz := hB.out.size
      simp only [List.getElem_map] at hsm hgo1 hgo hno hno2
      obtain ⟨⟨⟨q, g, z, d, cs⟩, vv⟩, hx⟩ : ∃ x, S[k] = x := ⟨_, rfl⟩
      rw [hx] at c0 c1 c2 c3 c4 hI hsm hno
      dsimp only at c0 c1 c2 c3 c4 hI hsm hno
      obtain ⟨s1, s3, rfl⟩ := hI.form
      obtain ⟨s2, hs2⟩ : ∃ n, cs.length = n := ⟨_, rfl⟩
      have hMl := HM.out.below hB.out
      obtain ⟨W0, hW0⟩ : ∃ W0, W0 = wr.alloc (.cells #[.string ⟨q.toArray⟩, .bool g, .int .i64 z, .int .i64 d, .slice s1 s2 s3] 128) := ⟨_, rfl⟩
      obtain ⟨B, hBe⟩ : ∃ B, B = wr.heap.size := ⟨_, rfl⟩
      have hC : ∀ W, Below W0.heap.size W0 W → Below wr.heap.size wr W ∧ (W.cell? ⟨B, 0, none⟩ = some (.string ⟨q.toArray⟩) ∧ W.cell? ⟨B, 1, none⟩ = some (.bool g) ∧ W.cell? ⟨B, 2, none⟩ = some (.int .i64 z) ∧ W.cell? ⟨B, 3, none⟩ = some (.int .i64 d) ∧ W.cell? ⟨B, 4, none⟩ = some (.slice s1 s2 s3)) := by
        intro W hW
        subst hW0 hBe
        exact ⟨below2 (below_alloc _ _) hW, ((Cx.new wr 128 [.string ⟨q.toArray⟩, .bool g, .int .i64 z, .int .i64 d, .slice s1 s2 s3]).below hW).five⟩
      have hK : ∀ W, Below W0.heap.size W0 W → Calls Tryz.prog 100 #[CV q g z d (.slice s1 s2 s3)] W fun e w' => e = .returned (.bool (mayB (q, g, z, d, cs))) ∧ Below W.heap.size W w' :=
        fun W hW => hs2 ▸ mayBe_calls q g z d _ cs W (hI.below (hC W hW).1) hsm.2 hsm.1 (hMl.below (hC W hW).1)
      have hbr : Below W0.heap.size W0 (wr.alloc (.cells #[.string ⟨q.toArray⟩, .bool g, .int .i64 z, .int .i64 d, .slice s1 s2 s3] 128)).drew := hW0 ▸ drew_below _
      rw [hs2] at c4
      have HC := Lib.hid hC
      have HBE := Lib.hid hBe
      clear hW0 hs2 hMl hI hsm hC
      have HKM := Lib.hid hK
      have HR := Lib.hid (And.intro hno (And.intro hno2 (And.intro hgo (And.intro hgo1 hat))))
      clear hK hno hno2 hgo hgo1 hat hBe
      go_wp2_with fail
      rw [← HBE.out]
      cases hma : mayB (q, g, z, d, cs) with
      | false =>
        have KM := Lib.hid (hma ▸ HKM.out)
        have HN := Lib.hid (HR.out.1 hma)
        clear hma HKM HR
        refine held0 (S := (fun w' => w'.cell? ⟨B, 0, none⟩ = some (.string ⟨q.toArray⟩) ∧ w'.cell? ⟨B, 1, none⟩ = some (.bool g) ∧ w'.cell? ⟨B, 2, none⟩ = some (.int .i64 z) ∧ w'.cell? ⟨B, 3, none⟩ = some (.int .i64 d) ∧ w'.cell? ⟨B, 4, none⟩ = some (.slice s1 s2 s3))) (by kernel_rfl) ((HC.out _ hbr).2) (fun hHeld => ?_)
        iterate 1 (refine heldT (oi := ⟨_, _, _, _, _, _⟩) (v := ?_) hHeld rfl rfl (by kernel_rfl) (by kernel_rfl) (by kernel_rfl) (fun _ _ _ h => h) ?_ ?_; rotate_left; (intro w hSw; (try dsimp only at hSw); go_simp; try with_reducible rfl); try simp only [Act.put, List.setIfInBounds_toArray, List.set_cons_zero, List.set_cons_succ])
        refine wpAnyH_ready (rs := [1]) (by kernel_rfl) (by simp) ?_
        refine AllReadyH.cons (o := ⟨_, _, _, _, _, _⟩) rfl (fun K hK => ?_) AllReadyH.nil
        go_simp
        (refine (KM.out _ hbr).mono ?_; rintro e w1 ⟨rfl, hB1⟩; replace hbr := below2 hbr hB1)
        refine hK.out _ _ ((HC.out _ hbr).2) (fun hHeld => ?_)
        clear hK K
        try simp only [Act.put, List.setIfInBounds_toArray, List.set_cons_zero, List.set_cons_succ]
        refine wpAnyH_take (i := 2) (oi := ⟨_, _, _, _, _, _⟩) (v := ?_) rfl (by kernel_rfl) (by kernel_rfl) (by kernel_rfl) (fun _ _ _ h => h) (Or.inl ⟨by rfl, ?_⟩) hHeld ?_
        rotate_left
        · (intro w hSw; (try dsimp only at hSw); go_simp; try with_reducible rfl)
        try simp only [Act.put, List.setIfInBounds_toArray, List.set_cons_zero, List.set_cons_succ]
        refine wpAnyH_take (i := 3) (oi := ⟨_, _, _, _, _, _⟩) (v := ?_) rfl (by kernel_rfl) (by kernel_rfl) (by kernel_rfl) (fun _ _ _ h => h) (Or.inl ⟨by rfl, ?_⟩) hHeld ?_
        rotate_left
        · (intro w hSw; (try dsimp only at hSw); go_simp; try with_reducible rfl)
        try simp only [Act.put, List.setIfInBounds_toArray, List.set_cons_zero, List.set_cons_succ]
        refine wpAnyH_take (i := 4) (oi := ⟨_, _, _, _, _, _⟩) (v := undef) rfl (by kernel_rfl) (by kernel_rfl) (by kernel_rfl) (fun _ _ _ h => h) (Or.inr ⟨by rfl, rfl⟩) hHeld ?_
        try simp only [Act.put, List.setIfInBounds_toArray, List.set_cons_zero, List.set_cons_succ]
        refine wpAnyH_take (i := 5) (oi := ⟨_, _, _, _, _, _⟩) (v := undef) rfl (by kernel_rfl) (by kernel_rfl) (by kernel_rfl) (fun _ _ _ h => h) (Or.inr ⟨by rfl, rfl⟩) hHeld ?_
        try simp only [Act.put, List.setIfInBounds_toArray, List.set_cons_zero, List.set_cons_succ]
        refine wpAnyH_take (i := 6) (oi := ⟨_, _, _, _, _, _⟩) (v := undef) rfl (by kernel_rfl) (by kernel_rfl) (by kernel_rfl) (fun _ _ _ h => h) (Or.inr ⟨by rfl, rfl⟩) hHeld ?_
        try simp only [Act.put, List.setIfInBounds_toArray, List.set_cons_zero, List.set_cons_succ]
        refine wpAnyH_take (i := 7) (oi := ⟨_, _, _, _, _, _⟩) (v := undef) rfl (by kernel_rfl) (by kernel_rfl) (by kernel_rfl) (fun _ _ _ h => h) (Or.inr ⟨by rfl, rfl⟩) hHeld ?_
        try simp only [Act.put, List.setIfInBounds_toArray, List.set_cons_zero, List.set_cons_succ]
        refine wpAnyH_take (i := 8) (oi := ⟨_, _, _, _, _, _⟩) (v := undef) rfl (by kernel_rfl) (by kernel_rfl) (by kernel_rfl) (fun _ _ _ h => h) (Or.inr ⟨by rfl, rfl⟩) hHeld ?_
        try simp only [Act.put, List.setIfInBounds_toArray, List.set_cons_zero, List.set_cons_succ]
        refine wpAnyH_take (i := 9) (oi := ⟨_, _, _, _, _, _⟩) (v := undef) rfl (by kernel_rfl) (by kernel_rfl) (by kernel_rfl) (fun _ _ _ h => h) (Or.inr ⟨by rfl, rfl⟩) hHeld ?_
        try simp only [Act.put, List.setIfInBounds_toArray, List.set_cons_zero, List.set_cons_succ]
        refine wpAnyH_take (i := 10) (oi := ⟨_, _, _, _, _, _⟩) (v := undef) rfl (by kernel_rfl) (by kernel_rfl) (by kernel_rfl) (fun _ _ _ h => h) (Or.inr ⟨by rfl, rfl⟩) hHeld ?_
        try simp only [Act.put, List.setIfInBounds_toArray, List.set_cons_zero, List.set_cons_succ]
        refine wpAnyH_take (i := 11) (oi := ⟨_, _, _, _, _, _⟩) (v := undef) rfl (by kernel_rfl) (by kernel_rfl) (by kernel_rfl) (fun _ _ _ h => h) (Or.inr ⟨by rfl, rfl⟩) hHeld ?_
        try simp only [Act.put, List.setIfInBounds_toArray, List.set_cons_zero, List.set_cons_succ]
        refine wpAnyH_take (i := 12) (oi := ⟨_, _, _, _, _, _⟩) (v := undef) rfl (by kernel_rfl) (by kernel_rfl) (by kernel_rfl) (fun _ _ _ h => h) (Or.inr ⟨by rfl, rfl⟩) hHeld ?_
        try simp only [Act.put, List.setIfInBounds_toArray, List.set_cons_zero, List.set_cons_succ]
        refine wpAnyH_take (i := 13) (oi := ⟨_, _, _, _, _, _⟩) (v := undef) rfl (by kernel_rfl) (by kernel_rfl) (by kernel_rfl) (fun _ _ _ h => h) (Or.inr ⟨by rfl, rfl⟩) hHeld ?_
        try simp only [Act.put, List.setIfInBounds_toArray, List.set_cons_zero, List.set_cons_succ]
        refine wpAnyH_take (i := 14) (oi := ⟨_, _, _, _, _, _⟩) (v := undef) rfl (by kernel_rfl) (by kernel_rfl) (by kernel_rfl) (fun _ _ _ h => h) (Or.inr ⟨by rfl, rfl⟩) hHeld ?_
        try simp only [Act.put, List.setIfInBounds_toArray, List.set_cons_zero, List.set_cons_succ]
        refine wpAnyH_take (i := 15) (oi := ⟨_, _, _, _, _, _⟩) (v := undef) rfl (by kernel_rfl) (by kernel_rfl) (by kernel_rfl) (fun _ _ _ h => h) (Or.inr ⟨by rfl, rfl⟩) hHeld ?_
        try simp only [Act.put, List.setIfInBounds_toArray, List.set_cons_zero, List.set_cons_succ]
        refine wpAnyH_take (i := 16) (oi := ⟨_, _, _, _, _, _⟩) (v := ?_) rfl (by kernel_rfl) (by kernel_rfl) (by kernel_rfl) (fun _ _ _ h => h) (Or.inl ⟨by rfl, ?_⟩) hHeld ?_
        rotate_left
        · (intro w hSw; (try dsimp only at hSw); go_simp; try with_reducible rfl)
        try simp only [Act.put, List.setIfInBounds_toArray, List.set_cons_zero, List.set_cons_succ]
        refine wpAnyH_done (by kernel_rfl) ?_ _

        go_wp2_with fail
        go_ret
        exact ⟨by rw [HN.out]; rfl, below2 hB.out (HC.out _ hbr).1⟩
      | true =>
        have KM := Lib.hid (hma ▸ HKM.out)
        by_cases hk0 : k = 0
        · have hd0 : decide (0 < k) = false := by rw [decide_eq_false_iff_not]; omega
          have HG : Hid (okTo (chs S) (k + 1)) := Lib.hid (by subst hk0; exact HR.out.2.2.2.1 hlt (by rw [hx]; exact hma))
          clear hma HKM HR hk0
          refine held0 (S := (fun w' => w'.cell? ⟨B, 0, none⟩ = some (.string ⟨q.toArray⟩) ∧ w'.cell? ⟨B, 1, none⟩ = some (.bool g) ∧ w'.cell? ⟨B, 2, none⟩ = some (.int .i64 z) ∧ w'.cell? ⟨B, 3, none⟩ = some (.int .i64 d) ∧ w'.cell? ⟨B, 4, none⟩ = some (.slice s1 s2 s3))) (by kernel_rfl) ((HC.out _ hbr).2) (fun hHeld => ?_)
          iterate 1 (refine heldT (oi := ⟨_, _, _, _, _, _⟩) (v := ?_) hHeld rfl rfl (by kernel_rfl) (by kernel_rfl) (by kernel_rfl) (fun _ _ _ h => h) ?_ ?_; rotate_left; (intro w hSw; (try dsimp only at hSw); go_simp; try with_reducible rfl); try simp only [Act.put, List.setIfInBounds_toArray, List.set_cons_zero, List.set_cons_succ])
          refine wpAnyH_ready (rs := [1]) (by kernel_rfl) (by simp) ?_
          refine AllReadyH.cons (o := ⟨_, _, _, _, _, _⟩) rfl (fun K hK => ?_) AllReadyH.nil
          go_simp
          (refine (KM.out _ hbr).mono ?_; rintro e w1 ⟨rfl, hB1⟩; replace hbr := below2 hbr hB1)
          refine hK.out _ _ ((HC.out _ hbr).2) (fun hHeld => ?_)
          clear hK K
          try simp only [Act.put, List.setIfInBounds_toArray, List.set_cons_zero, List.set_cons_succ]
          refine wpAnyH_take (i := 2) (oi := ⟨_, _, _, _, _, _⟩) (v := ?_) rfl (by kernel_rfl) (by kernel_rfl) (by kernel_rfl) (fun _ _ _ h => h) (Or.inl ⟨by rfl, ?_⟩) hHeld ?_
          rotate_left
          · (intro w hSw; (try dsimp only at hSw); go_simp; try with_reducible rfl)
          try simp only [Act.put, List.setIfInBounds_toArray, List.set_cons_zero, List.set_cons_succ]
          refine wpAnyH_take (i := 3) (oi := ⟨_, _, _, _, _, _⟩) (v := ?_) rfl (by kernel_rfl) (by kernel_rfl) (by kernel_rfl) (fun _ _ _ h => h) (Or.inl ⟨by rfl, ?_⟩) hHeld ?_
          rotate_left
          · (intro w hSw; (try dsimp only at hSw); go_simp; try with_reducible rfl)
          try simp only [Act.put, List.setIfInBounds_toArray, List.set_cons_zero, List.set_cons_succ]
          refine wpAnyH_take (i := 4) (oi := ⟨_, _, _, _, _, _⟩) (v := ?_) rfl (by kernel_rfl) (by kernel_rfl) (by kernel_rfl) (fun _ _ _ h => h) (Or.inl ⟨by rfl, ?_⟩) hHeld ?_
          rotate_left
          · (intro w hSw; (try dsimp only at hSw); go_simp; try with_reducible rfl)
          try simp only [Act.put, List.setIfInBounds_toArray, List.set_cons_zero, List.set_cons_succ]
          refine wpAnyH_take (i := 5) (oi := ⟨_, _, _, _, _, _⟩) (v := ?_) rfl (by kernel_rfl) (by kernel_rfl) (by kernel_rfl) (fun _ _ _ h => h) (Or.inl ⟨by rfl, ?_⟩) hHeld ?_
          rotate_left
          · (intro w hSw; (try dsimp only at hSw); go_simp; try with_reducible rfl)
          try simp only [Act.put, List.setIfInBounds_toArray, List.set_cons_zero, List.set_cons_succ]
          refine wpAnyH_take (i := 6) (oi := ⟨_, _, _, _, _, _⟩) (v := ?_) rfl (by kernel_rfl) (by kernel_rfl) (by kernel_rfl) (fun _ _ _ h => h) (Or.inl ⟨by rfl, ?_⟩) hHeld ?_
          rotate_left
          · (intro w hSw; (try dsimp only at hSw); go_simp; try with_reducible rfl)
          try simp only [Act.put, List.setIfInBounds_toArray, List.set_cons_zero, List.set_cons_succ]
          refine wpAnyH_take (i := 7) (oi := ⟨_, _, _, _, _, _⟩) (v := undef) rfl (by kernel_rfl) (by kernel_rfl) (by kernel_rfl) (fun _ _ _ h => h) (Or.inr ⟨by rfl, rfl⟩) hHeld ?_
          try simp only [Act.put, List.setIfInBounds_toArray, List.set_cons_zero, List.set_cons_succ]
          refine wpAnyH_take (i := 8) (oi := ⟨_, _, _, _, _, _⟩) (v := undef) rfl (by kernel_rfl) (by kernel_rfl) (by kernel_rfl) (fun _ _ _ h => h) (Or.inr ⟨by rfl, rfl⟩) hHeld ?_
          try simp only [Act.put, List.setIfInBounds_toArray, List.set_cons_zero, List.set_cons_succ]
          refine wpAnyH_take (i := 9) (oi := ⟨_, _, _, _, _, _⟩) (v := undef) rfl (by kernel_rfl) (by kernel_rfl) (by kernel_rfl) (fun _ _ _ h => h) (Or.inr ⟨by rfl, rfl⟩) hHeld ?_
          try simp only [Act.put, List.setIfInBounds_toArray, List.set_cons_zero, List.set_cons_succ]
          refine wpAnyH_take (i := 10) (oi := ⟨_, _, _, _, _, _⟩) (v := undef) rfl (by kernel_rfl) (by kernel_rfl) (by kernel_rfl) (fun _ _ _ h => h) (Or.inr ⟨by rfl, rfl⟩) hHeld ?_
          try simp only [Act.put, List.setIfInBounds_toArray, List.set_cons_zero, List.set_cons_succ]
          refine wpAnyH_take (i := 11) (oi := ⟨_, _, _, _, _, _⟩) (v := undef) rfl (by kernel_rfl) (by kernel_rfl) (by kernel_rfl) (fun _ _ _ h => h) (Or.inr ⟨by rfl, rfl⟩) hHeld ?_
          try simp only [Act.put, List.setIfInBounds_toArray, List.set_cons_zero, List.set_cons_succ]
          refine wpAnyH_take (i := 12) (oi := ⟨_, _, _, _, _, _⟩) (v := undef) rfl (by kernel_rfl) (by kernel_rfl) (by kernel_rfl) (fun _ _ _ h => h) (Or.inr ⟨by rfl, rfl⟩) hHeld ?_
          try simp only [Act.put, List.setIfInBounds_toArray, List.set_cons_zero, List.set_cons_succ]
          refine wpAnyH_take (i := 13) (oi := ⟨_, _, _, _, _, _⟩) (v := undef) rfl (by kernel_rfl) (by kernel_rfl) (by kernel_rfl) (fun _ _ _ h => h) (Or.inr ⟨by rfl, rfl⟩) hHeld ?_
          try simp only [Act.put, List.setIfInBounds_toArray, List.set_cons_zero, List.set_cons_succ]
          refine wpAnyH_take (i := 14) (oi := ⟨_, _, _, _, _, _⟩) (v := undef) rfl (by kernel_rfl) (by kernel_rfl) (by kernel_rfl) (fun _ _ _ h => h) (Or.inr ⟨by rfl, rfl⟩) hHeld ?_
          try simp only [Act.put, List.setIfInBounds_toArray, List.set_cons_zero, List.set_cons_succ]
          refine wpAnyH_take (i := 15) (oi := ⟨_, _, _, _, _, _⟩) (v := ?_) rfl (by kernel_rfl) (by kernel_rfl) (by kernel_rfl) (fun _ _ _ h => h) (Or.inl ⟨by rfl, ?_⟩) hHeld ?_
          rotate_left
          · (intro w hSw; (try dsimp only at hSw); go_simp; try with_reducible rfl)
          try simp only [Act.put, List.setIfInBounds_toArray, List.set_cons_zero, List.set_cons_succ]
          refine wpAnyH_take (i := 16) (oi := ⟨_, _, _, _, _, _⟩) (v := ?_) rfl (by kernel_rfl) (by kernel_rfl) (by kernel_rfl) (fun _ _ _ h => h) (Or.inl ⟨by rfl, ?_⟩) hHeld ?_
          rotate_left
          · (intro w hSw; (try dsimp only at hSw); go_simp; try with_reducible rfl)
          try simp only [Act.put, List.setIfInBounds_toArray, List.set_cons_zero, List.set_cons_succ]
          refine wpAnyH_done (by kernel_rfl) ?_ _

          go_wp2_with fail
          go_roundw
          case rel => exact ⟨k + 1, by go_num, by omega, HG, Lib.hid (below2 hB.out (HC.out _ hbr).1)⟩
          case measure => simp [intOf]; omega
        · obtain ⟨j, hj⟩ : ∃ j, k = j + 1 := ⟨k - 1, by omega⟩
          have hd0 : decide (0 < k) = true := by rw [decide_eq_true_eq]; omega
          have hw1 : IntKind.i64.wrap ((k : Int) - 1) = (j : Int) := by rw [IntWalk.i64_in _ (by omega)]; omega
          have hjl : j < S.length := by omega
          have hw2 : IntKind.i64.wrap (j : Int) = (j : Int) := IntWalk.i64_in _ (by omega)
          have hj4 : (0 : Int) ≤ (j : Int) := by omega
          have hj5 : (j : Int) < (S.length : Int) := by omega
          obtain ⟨b2, off2, he2, ⟨e0, e1, e2, e3, e4⟩, hJ⟩ := HR.out.2.2.2.2 j hjl
          cases he2
          obtain ⟨⟨⟨p, g', z', d', cs'⟩, vv'⟩, hy⟩ : ∃ x, S[j] = x := ⟨_, rfl⟩
          rw [hy] at e0 e1 e2 e3 e4 hJ
          dsimp only at e0 e1 e2 e3 e4 hJ
          obtain ⟨u1, u3, rfl⟩ := hJ.form
          obtain ⟨u2, hu2⟩ : ∃ n, cs'.length = n := ⟨_, rfl⟩
          rw [hu2] at e4
          have hE : ∀ W, Below W0.heap.size W0 W → W.cell? ⟨b, off + j * 5, none⟩ = some (.string ⟨p.toArray⟩) ∧ W.cell? ⟨b, off + j * 5 + 1, none⟩ = some (.bool g') ∧ W.cell? ⟨b, off + j * 5 + 2, none⟩ = some (.int .i64 z') ∧ W.cell? ⟨b, off + j * 5 + 3, none⟩ = some (.int .i64 d') ∧ W.cell? ⟨b, off + j * 5 + 4, none⟩ = some (.slice u1 u2 u3) :=
            fun W hW => ⟨look_below (HC.out W hW).1 e0, look_below (HC.out W hW).1 e1, look_below (HC.out W hW).1 e2, look_below (HC.out W hW).1 e3, look_below (HC.out W hW).1 e4⟩
          have HE := Lib.hid hE
          have HS2 := Lib.hid (fun W hW => And.intro (HC.out W hW).2 (HE.out W hW))
          have hKB : ∀ W, Calls Tryz.prog 101 #[CV p g' z' d' (.slice u1 u2 u3), CV q g z d (.slice s1 s2 s3)] W fun e w' => e = .returned (.int .i64 (Lib.compareBytes p q)) ∧ Below W.heap.size W w' :=
            fun W => byPath_below ((p, g', z', d', cs'), (u1, u2, u3)) ((q, g, z, d, cs), (s1, s2, s3)) W
          clear hE hu2 hJ e0 e1 e2 e3 e4 HKM
          cases hl : Op.bytesLess p q with
          | false =>
            obtain ⟨c, hc, hc1, hc2⟩ := cmp_val.2 hl
            rw [hc] at hKB
            have KB := Lib.hid hKB
            have hdc : decide ((0 : Int) ≤ c) = true := by rw [decide_eq_true_eq]; exact hc1
            have HN : Hid (isB (chs S) = false) := Lib.hid (by
              have h2 := HR.out.2.1 j (by omega)
              subst hj
              rw [hx, hy] at h2
              exact h2 hl)
            clear hma HR hk0 hl hc hKB hx hy
            refine held0 (S := (fun w' => (w'.cell? ⟨B, 0, none⟩ = some (.string ⟨q.toArray⟩) ∧ w'.cell? ⟨B, 1, none⟩ = some (.bool g) ∧ w'.cell? ⟨B, 2, none⟩ = some (.int .i64 z) ∧ w'.cell? ⟨B, 3, none⟩ = some (.int .i64 d) ∧ w'.cell? ⟨B, 4, none⟩ = some (.slice s1 s2 s3)) ∧ w'.cell? ⟨b, off + j * 5, none⟩ = some (.string ⟨p.toArray⟩) ∧ w'.cell? ⟨b, off + j * 5 + 1, none⟩ = some (.bool g') ∧ w'.cell? ⟨b, off + j * 5 + 2, none⟩ = some (.int .i64 z') ∧ w'.cell? ⟨b, off + j * 5 + 3, none⟩ = some (.int .i64 d') ∧ w'.cell? ⟨b, off + j * 5 + 4, none⟩ = some (.slice u1 u2 u3))) (by kernel_rfl) (HS2.out _ hbr) (fun hHeld => ?_)
            iterate 1 (refine heldT (oi := ⟨_, _, _, _, _, _⟩) (v := ?_) hHeld rfl rfl (by kernel_rfl) (by kernel_rfl) (by kernel_rfl) (fun _ _ _ h => h) ?_ ?_; rotate_left; (intro w hSw; (try dsimp only at hSw); go_simp; try with_reducible rfl); try simp only [Act.put, List.setIfInBounds_toArray, List.set_cons_zero, List.set_cons_succ])
            refine wpAnyH_ready (rs := [1]) (by kernel_rfl) (by simp) ?_
            refine AllReadyH.cons (o := ⟨_, _, _, _, _, _⟩) rfl (fun K hK => ?_) AllReadyH.nil
            go_simp
            (refine (KM.out _ hbr).mono ?_; rintro e w1 ⟨rfl, hB1⟩; replace hbr := below2 hbr hB1)
            refine hK.out _ _ (HS2.out _ hbr) (fun hHeld => ?_)
            clear hK K
            try simp only [Act.put, List.setIfInBounds_toArray, List.set_cons_zero, List.set_cons_succ]
            refine wpAnyH_take (i := 2) (oi := ⟨_, _, _, _, _, _⟩) (v := ?_) rfl (by kernel_rfl) (by kernel_rfl) (by kernel_rfl) (fun _ _ _ h => h) (Or.inl ⟨by rfl, ?_⟩) hHeld ?_
            rotate_left
            · (intro w hSw; (try dsimp only at hSw); go_simp; try with_reducible rfl)
            try simp only [Act.put, List.setIfInBounds_toArray, List.set_cons_zero, List.set_cons_succ]
            refine wpAnyH_take (i := 3) (oi := ⟨_, _, _, _, _, _⟩) (v := ?_) rfl (by kernel_rfl) (by kernel_rfl) (by kernel_rfl) (fun _ _ _ h => h) (Or.inl ⟨by rfl, ?_⟩) hHeld ?_
            rotate_left
            · (intro w hSw; (try dsimp only at hSw); go_simp; try with_reducible rfl)
            try simp only [Act.put, List.setIfInBounds_toArray, List.set_cons_zero, List.set_cons_succ]
            refine wpAnyH_take (i := 4) (oi := ⟨_, _, _, _, _, _⟩) (v := ?_) rfl (by kernel_rfl) (by kernel_rfl) (by kernel_rfl) (fun _ _ _ h => h) (Or.inl ⟨by rfl, ?_⟩) hHeld ?_
            rotate_left
            · (intro w hSw; (try dsimp only at hSw); go_simp; try with_reducible rfl)
            try simp only [Act.put, List.setIfInBounds_toArray, List.set_cons_zero, List.set_cons_succ]
            refine wpAnyH_take (i := 5) (oi := ⟨_, _, _, _, _, _⟩) (v := ?_) rfl (by kernel_rfl) (by kernel_rfl) (by kernel_rfl) (fun _ _ _ h => h) (Or.inl ⟨by rfl, ?_⟩) hHeld ?_
            rotate_left
            · (intro w hSw; (try dsimp only at hSw); go_simp; try with_reducible rfl)
            try simp only [Act.put, List.setIfInBounds_toArray, List.set_cons_zero, List.set_cons_succ]
            refine wpAnyH_take (i := 6) (oi := ⟨_, _, _, _, _, _⟩) (v := ?_) rfl (by kernel_rfl) (by kernel_rfl) (by kernel_rfl) (fun _ _ _ h => h) (Or.inl ⟨by rfl, ?_⟩) hHeld ?_
            rotate_left
            · (intro w hSw; (try dsimp only at hSw); go_simp; try with_reducible rfl)
            try simp only [Act.put, List.setIfInBounds_toArray, List.set_cons_zero, List.set_cons_succ]
            refine wpAnyH_take (i := 7) (oi := ⟨_, _, _, _, _, _⟩) (v := ?_) rfl (by kernel_rfl) (by kernel_rfl) (by kernel_rfl) (fun _ _ _ h => h) (Or.inl ⟨by rfl, ?_⟩) hHeld ?_
            rotate_left
            · (intro w hSw; (try dsimp only at hSw); go_simp; try with_reducible rfl)
            try simp only [Act.put, List.setIfInBounds_toArray, List.set_cons_zero, List.set_cons_succ]
            refine wpAnyH_take (i := 8) (oi := ⟨_, _, _, _, _, _⟩) (v := ?_) rfl (by kernel_rfl) (by kernel_rfl) (by kernel_rfl) (fun _ _ _ h => h) (Or.inl ⟨by rfl, ?_⟩) hHeld ?_
            rotate_left
            · (intro w hSw; (try dsimp only at hSw); go_simp; try with_reducible rfl)
            try simp only [Act.put, List.setIfInBounds_toArray, List.set_cons_zero, List.set_cons_succ]
            refine wpAnyH_take (i := 9) (oi := ⟨_, _, _, _, _, _⟩) (v := ?_) rfl (by kernel_rfl) (by kernel_rfl) (by kernel_rfl) (fun _ _ _ h => h) (Or.inl ⟨by rfl, ?_⟩) hHeld ?_
            rotate_left
            · (intro w hSw; (try dsimp only at hSw); go_simp; try with_reducible rfl)
            try simp only [Act.put, List.setIfInBounds_toArray, List.set_cons_zero, List.set_cons_succ]
            refine wpAnyH_take (i := 10) (oi := ⟨_, _, _, _, _, _⟩) (v := ?_) rfl (by kernel_rfl) (by kernel_rfl) (by kernel_rfl) (fun _ _ _ h => h) (Or.inl ⟨by rfl, ?_⟩) hHeld ?_
            rotate_left
            · (intro w hSw; (try dsimp only at hSw); go_simp; try with_reducible rfl)
            try simp only [Act.put, List.setIfInBounds_toArray, List.set_cons_zero, List.set_cons_succ]
            refine wpAnyH_take (i := 11) (oi := ⟨_, _, _, _, _, _⟩) (v := ?_) rfl (by kernel_rfl) (by kernel_rfl) (by kernel_rfl) (fun _ _ _ h => h) (Or.inl ⟨by rfl, ?_⟩) hHeld ?_
            rotate_left
            · (intro w hSw; (try dsimp only at hSw); go_simp; try with_reducible rfl)
            try simp only [Act.put, List.setIfInBounds_toArray, List.set_cons_zero, List.set_cons_succ]
            refine wpAnyH_take (i := 12) (oi := ⟨_, _, _, _, _, _⟩) (v := ?_) rfl (by kernel_rfl) (by kernel_rfl) (by kernel_rfl) (fun _ _ _ h => h) (Or.inl ⟨by rfl, ?_⟩) hHeld ?_
            rotate_left
            · (intro w hSw; (try dsimp only at hSw); go_simp; try with_reducible rfl)
            try simp only [Act.put, List.setIfInBounds_toArray, List.set_cons_zero, List.set_cons_succ]
            refine wpAnyH_ready (rs := [13]) (by kernel_rfl) (by simp) ?_
            refine AllReadyH.cons (o := ⟨_, _, _, _, _, _⟩) rfl (fun K hK => ?_) AllReadyH.nil
            go_simp
            (refine (KB.out _).mono ?_; rintro e w1 ⟨rfl, hB1⟩; replace hbr := below2 hbr hB1)
            refine hK.out _ _ (HS2.out _ hbr) (fun hHeld => ?_)
            clear hK K
            try simp only [Act.put, List.setIfInBounds_toArray, List.set_cons_zero, List.set_cons_succ]
            refine wpAnyH_take (i := 14) (oi := ⟨_, _, _, _, _, _⟩) (v := ?_) rfl (by kernel_rfl) (by kernel_rfl) (by kernel_rfl) (fun _ _ _ h => h) (Or.inl ⟨by rfl, ?_⟩) hHeld ?_
            rotate_left
            · (intro w hSw; (try dsimp only at hSw); go_simp; try with_reducible rfl)
            try simp only [Act.put, List.setIfInBounds_toArray, List.set_cons_zero, List.set_cons_succ]
            refine wpAnyH_take (i := 15) (oi := ⟨_, _, _, _, _, _⟩) (v := ?_) rfl (by kernel_rfl) (by kernel_rfl) (by kernel_rfl) (fun _ _ _ h => h) (Or.inl ⟨by rfl, ?_⟩) hHeld ?_
            rotate_left
            · (intro w hSw; (try dsimp only at hSw); go_simp; try with_reducible rfl)
            try simp only [Act.put, List.setIfInBounds_toArray, List.set_cons_zero, List.set_cons_succ]
            refine wpAnyH_take (i := 16) (oi := ⟨_, _, _, _, _, _⟩) (v := ?_) rfl (by kernel_rfl) (by kernel_rfl) (by kernel_rfl) (fun _ _ _ h => h) (Or.inl ⟨by rfl, ?_⟩) hHeld ?_
            rotate_left
            · (intro w hSw; (try dsimp only at hSw); go_simp; try with_reducible rfl)
            try simp only [Act.put, List.setIfInBounds_toArray, List.set_cons_zero, List.set_cons_succ]
            refine wpAnyH_done (by kernel_rfl) ?_ _

            go_wp2_with fail
            go_ret
            exact ⟨by rw [HN.out]; rfl, below2 hB.out (HC.out _ hbr).1⟩
          | true =>
            rw [cmp_val.1 hl] at hKB
            have KB := Lib.hid hKB
            have HG : Hid (okTo (chs S) (k + 1)) := Lib.hid (by
              have h2 := HR.out.2.2.1 j (by omega)
              subst hj
              rw [hx, hy] at h2
              exact h2 hf.out hma hl)
            clear hma HR hk0 hl hKB hx hy
            refine held0 (S := (fun w' => (w'.cell? ⟨B, 0, none⟩ = some (.string ⟨q.toArray⟩) ∧ w'.cell? ⟨B, 1, none⟩ = some (.bool g) ∧ w'.cell? ⟨B, 2, none⟩ = some (.int .i64 z) ∧ w'.cell? ⟨B, 3, none⟩ = some (.int .i64 d) ∧ w'.cell? ⟨B, 4, none⟩ = some (.slice s1 s2 s3)) ∧ w'.cell? ⟨b, off + j * 5, none⟩ = some (.string ⟨p.toArray⟩) ∧ w'.cell? ⟨b, off + j * 5 + 1, none⟩ = some (.bool g') ∧ w'.cell? ⟨b, off + j * 5 + 2, none⟩ = some (.int .i64 z') ∧ w'.cell? ⟨b, off + j * 5 + 3, none⟩ = some (.int .i64 d') ∧ w'.cell? ⟨b, off + j * 5 + 4, none⟩ = some (.slice u1 u2 u3))) (by kernel_rfl) (HS2.out _ hbr) (fun hHeld => ?_)
            iterate 1 (refine heldT (oi := ⟨_, _, _, _, _, _⟩) (v := ?_) hHeld rfl rfl (by kernel_rfl) (by kernel_rfl) (by kernel_rfl) (fun _ _ _ h => h) ?_ ?_; rotate_left; (intro w hSw; (try dsimp only at hSw); go_simp; try with_reducible rfl); try simp only [Act.put, List.setIfInBounds_toArray, List.set_cons_zero, List.set_cons_succ])
            refine wpAnyH_ready (rs := [1]) (by kernel_rfl) (by simp) ?_
            refine AllReadyH.cons (o := ⟨_, _, _, _, _, _⟩) rfl (fun K hK => ?_) AllReadyH.nil
            go_simp
            (refine (KM.out _ hbr).mono ?_; rintro e w1 ⟨rfl, hB1⟩; replace hbr := below2 hbr hB1)
            refine hK.out _ _ (HS2.out _ hbr) (fun hHeld => ?_)
            clear hK K
            try simp only [Act.put, List.setIfInBounds_toArray, List.set_cons_zero, List.set_cons_succ]
            refine wpAnyH_take (i := 2) (oi := ⟨_, _, _, _, _, _⟩) (v := ?_) rfl (by kernel_rfl) (by kernel_rfl) (by kernel_rfl) (fun _ _ _ h => h) (Or.inl ⟨by rfl, ?_⟩) hHeld ?_
            rotate_left
            · (intro w hSw; (try dsimp only at hSw); go_simp; try with_reducible rfl)
            try simp only [Act.put, List.setIfInBounds_toArray, List.set_cons_zero, List.set_cons_succ]
            refine wpAnyH_take (i := 3) (oi := ⟨_, _, _, _, _, _⟩) (v := ?_) rfl (by kernel_rfl) (by kernel_rfl) (by kernel_rfl) (fun _ _ _ h => h) (Or.inl ⟨by rfl, ?_⟩) hHeld ?_
            rotate_left
            · (intro w hSw; (try dsimp only at hSw); go_simp; try with_reducible rfl)
            try simp only [Act.put, List.setIfInBounds_toArray, List.set_cons_zero, List.set_cons_succ]
            refine wpAnyH_take (i := 4) (oi := ⟨_, _, _, _, _, _⟩) (v := ?_) rfl (by kernel_rfl) (by kernel_rfl) (by kernel_rfl) (fun _ _ _ h => h) (Or.inl ⟨by rfl, ?_⟩) hHeld ?_
            rotate_left
            · (intro w hSw; (try dsimp only at hSw); go_simp; try with_reducible rfl)
            try simp only [Act.put, List.setIfInBounds_toArray, List.set_cons_zero, List.set_cons_succ]
            refine wpAnyH_take (i := 5) (oi := ⟨_, _, _, _, _, _⟩) (v := ?_) rfl (by kernel_rfl) (by kernel_rfl) (by kernel_rfl) (fun _ _ _ h => h) (Or.inl ⟨by rfl, ?_⟩) hHeld ?_
            rotate_left
            · (intro w hSw; (try dsimp only at hSw); go_simp; try with_reducible rfl)
            try simp only [Act.put, List.setIfInBounds_toArray, List.set_cons_zero, List.set_cons_succ]
            refine wpAnyH_take (i := 6) (oi := ⟨_, _, _, _, _, _⟩) (v := ?_) rfl (by kernel_rfl) (by kernel_rfl) (by kernel_rfl) (fun _ _ _ h => h) (Or.inl ⟨by rfl, ?_⟩) hHeld ?_
            rotate_left
            · (intro w hSw; (try dsimp only at hSw); go_simp; try with_reducible rfl)
            try simp only [Act.put, List.setIfInBounds_toArray, List.set_cons_zero, List.set_cons_succ]
            refine wpAnyH_take (i := 7) (oi := ⟨_, _, _, _, _, _⟩) (v := ?_) rfl (by kernel_rfl) (by kernel_rfl) (by kernel_rfl) (fun _ _ _ h => h) (Or.inl ⟨by rfl, ?_⟩) hHeld ?_
            rotate_left
            · (intro w hSw; (try dsimp only at hSw); go_simp; try with_reducible rfl)
            try simp only [Act.put, List.setIfInBounds_toArray, List.set_cons_zero, List.set_cons_succ]
            refine wpAnyH_take (i := 8) (oi := ⟨_, _, _, _, _, _⟩) (v := ?_) rfl (by kernel_rfl) (by kernel_rfl) (by kernel_rfl) (fun _ _ _ h => h) (Or.inl ⟨by rfl, ?_⟩) hHeld ?_
            rotate_left
            · (intro w hSw; (try dsimp only at hSw); go_simp; try with_reducible rfl)
            try simp only [Act.put, List.setIfInBounds_toArray, List.set_cons_zero, List.set_cons_succ]
            refine wpAnyH_take (i := 9) (oi := ⟨_, _, _, _, _, _⟩) (v := ?_) rfl (by kernel_rfl) (by kernel_rfl) (by kernel_rfl) (fun _ _ _ h => h) (Or.inl ⟨by rfl, ?_⟩) hHeld ?_
            rotate_left
            · (intro w hSw; (try dsimp only at hSw); go_simp; try with_reducible rfl)
            try simp only [Act.put, List.setIfInBounds_toArray, List.set_cons_zero, List.set_cons_succ]
            refine wpAnyH_take (i := 10) (oi := ⟨_, _, _, _, _, _⟩) (v := ?_) rfl (by kernel_rfl) (by kernel_rfl) (by kernel_rfl) (fun _ _ _ h => h) (Or.inl ⟨by rfl, ?_⟩) hHeld ?_
            rotate_left
            · (intro w hSw; (try dsimp only at hSw); go_simp; try with_reducible rfl)
            try simp only [Act.put, List.setIfInBounds_toArray, List.set_cons_zero, List.set_cons_succ]
            refine wpAnyH_take (i := 11) (oi := ⟨_, _, _, _, _, _⟩) (v := ?_) rfl (by kernel_rfl) (by kernel_rfl) (by kernel_rfl) (fun _ _ _ h => h) (Or.inl ⟨by rfl, ?_⟩) hHeld ?_
            rotate_left
            · (intro w hSw; (try dsimp only at hSw); go_simp; try with_reducible rfl)
            try simp only [Act.put, List.setIfInBounds_toArray, List.set_cons_zero, List.set_cons_succ]
            refine wpAnyH_take (i := 12) (oi := ⟨_, _, _, _, _, _⟩) (v := ?_) rfl (by kernel_rfl) (by kernel_rfl) (by kernel_rfl) (fun _ _ _ h => h) (Or.inl ⟨by rfl, ?_⟩) hHeld ?_
            rotate_left
            · (intro w hSw; (try dsimp only at hSw); go_simp; try with_reducible rfl)
            try simp only [Act.put, List.setIfInBounds_toArray, List.set_cons_zero, List.set_cons_succ]
            refine wpAnyH_ready (rs := [13]) (by kernel_rfl) (by simp) ?_
            refine AllReadyH.cons (o := ⟨_, _, _, _, _, _⟩) rfl (fun K hK => ?_) AllReadyH.nil
            go_simp
            (refine (KB.out _).mono ?_; rintro e w1 ⟨rfl, hB1⟩; replace hbr := below2 hbr hB1)
            refine hK.out _ _ (HS2.out _ hbr) (fun hHeld => ?_)
            clear hK K
            try simp only [Act.put, List.setIfInBounds_toArray, List.set_cons_zero, List.set_cons_succ]
            refine wpAnyH_take (i := 14) (oi := ⟨_, _, _, _, _, _⟩) (v := ?_) rfl (by kernel_rfl) (by kernel_rfl) (by kernel_rfl) (fun _ _ _ h => h) (Or.inl ⟨by rfl, ?_⟩) hHeld ?_
            rotate_left
            · (intro w hSw; (try dsimp only at hSw); go_simp; try with_reducible rfl)
            try simp only [Act.put, List.setIfInBounds_toArray, List.set_cons_zero, List.set_cons_succ]
            refine wpAnyH_take (i := 15) (oi := ⟨_, _, _, _, _, _⟩) (v := ?_) rfl (by kernel_rfl) (by kernel_rfl) (by kernel_rfl) (fun _ _ _ h => h) (Or.inl ⟨by rfl, ?_⟩) hHeld ?_
            rotate_left
            · (intro w hSw; (try dsimp only at hSw); go_simp; try with_reducible rfl)
            try simp only [Act.put, List.setIfInBounds_toArray, List.set_cons_zero, List.set_cons_succ]
            refine wpAnyH_take (i := 16) (oi := ⟨_, _, _, _, _, _⟩) (v := ?_) rfl (by kernel_rfl) (by kernel_rfl) (by kernel_rfl) (fun _ _ _ h => h) (Or.inl ⟨by rfl, ?_⟩) hHeld ?_
            rotate_left
            · (intro w hSw; (try dsimp only at hSw); go_simp; try with_reducible rfl)
            try simp only [Act.put, List.setIfInBounds_toArray, List.set_cons_zero, List.set_cons_succ]
            refine wpAnyH_done (by kernel_rfl) ?_ _

            go_wp2_with fail
            go_roundw
            case rel => exact ⟨k + 1, by go_num, by omega, HG, Lib.hid (below2 hB.out (HC.out _ hbr).1)⟩
            case measure => simp [intOf]; omega
    · obtain rfl : k = S.length := by omega
      have HR := Lib.hid (okTo_all (l := chs S) (by simpa using hf.out) HL.out.1 HL.out.2)
      go_wp2_with fail
      go_ret
      exact ⟨by rw [HR.out]; rfl, hB.out⟩

end Go.Proofs.YtaaabmnaindgaaaGreatDoor

/-
  The document's own Big of changes.
-/
namespace Go.Proofs.YtaaabmnaindgaaaGreatDoor
set_option maxRecDepth 100000
open Go.RowKit

/-- The first k are not too great. -/
def fitC (l : List Cg) (k : Nat) : Prop := ∀ (i : Nat) (hi : i < l.length), i < k → l[i].1.length ≤ 200 ∧ l[i].2.2.2.2.length ≤ 30
theorem fitC_succ {l : List Cg} {k : Nat} (h : fitC l k) (hk : k < l.length) (h1 : l[k].1.length ≤ 200 ∧ l[k].2.2.2.2.length ≤ 30) : fitC l (k + 1) := by
  intro i hi hik
  by_cases he : i = k
  · subst he; exact h1
  · exact h i hi (by omega)
theorem bigC_fit {l : List Cg} (h : fitC l l.length) (hl : l.length ≤ 50) : bigC l = false := by
  unfold bigC
  rw [decide_eq_false (by omega), Bool.false_or, List.any_eq_false]
  intro c hc
  obtain ⟨i, hi, rfl⟩ := List.getElem_of_mem hc
  have := h i hi hi
  simp
  omega
theorem bigC_at {l : List Cg} {k : Nat} (hk : k < l.length) (h : 200 < l[k].1.length ∨ 30 < l[k].2.2.2.2.length) : bigC l = true := by
  unfold bigC
  rw [Bool.or_eq_true, List.any_eq_true]
  refine .inr ⟨_, List.getElem_mem hk, ?_⟩
  simpa using h
theorem bigC_small {l : List Cg} (h : bigC l = false) : SmallC l ∧ l.length ≤ 50 := by
  obtain ⟨h1, h2⟩ := bigC_not h
  exact ⟨fun c hc => by have := h2 c hc; omega, h1⟩

set_option maxHeartbeats 4000000 in
theorem baBig_calls (v : Value) (S : List Cv) (w : World) (h : Cgs w v S) (hn : S.length ≤ 9223372036854775807) (hs : ∀ c ∈ chs S, c.1.length ≤ 9223372036854775807 ∧ c.2.2.2.2.length ≤ 9223372036854775807) :
    Calls Tryz.prog 42 #[v] w fun e w' => e = .returned (.bool (bigC (chs S))) ∧ w = w' := by
  obtain ⟨ao, cap, rfl⟩ := h.form
  by_cases h50 : S.length ≤ 50
  · have hd : decide ((S.length : Int) ≤ 50) = true := by rw [decide_eq_true_eq]; omega
    have hd2 : decide ((50 : Int) < (S.length : Int)) = false := by rw [decide_eq_false_iff_not]; omega
    have HH := Lib.hid h
    have HS := Lib.hid hs
    clear h hs
    go_enter Tryz.func42, Tryz.ntmps42
    go_wp2_with fail
    go_loop [3] (fun i => ∃ k : Nat, i = .int .i64 k ∧ k ≤ S.length ∧ Hid (fitC (chs S) k)) (fun i => S.length - (intOf i).toNat)
    case atStart => exact ⟨0, rfl, Nat.zero_le _, Lib.hid (fun _ _ h => absurd h (Nat.not_lt_zero _))⟩
    case round =>
      obtain ⟨k, rfl, hk, hf⟩ := hrel
      by_cases hlt : k < S.length
      · obtain ⟨b, off, rfl, ⟨c0, c1, c2, c3, c4⟩, hI⟩ := HH.out.at hlt
        have hltc : k < (chs S).length := by simpa using hlt
        have hsm := HS.out _ (List.getElem_mem hltc)
        have hgo := fun h => fitC_succ hf.out hltc h
        have hno := fun h => bigC_at hltc h
        simp only [List.getElem_map] at hsm hgo hno
        obtain ⟨⟨⟨q, g, z, d, cs⟩, vv⟩, hx⟩ : ∃ x, S[k] = x := ⟨_, rfl⟩
        rw [hx] at c0 c1 c2 c3 c4 hI hsm hgo hno
        dsimp only at c0 c1 c2 c3 c4 hI hsm hgo hno
        obtain ⟨s1, s3, rfl⟩ := hI.form
        clear hI hx c1 c2 c3
        by_cases h1 : q.length ≤ 200
        · have e1 : decide ((200 : Int) < (q.length : Int)) = false := by rw [decide_eq_false_iff_not]; omega
          by_cases h2 : cs.length ≤ 30
          · have e2 : decide ((30 : Int) < (cs.length : Int)) = false := by rw [decide_eq_false_iff_not]; omega
            have HG := Lib.hid (hgo ⟨h1, h2⟩)
            clear hgo hno h1 h2
            go_wp2_with fail
            go_round
            case rel => exact ⟨k + 1, by go_num, by omega, HG⟩
            case measure => simp [intOf]; omega
          · have e2 : decide ((30 : Int) < (cs.length : Int)) = true := by rw [decide_eq_true_eq]; omega
            have HG := Lib.hid (hno (.inr (by omega)))
            clear hgo hno h1 h2
            go_wp2_with fail
            go_ret
            exact ⟨by rw [HG.out]; rfl, rfl⟩
        · have e1 : decide ((200 : Int) < (q.length : Int)) = true := by rw [decide_eq_true_eq]; omega
          have HG := Lib.hid (hno (.inl (by omega)))
          clear hgo hno h1
          go_wp2_with fail
          go_ret
          exact ⟨by rw [HG.out]; rfl, rfl⟩
      · obtain rfl : k = S.length := by omega
        have HX := Lib.hid (bigC_fit (l := chs S) (by simpa using hf.out) (by simpa using h50))
        go_wp2_with fail
        go_ret
        exact ⟨by rw [HX.out]; rfl, rfl⟩
  · have hd : decide ((S.length : Int) ≤ 50) = false := by rw [decide_eq_false_iff_not]; omega
    have hd2 : decide ((50 : Int) < (S.length : Int)) = true := by rw [decide_eq_true_eq]; omega
    have h0 : (0 : Int) < (S.length : Int) := by omega
    have HX := Lib.hid (show bigC (chs S) = true by
      unfold bigC
      rw [decide_eq_true (by simp; omega)]
      rfl)
    clear h hs h50
    go_enter Tryz.func42, Tryz.ntmps42
    go_wp2_with fail
    go_loop [3] (fun i => i = .int .i64 0) (fun _ => 0)
    case atStart => rfl
    case round =>
      subst hrel
      go_wp2_with fail
      go_ret
      exact ⟨by rw [HX.out]; rfl, rfl⟩

end Go.Proofs.YtaaabmnaindgaaaGreatDoor
