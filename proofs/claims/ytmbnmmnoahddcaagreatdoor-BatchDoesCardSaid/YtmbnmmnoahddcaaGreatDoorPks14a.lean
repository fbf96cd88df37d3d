/-
  The texts of one folder in one: BaSpec, Cgs, BaMay, BaCmp, BaMath, BaMap, BaSort, BaColl, BaCop, BaApp, BaIs, BaNorm, BaSl, BaJoin, BaText.
-/
import Derived.Test.YtmbnmmnoahddcaaGreatDoorPks02
import Derived.Test.YtmbnmmnoahddcaaGreatDoorPks08
import Derived.Test.YtmbnmmnoahddcaaGreatDoorPks12
import Derived.Test.YtmbnmmnoahddcaaGreatDoorPks01
import Derived.Test.YtmbnmmnoahddcaaGreatDoorPkbase
import Derived.Test.YtmbnmmnoahddcaaGreatDoorShelf
import Derived.Sort.Grow
import Derived.Maps.OwnSet
import Derived.Sort.MapsRangeIn
import Derived.Sort.KeysCollected
import Derived.RangeFuncNested
import Derived.RangeFuncBound
import Derived.RangeFuncCalls
import Derived.RangeFuncLeaves
import Derived.RangeFuncBox
import Derived.Shelf.Abstract
import Derived.Shelf.RegionOpen
import Derived.OwnWalkIn
import Derived.TacticsInMore
import Derived.LoopNIn
import Derived.LoopIn
import Derived.Outline
import Derived.Test.YtmbnmmnoahddcaaGreatDoorShelfS
import Derived.Shelf.SlSortCmp.WholeK
import Derived.Shelf.SlSortCmp.NoneTotal
import Derived.Deep.RegionHeld3
import Derived.StringKeys

/-
  Batches in plain words: changes that may be, rows of them by their paths, the last change of each path; their bytes. No program is named here.
-/
namespace Go.Proofs.YtmbnmmnoahddcaaGreatDoor
set_option maxRecDepth 100000

/-- A change: its path, whether it is gone, its meta. -/
abbrev Cg := List UInt8 × Bool × Mt
/-- May it be? -/
def mayB (c : Cg) : Bool := (c.1 != []) && (isP c.1 && (metaB c.2.2.1 c.2.2.2.1 c.2.2.2.2 && (!c.2.1 || sameM c.2.2.1 c.2.2.2.1 c.2.2.2.2 0 0 [])))
theorem mayB_iff {c : Cg} : mayB c = true ↔ c.1 ≠ [] ∧ isP c.1 = true ∧ metaB c.2.2.1 c.2.2.2.1 c.2.2.2.2 = true ∧ (c.2.1 = true → c.2.2 = (0, 0, [])) := by
  unfold mayB
  rw [Bool.and_eq_true, Bool.and_eq_true, Bool.and_eq_true, Bool.or_eq_true, bne_iff_ne, sameM_iff]
  cases c.2.1 <;> simp [Prod.ext_iff]
/-- Do their paths rise? -/
def riseC : List Cg → Bool
  | x :: y :: r => Op.bytesLess x.1 y.1 && riseC (y :: r)
  | _ => true
def isB (l : List Cg) : Bool := decide (1 ≤ l.length) && (decide (l.length ≤ 20) && (l.all mayB && riseC l))
/-- Paths that rise, each against each. -/
def SortC (l : List Cg) : Prop := l.Pairwise fun x y => Op.bytesLess x.1 y.1 = true
theorem rise_sort : ∀ l : List Cg, riseC l = true ↔ SortC l
  | [] => ⟨fun _ => List.Pairwise.nil, fun _ => rfl⟩
  | [x] => ⟨fun _ => by simp [SortC], fun _ => rfl⟩
  | x :: y :: r => by
    have ih := rise_sort (y :: r)
    unfold SortC at *
    rw [riseC, Bool.and_eq_true, ih, List.pairwise_cons (a := x)]
    constructor
    · rintro ⟨h1, h2⟩
      refine ⟨fun z hz => ?_, h2⟩
      rcases List.mem_cons.1 hz with rfl | hz
      · exact h1
      · exact less_trans h1 ((List.pairwise_cons.1 h2).1 z hz)
    · rintro ⟨h1, h2⟩
      exact ⟨h1 y (by simp), h2⟩
/-- Neighbours that do not rise. -/
theorem baRise_not {l : List Cg} {k : Nat} (hk : k + 1 < l.length) (h : Op.bytesLess l[k].1 l[k + 1].1 = false) : riseC l = false := by
  cases hr : riseC l with
  | false => rfl
  | true =>
    have := List.pairwise_iff_getElem.1 ((rise_sort l).1 hr) k (k + 1) (by omega) hk (by omega)
    rw [h] at this
    cases this
theorem rise_all {l : List Cg} (h : ∀ (k : Nat) (hk : k + 1 < l.length), Op.bytesLess l[k].1 l[k + 1].1 = true) : riseC l = true := by
  match l with
  | [] => rfl
  | [_] => rfl
  | x :: y :: r =>
    rw [riseC, Bool.and_eq_true]
    refine ⟨h 0 (by simp), rise_all (l := y :: r) fun k hk => ?_⟩
    exact h (k + 1) (by simpa using hk)
theorem isB_iff {l : List Cg} : isB l = true ↔ 1 ≤ l.length ∧ l.length ≤ 20 ∧ (∀ c ∈ l, mayB c = true) ∧ SortC l := by
  unfold isB
  rw [Bool.and_eq_true, Bool.and_eq_true, Bool.and_eq_true, decide_eq_true_eq, decide_eq_true_eq, List.all_eq_true, rise_sort]

/-- A change in its place, or in the place of the one of its path. -/
def putC : List Cg → Cg → List Cg
  | [], c => [c]
  | x :: r, c => if Op.bytesLess x.1 c.1 = true then x :: putC r c else if x.1 = c.1 then c :: r else c :: x :: r
def putsC (l : List Cg) : List Cg := l.foldl putC []
theorem puts_snoc (l : List Cg) (c : Cg) : putsC (l ++ [c]) = putC (putsC l) c := by simp [putsC]
theorem puts_app (l m : List Cg) : putsC (l ++ m) = m.foldl putC (putsC l) := by simp [putsC]
/-- The change of a path. -/
def findC (l : List Cg) (p : List UInt8) : Option Cg := l.find? fun c => c.1 == p
theorem find_cons (x : Cg) (r : List Cg) (p : List UInt8) : findC (x :: r) p = if x.1 = p then some x else findC r p := by
  unfold findC
  rw [List.find?_cons]
  by_cases h : x.1 = p
  · rw [if_pos h, show (x.1 == p) = true by simpa using h]
  · rw [if_neg h, show (x.1 == p) = false by simpa using h]
theorem find_path {l : List Cg} {p : List UInt8} {c : Cg} (h : findC l p = some c) : c ∈ l ∧ c.1 = p := by
  unfold findC at h
  exact ⟨List.mem_of_find?_eq_some h, by simpa using List.find?_some h⟩
theorem find_no {l : List Cg} {p : List UInt8} : findC l p = none ↔ ∀ c ∈ l, c.1 ≠ p := by
  unfold findC
  rw [List.find?_eq_none]
  simp
/-- The last change of a path. -/
def lastC (l : List Cg) (p : List UInt8) : Option Cg := findC l.reverse p
theorem last_snoc (l : List Cg) (c : Cg) (p : List UInt8) : lastC (l ++ [c]) p = if c.1 = p then some c else lastC l p := by
  unfold lastC
  rw [List.reverse_append, List.reverse_cons, List.reverse_nil, List.nil_append, List.singleton_append, find_cons]
theorem last_app (l m : List Cg) (p : List UInt8) : lastC (l ++ m) p = (lastC m p).or (lastC l p) := by
  unfold lastC findC
  rw [List.reverse_append, List.find?_append]

/-! ### Rows that rise -/

theorem sort_cons {x : Cg} {r : List Cg} : SortC (x :: r) ↔ (∀ y ∈ r, Op.bytesLess x.1 y.1 = true) ∧ SortC r := List.pairwise_cons
theorem put_mem : ∀ {l : List Cg} {c y : Cg}, y ∈ putC l c → y = c ∨ y ∈ l
  | [], c, y, h => by
    rw [putC, List.mem_singleton] at h
    exact .inl h
  | x :: r, c, y, h => by
    rw [putC] at h
    split at h
    · rcases List.mem_cons.1 h with rfl | h
      · exact .inr (by simp)
      · rcases put_mem h with h | h
        · exact .inl h
        · exact .inr (List.mem_cons_of_mem _ h)
    · split at h
      · rcases List.mem_cons.1 h with h | h
        · exact .inl h
        · exact .inr (List.mem_cons_of_mem _ h)
      · rcases List.mem_cons.1 h with h | h
        · exact .inl h
        · exact .inr h
theorem put_sort : ∀ {l : List Cg} (c : Cg), SortC l → SortC (putC l c)
  | [], c, _ => by simp [putC, SortC]
  | x :: r, c, h => by
    obtain ⟨h1, h2⟩ := sort_cons.1 h
    rw [putC]
    split
    · rename_i hl
      refine sort_cons.2 ⟨fun y hy => ?_, put_sort c h2⟩
      rcases put_mem hy with rfl | hy
      · exact hl
      · exact h1 y hy
    · rename_i hl
      split
      · rename_i he
        exact sort_cons.2 ⟨fun y hy => he ▸ h1 y hy, h2⟩
      · rename_i he
        have hcx := less_total (by simpa using hl) he
        refine sort_cons.2 ⟨fun y hy => ?_, h⟩
        rcases List.mem_cons.1 hy with rfl | hy
        · exact hcx
        · exact less_trans hcx (h1 y hy)
theorem find_ahead {x : Cg} {r : List Cg} (h : ∀ y ∈ r, Op.bytesLess x.1 y.1 = true) : findC r x.1 = none := by
  rw [find_no]
  intro y hy e
  have := h y hy
  rw [e, less_irrefl] at this
  cases this
theorem put_find : ∀ {l : List Cg} (c : Cg) (p : List UInt8), SortC l → findC (putC l c) p = if c.1 = p then some c else findC l p
  | [], c, p, _ => by rw [putC, find_cons]
  | x :: r, c, p, h => by
    obtain ⟨h1, h2⟩ := sort_cons.1 h
    rw [putC]
    split
    · rename_i hl
      rw [find_cons, find_cons, put_find c p h2]
      by_cases hx : x.1 = p
      · have hcp : c.1 ≠ p := by
          intro e
          rw [hx, e, less_irrefl] at hl
          cases hl
        rw [if_pos hx, if_neg hcp, if_pos hx]
      · rw [if_neg hx, if_neg hx]
    · split
      · rename_i he
        rw [find_cons, find_cons, he]
        by_cases hc : c.1 = p
        · rw [if_pos hc, if_pos hc]
        · rw [if_neg hc, if_neg hc, if_neg hc]
      · rw [find_cons]
theorem snoc_ind {α : Type} {P : List α → Prop} (h0 : P []) (h1 : ∀ l c, P l → P (l ++ [c])) (l : List α) : P l := by
  have h : ∀ r : List α, P r.reverse := by
    intro r
    induction r with
    | nil => exact h0
    | cons x r ih => rw [List.reverse_cons]; exact h1 _ _ ih
  have := h l.reverse
  rwa [List.reverse_reverse] at this
theorem puts_sort (l : List Cg) : SortC (putsC l) :=
  snoc_ind (P := fun l => SortC (putsC l)) List.Pairwise.nil (fun l c ih => by rw [puts_snoc]; exact put_sort c ih) l
theorem puts_find (l : List Cg) (p : List UInt8) : findC (putsC l) p = lastC l p :=
  snoc_ind (P := fun l => findC (putsC l) p = lastC l p) rfl (fun l c ih => by rw [puts_snoc, put_find c p (puts_sort l), last_snoc, ih]) l
theorem baPuts_mem {l : List Cg} {c : Cg} (h : c ∈ putsC l) : c ∈ l := by
  refine snoc_ind (P := fun l => c ∈ putsC l → c ∈ l) (fun h => by simp [putsC] at h) (fun l d ih h => ?_) l h
  rw [puts_snoc] at h
  rcases put_mem h with h | h
  · simp [h]
  · exact List.mem_append_left _ (ih h)
theorem sort_find {l : List Cg} (h : SortC l) {c : Cg} (hc : c ∈ l) : findC l c.1 = some c := by
  induction l with
  | nil => cases hc
  | cons x r ih =>
    obtain ⟨h1, h2⟩ := sort_cons.1 h
    rw [find_cons]
    rcases List.mem_cons.1 hc with rfl | hc
    · rw [if_pos rfl]
    · have hne : x.1 ≠ c.1 := by
        intro e
        have := h1 c hc
        rw [e, less_irrefl] at this
        cases this
      rw [if_neg hne, ih h2 hc]
/-- A row that rises is what it tells of each path. -/
theorem sort_same : ∀ {a b : List Cg}, SortC a → SortC b → (∀ p, findC a p = findC b p) → a = b
  | [], [], _, _, _ => rfl
  | [], y :: s, _, _, h => by
    have := h y.1
    rw [find_cons, if_pos rfl] at this
    cases this
  | x :: r, [], _, _, h => by
    have := h x.1
    rw [find_cons, if_pos rfl] at this
    cases this
  | x :: r, y :: s, ha, hb, h => by
    obtain ⟨a1, a2⟩ := sort_cons.1 ha
    obtain ⟨b1, b2⟩ := sort_cons.1 hb
    have hxy : x.1 = y.1 := by
      cases hl : Op.bytesLess x.1 y.1 with
      | true =>
        have h1 := h x.1
        have h2 : findC (y :: s) x.1 = none := by
          rw [find_no]
          intro c hc e
          rcases List.mem_cons.1 hc with rfl | hc
          · rw [e, less_irrefl] at hl; cases hl
          · have := less_trans hl (b1 c hc)
            rw [e, less_irrefl] at this
            cases this
        rw [find_cons, if_pos rfl, h2] at h1
        cases h1
      | false =>
        by_cases he : x.1 = y.1
        · exact he
        · have hl2 := less_total hl he
          have h1 := h y.1
          have h2 : findC (x :: r) y.1 = none := by
            rw [find_no]
            intro c hc e
            rcases List.mem_cons.1 hc with rfl | hc
            · rw [e, less_irrefl] at hl2; cases hl2
            · have := less_trans hl2 (a1 c hc)
              rw [e, less_irrefl] at this
              cases this
          rw [h2, find_cons, if_pos rfl] at h1
          cases h1
    have hx := h x.1
    rw [find_cons, if_pos rfl, find_cons, if_pos hxy.symm] at hx
    obtain rfl : x = y := Option.some.inj hx
    rw [sort_same a2 b2 fun p => ?_]
    by_cases hp : x.1 = p
    · subst hp
      rw [find_ahead a1, find_ahead b1]
    · have := h p
      rwa [find_cons, if_neg hp, find_cons, if_neg hp] at this
theorem last_find {l : List Cg} (h : SortC l) (p : List UInt8) : lastC l p = findC l p := by
  cases hf : findC l p with
  | none =>
    rw [find_no] at hf
    unfold lastC
    rw [find_no]
    exact fun c hc => hf c (List.mem_reverse.1 hc)
  | some c =>
    cases hl : lastC l p with
    | none =>
      unfold lastC at hl
      rw [find_no] at hl
      obtain ⟨h1, h2⟩ := find_path hf
      exact absurd h2 (hl c (List.mem_reverse.2 h1))
    | some d =>
      obtain ⟨h1, h2⟩ := find_path hl
      have := sort_find h (List.mem_reverse.1 h1)
      rw [h2, hf] at this
      exact this.symm
theorem puts_self {l : List Cg} (h : SortC l) : putsC l = l := sort_same (puts_sort l) h fun p => by rw [puts_find, last_find h]
theorem puts_put_self (l : List Cg) : putsC (putsC l) = putsC l := puts_self (puts_sort l)

/-- What Norm answers. -/
def normB (l : List Cg) : Bool := l.all mayB && (decide (1 ≤ (putsC l).length) && decide ((putsC l).length ≤ 20))
def normL (l : List Cg) : List Cg := if normB l then putsC l else []
def normE (l : List Cg) : Int := if normB l then 0 else 1
theorem puts_isB {l : List Cg} (h : l.all mayB = true) : isB (putsC l) = (decide (1 ≤ (putsC l).length) && decide ((putsC l).length ≤ 20)) := by
  have h1 : (putsC l).all mayB = true := List.all_eq_true.2 fun c hc => List.all_eq_true.1 h c (baPuts_mem hc)
  have h2 : riseC (putsC l) = true := (rise_sort _).2 (puts_sort l)
  unfold isB
  rw [h1, h2]
  simp
theorem normB_isB {l : List Cg} (h : normB l = true) : isB (putsC l) = true := by
  unfold normB at h
  rw [Bool.and_eq_true] at h
  rw [puts_isB h.1]
  exact h.2
theorem isB_norm {l : List Cg} (h : isB l = true) : normB l = true ∧ normL l = l ∧ normE l = 0 := by
  obtain ⟨h1, h2, h3, h4⟩ := isB_iff.1 h
  have hn : normB l = true := by
    unfold normB
    rw [puts_self h4, List.all_eq_true.2 h3]
    simp [h1, h2]
  exact ⟨hn, by rw [normL, if_pos hn, puts_self h4], by rw [normE, if_pos hn]⟩
theorem norm_yes {l : List Cg} (h : normB l = true) : normL l = putsC l ∧ normE l = 0 := by rw [normL, normE, if_pos h, if_pos h]; exact ⟨rfl, rfl⟩
theorem norm_no {l : List Cg} (h : normB l = false) : normL l = [] ∧ normE l = 1 := by
  rw [normL, normE, if_neg (by simp [h]), if_neg (by simp [h])]
  exact ⟨rfl, rfl⟩
/-- A batch is what Norm tells of itself, and nothing else is. -/
theorem isB_self {l : List Cg} : isB l = (normB l && (putsC l == l)) := by
  cases h : isB l with
  | true =>
    obtain ⟨h1, h2, _⟩ := isB_norm h
    rw [normL, if_pos h1] at h2
    rw [h1, h2]
    simp
  | false =>
    cases hn : normB l with
    | false => rfl
    | true =>
      cases he : (putsC l == l) with
      | false => rfl
      | true =>
        have := normB_isB hn
        rw [show putsC l = l by simpa using he, h] at this
        cases this

end Go.Proofs.YtmbnmmnoahddcaaGreatDoor

/-
  Rows of changes: five cells each, the last one a row of numbers.
-/
namespace Go.Proofs.YtmbnmmnoahddcaaGreatDoor
set_option maxRecDepth 100000
open Go.RowKit

/-- A change, and the slice of its meta's Chunks. -/
abbrev Cv := Cg × Value
def ccell (x : Cv) : List Value := [.string ⟨x.1.1.toArray⟩, .bool x.1.2.1, .int .i64 x.1.2.2.1, .int .i64 x.1.2.2.2.1, x.2]
def ccells (S : List Cv) : List Value := S.flatMap ccell
/-- The changes alone. -/
abbrev chs (S : List Cv) : List Cg := S.map Prod.fst
theorem ccells_cons (x : Cv) (r : List Cv) : ccells (x :: r) = .string ⟨x.1.1.toArray⟩ :: .bool x.1.2.1 :: .int .i64 x.1.2.2.1 :: .int .i64 x.1.2.2.2.1 :: x.2 :: ccells r := rfl
theorem ccells_len (S : List Cv) : (ccells S).length = S.length * 5 := by
  induction S with
  | nil => rfl
  | cons x r ih => rw [ccells_cons]; simp only [List.length_cons, ih]; omega
theorem ccells_append (a b : List Cv) : ccells (a ++ b) = ccells a ++ ccells b := by simp [ccells]
theorem ccells_take (S : List Cv) (n : Nat) : ccells (S.take n) = (ccells S).take (n * 5) := by
  induction S generalizing n with
  | nil => simp [ccells]
  | cons x r ih =>
    cases n with
    | zero => simp [ccells]
    | succ n =>
      rw [List.take_succ_cons, ccells_cons, ccells_cons, ih, show (n + 1) * 5 = n * 5 + 1 + 1 + 1 + 1 + 1 by omega]
      simp
theorem ccells_drop (S : List Cv) (n : Nat) : ccells (S.drop n) = (ccells S).drop (n * 5) := by
  induction S generalizing n with
  | nil => simp [ccells]
  | cons x r ih =>
    cases n with
    | zero => simp
    | succ n =>
      rw [List.drop_succ_cons, ccells_cons, ih, show (n + 1) * 5 = n * 5 + 1 + 1 + 1 + 1 + 1 by omega]
      simp
theorem ccells_at (S : List Cv) (i : Nat) (h : i < S.length) : (ccells S)[i * 5]? = some (.string ⟨S[i].1.1.toArray⟩) ∧ (ccells S)[i * 5 + 1]? = some (.bool S[i].1.2.1) ∧ (ccells S)[i * 5 + 2]? = some (.int .i64 S[i].1.2.2.1) ∧
    (ccells S)[i * 5 + 3]? = some (.int .i64 S[i].1.2.2.2.1) ∧ (ccells S)[i * 5 + 4]? = some S[i].2 := by
  induction S generalizing i with
  | nil => simp at h
  | cons x r ih =>
    cases i with
    | zero => exact ⟨rfl, rfl, rfl, rfl, rfl⟩
    | succ i =>
      have h1 := ih i (by simpa using h)
      rw [ccells_cons, show (i + 1) * 5 = i * 5 + 1 + 1 + 1 + 1 + 1 by omega]
      exact h1

/-- The slice v reads as these changes. -/
def Cgs (w : World) (v : Value) (S : List Cv) : Prop := Rw w 5 v S.length (ccells S) ∧ ∀ x ∈ S, Ints w x.2 x.1.2.2.2.2
theorem Cgs.below {w w' : World} {v : Value} {S : List Cv} (h : Cgs w v S) (hb : Below w.heap.size w w') : Cgs w' v S := ⟨Rw.below h.1 hb, fun x hx => (h.2 x hx).below hb⟩
theorem Cgs.form {w : World} {v : Value} {S : List Cv} (h : Cgs w v S) : ∃ ao cap, v = .slice ao S.length cap := Rw.form h.1
theorem Cgs.nil (w : World) : Cgs w (.slice none 0 0) [] := ⟨Rw.nil w 5, fun x hx => by cases hx⟩
theorem Cgs.at {w : World} {ao : Option Addr} {n cap : Nat} {S : List Cv} (h : Cgs w (.slice ao n cap) S) {k : Nat} (hk : k < S.length) :
    ∃ b off, ao = some ⟨b, off, none⟩ ∧ (w.cell? ⟨b, off + k * 5, none⟩ = some (.string ⟨S[k].1.1.toArray⟩) ∧ w.cell? ⟨b, off + k * 5 + 1, none⟩ = some (.bool S[k].1.2.1) ∧ w.cell? ⟨b, off + k * 5 + 2, none⟩ = some (.int .i64 S[k].1.2.2.1) ∧
      w.cell? ⟨b, off + k * 5 + 3, none⟩ = some (.int .i64 S[k].1.2.2.2.1) ∧ w.cell? ⟨b, off + k * 5 + 4, none⟩ = some S[k].2) ∧ Ints w S[k].2 S[k].1.2.2.2.2 := by
  obtain ⟨⟨hl, ao', cap', he, _, hc⟩, hx⟩ := h
  cases he
  rcases hc with h0 | ⟨b, off, rfl, hc⟩
  · omega
  · have h2 := ccells_len S
    obtain ⟨e1, e2, e3, e4, e5⟩ := ccells_at S k hk
    refine ⟨b, off, rfl, ⟨?_, ?_, ?_, ?_, ?_⟩, hx _ (List.getElem_mem hk)⟩
    · rw [hc (k * 5) (by omega), ← e1, List.getElem?_eq_getElem (by omega)]
    · rw [Nat.add_assoc, hc (k * 5 + 1) (by omega), ← e2, List.getElem?_eq_getElem (by omega)]
    · rw [Nat.add_assoc, hc (k * 5 + 2) (by omega), ← e3, List.getElem?_eq_getElem (by omega)]
    · rw [Nat.add_assoc, hc (k * 5 + 3) (by omega), ← e4, List.getElem?_eq_getElem (by omega)]
    · rw [Nat.add_assoc, hc (k * 5 + 4) (by omega), ← e5, List.getElem?_eq_getElem (by omega)]
theorem Cgs.len {w : World} {ao : Option Addr} {k cap : Nat} {S : List Cv} (h : Cgs w (.slice ao k cap) S) : S.length = k := by
  obtain ⟨⟨_, ao', c, he, _⟩, _⟩ := h
  cases he
  rfl
/-- The first k changes. -/
theorem Cgs.take {w : World} {ao : Option Addr} {n cap : Nat} {S : List Cv} (h : Cgs w (.slice ao n cap) S) {k : Nat} (hk : k ≤ S.length) : Cgs w (.slice ao k cap) (S.take k) := by
  obtain ⟨⟨hl, ao', c, he, hc, h⟩, hx⟩ := h
  cases he
  have e : (S.take k).length = k := by simp; omega
  refine ⟨⟨ccells_len _, ao, cap, by rw [e], by omega, ?_⟩, fun x hm => hx x (List.mem_of_mem_take hm)⟩
  rcases h with h0 | ⟨b, off, rfl, hcs⟩
  · exact .inl (by omega)
  · refine .inr ⟨b, off, rfl, fun j hj => ?_⟩
    rw [ccells_len, e] at hj
    have h2 := ccells_len S
    rw [hcs j (by omega)]
    simp only [ccells_take]
    rw [List.getElem_take]
/-- The changes from the k-th one on. -/
theorem Cgs.drop {w : World} {b off n cap : Nat} {S : List Cv} (h : Cgs w (.slice (some ⟨b, off, none⟩) n cap) S) {k m cap' : Nat} (hk : k ≤ S.length) (hm : m = S.length - k) (hc' : m ≤ cap') (o : Nat) (ho : o = off + k * 5 ∨ k = S.length) : Cgs w (.slice (some ⟨b, o, none⟩) m cap') (S.drop k) := by
  obtain ⟨⟨hl, ao', c, he, hc, h⟩, hx⟩ := h
  cases he
  have e : (S.drop k).length = m := by simp; omega
  refine ⟨⟨ccells_len _, _, cap', by rw [e], by omega, ?_⟩, fun x hm => hx x (List.mem_of_mem_drop hm)⟩
  by_cases h0 : k = S.length
  · exact .inl (by omega)
  · rcases h with h1 | ⟨b', off', he, hcs⟩
    · exact .inl (by omega)
    · cases he
      obtain rfl := ho.resolve_right h0
      refine .inr ⟨b, _, rfl, fun j hj => ?_⟩
      rw [ccells_len, e] at hj
      have h2 := ccells_len S
      rw [Nat.add_assoc, hcs (k * 5 + j) (by omega)]
      simp only [ccells_drop]
      rw [List.getElem_drop]
theorem Cgs.of_nil {w : World} {n cap : Nat} {S : List Cv} (h : Cgs w (.slice none n cap) S) : S = [] := by
  obtain ⟨⟨_, ao, c, he, _, h0 | ⟨b, off, h, _⟩⟩, _⟩ := h
  · exact List.eq_nil_of_length_eq_zero h0
  · cases he; cases h
theorem Cgs.spot {w : World} {a : Addr} {n cap : Nat} {S : List Cv} (h : Cgs w (.slice (some a) n cap) S) (h0 : S ≠ []) : ∃ b off, a = ⟨b, off, none⟩ := by
  obtain ⟨⟨_, ao, c, he, _, h1 | ⟨b, off, h, _⟩⟩, _⟩ := h
  · exact absurd (List.eq_nil_of_length_eq_zero h1) h0
  · cases he; cases h; exact ⟨b, off, rfl⟩
/-- The cells of changes are one cell each. -/
theorem ccells_one {w : World} {S : List Cv} (h : ∀ x ∈ S, Ints w x.2 x.1.2.2.2.2) : ∀ u ∈ ccells S, u.oneCell' = true := by
  intro u hu
  obtain ⟨x, hx, hy⟩ := List.mem_flatMap.1 hu
  obtain ⟨ao, cap, e⟩ := (h x hx).form
  simp [ccell] at hy
  rcases hy with rfl | rfl | rfl | rfl | rfl
  · rfl
  · rfl
  · rfl
  · rfl
  · rw [e]; rfl

end Go.Proofs.YtmbnmmnoahddcaaGreatDoor

/-
  batch: isZero, mayBe.
-/
namespace Go.Proofs.YtmbnmmnoahddcaaGreatDoor
set_option maxRecDepth 100000
open Go.RowKit

theorem Cx.five {w : World} {b : Nat} {t : TypeId} {v0 v1 v2 v3 v4 : Value} (h : Cx w b t [v0, v1, v2, v3, v4]) : w.cell? ⟨b, 0, none⟩ = some v0 ∧ w.cell? ⟨b, 1, none⟩ = some v1 ∧ w.cell? ⟨b, 2, none⟩ = some v2 ∧ w.cell? ⟨b, 3, none⟩ = some v3 ∧ w.cell? ⟨b, 4, none⟩ = some v4 :=
  ⟨h.cell (j := 0) rfl, h.cell (j := 1) rfl, h.cell (j := 2) rfl, h.cell (j := 3) rfl, h.cell (j := 4) rfl⟩
/-- A change as a value. -/
abbrev CV (p : List UInt8) (g : Bool) (z d : Int) (v : Value) : Value := .agg #[.string ⟨p.toArray⟩, .bool g, .int .i64 z, .int .i64 d, v]

set_option maxHeartbeats 2000000 in
theorem isZero_calls (z d : Int) (v : Value) (cs : List Int) (w : World) (hv : Ints w v cs) (hl : cs.length ≤ 1000000) :
    Calls Tryz.prog 39 #[MV z d v] w fun e w' => e = .returned (.bool (sameM z d cs 0 0 [])) ∧ Below w.heap.size w w' := by
  obtain ⟨ao, cap, rfl⟩ := hv.form
  clear hv
  have hs : sameM z d cs 0 0 [] = ((z == 0) && ((d == 0) && ((cs.length : Int) == 0))) := by
    unfold sameM
    cases cs with
    | nil => rfl
    | cons x r =>
      have e : (((x :: r).length : Int) == 0) = false := by rw [beq_eq_false_iff_ne]; simp; omega
      rw [e]
      simp
  rw [hs]
  clear hs
  cases hz : (z == 0) with
  | false =>
    go_enter Tryz.func39, Tryz.ntmps39
    go_wp2_with fail
    go_ret
    exact ⟨rfl, below_alloc _ _⟩
  | true =>
  cases hd : (d == 0) with
  | false =>
    go_enter Tryz.func39, Tryz.ntmps39
    go_wp2_with fail
    go_ret
    exact ⟨rfl, below_alloc _ _⟩
  | true =>
    cases hc : ((cs.length : Int) == 0) with
    | _ =>
      go_enter Tryz.func39, Tryz.ntmps39
      go_wp2_with fail
      go_ret
      exact ⟨rfl, below_alloc _ _⟩

theorem empty_no {p : List UInt8} (h : p ≠ []) : p.isEmpty = false ∧ (p != []) = true := by
  cases p with
  | nil => exact absurd rfl h
  | cons x r => exact ⟨rfl, rfl⟩

set_option maxHeartbeats 4000000 in
theorem mayBe_calls (p : List UInt8) (g : Bool) (z d : Int) (v : Value) (cs : List Int) (w : World) (hv : Ints w v cs) (hl : cs.length ≤ 1000000) (hp : p.length ≤ 1000000) (hm : Ml w) :
    Calls Tryz.prog 20 #[CV p g z d v] w fun e w' => e = .returned (.bool (mayB (p, g, z, d, cs))) ∧ Below w.heap.size w w' := by
  obtain ⟨ao, cap, rfl⟩ := hv.form
  have hB0 := below_alloc w (.cells #[.string ⟨p.toArray⟩, .bool g, .int .i64 z, .int .i64 d, .slice ao cs.length cap] 42)
  have HB := Lib.hid hB0
  have KP := Lib.hid (is_calls p (by omega) _ (hm.below hB0))
  have HV := Lib.hid (hv.below hB0)
  have HX := Lib.hid (Cx.new w 42 [.string ⟨p.toArray⟩, .bool g, .int .i64 z, .int .i64 d, .slice ao cs.length cap])
  have e : mayB (p, g, z, d, cs) = ((p != []) && (isP p && (metaB z d cs && (!g || sameM z d cs 0 0 [])))) := rfl
  rw [e]
  clear hv hm hB0 e
  by_cases h0 : p = []
  · subst h0
    go_enter Tryz.func20, Tryz.ntmps20
    go_wp2_with fail
    go_ret
    exact ⟨rfl, HB.out⟩
  obtain ⟨he, hne⟩ := empty_no h0
  rw [hne, Bool.true_and]
  clear h0
  generalize isP p = b at KP ⊢
  cases b with
  | false =>
    go_enter Tryz.func20, Tryz.ntmps20
    go_wp2_with fail
    refine KP.out.mono ?_
    rintro e w1 ⟨rfl, hB1⟩
    go_wp2_with fail
    go_ret
    exact ⟨rfl, below2 HB.out hB1⟩
  | true =>
  rw [Bool.true_and]
  have KM := fun W h => mIs_calls z d _ cs W (HV.out.below h) hl
  have KZ := fun W h => isZero_calls z d _ cs W (HV.out.below h) hl
  generalize metaB z d cs = b at KM ⊢
  generalize sameM z d cs 0 0 [] = c at KZ ⊢
  have KM := Lib.hid KM
  have KZ := Lib.hid KZ
  cases b with
  | false =>
    go_enter Tryz.func20, Tryz.ntmps20
    go_wp2_with fail
    refine KP.out.mono ?_
    rintro e w1 ⟨rfl, hB1⟩
    obtain ⟨c0, c1, c2, c3, c4⟩ := (HX.out.below hB1).five
    go_wp2_with fail
    refine (KM.out _ hB1).mono ?_
    rintro e w2 ⟨rfl, hB2⟩
    go_wp2_with fail
    go_ret
    exact ⟨rfl, below3 HB.out hB1 hB2⟩
  | true =>
  rw [Bool.true_and]
  cases g with
  | false =>
    go_enter Tryz.func20, Tryz.ntmps20
    go_wp2_with fail
    refine KP.out.mono ?_
    rintro e w1 ⟨rfl, hB1⟩
    obtain ⟨c0, c1, c2, c3, c4⟩ := (HX.out.below hB1).five
    go_wp2_with fail
    refine (KM.out _ hB1).mono ?_
    rintro e w2 ⟨rfl, hB2⟩
    have d1 := look_below hB2 c1
    go_wp2_with fail
    go_ret
    exact ⟨rfl, below3 HB.out hB1 hB2⟩
  | true =>
    go_enter Tryz.func20, Tryz.ntmps20
    go_wp2_with fail
    refine KP.out.mono ?_
    rintro e w1 ⟨rfl, hB1⟩
    obtain ⟨c0, c1, c2, c3, c4⟩ := (HX.out.below hB1).five
    go_wp2_with fail
    refine (KM.out _ hB1).mono ?_
    rintro e w2 ⟨rfl, hB2⟩
    have hB12 := below2 hB1 hB2
    obtain ⟨d0, d1, d2, d3, d4⟩ := (HX.out.below hB12).five
    clear c0 c1 c2 c3 c4
    go_wp2_with fail
    refine (KZ.out _ hB12).mono ?_
    rintro e w3 ⟨rfl, hB3⟩
    go_wp2_with fail
    go_ret
    exact ⟨by simp, below2 (below2 HB.out hB12) hB3⟩

end Go.Proofs.YtmbnmmnoahddcaaGreatDoor

/-
  batch: byPath.
-/
namespace Go.Proofs.YtmbnmmnoahddcaaGreatDoor
set_option maxRecDepth 100000
open Go.RowKit Go.Sort

/-- A slice's three parts; a change with its Chunks' slice. -/
abbrev Sl := Option Addr × Nat × Nat
abbrev Cs := Cg × Sl
def sval (s : Sl) : Value := .slice s.1 s.2.1 s.2.2
def toCv (x : Cs) : Cv := (x.1, sval x.2)
def encCs (x : Cs) : List Value := ccell (toCv x)
/-- A change as a value, whole. -/
def CsV (x : Cs) : Value := .agg (encCs x).toArray
set_option maxHeartbeats 1000000 in
theorem byPath_calls (x y : Cs) (w : World) :
    Calls Tryz.prog 23 #[CsV x, CsV y] w fun e w' => e = .returned (.int .i64 (Lib.compareBytes x.1.1 y.1.1)) ∧ ∃ q os', w' = grow (w.drewN q) os' := by
  obtain ⟨⟨p, g, z, d, cs⟩, s1, s2, s3⟩ := x
  obtain ⟨⟨p', g', z', d', cs'⟩, t1, t2, t3⟩ := y
  show Calls Tryz.prog 23 #[CV p g z d (.slice s1 s2 s3), CV p' g' z' d' (.slice t1 t2 t3)] w _
  go_enter Tryz.func23, Tryz.ntmps23
  go_wp2_with (go_at_call 43; refine (Tryz.strings_Compare _ _ _).mono ?_; rintro e w1 ⟨rfl, rfl⟩)
  go_ret
  exact ⟨rfl, 0, _, by rw [alloc_eq_grow, alloc_eq_grow, grow_grow]; rfl⟩
theorem grow_below (w : World) (q : Nat) (os : Array Obj) : Below w.heap.size w (grow (w.drewN q) os) :=
  ⟨rfl, rfl, rfl, by simp [grow], fun k hk => by
    show (w.heap ++ os)[k]? = _
    rw [Array.getElem?_append_left hk]⟩
theorem byPath_below (x y : Cs) (w : World) :
    Calls Tryz.prog 23 #[CsV x, CsV y] w fun e w' => e = .returned (.int .i64 (Lib.compareBytes x.1.1 y.1.1)) ∧ Below w.heap.size w w' :=
  (byPath_calls x y w).mono fun _ _ ⟨he, q, os, hw⟩ => ⟨he, hw ▸ grow_below w q os⟩

end Go.Proofs.YtmbnmmnoahddcaaGreatDoor

/-
  What follows of batches in plain words: the order of unlike paths, two rows joined.
-/
namespace Go.Proofs.YtmbnmmnoahddcaaGreatDoor
set_option maxRecDepth 100000

/-- No two have one path. -/
def UnlikeC (l : List Cg) : Prop := l.Pairwise fun x y => x.1 ≠ y.1
theorem unlike_find : ∀ {l : List Cg}, UnlikeC l → ∀ {c : Cg}, c ∈ l → findC l c.1 = some c
  | x :: r, h, c, hc => by
    obtain ⟨h1, h2⟩ := List.pairwise_cons.1 h
    rw [find_cons]
    rcases List.mem_cons.1 hc with rfl | hc
    · rw [if_pos rfl]
    · rw [if_neg (h1 c hc), unlike_find h2 hc]
theorem unlike_back {l : List Cg} (h : UnlikeC l) : UnlikeC l.reverse := by
  unfold UnlikeC at *
  rw [List.pairwise_reverse]
  exact h.imp fun h e => h e.symm
theorem unlike_last {l : List Cg} (h : UnlikeC l) (p : List UInt8) : findC l.reverse p = findC l p := by
  cases hf : findC l p with
  | none =>
    rw [find_no] at hf ⊢
    exact fun c hc => hf c (List.mem_reverse.1 hc)
  | some c =>
    obtain ⟨h1, h2⟩ := find_path hf
    have := unlike_find (unlike_back h) (List.mem_reverse.2 h1)
    rwa [h2] at this
theorem baPuts_back {l : List Cg} (h : UnlikeC l) : putsC l.reverse = putsC l :=
  sort_same (puts_sort _) (puts_sort _) fun p => by
    rw [puts_find, puts_find, lastC, lastC, List.reverse_reverse, unlike_last h]
theorem puts_both {l : List Cg} (h : UnlikeC l) : putsC (l ++ l.reverse) = putsC l :=
  sort_same (puts_sort _) (puts_sort _) fun p => by
    rw [puts_find, puts_find, last_app, lastC, lastC, List.reverse_reverse, unlike_last h]
    cases findC l p <;> rfl
theorem norm_back {l : List Cg} (h : UnlikeC l) : normB l.reverse = normB l := by
  unfold normB
  rw [baPuts_back h, List.all_reverse]
theorem norm_both {l : List Cg} (h : UnlikeC l) : normB (l ++ l.reverse) = normB l := by
  unfold normB
  rw [puts_both h, List.all_append, List.all_reverse, Bool.and_self]

/-! ### How many -/

theorem baPut_more : ∀ (l : List Cg) (c : Cg), l.length ≤ (putC l c).length ∧ (putC l c).length ≤ l.length + 1
  | [], c => by simp [putC]
  | x :: r, c => by
    have := baPut_more r c
    rw [putC]
    split
    · simp only [List.length_cons]; omega
    · split <;> simp only [List.length_cons] <;> omega
theorem puts_fold : ∀ (m l : List Cg), l.length ≤ (m.foldl putC l).length ∧ (m.foldl putC l).length ≤ l.length + m.length
  | [], l => by simp
  | c :: r, l => by
    have h1 := baPut_more l c
    have h2 := puts_fold r (putC l c)
    simp only [List.foldl_cons, List.length_cons]
    omega
theorem puts_len (l : List Cg) : (putsC l).length ≤ l.length := by
  have := puts_fold l []
  simpa [putsC] using this
theorem sort_sub : ∀ {a b : List Cg}, SortC a → SortC b → (∀ c ∈ a, findC b c.1 ≠ none) → a.length ≤ b.length
  | [], _, _, _, _ => by simp
  | x :: r, [], _, _, h => absurd rfl (h x (by simp))
  | x :: r, y :: s, ha, hb, h => by
    obtain ⟨a1, a2⟩ := sort_cons.1 ha
    obtain ⟨b1, b2⟩ := sort_cons.1 hb
    by_cases he : y.1 = x.1
    · have := sort_sub a2 b2 fun c hc => by
        have h1 := h c (List.mem_cons_of_mem _ hc)
        have hne : y.1 ≠ c.1 := by
          intro e
          have := a1 c hc
          rw [← he, e, less_irrefl] at this
          cases this
        rwa [find_cons, if_neg hne] at h1
      simp only [List.length_cons]
      omega
    · have := sort_sub ha b2 fun c hc => by
        have h1 := h c hc
        have hne : y.1 ≠ c.1 := by
          intro e
          rcases List.mem_cons.1 hc with rfl | hc
          · exact he e
          · have h2 := h x (by simp)
            rw [find_cons, if_neg he] at h2
            cases hf : findC s x.1 with
            | none => exact h2 hf
            | some d =>
              obtain ⟨d1, d2⟩ := find_path hf
              have l1 := b1 d d1
              have l2 := a1 c hc
              rw [d2, e] at l1
              rw [less_asymm l2] at l1
              cases l1
        rwa [find_cons, if_neg hne] at h1
      simp only [List.length_cons] at this ⊢
      omega

/-! ### Two batches joined -/

theorem join_find {l m : List Cg} (hl : SortC l) (hm : SortC m) (p : List UInt8) : findC (putsC (l ++ m)) p = (findC m p).or (findC l p) := by
  rw [puts_find, last_app, last_find hl, last_find hm]
/-- What is joined is of the second one, or of the first one and not of the second one. -/
theorem join_of {l m : List Cg} (hl : SortC l) (hm : SortC m) {c : Cg} (hc : c ∈ putsC (l ++ m)) : c ∈ m ∨ (c ∈ l ∧ ∀ d ∈ m, d.1 ≠ c.1) := by
  have h := sort_find (puts_sort _) hc
  rw [join_find hl hm] at h
  cases hf : findC m c.1 with
  | some d =>
    rw [hf, Option.some_or] at h
    cases h
    exact .inl (find_path hf).1
  | none =>
    rw [hf, Option.none_or] at h
    exact .inr ⟨(find_path h).1, find_no.1 hf⟩
theorem join_len {l m : List Cg} (hl : SortC l) (hm : SortC m) : l.length ≤ (putsC (l ++ m)).length ∧ m.length ≤ (putsC (l ++ m)).length ∧ (putsC (l ++ m)).length ≤ l.length + m.length := by
  have h1 := puts_fold m l
  have h2 : putsC (l ++ m) = m.foldl putC l := by rw [puts_app, puts_self hl]
  refine ⟨by rw [h2]; exact h1.1, ?_, by rw [h2]; exact h1.2⟩
  refine sort_sub hm (puts_sort _) fun c hc => ?_
  rw [join_find hl hm, sort_find hm hc]
  simp
theorem baJoin_no {l m : List Cg} (hl : isB l = true) (hm : isB m = true) (h : normB (l ++ m) = false) : 20 < l.length + m.length := by
  obtain ⟨l1, l2, l3, l4⟩ := isB_iff.1 hl
  obtain ⟨m1, m2, m3, m4⟩ := isB_iff.1 hm
  obtain ⟨j1, j2, j3⟩ := join_len l4 m4
  have ha : (l ++ m).all mayB = true := List.all_eq_true.2 fun c hc => by
    rcases List.mem_append.1 hc with hc | hc
    · exact l3 c hc
    · exact m3 c hc
  unfold normB at h
  rw [ha, Bool.true_and, decide_eq_true (show 1 ≤ (putsC (l ++ m)).length by omega), Bool.true_and] at h
  have := of_decide_eq_false h
  omega

/-! ### A change's place, as a loop finds it -/

theorem putC_at : ∀ (l : List Cg) (c : Cg) (n : Nat), n ≤ l.length → (∀ (i : Nat) (hi : i < l.length), i < n → Op.bytesLess l[i].1 c.1 = true) → (∀ hn : n < l.length, Op.bytesLess l[n].1 c.1 = false) →
    putC l c = l.take n ++ c :: (if (∃ hn : n < l.length, l[n].1 = c.1) then l.drop (n + 1) else l.drop n)
  | [], c, n, hn, _, _ => by
    have : n = 0 := by simpa using hn
    subst this
    simp [putC]
  | x :: r, c, 0, _, _, h2 => by
    have h := h2 (by simp)
    rw [List.getElem_cons_zero] at h
    rw [putC, if_neg (by simp [h])]
    by_cases he : x.1 = c.1
    · rw [if_pos he, if_pos ⟨by simp, he⟩]
      rfl
    · rw [if_neg he, if_neg (fun ⟨_, e⟩ => he e)]
      rfl
  | x :: r, c, n + 1, hn, h1, h2 => by
    have h := h1 0 (by simp) (by omega)
    rw [List.getElem_cons_zero] at h
    have ih := putC_at r c n (by simpa using hn) (fun i hi hin => h1 (i + 1) (by simpa using hi) (by omega)) (fun hn' => h2 (by simpa using hn'))
    rw [putC, if_pos h, ih]
    simp

/-- Are changes more than are looked at? -/
def bigC (l : List Cg) : Bool := decide (50 < l.length) || l.any fun c => decide (200 < c.1.length) || decide (30 < c.2.2.2.2.length)
theorem bigC_not {l : List Cg} (h : bigC l = false) : l.length ≤ 50 ∧ ∀ c ∈ l, c.1.length ≤ 200 ∧ c.2.2.2.2.length ≤ 30 := by
  unfold bigC at h
  rw [Bool.or_eq_false_iff, List.any_eq_false] at h
  refine ⟨by have := of_decide_eq_false h.1; omega, fun c hc => ?_⟩
  have := h.2 c hc
  simp at this
  omega

end Go.Proofs.YtmbnmmnoahddcaaGreatDoor

/-
  A map of paths to their last changes; maps.Values hands them on, each once, in some order.
-/
namespace Go.Proofs.YtmbnmmnoahddcaaGreatDoor
set_option maxRecDepth 100000
open Go.RowKit Go.Maps Go.Sort Go.Shelf
attribute [local go_sem] Oper.semAt_some

/-- An element reads as itself. -/
def selfR (v : Value) : Option (DataW Value × List MemPlace) := some (.held v, [])
theorem strLaw : Keyed Tryz.prog 9 := string_keyed Tryz.underlying9
/-- The last change with a path. -/
def lastS (S : List Cs) (p : List UInt8) : Option Cs := S.reverse.find? fun x => x.1.1 == p
theorem lastS_snoc (S : List Cs) (x : Cs) (p : List UInt8) : lastS (S ++ [x]) p = if x.1.1 = p then some x else lastS S p := by
  unfold lastS
  rw [List.reverse_append, List.reverse_cons, List.reverse_nil, List.nil_append, List.singleton_append, List.find?_cons]
  by_cases h : x.1.1 = p
  · rw [if_pos h, show (x.1.1 == p) = true by simpa using h]
  · rw [if_neg h, show (x.1.1 == p) = false by simpa using h]
theorem lastS_path {S : List Cs} {p : List UInt8} {x : Cs} (h : lastS S p = some x) : x ∈ S ∧ x.1.1 = p := by
  unfold lastS at h
  exact ⟨List.mem_reverse.1 (List.mem_of_find?_eq_some h), by simpa using List.find?_some h⟩
theorem lastS_chs (S : List Cs) (p : List UInt8) : lastC (S.map Prod.fst) p = (lastS S p).map Prod.fst := by
  unfold lastC findC lastS
  rw [← List.map_reverse, List.find?_map]
  rfl
/-- What a map says: of each path its last change. -/
def GDat (D : DataW Value) (S : List Cs) : Prop :=
  ∀ p, (lastS S p = none → Maps.has D (.string p) = false) ∧ ∀ x, lastS S p = some x → Maps.has D (.string p) = true ∧ ∀ zd, D.atKey (.string p) zd = .held (CsV x)
theorem gdat_nil : GDat (.map []) [] := fun p => ⟨fun _ => rfl, fun x h => by simp [lastS] at h⟩
theorem gdat_put {D : DataW Value} {S : List Cs} {x : Cs} (h : GDat D S) (hD : IsMap D) : GDat (D.put (.string x.1.1) (.held (CsV x))) (S ++ [x]) := by
  intro p
  rw [lastS_snoc]
  by_cases hp : x.1.1 = p
  · subst hp
    rw [if_pos rfl]
    refine ⟨fun e => absurd e (by simp), fun y e => ?_⟩
    obtain rfl := Option.some.inj e
    have hk : WideAt.IsKeyLit (.string x.1.1) := by simp [WideAt.IsKeyLit]
    exact ⟨has_put_same hD hk _, fun zd => atKey_put_same hD hk _ _⟩
  · have hne : (Lit.string p) ≠ .string x.1.1 := fun e => hp (by cases e; rfl)
    rw [if_neg hp, has_put_other hne]
    refine ⟨(h p).1, fun y e => ⟨((h p).2 y e).1, fun zd => ?_⟩⟩
    rw [atKey_put_other hne]
    exact ((h p).2 y e).2 zd
/-- These are the last ones, each once. -/
def AllLast (S ys : List Cs) : Prop := (ys.map fun y => y.1.1).Nodup ∧ (∀ y ∈ ys, lastS S y.1.1 = some y) ∧ ∀ p, lastS S p ≠ none → p ∈ ys.map fun y => y.1.1
/-- Laid in their order they are what Norm tells. -/
theorem allLast_puts {S ys zs : List Cs} (h : AllLast S ys) (hp : zs.Perm ys) (hs : zs.Pairwise (fun x y => Op.bytesLess y.1.1 x.1.1 = false)) : zs.map Prod.fst = putsC (S.map Prod.fst) := by
  obtain ⟨h1, h2, h3⟩ := h
  have hn : zs.Pairwise fun x y => x.1.1 ≠ y.1.1 := by
    have := (hp.map fun y => y.1.1).nodup_iff.2 h1
    exact List.pairwise_map.1 this
  have hz : SortC (zs.map Prod.fst) := by
    unfold SortC
    rw [List.pairwise_map]
    exact (hs.and hn).imp fun ⟨a, b⟩ => less_total a (Ne.symm b)
  refine sort_same hz (puts_sort _) fun p => ?_
  rw [puts_find, lastS_chs]
  cases hl : lastS S p with
  | none =>
    rw [Option.map_none, find_no]
    intro c hc e
    obtain ⟨y, hy, rfl⟩ := List.mem_map.1 hc
    have := h2 y (hp.mem_iff.1 hy)
    rw [e, hl] at this
    cases this
  | some x =>
    have hx := h3 p (by rw [hl]; simp)
    obtain ⟨y, hy, e⟩ := List.mem_map.1 hx
    have hy2 := h2 y hy
    rw [e, hl] at hy2
    cases hy2
    have := sort_find hz (List.mem_map.2 ⟨x, hp.mem_iff.2 hy, rfl⟩)
    rw [e] at this
    rw [this]
    rfl

theorem size_map {w : World} {b n : Nat} {D : DataW Value} (h : w.ownsMap Tryz.prog 9 selfR b n D) : Maps.size D ≤ n := by
  obtain ⟨es, clock, _, _, hs, rfl⟩ := h
  have : Maps.size (DataW.map ((es.toList.map (Go.WideElems.rg Tryz.prog 9 selfR)).foldr DataW.insert [])) = es.size := by
    simp [Maps.size, length_sorted]
  omega

set_option maxHeartbeats 4000000 in
theorem vals_in (n : Nat) (hn : 2 ≤ n) (l Bm b nn : Nat) (D0 : DataW Value) (S : List Cs) (hG : GDat D0 S) (J Jx : List Cs → World → Prop)
    (hY : ∀ pre x W, J pre W → pre.length < nn → YieldAt Fence.wide (n - 1) Tryz.prog l #[CsV x] W fun e W' =>
      (e = .returned (.bool true) ∧ J (pre ++ [x]) W' ∧ KeepsWalks W W') ∨ (e = .returned (.bool false) ∧ Jx (pre ++ [x]) W'))
    (W : World) (hJ : AbidesFrom W.heap.size J) (hm : W.cell? ⟨Bm, 0, none⟩ = some (.map (some b))) (hown : W.ownsMap Tryz.prog 9 selfR b nn D0) (h0 : J [] W) :
    CallsIn Fence.wide n Tryz.prog 42 #[.func (.yield l) #[] #[], .pointer (some ⟨Bm, 0, none⟩)] W fun e W' => (∃ v, e = .returned v) ∧
      ((∃ ys, AllLast S ys ∧ J ys W') ∨ (∃ pre, True ∧ Jx pre W')) := by
  have hfw : ∀ f, Fence.wide.fn f := fun _ => trivial
  have hn1 : 1 ≤ n := by omega
  have hsz0 := size_map hown
  have HG := Lib.hid hG
  clear hG
  refine callsIn_of_wp Tryz.func42 rfl trivial ?_ rfl
  simp only [Tryz.ntmps42, List.size_toArray, List.length_cons, List.length_nil, Nat.reduceAdd, Nat.reduceSub, Array.replicate_succ, Array.replicate_zero, List.push_toArray, List.append_toArray, List.nil_append, List.cons_append]
  gi_wp2_with (gi_at_range; refine wpListIn_range_own _ rfl _ 41 rfl 9 42 strLaw Tryz.underlying41 _ b nn _ rfl hown ?_; intro w0 hrg0 hg0 hs0)
  go_frame
  gi_loopw [4] (fun _ wr => ∃ (left : Lit → Bool) (cnt : Nat) (ys : List Cs), wr.ranges Tryz.prog 9 selfR b W.heap.size nn D0 left cnt ∧ ys.length + cnt ≤ Maps.size D0 ∧ Hid (Collected D0 left (ys.map fun y => y.1.1) ∧ ∀ y ∈ ys, lastS S y.1.1 = some y) ∧ Hid (J ys wr) ∧ W.heap.size ≤ wr.heap.size)
    (fun _ wr => wr.rangeLeft b W.heap.size)
  case atStart =>
    exact ⟨_, _, [], hrg0, by simp, Lib.hid ⟨Collected.start D0, by simp⟩, Lib.hid (hJ [] W w0 none h0 hg0 (fun r e => by cases e)), by omega⟩
  case round =>
    obtain ⟨left, cnt, ys, hrg, hcs, hC, hJs, hszr⟩ := hrel
    gi_wp2_with (gi_at_next; refine wpListIn_next_ranges _ rfl _ rfl 9 strLaw selfR encStr id (fun key kl hk => by obtain ⟨x, hx, _⟩ := Maps.keyOf_str Tryz.underlying9 hk; exact ⟨x, hx⟩) (fun v _ _ => ⟨v, rfl⟩) b W.heap.size nn _ _ _ rfl hrg ?_ ?_)
    · intro hc0 hl0
      have HA : Hid (AllLast S ys) := Lib.hid (by
        obtain ⟨⟨c1, c2⟩, c3⟩ := hC.out
        refine ⟨c1, c3, fun p hp => ?_⟩
        rw [c2 p, hl0]
        cases hq : lastS S p with
        | none => exact absurd hq hp
        | some x => exact ⟨((HG.out p).2 x hq).1, rfl⟩)
      gi_wp2
      go_end0
      exact ⟨⟨_, rfl⟩, .inl ⟨ys, HA.out, hJs.out⟩⟩
    · intro x c kl yd yp w2 cnt2 hkey hlk hv hat hrg2 hlt hg2 hs2 hen
      obtain ⟨x', ex, rfl, _⟩ := Maps.keyOf_str Tryz.underlying9 hkey
      obtain rfl : x = x' := encStr_inj ex
      have hyd : yd = .held c := by
        simp only [selfR, Option.some.injEq, Prod.mk.injEq] at hv
        exact hv.1.symm
      obtain ⟨y, hy⟩ : ∃ y, lastS S x = some y := by
        have hh := has_true_of_atKey hat
        cases hq : lastS S x with
        | none =>
          rw [(HG.out x).1 hq] at hh
          cases hh
        | some y => exact ⟨y, rfl⟩
      obtain ⟨_, hpx⟩ := lastS_path hy
      have HC2 : Hid (Collected D0 (fun z => left z && !z.sameKey (.string x)) ((ys ++ [y]).map fun y => y.1.1) ∧ ∀ z ∈ ys ++ [y], lastS S z.1.1 = some z) := Lib.hid (by
        obtain ⟨c1, c2⟩ := hC.out
        refine ⟨by have := c1.step hlk hat; rw [List.map_append, List.map_cons, List.map_nil, hpx]; exact this, fun z hz => ?_⟩
        rcases List.mem_append.1 hz with hz | hz
        · exact c2 z hz
        · obtain rfl := List.mem_singleton.1 hz
          rw [hpx]
          exact hy)
      obtain ⟨⟨p, g, z, d, cs⟩, s1, s2, s3⟩ := y
      have hc : c = CV p g z d (.slice s1 s2 s3) := by
        have h1 := ((HG.out x).2 _ hy).2 (.held c)
        rw [hat, hyd] at h1
        exact DataW.held.inj h1
      subst hc
      have hg2' := hg2
      have HJ2 : Hid (J ys (w2.alloc (.cells #[.string ⟨p.toArray⟩, .bool g, .int .i64 z, .int .i64 d, .slice s1 s2 s3] 42))) := Lib.hid (by
        have hJ2 : J ys w2 := hJ ys wr w2 (some W.heap.size) hJs.out hg2 (fun r e => by cases e; exact ⟨Nat.le_refl _, hrg.iter_walk⟩)
        exact hJ ys w2 _ none hJ2 (World.grownBy_alloc _ _ _) (fun r e => by cases e))
      have hrg3 := hrg2.alloc (.cells #[.string ⟨p.toArray⟩, .bool g, .int .i64 z, .int .i64 d, .slice s1 s2 s3] 42)
      obtain ⟨fn, tmps, assign, body, hy2, hR⟩ := hY ys ((p, g, z, d, cs), (s1, s2, s3)) _ HJ2.out (by omega)
      have hszW : W.heap.size ≤ w2.heap.size := by omega
      clear hs2 hy hkey hlk hv hat hyd hpx hY hC hJs hrg2
      change (Instr.yield l #[CV p g z d (.slice s1 s2 s3)]).run _ _ = _ at hy2
      gi_wp2
      refine hR.mono ?_
      rintro e W3 (⟨rfl, hJ3, hk3⟩ | ⟨rfl, hJx3⟩)
      · have hrg4 := hrg3.of_walks hk3
        have hsz3 := hk3.size
        have HJ3 := Lib.hid hJ3
        clear hJ3
        gi_wp2
        go_roundw
        case rel => exact ⟨_, cnt2, _, hrg4, by simp; omega, HC2, HJ3, by simp at hsz3; omega⟩
        case measure => rw [hrg4.left_eq, hrg.left_eq]; exact hlt
      · gi_wp2
        refine bodyPost_ret (results_none rfl _ _ _) rfl ?_
        exact ⟨⟨_, rfl⟩, .inr ⟨_, trivial, hJx3⟩⟩

end Go.Proofs.YtmbnmmnoahddcaaGreatDoor

/-
  batch: byPath; slices.SortFunc of changes by their paths.
-/
namespace Go.Proofs.YtmbnmmnoahddcaaGreatDoor
set_option maxRecDepth 100000
open Go.RowKit Go.Sort Go.Shelf

def cfC (x y : Cs) : Int := Lib.compareBytes x.1.1 y.1.1
theorem ltC (x y : Cs) : ltOf cfC x y = Op.bytesLess x.1.1 y.1.1 := by
  unfold ltOf cfC
  rw [cmp_less]
  cases h : Op.bytesLess x.1.1 y.1.1 with
  | true => simp
  | false =>
    rw [if_neg (by simp)]
    split <;> simp
theorem swoC : SWO (ltOf cfC) where
  irrefl x := by rw [ltC, less_irrefl]
  trans x y z h1 h2 := by
    rw [ltC] at *
    exact less_trans h1 h2
  ntrans x y z h1 h2 := by
    rw [ltC] at *
    cases h : Op.bytesLess x.1.1 z.1.1 with
    | false => rfl
    | true =>
      by_cases he : x.1.1 = y.1.1
      · rw [← he, h] at h2
        cases h2
      · have h3 := less_trans (less_total h1 he) h
        rw [h3] at h2
        cases h2

theorem byPath_lays (blk off size : Nat) (w : World) : CmpLays Tryz.prog 23 #[] encCs 5 cfC blk off size w :=
  fun _ _ _ _ x y => byPath_calls x y _
/-! ### The row's cells -/

theorem encCs_one (x : Cs) : ∀ v ∈ encCs x, v.oneCell' = true := by
  intro v hv
  simp [encCs, ccell, toCv, sval] at hv
  rcases hv with rfl | rfl | rfl | rfl | rfl <;> rfl
theorem cells_flat (S : List Cs) : ccells (S.map toCv) = S.flatMap encCs := by
  simp only [ccells, List.flatMap_map]
  rfl
theorem flat_cells (S : List Cs) : (flatK encCs 5 S.toArray).toList = S.flatMap encCs := by
  rw [← cells_flat]
  have hl := ccells_len (S.map toCv)
  rw [List.length_map] at hl
  refine List.ext_getElem? fun t => ?_
  by_cases ht : t < S.length * 5
  · have h1 := get_flatK encCs 5 S.toArray t (by simpa using ht)
    rw [Array.getElem?_toList, Array.getElem?_eq_getElem (by simpa using ht), ← getElem!_pos, h1]
    obtain ⟨q, r, hr, rfl⟩ : ∃ q r, r < 5 ∧ t = q * 5 + r := ⟨t / 5, t % 5, Nat.mod_lt _ (by omega), by omega⟩
    have e1 : (q * 5 + r) / 5 = q := by omega
    have e2 : (q * 5 + r) % 5 = r := by omega
    have hq : q < S.length := by omega
    obtain ⟨c0, c1, c2, c3, c4⟩ := ccells_at (S.map toCv) q (by simpa using hq)
    have hx : S.toArray[q]! = S[q] := by simp [hq]
    rw [e1, e2, hx]
    simp only [List.getElem_map] at c0 c1 c2 c3 c4
    rcases (by omega : r = 0 ∨ r = 1 ∨ r = 2 ∨ r = 3 ∨ r = 4) with rfl | rfl | rfl | rfl | rfl
    · rw [Nat.add_zero, c0]; rfl
    · rw [c1]; rfl
    · rw [c2]; rfl
    · rw [c3]; rfl
    · rw [c4]; rfl
  · rw [List.getElem?_eq_none (by simp; omega), List.getElem?_eq_none (by omega)]

theorem cs_agg (w : World) : (isAgg 42).run Tryz.prog w = .ok true w := by simp [isAgg, run_underlying Tryz.underlying42]
theorem cs_size (w : World) : (Go.sizeOf 42).run Tryz.prog w = .ok 5 w := by
  have h : (Tryz.prog.info? 42).map (·.size) = some 5 := by kernel_rfl
  cases hq : Tryz.prog.info? 42 with
  | none => simp [hq] at h
  | some i =>
    have hs : i.size = 5 := by simpa [hq] using h
    simp [sizeOf, typeInfo, hq, hs]

/-- A row of changes of the call's own (the program's own type). -/
def OwnS (w : World) (base : Nat) (v : Value) (S : List Cs) : Prop := w.ownsRow base 42 5 v S.length (S.flatMap encCs)

theorem heap_put {w : World} {g n : Nat} {os : Array Obj} {cur : Array Value} {e : TypeId} {fr : Nat × Nat} (F : Array Value) (hb : w.heap[g]? = some (.cells cur e fr)) :
    (grow (putRow id (Sort.ahead w n) g 0 F) os).heap[g]? = some (.cells (putCells id 0 F cur) e fr) := by
  have hg : g < w.heap.size := (Array.getElem?_eq_some_iff.1 hb).1
  rw [heap_grow_old _ _ (by simpa using hg)]
  simp [putRow, mapBlock, Sort.ahead, Array.getElem?_modify, hb, onCells]
theorem grown_put {w : World} {g n : Nat} {os : Array Obj} (F : Array Value) : w.grownBy (grow (putRow id (Sort.ahead w n) g 0 F) os) (some g) := by
  refine ⟨rfl, rfl, rfl, by simp, fun k hk hne => ?_⟩
  rw [heap_grow_old _ _ (by simpa using hk)]
  have : g ≠ k := fun e => hne (by rw [e])
  simp [putRow, mapBlock, Sort.ahead, Array.getElem?_modify, this]
theorem take_put (cur F : Array Value) (h : F.size ≤ cur.size) : (putCells id 0 F cur).toList.take F.size = F.toList := by
  apply List.ext_getElem?
  intro j
  by_cases hj : j < F.size
  · rw [List.getElem?_take_of_lt hj, Array.getElem?_toList, Array.getElem?_toList]
    simp [putCells, hj, show j < cur.size by omega]
  · rw [List.getElem?_take_eq_none (by omega), List.getElem?_eq_none (by simp; omega)]

theorem own_none {w : World} {base n cap : Nat} {e : TypeId} {k : Nat} {xs : List Value} (h : w.ownsRow base e k (.slice none n cap) n xs) : n = 0 := by
  rcases h.2 with ⟨_, h0⟩ | ⟨g, c, cur, hv, _⟩
  · exact h0
  · cases hv

set_option maxHeartbeats 1000000 in
/-- slices.SortFunc by paths. -/
theorem sortC_calls (v : Value) (S : List Cs) (base : Nat) (w : World) (h : OwnS w base v S) (hm : S.length ≤ 1000000) :
    Calls Tryz.prog 41 #[v, .func (.func 23) #[] #[]] w fun e w' => e = .returned (.tuple #[]) ∧
      ∃ S' : List Cs, S'.Perm S ∧ S'.Pairwise (fun x y => Op.bytesLess y.1.1 x.1.1 = false) ∧ OwnS w' base v S' ∧ w.grownBy w' v.ownBlock := by
  have eg : ∀ args w, (callFunc 23 args).run Tryz.prog w = .ok (.enter 23 args) w := enters_of Tryz.func23 (by kernel_rfl) rfl
  rcases h.2 with ⟨rfl, h0⟩ | ⟨g, cap, cur, rfl, hbase, hb, h1, h2, h3, h4⟩
  · have hcon := AnyF.slices_SortFunc_none (P := Tryz.prog) (ρ := Tryz.sortCg_ren) { Tryz.sortCg with } none 0 (.func (.func 23) #[] #[]) w
    change Calls Tryz.prog 41 _ _ _ at hcon
    obtain rfl : S = [] := List.eq_nil_of_length_eq_zero h0
    refine hcon.mono ?_
    rintro e w' ⟨rfl, rfl⟩
    exact ⟨rfl, [], List.Perm.refl _, List.Pairwise.nil, h, grown_refl _ _⟩
  · have hH : HoldsK encCs 5 w g 0 S.toArray := by
      intro j hj
      have hj1 : j < S.length * 5 := by simpa using hj
      refine ⟨?_, by simp [World.frozen?, hb]⟩
      have hc := h.cellAt j hj1
      have e1 : (flatK encCs 5 S.toArray)[j]! = (flatK encCs 5 S.toArray)[j] := getElem!_pos (flatK encCs 5 S.toArray) j hj
      have e2 : (S.flatMap encCs)[j]? = some (flatK encCs 5 S.toArray)[j] := by
        rw [← flat_cells, Array.getElem?_toList, Array.getElem?_eq_getElem hj]
      rw [Nat.zero_add, hc, e1, e2]
      rfl
    have hgl : g < w.heap.size := (Array.getElem?_eq_some_iff.1 hb).1
    have hcon := AnyQ.slices_SortFunc Tryz.sortCg 5 cs_agg cs_size encCs (fun _ => rfl) encCs_one cfC swoC 23 #[] g 0 cap S.toArray w eg (byPath_lays _ _ _ _) hH hgl (by simp; omega)
    change Calls Tryz.prog 41 _ _ _ at hcon
    rw [List.size_toArray] at hcon
    refine hcon.mono ?_
    rintro e w' ⟨rfl, d', n, os, ⟨hp1, _, hp3⟩, hs, rfl⟩
    have hsz : d'.size = S.length := by simpa using hp1
    have hlen : d'.toList.length = S.length := by simpa using hsz
    have hperm : d'.toList.Perm S := by
      have e1 : (d'.extract 0 S.length).toList = d'.toList := by rw [← hsz]; simp
      have e2 : (S.toArray.extract 0 S.length).toList = S := by simp
      rw [e1, e2] at hp3
      exact hp3
    refine ⟨rfl, d'.toList, hperm, ?_, ?_, grown_put _⟩
    · rw [List.pairwise_iff_getElem]
      intro i j hi hj hij
      have := hs i j (Nat.zero_le _) hij (by omega)
      rw [ltC] at this
      rw [getElem!_pos d' i (by simpa using hi), getElem!_pos d' j (by simpa using hj)] at this
      simpa using this
    · have hF : (flatK encCs 5 d').toList = d'.toList.flatMap encCs := by
        have := flat_cells d'.toList
        rwa [Array.toArray_toList] at this
      have hFs : (flatK encCs 5 d').size = S.length * 5 := by simp [hsz]
      unfold OwnS
      rw [hlen, ← hF]
      refine ⟨by simpa using hFs, .inr ⟨g, cap, _, rfl, hbase, heap_put _ hb, h1, h2, by simp [putCells, h3], ?_⟩⟩
      rw [← hFs]
      exact take_put cur _ (by rw [hFs, h3]; exact Nat.mul_le_mul_right _ h1)

end Go.Proofs.YtmbnmmnoahddcaaGreatDoor

/-
  maps.Values, slices.Collect, slices.SortedFunc: the last changes of each path, by their paths.
-/
namespace Go.Proofs.YtmbnmmnoahddcaaGreatDoor
set_option maxRecDepth 100000
open Go.RowKit Go.Maps Go.Sort Go.Shelf
attribute [local go_sem] Oper.semAt_some

theorem vals_stops (n : Nat) (hn : 2 ≤ n) (Bm b nn : Nat) (D0 : DataW Value) (S : List Cs) (hG : GDat D0 S) (w : World) (hBm : Boxed w Bm 41 (.map (some b))) (hown : w.ownsMap Tryz.prog 9 selfR b nn D0) :
    SeqStopsK Fence.wide n Tryz.prog 42 #[.pointer (some ⟨Bm, 0, none⟩)] (fun x => #[CsV x]) KeepsWalks (AllLast S) (fun _ => True) nn w := fun l J Jx W hW hJ _ hY h0 =>
  vals_in n hn l Bm b nn D0 S hG J Jx hY W hJ ((hW.cell (p := ⟨Bm, 0, none⟩) hBm.lt).trans hBm.cell) (hown.kept (below_grown hW) (by simp)) h0

set_option maxHeartbeats 1000000 in
theorem values_calls (b : Nat) (w : World) :
    Calls Tryz.prog 22 #[.map (some b)] w fun e w' => e = .returned (.func (.func 42) #[] #[.pointer (some ⟨w.heap.size, 0, none⟩)]) ∧ w' = w.alloc (.cells #[.map (some b)] 41) := by
  go_enter Tryz.func22, Tryz.ntmps22
  go_wp2_with fail
  go_ret
  exact ⟨rfl, rfl⟩

theorem infoCs : (Tryz.prog.info? 42).map (fun i => (i.zero, i.size, i.bytes)) = some (some (.agg #[.string ⟨#[]⟩, .bool false, .int .i64 0, .int .i64 0, .slice none 0 0]), 5, 64) := by kernel_rfl
theorem news_lit (w : World) (cs : List Value) (t : TypeId) : ∀ j u, cs[j]? = some u → (w.alloc (.cells cs.toArray t)).cell? ((⟨w.heap.size, 0, none⟩ : Addr).add j) = some u := by
  intro j u h
  rw [Go.WideShapes.add_plain, Nat.zero_add, World.cell?_alloc_new]
  simp [h]

set_option maxHeartbeats 4000000 in
theorem appSeq_calls (Bm b nn : Nat) (D0 : DataW Value) (S : List Cs) (hG : GDat D0 S) (w : World) (hBm : Boxed w Bm 41 (.map (some b))) (hown : w.ownsMap Tryz.prog 9 selfR b nn D0) (hnn : nn ≤ 100000) :
    Calls Tryz.prog 63 #[.slice none 0 0, .func (.func 42) #[] #[.pointer (some ⟨Bm, 0, none⟩)]] w fun e w' =>
      ∃ v ys, e = .returned v ∧ AllLast S ys ∧ OwnS w' w.heap.size v ys ∧ ys.length ≤ nn ∧ Below w.heap.size w w' := by
  obtain ⟨i0, hi, hz0, hz1, hz2⟩ := info_parts infoCs
  have hB0 := below_alloc w (.cells #[.slice none 0 0] 43)
  have hv0 := Boxed.new w 43 (.slice none 0 0)
  obtain ⟨W0, hW0⟩ : ∃ W0, W0 = w.alloc (.cells #[.slice none 0 0] 43) := ⟨_, rfl⟩
  have hst := vals_stops 5 (by omega) Bm b nn D0 S hG W0 (by rw [hW0]; exact hBm.alloc _) (by rw [hW0]; exact hown.alloc _)
  have hsz0 : W0.heap.size = w.heap.size + 1 := by rw [hW0]; simp
  rw [← hW0] at hB0 hv0
  have HW := Lib.hid hW0
  have HST := Lib.hid hst
  clear hW0 hst hG hBm hown
  refine (callsIn_wide (n := 6)).1 ?_
  refine callsIn_of_wp_marks Tryz.func63 rfl trivial ?_ rfl
  simp only [Tryz.ntmps63, List.size_toArray, List.length_cons, List.length_nil, Nat.reduceAdd, Nat.reduceSub, Array.replicate_succ, Array.replicate_zero, List.push_toArray, List.append_toArray, List.nil_append, List.cons_append]
  refine wpIn_wide.2 ?_
  go_wp2_with fail
  rw [← HW.out]
  refine (wpIn_wide (n := 6)).1 ?_
  refine wpIn_rangeFunc_ownH rfl (by omega) (gf := 42) (lb := #[.pointer (some ⟨Bm, 0, none⟩)]) rfl trivial (enters_of Tryz.func42 (by kernel_rfl) rfl)
    HST.out walksK_t walksK_b (Below.refl _ _) (fun _ => rfl)
    (fun pre W => ((∃ v, Boxed W w.heap.size 43 v ∧ W.ownsRow w.heap.size 42 5 v pre.length (pre.flatMap encCs) ∧ True) ∧ Below w.heap.size w W) ∧ (W0.heap.size ≤ W.heap.size ∧ pre.length ≤ nn))
    (fun _ _ _ => False)
    (OwnFrom.and (OwnFrom.and (Own.from (holdsRow_own w.heap.size w.heap.size 43 42 5 (fun pre : List Cs => pre.length) (fun pre => pre.flatMap encCs) (fun _ _ => True)) _) (ownFrom_below (Nat.le_refl _) hB0.size)) (fun _ _ _ _ hs hg _ => ⟨Nat.le_trans hs.1 hg.size, hs.2⟩))
    (fun _ _ _ _ _ hs _ _ => hs)
    ⟨⟨⟨_, hv0, World.ownsRow_nil _ _ _ _, trivial⟩, hB0⟩, Nat.le_refl _, Nat.zero_le _⟩
    (fun x a' W => ∃ Br, W0.heap.size ≤ Br ∧ W.heap[Br]? = some (.cells (encCs x).toArray 42 (0, 0)) ∧ a' = { tmps := #[.slice none 0 0, .func (.func 42) #[] #[.pointer (some ⟨Bm, 0, none⟩)], .pointer (some ⟨w.heap.size, 0, none⟩), undef, .slice none 0 0, .pointer (some ⟨Br, 0, none⟩), .func (.func 42) #[] #[.pointer (some ⟨Bm, 0, none⟩)], CsV x, undef, undef, undef, undef, undef], defers := [] })
    ?hAx ?assign ?body ?done ?stop
  case hAx =>
    rintro x a' u W W' row ⟨Br, h1, h2, h3⟩ hg hr
    refine ⟨Br, h1, ?_, h3⟩
    rw [hg.block Br (Array.getElem?_eq_some_iff.1 h2).1 (fun e => by obtain ⟨_, o, ho, hc⟩ := hr Br e.symm; rw [h2] at ho; cases ho; cases hc)]
    exact h2
  case assign =>
    rintro l pre ⟨⟨p, g, z, d, cs⟩, s1, s2, s3⟩ W K ⟨⟨⟨v, hv, hrow, _⟩, hBW⟩, hw2, hw3⟩ hK
    change Code.wpIn _ _ _ _ _ { tmps := (#[_].zip #[CV p g z d (.slice s1 s2 s3)]).foldl _ _, defers := [] } W
    gi_wp2
    have hBn := below_alloc W (.cells #[.string ⟨p.toArray⟩, .bool g, .int .i64 z, .int .i64 d, .slice s1 s2 s3] 42)
    exact hK _ _ ((KeepsOthers.alloc _ _).from _) (KeepsWalks.alloc _ _) ⟨⟨⟨v, hv.kept (below_grown hBn) (by simp), own_stays hrow hBn, trivial⟩, below2 hBW hBn⟩, by simp; omega, hw3⟩ ⟨W.heap.size, hw2, heap_alloc_new W _, rfl⟩
  case body =>
    rintro l pre ⟨⟨p, g, z, d, cs⟩, s1, s2, s3⟩ a' W hl ⟨r, hr⟩ ⟨⟨⟨v, hv, hrow, _⟩, hBW⟩, hw2, hw3⟩ ⟨Br, hBr, bW, rfl⟩ hlt
    have hc := hv.cell
    have hszW := hBW.size
    have hfw : ∀ f, Fence.wide.fn f := fun _ => trivial
    have bW5 : Cx W Br 42 [.string ⟨p.toArray⟩, .bool g, .int .i64 z, .int .i64 d, .slice s1 s2 s3] := bW
    obtain ⟨c0, c1, c2, c3, c4⟩ := bW5.five
    clear bW bW5
    gi_wp2_with (gi_at_builtin; refine wpListIn_append_own _ rfl _ _ 43 rfl w.heap.size 42 i0 _ 5 64 Tryz.underlying43 hi hz0 hz1 hz2 rfl (by decide) _ _ _ rfl (hrow.alloc _) ⟨W.heap.size, 0, none⟩ 1 1 (encCs ((p, g, z, d, cs), (s1, s2, s3))) rfl rfl (news_lit W _ _) (encCs_one _) (by unfold maxLen; omega) (by omega) (by simp; omega) ?_; intro v' w3 hown' hgrow _; obtain ⟨g', cap', rfl⟩ := ownsRow_succ hown'; obtain ⟨hv1', hv2', hr2, hk2, hb2⟩ := hv.appended (by decide) hrow hszW (Nat.le_refl _) hown' hgrow; have hc1 := hv1'.cell; have hf1 := hv1'.frozen)
    refine ⟨hk2.from _, hk2.walks, ⟨⟨_, hv2', ?_, trivial⟩, hBW.trans hb2⟩, ?_, ?_⟩
    · simpa using hr2
    · have := hgrow.size
      simp at this ⊢
      omega
    · simp
      omega
  case done =>
    rintro D ys W hD hA ⟨⟨⟨v, hv, hrow, _⟩, hBW⟩, hw2, hw3⟩ hK
    have hc := hv.cell
    have HA := Lib.hid hA
    clear hA
    go_wp2
    refine ⟨by simp, .inl ⟨_, _, rfl, run_takeDeferred hK, ?_⟩⟩
    exact ⟨_, results_tmp rfl _ _ _, v, ys, rfl, HA.out, ownsRow_putObj hrow _ hK rfl, hw3, hBW.trans (belowK_b (w := W0) (by omega) W D _ _ hD hK rfl rfl)⟩
  case stop =>
    rintro D c pre W _ _ h _
    exact h.elim

set_option maxHeartbeats 1000000 in
theorem collect_calls (Bm b nn : Nat) (D0 : DataW Value) (S : List Cs) (hG : GDat D0 S) (w : World) (hBm : Boxed w Bm 41 (.map (some b))) (hown : w.ownsMap Tryz.prog 9 selfR b nn D0) (hnn : nn ≤ 100000) :
    Calls Tryz.prog 40 #[.func (.func 42) #[] #[.pointer (some ⟨Bm, 0, none⟩)]] w fun e w' =>
      ∃ v ys, e = .returned v ∧ AllLast S ys ∧ OwnS w' w.heap.size v ys ∧ ys.length ≤ nn ∧ Below w.heap.size w w' := by
  have K := Lib.hid (appSeq_calls Bm b nn D0 S hG w hBm hown hnn)
  clear hG hBm hown
  go_enter Tryz.func40, Tryz.ntmps40
  go_wp2_with fail
  refine K.out.mono ?_
  rintro e w1 ⟨v, ys, rfl, h1, h2, h3, h4⟩
  have H := Lib.hid (And.intro h1 (And.intro h2 (And.intro h3 h4)))
  obtain ⟨ao, n, cap, rfl⟩ := own_form h2
  clear h1 h2 h3 h4
  go_wp2_with fail
  go_ret
  exact ⟨_, ys, rfl, H.out⟩

set_option maxHeartbeats 1000000 in
theorem sorted_calls (Bm b nn : Nat) (D0 : DataW Value) (S : List Cs) (hG : GDat D0 S) (w : World) (hBm : Boxed w Bm 41 (.map (some b))) (hown : w.ownsMap Tryz.prog 9 selfR b nn D0) (hnn : nn ≤ 100000) :
    Calls Tryz.prog 21 #[.func (.func 42) #[] #[.pointer (some ⟨Bm, 0, none⟩)], .func (.func 23) #[] #[]] w fun e w' =>
      ∃ v zs, e = .returned v ∧ zs.map Prod.fst = putsC (S.map Prod.fst) ∧ (∀ z ∈ zs, z ∈ S) ∧ OwnS w' w.heap.size v zs ∧ zs.length ≤ nn ∧ Below w.heap.size w w' := by
  have K := Lib.hid (collect_calls Bm b nn D0 S hG w hBm hown hnn)
  clear hG hBm hown
  go_enter Tryz.func21, Tryz.ntmps21
  go_wp2_with fail
  refine K.out.mono ?_
  rintro e w1 ⟨v, ys, rfl, h1, h2, h3, h4⟩
  have KS := Lib.hid (sortC_calls v ys _ w1 h2 (by omega))
  have H := Lib.hid (And.intro h1 (And.intro h2 (And.intro h3 h4)))
  obtain ⟨ao, n, cap, rfl⟩ := own_form h2
  clear h1 h2 h3 h4
  go_wp2_with fail
  refine KS.out.mono ?_
  rintro e w2 ⟨rfl, zs, hp, hs, ho, hg⟩
  have HZ := Lib.hid (And.intro hp (And.intro hs (And.intro ho hg)))
  clear hp hs ho hg
  go_wp2_with fail
  go_ret
  obtain ⟨hp, hs, ho, hg⟩ := HZ.out
  obtain ⟨h1, h2, h3, h4⟩ := H.out
  exact ⟨_, zs, rfl, allLast_puts h1 hp hs, fun z hz => (lastS_path (h1.2.1 z (hp.mem_iff.1 hz))).1, ho, by rw [hp.length_eq]; exact h3, h4.grown hg h4.size fun j e => (h2.lt j e).1⟩

end Go.Proofs.YtmbnmmnoahddcaaGreatDoor

/-
  batch: copied; a change as a result.
-/
namespace Go.Proofs.YtmbnmmnoahddcaaGreatDoor
set_option maxRecDepth 100000
open Go.RowKit

theorem change_agg (w : World) : (isAgg 36).run Tryz.prog w = .ok true w := by simp [isAgg, run_underlying Tryz.underlying36]
theorem change_size : (Tryz.prog.info? 36).map (·.size) = some 5 := by kernel_rfl
theorem load_change (w : World) (g : Nat) (v0 v1 v2 v3 v4 : Value) (c0 : w.cell? ⟨g, 0, none⟩ = some v0) (c1 : w.cell? ⟨g, 1, none⟩ = some v1) (c2 : w.cell? ⟨g, 2, none⟩ = some v2) (c3 : w.cell? ⟨g, 3, none⟩ = some v3) (c4 : w.cell? ⟨g, 4, none⟩ = some v4) :
    (loadVar 36 ⟨g, 0, none⟩).run Tryz.prog w = .ok (.agg #[v0, v1, v2, v3, v4]) w :=
  load_many (cs := [v0, v1, v2, v3, v4]) (change_agg w) change_size fun j u hu => by
    match j, hu with
    | 0, hu => simp at hu; subst hu; simpa using c0
    | 1, hu => simp at hu; subst hu; simpa using c1
    | 2, hu => simp at hu; subst hu; simpa using c2
    | 3, hu => simp at hu; subst hu; simpa using c3
    | 4, hu => simp at hu; subst hu; simpa using c4
theorem ret_change {fn : Func} {p : Tmp} {R : Ending → World → Prop} {a : Act} {w : World} (h : fn.results = #[.cell p 36]) (hd : a.defers = []) (g : Nat) (v0 v1 v2 v3 v4 : Value) (hp : a.tmps.getD p undef = .pointer (some ⟨g, 0, none⟩))
    (c : Cx w g 36 [v0, v1, v2, v3, v4]) (hR : R (.returned (.agg #[v0, v1, v2, v3, v4])) w) : bodyPost Tryz.prog fn R .ret a w := by
  obtain ⟨c0, c1, c2, c3, c4⟩ := c.five
  refine bodyPost_ret (v := .agg #[v0, v1, v2, v3, v4]) ?_ hd hR
  have hp' : a.tmps[p]?.getD undef = .pointer (some ⟨g, 0, none⟩) := by simpa using hp
  simp [results, h, hp', asAddr, load_change w g v0 v1 v2 v3 v4 c0 c1 c2 c3 c4]

set_option maxHeartbeats 4000000 in
theorem copied_calls (p : List UInt8) (g : Bool) (z d : Int) (v : Value) (cs : List Int) (w : World) (hv : Ints w v cs) (hl : cs.length ≤ 1000000) :
    Calls Tryz.prog 24 #[CV p g z d v] w fun e w' => ∃ v', e = .returned (CV p g z d v') ∧ OwnI w' w.heap.size v' cs ∧ Below w.heap.size w w' := by
  obtain ⟨ao, cap, rfl⟩ := hv.form
  obtain ⟨i0, hi, hz0, hz1, hz2⟩ := info_parts int_info
  obtain ⟨W0, hW⟩ : ∃ W0, W0 = (w.alloc (.cells #[.string ⟨p.toArray⟩, .bool g, .int .i64 z, .int .i64 d, .slice ao cs.length cap] 42)).alloc (.cells #[.string ⟨#[]⟩, .bool false, .int .i64 0, .int .i64 0, .slice none 0 0] 36) := ⟨_, rfl⟩
  have hB : Below w.heap.size w W0 := by rw [hW]; exact below_alloc2 _ _ _
  have hsz : W0.heap.size = w.heap.size + 2 := by rw [hW]; simp
  have hX : Cx W0 w.heap.size 42 [.string ⟨p.toArray⟩, .bool g, .int .i64 z, .int .i64 d, .slice ao cs.length cap] := by
    rw [hW]
    exact (Cx.new w 42 [.string ⟨p.toArray⟩, .bool g, .int .i64 z, .int .i64 d, .slice ao cs.length cap]).below (below_alloc _ _)
  have hR : Cx W0 (w.heap.size + 1) 36 [.string ⟨#[]⟩, .bool false, .int .i64 0, .int .i64 0, .slice none 0 0] := by
    have h := Cx.new (w.alloc (.cells #[.string ⟨p.toArray⟩, .bool g, .int .i64 z, .int .i64 d, .slice ao cs.length cap] 42)) 36 [.string ⟨#[]⟩, .bool false, .int .i64 0, .int .i64 0, .slice none 0 0]
    rw [World.size_alloc] at h
    rw [hW]
    exact h
  have HV := Lib.hid (hv.below hB)
  have HW := Lib.hid hW
  have HB := Lib.hid hB
  have HR := Lib.hid hR
  have HX := Lib.hid hX
  have hmx : cs.length ≤ maxLen := by unfold maxLen; omega
  have hby : cs.length * 8 ≤ 140737488355328 := by omega
  have hbs : w.heap.size + 2 ≤ W0.heap.size := by omega
  clear hW hB hR hX hv hsz
  go_enter Tryz.func24, Tryz.ntmps24
  go_wp2_with (at_builtin; (with_reducible show wpList _ _ _ _ _ _); rw [← HW.out]; refine wpList_append_nil rfl _ _ 32 rfl (w.heap.size + 2) 3 i0 (.int .i64 0) 1 8 Tryz.underlying32 hi hz0 hz1 hz2 rfl Nat.one_pos rfl ao cs.length cap (cs.map (Value.int .i64)) rfl HV.out (ints_one cs) hmx hby hbs ?_)
  intro a5 c5 w5 ho5 hB5
  have HR5 := Lib.hid (HR.out.below hB5)
  have HX5 := Lib.hid (HX.out.below hB5)
  obtain ⟨x0, x1, x2, x3, x4⟩ := HX5.out.five
  have fx := HX5.out.frozen 4
  have f0 := HR5.out.frozen 0
  have f1 := HR5.out.frozen 1
  have f2 := HR5.out.frozen 2
  have f3 := HR5.out.frozen 3
  have f4 := HR5.out.frozen 4
  obtain ⟨r0, r1, r2, r3, r4⟩ := HR5.out.five
  go_wp2_with fail
  have hne : w.heap.size + 1 ≠ w.heap.size := by omega
  have hC := (((((HR5.out.other hne (j := 4) (.slice a5 cs.length c5)).set 0 (.string ⟨p.toArray⟩)).set 1 (.bool g)).set 2 (.int .i64 z)).set 3 (.int .i64 d)).set 4 (.slice a5 cs.length c5)
  have h1 : w.heap.size + 1 < w.heap.size + 2 := by omega
  have h2 : w.heap.size < w.heap.size + 2 := by omega
  have h3 : w.heap.size ≤ w.heap.size + 2 := by omega
  have h4 : w.heap.size ≤ w.heap.size + 1 := by omega
  refine ret_change rfl rfl (w.heap.size + 1) _ _ _ _ _ rfl hC ⟨_, rfl, own_weak (own_above (own_above (own_above (own_above (own_above (own_above ho5 h2 4 _) h1 0 _) h1 1 _) h1 2 _) h1 3 _) h1 4 _) h3, ?_⟩
  exact ((((((below2 HB.out hB5).setCell (p := ⟨w.heap.size, 4, none⟩) (Nat.le_refl _) _).setCell h4 _).setCell h4 _).setCell h4 _).setCell h4 _).setCell h4 _

end Go.Proofs.YtmbnmmnoahddcaaGreatDoor

/-
  Rows of changes of a call's own; an append of a change.
-/
namespace Go.Proofs.YtmbnmmnoahddcaaGreatDoor
set_option maxRecDepth 100000
open Go.RowKit

theorem ba_apart {w : World} {base base' k k' : Nat} {e e' : TypeId} {v v' : Value} {n n' : Nat} {xs xs' : List Value} (h : w.ownsRow base e k v n xs) (h' : w.ownsRow base' e' k' v' n' xs') (he : e ≠ e') : v.ownBlock = none ∨ v.ownBlock ≠ v'.ownBlock := by
  rcases h.2 with ⟨rfl, _⟩ | ⟨g, cap, cur, rfl, _, hg, _⟩
  · exact .inl rfl
  · refine .inr fun hv => ?_
    rcases h'.2 with ⟨rfl, _⟩ | ⟨g', cap', cur', rfl, _, hg', _⟩
    · simp [Value.ownBlock] at hv
    · simp [Value.ownBlock] at hv
      subst hv
      rw [hg'] at hg
      cases hg
      exact he rfl

/-- A row of changes of the call's own, their Chunks too. -/
def OwnC (w : World) (base : Nat) (v : Value) (S : List Cv) : Prop := w.ownsRow base 36 5 v S.length (ccells S) ∧ ∀ x ∈ S, OwnI w base x.2 x.1.2.2.2.2
theorem OwnC.nil (w : World) (base : Nat) : OwnC w base (.slice none 0 0) [] := ⟨World.ownsRow_nil _ _ _ _, fun x h => by cases h⟩
theorem OwnC.cgs {w : World} {base : Nat} {v : Value} {S : List Cv} (h : OwnC w base v S) : Cgs w v S := ⟨Rw.own h.1, fun x hx => ints_own (h.2 x hx)⟩
theorem OwnC.form {w : World} {base : Nat} {v : Value} {S : List Cv} (h : OwnC w base v S) : ∃ ao cap, v = .slice ao S.length cap := h.cgs.form
theorem OwnC.weak {w : World} {b b' : Nat} {v : Value} {S : List Cv} (h : OwnC w b' v S) (hb : b ≤ b') : OwnC w b v S := ⟨own_weak h.1 hb, fun x hx => own_weak (h.2 x hx) hb⟩
theorem OwnC.stays {w w' : World} {base : Nat} {v : Value} {S : List Cv} (h : OwnC w base v S) (hb : Below w.heap.size w w') : OwnC w' base v S := ⟨own_stays h.1 hb, fun x hx => own_stays (h.2 x hx) hb⟩
theorem infoC : (Tryz.prog.info? 36).map (fun i => (i.zero, i.size, i.bytes)) = some (some (.agg #[.string ⟨#[]⟩, .bool false, .int .i64 0, .int .i64 0, .slice none 0 0]), 5, 64) := by kernel_rfl
theorem news_litC (w : World) (cs : List Value) (t : TypeId) : ∀ j u, cs[j]? = some u → (w.alloc (.cells cs.toArray t)).cell? ((⟨w.heap.size, 0, none⟩ : Addr).add j) = some u := by
  intro j u h
  rw [Go.WideShapes.add_plain, Nat.zero_add, World.cell?_alloc_new]
  simp [h]
theorem ccell_one {w : World} {x : Cv} {base : Nat} (h : OwnI w base x.2 x.1.2.2.2.2) : ∀ u ∈ ccell x, u.oneCell' = true := by
  obtain ⟨ao, n, cap, e⟩ := own_form h
  intro u hu
  simp [ccell] at hu
  rcases hu with rfl | rfl | rfl | rfl | rfl
  · rfl
  · rfl
  · rfl
  · rfl
  · rw [e]; rfl
theorem ccells_snoc (S : List Cv) (x : Cv) : ccells (S ++ [x]) = ccells S ++ ccell x := by rw [ccells_append]; simp [ccells]

/-- Behind an append to a row of changes: what else is the call's own stays. -/
def KeepC (w w' : World) : Prop := ∀ (base : Nat) (e : TypeId) (k n : Nat) (v : Value) (xs : List Value), e ≠ 36 → w.ownsRow base e k v n xs → w'.ownsRow base e k v n xs
theorem KeepC.trans {a b c : World} (h : KeepC a b) (k : KeepC b c) : KeepC a c := fun _ _ _ _ _ _ he ho => k _ _ _ _ _ _ he (h _ _ _ _ _ _ he ho)
theorem KeepC.below {a b : World} (h : Below a.heap.size a b) : KeepC a b := fun _ _ _ _ _ _ _ ho => own_stays ho h
theorem KeepC.grown {w w' : World} {base : Nat} {v : Value} {k n : Nat} {xs : List Value} (ho : w.ownsRow base 36 k v n xs) (hg : w.grownBy w' v.ownBlock) : KeepC w w' :=
  fun _ _ _ _ _ _ he h => h.kept hg (ba_apart h ho he)

/-- What an append of one change makes. -/
theorem ownC_app {w w' : World} {base : Nat} {v v' : Value} {S : List Cv} {c : Cv} {o : Obj} (hown : OwnC w base v S) (hc : OwnI w base c.2 c.1.2.2.2.2) (h2 : w'.ownsRow base 36 5 v' (S.length + 1) (ccells S ++ ccell c)) (h3 : (w.alloc o).grownBy w' v.ownBlock) :
    OwnC w' base v' (S ++ [c]) ∧ KeepC w w' := by
  have ho1 := hown.1.alloc o
  have hk := KeepC.trans (KeepC.below (below_alloc w o)) (KeepC.grown ho1 h3)
  refine ⟨⟨?_, fun x hx => ?_⟩, hk⟩
  · rw [List.length_append, ccells_snoc]
    exact h2
  · rcases List.mem_append.1 hx with hx | hx
    · exact hk _ _ _ _ _ _ (by decide) (hown.2 x hx)
    · obtain rfl := List.mem_singleton.1 hx
      exact hk _ _ _ _ _ _ (by decide) hc

theorem app_change {w : World} {ops : Array Oper} {rest : List Oper} {o : Oper} {a : Act} {Q : Exit → Act → World → Prop} (hgd : o.guard = none) (s x : Operand)
    (ho : o.op = .call { callee := .builtin .append, args := #[s, x], argTypes := #[22, 22] })
    (base : Nat) (v : Value) (S : List Cv) (hs : a.eval s = v) (hown : OwnC w base v S) (p : List UInt8) (g : Bool) (z d : Int) (u : Value) (cs : List Int) (hc : OwnI w base u cs) (hx : a.eval x = .slice (some ⟨w.heap.size, 0, none⟩) 1 1)
    (hn : S.length ≤ 100000) (hbase : base ≤ w.heap.size)
    (h : ∀ v' w', OwnC w' base v' (S ++ [((p, g, z, d, cs), u)]) → (∀ w0, Below base w0 w → Below base w0 w') → KeepC w w' → wpList Tryz.prog ops Q rest (a.put o.dst v') w') :
    wpList Tryz.prog ops Q (o :: rest) a (w.alloc (.cells #[.string ⟨p.toArray⟩, .bool g, .int .i64 z, .int .i64 d, u] 36)) := by
  obtain ⟨i0, hi, hz0, hz1, hz2⟩ := info_parts infoC
  refine wpList_append_own_at (P := Tryz.prog) (w.alloc (.cells #[.string ⟨p.toArray⟩, .bool g, .int .i64 z, .int .i64 d, u] 36)) hgd s x 22 ho base 36 i0 _ 5 64 Tryz.underlying22 hi hz0 hz1 hz2 rfl (by decide) v S.length (ccells S) hs (hown.1.alloc _) ⟨w.heap.size, 0, none⟩ 1 1 (ccell ((p, g, z, d, cs), u)) hx rfl (news_litC w (ccell ((p, g, z, d, cs), u)) _) (ccell_one (x := ((p, g, z, d, cs), u)) hc) (by unfold maxLen; omega) (by omega) (by rw [World.size_alloc]; omega) ?_
  intro v' w' h2 h3 _ _
  obtain ⟨k1, k2⟩ := ownC_app (c := ((p, g, z, d, cs), u)) hown hc h2 h3
  exact h v' w' k1 (fun w0 hB => (hB.alloc hbase _).grown h3 (by rw [World.size_alloc]; omega) fun j e => (hown.1.lt j e).1) k2

end Go.Proofs.YtmbnmmnoahddcaaGreatDoor

/-
  batch: Is.
-/
namespace Go.Proofs.YtmbnmmnoahddcaaGreatDoor
set_option maxRecDepth 100000
open Go.RowKit

/-- The first k changes may be, and rise. -/
def okTo (l : List Cg) (k : Nat) : Prop := (∀ (i : Nat) (hi : i < l.length), i < k → mayB l[i] = true) ∧ ∀ (i : Nat) (hi : i + 1 < l.length), i + 1 < k → Op.bytesLess l[i].1 l[i + 1].1 = true
theorem okTo_zero (l : List Cg) : okTo l 0 := ⟨fun _ _ h => absurd h (Nat.not_lt_zero _), fun _ _ h => absurd h (Nat.not_lt_zero _)⟩
theorem okTo_one {l : List Cg} (hk : 0 < l.length) (h1 : mayB l[0] = true) : okTo l 1 :=
  ⟨fun i _ hik => by
    obtain rfl : i = 0 := by omega
    exact h1, fun i _ hik => by omega⟩
theorem okTo_succ {l : List Cg} {k : Nat} (h : okTo l (k + 1)) (hk : k + 1 < l.length) (h1 : mayB l[k + 1] = true) (h2 : Op.bytesLess l[k].1 l[k + 1].1 = true) : okTo l (k + 1 + 1) := by
  refine ⟨fun i hi hik => ?_, fun i hi hik => ?_⟩
  · by_cases he : i = k + 1
    · subst he; exact h1
    · exact h.1 i hi (by omega)
  · by_cases he : i = k
    · subst he; exact h2
    · exact h.2 i hi (by omega)
theorem okTo_all {l : List Cg} (h : okTo l l.length) (h1 : 1 ≤ l.length) (h2 : l.length ≤ 20) : isB l = true := by
  rw [isB_iff]
  refine ⟨h1, h2, fun c hc => ?_, (rise_sort l).1 (rise_all fun k hk => h.2 k hk hk)⟩
  obtain ⟨i, hi, rfl⟩ := List.getElem_of_mem hc
  exact h.1 i hi hi
theorem isB_may_not {l : List Cg} {k : Nat} (hk : k < l.length) (h : mayB l[k] = false) : isB l = false := by
  cases hb : isB l with
  | false => rfl
  | true =>
    have := (isB_iff.1 hb).2.2.1 _ (List.getElem_mem hk)
    rw [h] at this
    cases this
theorem isB_rise_not {l : List Cg} {k : Nat} (hk : k + 1 < l.length) (h : Op.bytesLess l[k].1 l[k + 1].1 = false) : isB l = false := by
  cases hb : isB l with
  | false => rfl
  | true =>
    have := (rise_sort l).2 (isB_iff.1 hb).2.2.2
    rw [baRise_not hk h] at this
    cases this
theorem isB_few {l : List Cg} (h : l.length < 1 ∨ 20 < l.length) : isB l = false := by
  cases hb : isB l with
  | false => rfl
  | true =>
    obtain ⟨h1, h2, _⟩ := isB_iff.1 hb
    omega

/-- Changes that are not too great to be looked at. -/
def SmallC (l : List Cg) : Prop := ∀ c ∈ l, c.1.length ≤ 1000000 ∧ c.2.2.2.2.length ≤ 1000000

theorem cmp_val {p q : List UInt8} : (Op.bytesLess p q = true → Lib.compareBytes p q = -1) ∧ (Op.bytesLess p q = false → ∃ c : Int, Lib.compareBytes p q = c ∧ 0 ≤ c ∧ c ≤ 1) := by
  rw [cmp_less]
  constructor
  · intro h
    rw [if_pos h]
  · intro h
    rw [if_neg (by simp [h])]
    split
    · exact ⟨0, rfl, by omega, by omega⟩
    · exact ⟨1, rfl, by omega, by omega⟩

set_option maxHeartbeats 8000000 in
theorem baIs_calls (v : Value) (S : List Cv) (w : World) (h : Cgs w v S) (hn : S.length ≤ 1000000) (hs : SmallC (chs S)) (hm : Ml w) :
    Calls Tryz.prog 14 #[v] w fun e w' => e = .returned (.bool (isB (chs S))) ∧ Below w.heap.size w w' := by
  obtain ⟨ao, cap, rfl⟩ := h.form
  by_cases hf : S.length < 1
  · have HF := Lib.hid (show isB (chs S) = false from isB_few (by rw [List.length_map]; omega))
    rw [HF.out]
    obtain rfl : S = [] := List.eq_nil_of_length_eq_zero (by omega)
    clear h hf hn hs
    go_enter Tryz.func14, Tryz.ntmps14
    go_wp2_with fail
    go_ret
    exact ⟨rfl, Below.refl _ _⟩
  have h1 : decide ((S.length : Int) < 1) = false := by rw [decide_eq_false_iff_not]; omega
  by_cases hg : 20 < S.length
  · have HF := Lib.hid (show isB (chs S) = false from isB_few (by rw [List.length_map]; omega))
    rw [HF.out]
    have h2 : decide ((20 : Int) < (S.length : Int)) = true := by rw [decide_eq_true_eq]; omega
    clear h hf hs hg
    go_enter Tryz.func14, Tryz.ntmps14
    go_wp2_with fail
    go_ret
    exact ⟨rfl, Below.refl _ _⟩
  have h2 : decide ((20 : Int) < (S.length : Int)) = false := by rw [decide_eq_false_iff_not]; omega
  have HL := Lib.hid (show 1 ≤ (chs S).length ∧ (chs S).length ≤ 20 by simp; omega)
  have hn20 : S.length ≤ 20 := by omega
  have HH := Lib.hid h
  have HS0 := Lib.hid hs
  have HM := Lib.hid hm
  clear h hf hg hs hm
  go_enter Tryz.func14, Tryz.ntmps14
  go_wp2_with fail
  go_loopw [15] (fun i wr => ∃ k : Nat, i = .int .i64 k ∧ k ≤ S.length ∧ Hid (okTo (chs S) k) ∧ Hid (Below w.heap.size w wr)) (fun i _ => S.length - (intOf i).toNat)
  case atStart => exact ⟨0, rfl, Nat.zero_le _, Lib.hid (okTo_zero _), Lib.hid (Below.refl _ _)⟩
  case round =>
    obtain ⟨k, rfl, hk, hf, hB⟩ := hrel
    by_cases hlt : k < S.length
    · obtain ⟨b, off, rfl, ⟨c0, c1, c2, c3, c4⟩, hI⟩ := (HH.out.below hB.out).at hlt
      have hltc : k < (chs S).length := by simpa using hlt
      have hsm := HS0.out _ (List.getElem_mem hltc)
      have hgo1 := fun (h1 : 0 < S.length) h => okTo_one (l := chs S) (by simpa using h1) h
      have hgo := fun (j : Nat) (h1 : j + 1 < S.length) hf h h2 => okTo_succ (l := chs S) (k := j) hf (by simpa using h1) h h2
      have hno := fun h => isB_may_not (l := chs S) hltc h
      have hno2 := fun (j : Nat) (h1 : j + 1 < S.length) h => isB_rise_not (l := chs S) (k := j) (by simpa using h1) h
      have hat := fun (j : Nat) (hj : j < S.length) => (HH.out.below hB.out).at (k := j) hj
      have hsz := hB.out.size
      simp only [List.getElem_map] at hsm hgo1 hgo hno hno2
      obtain ⟨⟨⟨q, g, z, d, cs⟩, vv⟩, hx⟩ : ∃ x, S[k] = x := ⟨_, rfl⟩
      rw [hx] at c0 c1 c2 c3 c4 hI hsm hno
      dsimp only at c0 c1 c2 c3 c4 hI hsm hno
      obtain ⟨s1, s3, rfl⟩ := hI.form
      obtain ⟨s2, hs2⟩ : ∃ n, cs.length = n := ⟨_, rfl⟩
      have hMl := HM.out.below hB.out
      obtain ⟨W0, hW0⟩ : ∃ W0, W0 = wr.alloc (.cells #[.string ⟨q.toArray⟩, .bool g, .int .i64 z, .int .i64 d, .slice s1 s2 s3] 36) := ⟨_, rfl⟩
      obtain ⟨B, hBe⟩ : ∃ B, B = wr.heap.size := ⟨_, rfl⟩
      have hC : ∀ W, Below W0.heap.size W0 W → Below wr.heap.size wr W ∧ (W.cell? ⟨B, 0, none⟩ = some (.string ⟨q.toArray⟩) ∧ W.cell? ⟨B, 1, none⟩ = some (.bool g) ∧ W.cell? ⟨B, 2, none⟩ = some (.int .i64 z) ∧ W.cell? ⟨B, 3, none⟩ = some (.int .i64 d) ∧ W.cell? ⟨B, 4, none⟩ = some (.slice s1 s2 s3)) := by
        intro W hW
        subst hW0 hBe
        exact ⟨below2 (below_alloc _ _) hW, ((Cx.new wr 36 [.string ⟨q.toArray⟩, .bool g, .int .i64 z, .int .i64 d, .slice s1 s2 s3]).below hW).five⟩
      have hK : ∀ W, Below W0.heap.size W0 W → Calls Tryz.prog 20 #[CV q g z d (.slice s1 s2 s3)] W fun e w' => e = .returned (.bool (mayB (q, g, z, d, cs))) ∧ Below W.heap.size W w' :=
        fun W hW => hs2 ▸ mayBe_calls q g z d _ cs W (hI.below (hC W hW).1) hsm.2 hsm.1 (hMl.below (hC W hW).1)
      have hbr : Below W0.heap.size W0 (wr.alloc (.cells #[.string ⟨q.toArray⟩, .bool g, .int .i64 z, .int .i64 d, .slice s1 s2 s3] 36)).drew := hW0 ▸ drew_below _
      rw [hs2] at c4
      have HC := Lib.hid hC
      have HBE := Lib.hid hBe
      clear hW0 hs2 hMl hI hsm hC
      have HKM := Lib.hid hK
      have HR := Lib.hid (And.intro hno (And.intro hno2 (And.intro hgo (And.intro hgo1 hat))))
      clear hK hno hno2 hgo hgo1 hat hBe
      go_wp2_with fail
      rw [← HBE.out]
      cases hma : mayB (q, g, z, d, cs) with
      | false =>
        have KM := Lib.hid (hma ▸ HKM.out)
        have HN := Lib.hid (HR.out.1 hma)
        clear hma HKM HR
        refine wp_region_held_drew (S := (fun w' => w'.cell? ⟨B, 0, none⟩ = some (.string ⟨q.toArray⟩) ∧ w'.cell? ⟨B, 1, none⟩ = some (.bool g) ∧ w'.cell? ⟨B, 2, none⟩ = some (.int .i64 z) ∧ w'.cell? ⟨B, 3, none⟩ = some (.int .i64 d) ∧ w'.cell? ⟨B, 4, none⟩ = some (.slice s1 s2 s3))) (by kernel_rfl) ((HC.out _ hbr).2) (fun hHeld => ?_)
        refine wpAnyH_take (i := 0) (oi := ⟨_, _, _, _, _, _⟩) (v := ?_) rfl (by kernel_rfl) (by kernel_rfl) (by kernel_rfl) (fun _ _ _ h => h) (Or.inl ⟨by rfl, ?_⟩) hHeld ?_
        rotate_left
        · (intro w hSw; (try dsimp only at hSw); go_simp; try with_reducible rfl)
        try simp only [Act.put, List.setIfInBounds_toArray, List.set_cons_zero, List.set_cons_succ]
        refine wpAnyH_ready (rs := [1]) (by kernel_rfl) (by simp) ?_
        refine AllReadyH.cons (o := ⟨_, _, _, _, _, _⟩) rfl (fun K hK => ?_) AllReadyH.nil
        go_simp
        (refine (KM.out _ hbr).mono ?_; rintro e w1 ⟨rfl, hB1⟩; replace hbr := below2 hbr hB1)
        refine hK.out _ _ ((HC.out _ hbr).2) (fun hHeld => ?_)
        clear hK K
        try simp only [Act.put, List.setIfInBounds_toArray, List.set_cons_zero, List.set_cons_succ]
        refine wpAnyH_take (i := 2) (oi := ⟨_, _, _, _, _, _⟩) (v := ?_) rfl (by kernel_rfl) (by kernel_rfl) (by kernel_rfl) (fun _ _ _ h => h) (Or.inl ⟨by rfl, ?_⟩) hHeld ?_
        rotate_left
        · (intro w hSw; (try dsimp only at hSw); go_simp; try with_reducible rfl)
        try simp only [Act.put, List.setIfInBounds_toArray, List.set_cons_zero, List.set_cons_succ]
        refine wpAnyH_take (i := 3) (oi := ⟨_, _, _, _, _, _⟩) (v := ?_) rfl (by kernel_rfl) (by kernel_rfl) (by kernel_rfl) (fun _ _ _ h => h) (Or.inl ⟨by rfl, ?_⟩) hHeld ?_
        rotate_left
        · (intro w hSw; (try dsimp only at hSw); go_simp; try with_reducible rfl)
        try simp only [Act.put, List.setIfInBounds_toArray, List.set_cons_zero, List.set_cons_succ]
        refine wpAnyH_take (i := 4) (oi := ⟨_, _, _, _, _, _⟩) (v := undef) rfl (by kernel_rfl) (by kernel_rfl) (by kernel_rfl) (fun _ _ _ h => h) (Or.inr ⟨by rfl, rfl⟩) hHeld ?_
        try simp only [Act.put, List.setIfInBounds_toArray, List.set_cons_zero, List.set_cons_succ]
        refine wpAnyH_take (i := 5) (oi := ⟨_, _, _, _, _, _⟩) (v := undef) rfl (by kernel_rfl) (by kernel_rfl) (by kernel_rfl) (fun _ _ _ h => h) (Or.inr ⟨by rfl, rfl⟩) hHeld ?_
        try simp only [Act.put, List.setIfInBounds_toArray, List.set_cons_zero, List.set_cons_succ]
        refine wpAnyH_take (i := 6) (oi := ⟨_, _, _, _, _, _⟩) (v := undef) rfl (by kernel_rfl) (by kernel_rfl) (by kernel_rfl) (fun _ _ _ h => h) (Or.inr ⟨by rfl, rfl⟩) hHeld ?_
        try simp only [Act.put, List.setIfInBounds_toArray, List.set_cons_zero, List.set_cons_succ]
        refine wpAnyH_take (i := 7) (oi := ⟨_, _, _, _, _, _⟩) (v := undef) rfl (by kernel_rfl) (by kernel_rfl) (by kernel_rfl) (fun _ _ _ h => h) (Or.inr ⟨by rfl, rfl⟩) hHeld ?_
        try simp only [Act.put, List.setIfInBounds_toArray, List.set_cons_zero, List.set_cons_succ]
        refine wpAnyH_take (i := 8) (oi := ⟨_, _, _, _, _, _⟩) (v := undef) rfl (by kernel_rfl) (by kernel_rfl) (by kernel_rfl) (fun _ _ _ h => h) (Or.inr ⟨by rfl, rfl⟩) hHeld ?_
        try simp only [Act.put, List.setIfInBounds_toArray, List.set_cons_zero, List.set_cons_succ]
        refine wpAnyH_take (i := 9) (oi := ⟨_, _, _, _, _, _⟩) (v := undef) rfl (by kernel_rfl) (by kernel_rfl) (by kernel_rfl) (fun _ _ _ h => h) (Or.inr ⟨by rfl, rfl⟩) hHeld ?_
        try simp only [Act.put, List.setIfInBounds_toArray, List.set_cons_zero, List.set_cons_succ]
        refine wpAnyH_take (i := 10) (oi := ⟨_, _, _, _, _, _⟩) (v := undef) rfl (by kernel_rfl) (by kernel_rfl) (by kernel_rfl) (fun _ _ _ h => h) (Or.inr ⟨by rfl, rfl⟩) hHeld ?_
        try simp only [Act.put, List.setIfInBounds_toArray, List.set_cons_zero, List.set_cons_succ]
        refine wpAnyH_take (i := 11) (oi := ⟨_, _, _, _, _, _⟩) (v := undef) rfl (by kernel_rfl) (by kernel_rfl) (by kernel_rfl) (fun _ _ _ h => h) (Or.inr ⟨by rfl, rfl⟩) hHeld ?_
        try simp only [Act.put, List.setIfInBounds_toArray, List.set_cons_zero, List.set_cons_succ]
        refine wpAnyH_take (i := 12) (oi := ⟨_, _, _, _, _, _⟩) (v := undef) rfl (by kernel_rfl) (by kernel_rfl) (by kernel_rfl) (fun _ _ _ h => h) (Or.inr ⟨by rfl, rfl⟩) hHeld ?_
        try simp only [Act.put, List.setIfInBounds_toArray, List.set_cons_zero, List.set_cons_succ]
        refine wpAnyH_take (i := 13) (oi := ⟨_, _, _, _, _, _⟩) (v := undef) rfl (by kernel_rfl) (by kernel_rfl) (by kernel_rfl) (fun _ _ _ h => h) (Or.inr ⟨by rfl, rfl⟩) hHeld ?_
        try simp only [Act.put, List.setIfInBounds_toArray, List.set_cons_zero, List.set_cons_succ]
        refine wpAnyH_take (i := 14) (oi := ⟨_, _, _, _, _, _⟩) (v := undef) rfl (by kernel_rfl) (by kernel_rfl) (by kernel_rfl) (fun _ _ _ h => h) (Or.inr ⟨by rfl, rfl⟩) hHeld ?_
        try simp only [Act.put, List.setIfInBounds_toArray, List.set_cons_zero, List.set_cons_succ]
        refine wpAnyH_take (i := 15) (oi := ⟨_, _, _, _, _, _⟩) (v := undef) rfl (by kernel_rfl) (by kernel_rfl) (by kernel_rfl) (fun _ _ _ h => h) (Or.inr ⟨by rfl, rfl⟩) hHeld ?_
        try simp only [Act.put, List.setIfInBounds_toArray, List.set_cons_zero, List.set_cons_succ]
        refine wpAnyH_take (i := 16) (oi := ⟨_, _, _, _, _, _⟩) (v := ?_) rfl (by kernel_rfl) (by kernel_rfl) (by kernel_rfl) (fun _ _ _ h => h) (Or.inl ⟨by rfl, ?_⟩) hHeld ?_
        rotate_left
        · (intro w hSw; (try dsimp only at hSw); go_simp; try with_reducible rfl)
        try simp only [Act.put, List.setIfInBounds_toArray, List.set_cons_zero, List.set_cons_succ]
        refine wpAnyH_done (by kernel_rfl) ?_ _

        go_wp2_with fail
        go_ret
        exact ⟨by rw [HN.out]; rfl, below2 hB.out (HC.out _ hbr).1⟩
      | true =>
        have KM := Lib.hid (hma ▸ HKM.out)
        by_cases hk0 : k = 0
        · have hd0 : decide (0 < k) = false := by rw [decide_eq_false_iff_not]; omega
          have HG : Hid (okTo (chs S) (k + 1)) := Lib.hid (by subst hk0; exact HR.out.2.2.2.1 hlt (by rw [hx]; exact hma))
          clear hma HKM HR hk0
          refine wp_region_held_drew (S := (fun w' => w'.cell? ⟨B, 0, none⟩ = some (.string ⟨q.toArray⟩) ∧ w'.cell? ⟨B, 1, none⟩ = some (.bool g) ∧ w'.cell? ⟨B, 2, none⟩ = some (.int .i64 z) ∧ w'.cell? ⟨B, 3, none⟩ = some (.int .i64 d) ∧ w'.cell? ⟨B, 4, none⟩ = some (.slice s1 s2 s3))) (by kernel_rfl) ((HC.out _ hbr).2) (fun hHeld => ?_)
          refine wpAnyH_take (i := 0) (oi := ⟨_, _, _, _, _, _⟩) (v := ?_) rfl (by kernel_rfl) (by kernel_rfl) (by kernel_rfl) (fun _ _ _ h => h) (Or.inl ⟨by rfl, ?_⟩) hHeld ?_
          rotate_left
          · (intro w hSw; (try dsimp only at hSw); go_simp; try with_reducible rfl)
          try simp only [Act.put, List.setIfInBounds_toArray, List.set_cons_zero, List.set_cons_succ]
          refine wpAnyH_ready (rs := [1]) (by kernel_rfl) (by simp) ?_
          refine AllReadyH.cons (o := ⟨_, _, _, _, _, _⟩) rfl (fun K hK => ?_) AllReadyH.nil
          go_simp
          (refine (KM.out _ hbr).mono ?_; rintro e w1 ⟨rfl, hB1⟩; replace hbr := below2 hbr hB1)
          refine hK.out _ _ ((HC.out _ hbr).2) (fun hHeld => ?_)
          clear hK K
          try simp only [Act.put, List.setIfInBounds_toArray, List.set_cons_zero, List.set_cons_succ]
          refine wpAnyH_take (i := 2) (oi := ⟨_, _, _, _, _, _⟩) (v := ?_) rfl (by kernel_rfl) (by kernel_rfl) (by kernel_rfl) (fun _ _ _ h => h) (Or.inl ⟨by rfl, ?_⟩) hHeld ?_
          rotate_left
          · (intro w hSw; (try dsimp only at hSw); go_simp; try with_reducible rfl)
          try simp only [Act.put, List.setIfInBounds_toArray, List.set_cons_zero, List.set_cons_succ]
          refine wpAnyH_take (i := 3) (oi := ⟨_, _, _, _, _, _⟩) (v := ?_) rfl (by kernel_rfl) (by kernel_rfl) (by kernel_rfl) (fun _ _ _ h => h) (Or.inl ⟨by rfl, ?_⟩) hHeld ?_
          rotate_left
          · (intro w hSw; (try dsimp only at hSw); go_simp; try with_reducible rfl)
          try simp only [Act.put, List.setIfInBounds_toArray, List.set_cons_zero, List.set_cons_succ]
          refine wpAnyH_take (i := 4) (oi := ⟨_, _, _, _, _, _⟩) (v := ?_) rfl (by kernel_rfl) (by kernel_rfl) (by kernel_rfl) (fun _ _ _ h => h) (Or.inl ⟨by rfl, ?_⟩) hHeld ?_
          rotate_left
          · (intro w hSw; (try dsimp only at hSw); go_simp; try with_reducible rfl)
          try simp only [Act.put, List.setIfInBounds_toArray, List.set_cons_zero, List.set_cons_succ]
          refine wpAnyH_take (i := 5) (oi := ⟨_, _, _, _, _, _⟩) (v := ?_) rfl (by kernel_rfl) (by kernel_rfl) (by kernel_rfl) (fun _ _ _ h => h) (Or.inl ⟨by rfl, ?_⟩) hHeld ?_
          rotate_left
          · (intro w hSw; (try dsimp only at hSw); go_simp; try with_reducible rfl)
          try simp only [Act.put, List.setIfInBounds_toArray, List.set_cons_zero, List.set_cons_succ]
          refine wpAnyH_take (i := 6) (oi := ⟨_, _, _, _, _, _⟩) (v := ?_) rfl (by kernel_rfl) (by kernel_rfl) (by kernel_rfl) (fun _ _ _ h => h) (Or.inl ⟨by rfl, ?_⟩) hHeld ?_
          rotate_left
          · (intro w hSw; (try dsimp only at hSw); go_simp; try with_reducible rfl)
          try simp only [Act.put, List.setIfInBounds_toArray, List.set_cons_zero, List.set_cons_succ]
          refine wpAnyH_take (i := 7) (oi := ⟨_, _, _, _, _, _⟩) (v := undef) rfl (by kernel_rfl) (by kernel_rfl) (by kernel_rfl) (fun _ _ _ h => h) (Or.inr ⟨by rfl, rfl⟩) hHeld ?_
          try simp only [Act.put, List.setIfInBounds_toArray, List.set_cons_zero, List.set_cons_succ]
          refine wpAnyH_take (i := 8) (oi := ⟨_, _, _, _, _, _⟩) (v := undef) rfl (by kernel_rfl) (by kernel_rfl) (by kernel_rfl) (fun _ _ _ h => h) (Or.inr ⟨by rfl, rfl⟩) hHeld ?_
          try simp only [Act.put, List.setIfInBounds_toArray, List.set_cons_zero, List.set_cons_succ]
          refine wpAnyH_take (i := 9) (oi := ⟨_, _, _, _, _, _⟩) (v := undef) rfl (by kernel_rfl) (by kernel_rfl) (by kernel_rfl) (fun _ _ _ h => h) (Or.inr ⟨by rfl, rfl⟩) hHeld ?_
          try simp only [Act.put, List.setIfInBounds_toArray, List.set_cons_zero, List.set_cons_succ]
          refine wpAnyH_take (i := 10) (oi := ⟨_, _, _, _, _, _⟩) (v := undef) rfl (by kernel_rfl) (by kernel_rfl) (by kernel_rfl) (fun _ _ _ h => h) (Or.inr ⟨by rfl, rfl⟩) hHeld ?_
          try simp only [Act.put, List.setIfInBounds_toArray, List.set_cons_zero, List.set_cons_succ]
          refine wpAnyH_take (i := 11) (oi := ⟨_, _, _, _, _, _⟩) (v := undef) rfl (by kernel_rfl) (by kernel_rfl) (by kernel_rfl) (fun _ _ _ h => h) (Or.inr ⟨by rfl, rfl⟩) hHeld ?_
          try simp only [Act.put, List.setIfInBounds_toArray, List.set_cons_zero, List.set_cons_succ]
          refine wpAnyH_take (i := 12) (oi := ⟨_, _, _, _, _, _⟩) (v := undef) rfl (by kernel_rfl) (by kernel_rfl) (by kernel_rfl) (fun _ _ _ h => h) (Or.inr ⟨by rfl, rfl⟩) hHeld ?_
          try simp only [Act.put, List.setIfInBounds_toArray, List.set_cons_zero, List.set_cons_succ]
          refine wpAnyH_take (i := 13) (oi := ⟨_, _, _, _, _, _⟩) (v := undef) rfl (by kernel_rfl) (by kernel_rfl) (by kernel_rfl) (fun _ _ _ h => h) (Or.inr ⟨by rfl, rfl⟩) hHeld ?_
          try simp only [Act.put, List.setIfInBounds_toArray, List.set_cons_zero, List.set_cons_succ]
          refine wpAnyH_take (i := 14) (oi := ⟨_, _, _, _, _, _⟩) (v := undef) rfl (by kernel_rfl) (by kernel_rfl) (by kernel_rfl) (fun _ _ _ h => h) (Or.inr ⟨by rfl, rfl⟩) hHeld ?_
          try simp only [Act.put, List.setIfInBounds_toArray, List.set_cons_zero, List.set_cons_succ]
          refine wpAnyH_take (i := 15) (oi := ⟨_, _, _, _, _, _⟩) (v := ?_) rfl (by kernel_rfl) (by kernel_rfl) (by kernel_rfl) (fun _ _ _ h => h) (Or.inl ⟨by rfl, ?_⟩) hHeld ?_
          rotate_left
          · (intro w hSw; (try dsimp only at hSw); go_simp; try with_reducible rfl)
          try simp only [Act.put, List.setIfInBounds_toArray, List.set_cons_zero, List.set_cons_succ]
          refine wpAnyH_take (i := 16) (oi := ⟨_, _, _, _, _, _⟩) (v := ?_) rfl (by kernel_rfl) (by kernel_rfl) (by kernel_rfl) (fun _ _ _ h => h) (Or.inl ⟨by rfl, ?_⟩) hHeld ?_
          rotate_left
          · (intro w hSw; (try dsimp only at hSw); go_simp; try with_reducible rfl)
          try simp only [Act.put, List.setIfInBounds_toArray, List.set_cons_zero, List.set_cons_succ]
          refine wpAnyH_done (by kernel_rfl) ?_ _

          go_wp2_with fail
          go_roundw
          case rel => exact ⟨k + 1, by go_num, by omega, HG, Lib.hid (below2 hB.out (HC.out _ hbr).1)⟩
          case measure => simp [intOf]; omega
        · obtain ⟨j, hj⟩ : ∃ j, k = j + 1 := ⟨k - 1, by omega⟩
          have hd0 : decide (0 < k) = true := by rw [decide_eq_true_eq]; omega
          have hw1 : IntKind.i64.wrap ((k : Int) - 1) = (j : Int) := by rw [IntWalk.i64_in _ (by omega)]; omega
          have hjl : j < S.length := by omega
          have hw2 : IntKind.i64.wrap (j : Int) = (j : Int) := IntWalk.i64_in _ (by omega)
          have hj4 : (0 : Int) ≤ (j : Int) := by omega
          have hj5 : (j : Int) < (S.length : Int) := by omega
          obtain ⟨b2, off2, he2, ⟨e0, e1, e2, e3, e4⟩, hJ⟩ := HR.out.2.2.2.2 j hjl
          cases he2
          obtain ⟨⟨⟨p, g', z', d', cs'⟩, vv'⟩, hy⟩ : ∃ x, S[j] = x := ⟨_, rfl⟩
          rw [hy] at e0 e1 e2 e3 e4 hJ
          dsimp only at e0 e1 e2 e3 e4 hJ
          obtain ⟨u1, u3, rfl⟩ := hJ.form
          obtain ⟨u2, hu2⟩ : ∃ n, cs'.length = n := ⟨_, rfl⟩
          rw [hu2] at e4
          have hE : ∀ W, Below W0.heap.size W0 W → W.cell? ⟨b, off + j * 5, none⟩ = some (.string ⟨p.toArray⟩) ∧ W.cell? ⟨b, off + j * 5 + 1, none⟩ = some (.bool g') ∧ W.cell? ⟨b, off + j * 5 + 2, none⟩ = some (.int .i64 z') ∧ W.cell? ⟨b, off + j * 5 + 3, none⟩ = some (.int .i64 d') ∧ W.cell? ⟨b, off + j * 5 + 4, none⟩ = some (.slice u1 u2 u3) :=
            fun W hW => ⟨look_below (HC.out W hW).1 e0, look_below (HC.out W hW).1 e1, look_below (HC.out W hW).1 e2, look_below (HC.out W hW).1 e3, look_below (HC.out W hW).1 e4⟩
          have HE := Lib.hid hE
          have HS2 := Lib.hid (fun W hW => And.intro (HC.out W hW).2 (HE.out W hW))
          have hKB : ∀ W, Calls Tryz.prog 23 #[CV p g' z' d' (.slice u1 u2 u3), CV q g z d (.slice s1 s2 s3)] W fun e w' => e = .returned (.int .i64 (Lib.compareBytes p q)) ∧ Below W.heap.size W w' :=
            fun W => byPath_below ((p, g', z', d', cs'), (u1, u2, u3)) ((q, g, z, d, cs), (s1, s2, s3)) W
          clear hE hu2 hJ e0 e1 e2 e3 e4 HKM
          cases hl : Op.bytesLess p q with
          | false =>
            obtain ⟨c, hc, hc1, hc2⟩ := cmp_val.2 hl
            rw [hc] at hKB
            have KB := Lib.hid hKB
            have hdc : decide ((0 : Int) ≤ c) = true := by rw [decide_eq_true_eq]; exact hc1
            have HN : Hid (isB (chs S) = false) := Lib.hid (by
              have h2 := HR.out.2.1 j (by omega)
              subst hj
              rw [hx, hy] at h2
              exact h2 hl)
            clear hma HR hk0 hl hc hKB hx hy
            refine wp_region_held_drew (S := (fun w' => (w'.cell? ⟨B, 0, none⟩ = some (.string ⟨q.toArray⟩) ∧ w'.cell? ⟨B, 1, none⟩ = some (.bool g) ∧ w'.cell? ⟨B, 2, none⟩ = some (.int .i64 z) ∧ w'.cell? ⟨B, 3, none⟩ = some (.int .i64 d) ∧ w'.cell? ⟨B, 4, none⟩ = some (.slice s1 s2 s3)) ∧ w'.cell? ⟨b, off + j * 5, none⟩ = some (.string ⟨p.toArray⟩) ∧ w'.cell? ⟨b, off + j * 5 + 1, none⟩ = some (.bool g') ∧ w'.cell? ⟨b, off + j * 5 + 2, none⟩ = some (.int .i64 z') ∧ w'.cell? ⟨b, off + j * 5 + 3, none⟩ = some (.int .i64 d') ∧ w'.cell? ⟨b, off + j * 5 + 4, none⟩ = some (.slice u1 u2 u3))) (by kernel_rfl) (HS2.out _ hbr) (fun hHeld => ?_)
            refine wpAnyH_take (i := 0) (oi := ⟨_, _, _, _, _, _⟩) (v := ?_) rfl (by kernel_rfl) (by kernel_rfl) (by kernel_rfl) (fun _ _ _ h => h) (Or.inl ⟨by rfl, ?_⟩) hHeld ?_
            rotate_left
            · (intro w hSw; (try dsimp only at hSw); go_simp; try with_reducible rfl)
            try simp only [Act.put, List.setIfInBounds_toArray, List.set_cons_zero, List.set_cons_succ]
            refine wpAnyH_ready (rs := [1]) (by kernel_rfl) (by simp) ?_
            refine AllReadyH.cons (o := ⟨_, _, _, _, _, _⟩) rfl (fun K hK => ?_) AllReadyH.nil
            go_simp
            (refine (KM.out _ hbr).mono ?_; rintro e w1 ⟨rfl, hB1⟩; replace hbr := below2 hbr hB1)
            refine hK.out _ _ (HS2.out _ hbr) (fun hHeld => ?_)
            clear hK K
            try simp only [Act.put, List.setIfInBounds_toArray, List.set_cons_zero, List.set_cons_succ]
            refine wpAnyH_take (i := 2) (oi := ⟨_, _, _, _, _, _⟩) (v := ?_) rfl (by kernel_rfl) (by kernel_rfl) (by kernel_rfl) (fun _ _ _ h => h) (Or.inl ⟨by rfl, ?_⟩) hHeld ?_
            rotate_left
            · (intro w hSw; (try dsimp only at hSw); go_simp; try with_reducible rfl)
            try simp only [Act.put, List.setIfInBounds_toArray, List.set_cons_zero, List.set_cons_succ]
            refine wpAnyH_take (i := 3) (oi := ⟨_, _, _, _, _, _⟩) (v := ?_) rfl (by kernel_rfl) (by kernel_rfl) (by kernel_rfl) (fun _ _ _ h => h) (Or.inl ⟨by rfl, ?_⟩) hHeld ?_
            rotate_left
            · (intro w hSw; (try dsimp only at hSw); go_simp; try with_reducible rfl)
            try simp only [Act.put, List.setIfInBounds_toArray, List.set_cons_zero, List.set_cons_succ]
            refine wpAnyH_take (i := 4) (oi := ⟨_, _, _, _, _, _⟩) (v := ?_) rfl (by kernel_rfl) (by kernel_rfl) (by kernel_rfl) (fun _ _ _ h => h) (Or.inl ⟨by rfl, ?_⟩) hHeld ?_
            rotate_left
            · (intro w hSw; (try dsimp only at hSw); go_simp; try with_reducible rfl)
            try simp only [Act.put, List.setIfInBounds_toArray, List.set_cons_zero, List.set_cons_succ]
            refine wpAnyH_take (i := 5) (oi := ⟨_, _, _, _, _, _⟩) (v := ?_) rfl (by kernel_rfl) (by kernel_rfl) (by kernel_rfl) (fun _ _ _ h => h) (Or.inl ⟨by rfl, ?_⟩) hHeld ?_
            rotate_left
            · (intro w hSw; (try dsimp only at hSw); go_simp; try with_reducible rfl)
            try simp only [Act.put, List.setIfInBounds_toArray, List.set_cons_zero, List.set_cons_succ]
            refine wpAnyH_take (i := 6) (oi := ⟨_, _, _, _, _, _⟩) (v := ?_) rfl (by kernel_rfl) (by kernel_rfl) (by kernel_rfl) (fun _ _ _ h => h) (Or.inl ⟨by rfl, ?_⟩) hHeld ?_
            rotate_left
            · (intro w hSw; (try dsimp only at hSw); go_simp; try with_reducible rfl)
            try simp only [Act.put, List.setIfInBounds_toArray, List.set_cons_zero, List.set_cons_succ]
            refine wpAnyH_take (i := 7) (oi := ⟨_, _, _, _, _, _⟩) (v := ?_) rfl (by kernel_rfl) (by kernel_rfl) (by kernel_rfl) (fun _ _ _ h => h) (Or.inl ⟨by rfl, ?_⟩) hHeld ?_
            rotate_left
            · (intro w hSw; (try dsimp only at hSw); go_simp; try with_reducible rfl)
            try simp only [Act.put, List.setIfInBounds_toArray, List.set_cons_zero, List.set_cons_succ]
            refine wpAnyH_take (i := 8) (oi := ⟨_, _, _, _, _, _⟩) (v := ?_) rfl (by kernel_rfl) (by kernel_rfl) (by kernel_rfl) (fun _ _ _ h => h) (Or.inl ⟨by rfl, ?_⟩) hHeld ?_
            rotate_left
            · (intro w hSw; (try dsimp only at hSw); go_simp; try with_reducible rfl)
            try simp only [Act.put, List.setIfInBounds_toArray, List.set_cons_zero, List.set_cons_succ]
            refine wpAnyH_take (i := 9) (oi := ⟨_, _, _, _, _, _⟩) (v := ?_) rfl (by kernel_rfl) (by kernel_rfl) (by kernel_rfl) (fun _ _ _ h => h) (Or.inl ⟨by rfl, ?_⟩) hHeld ?_
            rotate_left
            · (intro w hSw; (try dsimp only at hSw); go_simp; try with_reducible rfl)
            try simp only [Act.put, List.setIfInBounds_toArray, List.set_cons_zero, List.set_cons_succ]
            refine wpAnyH_take (i := 10) (oi := ⟨_, _, _, _, _, _⟩) (v := ?_) rfl (by kernel_rfl) (by kernel_rfl) (by kernel_rfl) (fun _ _ _ h => h) (Or.inl ⟨by rfl, ?_⟩) hHeld ?_
            rotate_left
            · (intro w hSw; (try dsimp only at hSw); go_simp; try with_reducible rfl)
            try simp only [Act.put, List.setIfInBounds_toArray, List.set_cons_zero, List.set_cons_succ]
            refine wpAnyH_take (i := 11) (oi := ⟨_, _, _, _, _, _⟩) (v := ?_) rfl (by kernel_rfl) (by kernel_rfl) (by kernel_rfl) (fun _ _ _ h => h) (Or.inl ⟨by rfl, ?_⟩) hHeld ?_
            rotate_left
            · (intro w hSw; (try dsimp only at hSw); go_simp; try with_reducible rfl)
            try simp only [Act.put, List.setIfInBounds_toArray, List.set_cons_zero, List.set_cons_succ]
            refine wpAnyH_take (i := 12) (oi := ⟨_, _, _, _, _, _⟩) (v := ?_) rfl (by kernel_rfl) (by kernel_rfl) (by kernel_rfl) (fun _ _ _ h => h) (Or.inl ⟨by rfl, ?_⟩) hHeld ?_
            rotate_left
            · (intro w hSw; (try dsimp only at hSw); go_simp; try with_reducible rfl)
            try simp only [Act.put, List.setIfInBounds_toArray, List.set_cons_zero, List.set_cons_succ]
            refine wpAnyH_ready (rs := [13]) (by kernel_rfl) (by simp) ?_
            refine AllReadyH.cons (o := ⟨_, _, _, _, _, _⟩) rfl (fun K hK => ?_) AllReadyH.nil
            go_simp
            (refine (KB.out _).mono ?_; rintro e w1 ⟨rfl, hB1⟩; replace hbr := below2 hbr hB1)
            refine hK.out _ _ (HS2.out _ hbr) (fun hHeld => ?_)
            clear hK K
            try simp only [Act.put, List.setIfInBounds_toArray, List.set_cons_zero, List.set_cons_succ]
            refine wpAnyH_take (i := 14) (oi := ⟨_, _, _, _, _, _⟩) (v := ?_) rfl (by kernel_rfl) (by kernel_rfl) (by kernel_rfl) (fun _ _ _ h => h) (Or.inl ⟨by rfl, ?_⟩) hHeld ?_
            rotate_left
            · (intro w hSw; (try dsimp only at hSw); go_simp; try with_reducible rfl)
            try simp only [Act.put, List.setIfInBounds_toArray, List.set_cons_zero, List.set_cons_succ]
            refine wpAnyH_take (i := 15) (oi := ⟨_, _, _, _, _, _⟩) (v := ?_) rfl (by kernel_rfl) (by kernel_rfl) (by kernel_rfl) (fun _ _ _ h => h) (Or.inl ⟨by rfl, ?_⟩) hHeld ?_
            rotate_left
            · (intro w hSw; (try dsimp only at hSw); go_simp; try with_reducible rfl)
            try simp only [Act.put, List.setIfInBounds_toArray, List.set_cons_zero, List.set_cons_succ]
            refine wpAnyH_take (i := 16) (oi := ⟨_, _, _, _, _, _⟩) (v := ?_) rfl (by kernel_rfl) (by kernel_rfl) (by kernel_rfl) (fun _ _ _ h => h) (Or.inl ⟨by rfl, ?_⟩) hHeld ?_
            rotate_left
            · (intro w hSw; (try dsimp only at hSw); go_simp; try with_reducible rfl)
            try simp only [Act.put, List.setIfInBounds_toArray, List.set_cons_zero, List.set_cons_succ]
            refine wpAnyH_done (by kernel_rfl) ?_ _

            go_wp2_with fail
            go_ret
            exact ⟨by rw [HN.out]; rfl, below2 hB.out (HC.out _ hbr).1⟩
          | true =>
            rw [cmp_val.1 hl] at hKB
            have KB := Lib.hid hKB
            have HG : Hid (okTo (chs S) (k + 1)) := Lib.hid (by
              have h2 := HR.out.2.2.1 j (by omega)
              subst hj
              rw [hx, hy] at h2
              exact h2 hf.out hma hl)
            clear hma HR hk0 hl hKB hx hy
            refine wp_region_held_drew (S := (fun w' => (w'.cell? ⟨B, 0, none⟩ = some (.string ⟨q.toArray⟩) ∧ w'.cell? ⟨B, 1, none⟩ = some (.bool g) ∧ w'.cell? ⟨B, 2, none⟩ = some (.int .i64 z) ∧ w'.cell? ⟨B, 3, none⟩ = some (.int .i64 d) ∧ w'.cell? ⟨B, 4, none⟩ = some (.slice s1 s2 s3)) ∧ w'.cell? ⟨b, off + j * 5, none⟩ = some (.string ⟨p.toArray⟩) ∧ w'.cell? ⟨b, off + j * 5 + 1, none⟩ = some (.bool g') ∧ w'.cell? ⟨b, off + j * 5 + 2, none⟩ = some (.int .i64 z') ∧ w'.cell? ⟨b, off + j * 5 + 3, none⟩ = some (.int .i64 d') ∧ w'.cell? ⟨b, off + j * 5 + 4, none⟩ = some (.slice u1 u2 u3))) (by kernel_rfl) (HS2.out _ hbr) (fun hHeld => ?_)
            refine wpAnyH_take (i := 0) (oi := ⟨_, _, _, _, _, _⟩) (v := ?_) rfl (by kernel_rfl) (by kernel_rfl) (by kernel_rfl) (fun _ _ _ h => h) (Or.inl ⟨by rfl, ?_⟩) hHeld ?_
            rotate_left
            · (intro w hSw; (try dsimp only at hSw); go_simp; try with_reducible rfl)
            try simp only [Act.put, List.setIfInBounds_toArray, List.set_cons_zero, List.set_cons_succ]
            refine wpAnyH_ready (rs := [1]) (by kernel_rfl) (by simp) ?_
            refine AllReadyH.cons (o := ⟨_, _, _, _, _, _⟩) rfl (fun K hK => ?_) AllReadyH.nil
            go_simp
            (refine (KM.out _ hbr).mono ?_; rintro e w1 ⟨rfl, hB1⟩; replace hbr := below2 hbr hB1)
            refine hK.out _ _ (HS2.out _ hbr) (fun hHeld => ?_)
            clear hK K
            try simp only [Act.put, List.setIfInBounds_toArray, List.set_cons_zero, List.set_cons_succ]
            refine wpAnyH_take (i := 2) (oi := ⟨_, _, _, _, _, _⟩) (v := ?_) rfl (by kernel_rfl) (by kernel_rfl) (by kernel_rfl) (fun _ _ _ h => h) (Or.inl ⟨by rfl, ?_⟩) hHeld ?_
            rotate_left
            · (intro w hSw; (try dsimp only at hSw); go_simp; try with_reducible rfl)
            try simp only [Act.put, List.setIfInBounds_toArray, List.set_cons_zero, List.set_cons_succ]
            refine wpAnyH_take (i := 3) (oi := ⟨_, _, _, _, _, _⟩) (v := ?_) rfl (by kernel_rfl) (by kernel_rfl) (by kernel_rfl) (fun _ _ _ h => h) (Or.inl ⟨by rfl, ?_⟩) hHeld ?_
            rotate_left
            · (intro w hSw; (try dsimp only at hSw); go_simp; try with_reducible rfl)
            try simp only [Act.put, List.setIfInBounds_toArray, List.set_cons_zero, List.set_cons_succ]
            refine wpAnyH_take (i := 4) (oi := ⟨_, _, _, _, _, _⟩) (v := ?_) rfl (by kernel_rfl) (by kernel_rfl) (by kernel_rfl) (fun _ _ _ h => h) (Or.inl ⟨by rfl, ?_⟩) hHeld ?_
            rotate_left
            · (intro w hSw; (try dsimp only at hSw); go_simp; try with_reducible rfl)
            try simp only [Act.put, List.setIfInBounds_toArray, List.set_cons_zero, List.set_cons_succ]
            refine wpAnyH_take (i := 5) (oi := ⟨_, _, _, _, _, _⟩) (v := ?_) rfl (by kernel_rfl) (by kernel_rfl) (by kernel_rfl) (fun _ _ _ h => h) (Or.inl ⟨by rfl, ?_⟩) hHeld ?_
            rotate_left
            · (intro w hSw; (try dsimp only at hSw); go_simp; try with_reducible rfl)
            try simp only [Act.put, List.setIfInBounds_toArray, List.set_cons_zero, List.set_cons_succ]
            refine wpAnyH_take (i := 6) (oi := ⟨_, _, _, _, _, _⟩) (v := ?_) rfl (by kernel_rfl) (by kernel_rfl) (by kernel_rfl) (fun _ _ _ h => h) (Or.inl ⟨by rfl, ?_⟩) hHeld ?_
            rotate_left
            · (intro w hSw; (try dsimp only at hSw); go_simp; try with_reducible rfl)
            try simp only [Act.put, List.setIfInBounds_toArray, List.set_cons_zero, List.set_cons_succ]
            refine wpAnyH_take (i := 7) (oi := ⟨_, _, _, _, _, _⟩) (v := ?_) rfl (by kernel_rfl) (by kernel_rfl) (by kernel_rfl) (fun _ _ _ h => h) (Or.inl ⟨by rfl, ?_⟩) hHeld ?_
            rotate_left
            · (intro w hSw; (try dsimp only at hSw); go_simp; try with_reducible rfl)
            try simp only [Act.put, List.setIfInBounds_toArray, List.set_cons_zero, List.set_cons_succ]
            refine wpAnyH_take (i := 8) (oi := ⟨_, _, _, _, _, _⟩) (v := ?_) rfl (by kernel_rfl) (by kernel_rfl) (by kernel_rfl) (fun _ _ _ h => h) (Or.inl ⟨by rfl, ?_⟩) hHeld ?_
            rotate_left
            · (intro w hSw; (try dsimp only at hSw); go_simp; try with_reducible rfl)
            try simp only [Act.put, List.setIfInBounds_toArray, List.set_cons_zero, List.set_cons_succ]
            refine wpAnyH_take (i := 9) (oi := ⟨_, _, _, _, _, _⟩) (v := ?_) rfl (by kernel_rfl) (by kernel_rfl) (by kernel_rfl) (fun _ _ _ h => h) (Or.inl ⟨by rfl, ?_⟩) hHeld ?_
            rotate_left
            · (intro w hSw; (try dsimp only at hSw); go_simp; try with_reducible rfl)
            try simp only [Act.put, List.setIfInBounds_toArray, List.set_cons_zero, List.set_cons_succ]
            refine wpAnyH_take (i := 10) (oi := ⟨_, _, _, _, _, _⟩) (v := ?_) rfl (by kernel_rfl) (by kernel_rfl) (by kernel_rfl) (fun _ _ _ h => h) (Or.inl ⟨by rfl, ?_⟩) hHeld ?_
            rotate_left
            · (intro w hSw; (try dsimp only at hSw); go_simp; try with_reducible rfl)
            try simp only [Act.put, List.setIfInBounds_toArray, List.set_cons_zero, List.set_cons_succ]
            refine wpAnyH_take (i := 11) (oi := ⟨_, _, _, _, _, _⟩) (v := ?_) rfl (by kernel_rfl) (by kernel_rfl) (by kernel_rfl) (fun _ _ _ h => h) (Or.inl ⟨by rfl, ?_⟩) hHeld ?_
            rotate_left
            · (intro w hSw; (try dsimp only at hSw); go_simp; try with_reducible rfl)
            try simp only [Act.put, List.setIfInBounds_toArray, List.set_cons_zero, List.set_cons_succ]
            refine wpAnyH_take (i := 12) (oi := ⟨_, _, _, _, _, _⟩) (v := ?_) rfl (by kernel_rfl) (by kernel_rfl) (by kernel_rfl) (fun _ _ _ h => h) (Or.inl ⟨by rfl, ?_⟩) hHeld ?_
            rotate_left
            · (intro w hSw; (try dsimp only at hSw); go_simp; try with_reducible rfl)
            try simp only [Act.put, List.setIfInBounds_toArray, List.set_cons_zero, List.set_cons_succ]
            refine wpAnyH_ready (rs := [13]) (by kernel_rfl) (by simp) ?_
            refine AllReadyH.cons (o := ⟨_, _, _, _, _, _⟩) rfl (fun K hK => ?_) AllReadyH.nil
            go_simp
            (refine (KB.out _).mono ?_; rintro e w1 ⟨rfl, hB1⟩; replace hbr := below2 hbr hB1)
            refine hK.out _ _ (HS2.out _ hbr) (fun hHeld => ?_)
            clear hK K
            try simp only [Act.put, List.setIfInBounds_toArray, List.set_cons_zero, List.set_cons_succ]
            refine wpAnyH_take (i := 14) (oi := ⟨_, _, _, _, _, _⟩) (v := ?_) rfl (by kernel_rfl) (by kernel_rfl) (by kernel_rfl) (fun _ _ _ h => h) (Or.inl ⟨by rfl, ?_⟩) hHeld ?_
            rotate_left
            · (intro w hSw; (try dsimp only at hSw); go_simp; try with_reducible rfl)
            try simp only [Act.put, List.setIfInBounds_toArray, List.set_cons_zero, List.set_cons_succ]
            refine wpAnyH_take (i := 15) (oi := ⟨_, _, _, _, _, _⟩) (v := ?_) rfl (by kernel_rfl) (by kernel_rfl) (by kernel_rfl) (fun _ _ _ h => h) (Or.inl ⟨by rfl, ?_⟩) hHeld ?_
            rotate_left
            · (intro w hSw; (try dsimp only at hSw); go_simp; try with_reducible rfl)
            try simp only [Act.put, List.setIfInBounds_toArray, List.set_cons_zero, List.set_cons_succ]
            refine wpAnyH_take (i := 16) (oi := ⟨_, _, _, _, _, _⟩) (v := ?_) rfl (by kernel_rfl) (by kernel_rfl) (by kernel_rfl) (fun _ _ _ h => h) (Or.inl ⟨by rfl, ?_⟩) hHeld ?_
            rotate_left
            · (intro w hSw; (try dsimp only at hSw); go_simp; try with_reducible rfl)
            try simp only [Act.put, List.setIfInBounds_toArray, List.set_cons_zero, List.set_cons_succ]
            refine wpAnyH_done (by kernel_rfl) ?_ _

            go_wp2_with fail
            go_roundw
            case rel => exact ⟨k + 1, by go_num, by omega, HG, Lib.hid (below2 hB.out (HC.out _ hbr).1)⟩
            case measure => simp [intOf]; omega
    · obtain rfl : k = S.length := by omega
      have HR := Lib.hid (okTo_all (l := chs S) (by simpa using hf.out) HL.out.1 HL.out.2)
      go_wp2_with fail
      go_ret
      exact ⟨by rw [HR.out]; rfl, hB.out⟩

end Go.Proofs.YtmbnmmnoahddcaaGreatDoor

/-
  batch: Norm.
-/
namespace Go.Proofs.YtmbnmmnoahddcaaGreatDoor
set_option maxRecDepth 100000
open Go.RowKit Go.Maps Go.Sort Go.Shelf

theorem cgs_cs {w : World} {v : Value} {S : List Cv} (h : Cgs w v S) : ∃ T : List Cs, S = T.map toCv := by
  have hx := h.2
  clear h
  induction S with
  | nil => exact ⟨[], rfl⟩
  | cons x r ih =>
    obtain ⟨T, rfl⟩ := ih fun y hy => hx y (List.mem_cons_of_mem _ hy)
    obtain ⟨ao, cap, e⟩ := (hx x (by simp)).form
    exact ⟨(x.1, (ao, _, cap)) :: T, by rw [List.map_cons, toCv, sval, ← e]⟩
theorem chs_cs (T : List Cs) : chs (T.map toCv) = T.map Prod.fst := by
  unfold chs
  rw [List.map_map]
  rfl
theorem norm_may {l : List Cg} {k : Nat} (hk : k < l.length) (h : mayB l[k] = false) : normL l = [] ∧ normE l = 1 := by
  apply norm_no
  unfold normB
  rw [List.all_eq_false.2 ⟨l[k], List.getElem_mem hk, by rw [h]; simp⟩, Bool.false_and]
theorem norm_isB {l : List Cg} (h : ∀ c ∈ l, mayB c = true) : normB l = isB (putsC l) := by
  have ha : l.all mayB = true := List.all_eq_true.2 h
  rw [puts_isB ha, normB, ha, Bool.true_and]
/-- The first k changes may be. -/
def mayTo (T : List Cs) (k : Nat) : Prop := ∀ (i : Nat) (hi : i < T.length), i < k → mayB T[i].1 = true
theorem mayTo_succ {T : List Cs} {k : Nat} (h : mayTo T k) (hk : k < T.length) (h1 : mayB T[k].1 = true) : mayTo T (k + 1) := by
  intro i hi hik
  by_cases he : i = k
  · subst he; exact h1
  · exact h i hi (by omega)
theorem mayTo_all {T : List Cs} (h : mayTo T T.length) : ∀ c ∈ T.map Prod.fst, mayB c = true := by
  intro c hc
  obtain ⟨x, hx, rfl⟩ := List.mem_map.1 hc
  obtain ⟨i, hi, rfl⟩ := List.getElem_of_mem hx
  exact h i hi hi

set_option maxHeartbeats 8000000 in
theorem baNorm_calls (v : Value) (T : List Cs) (w : World) (h : Cgs w v (T.map toCv)) (hn : T.length ≤ 1000) (hs : SmallC (T.map Prod.fst)) (hm : Ml w) :
    Calls Tryz.prog 7 #[v] w fun e w' => ∃ v' S', e = .returned (.tuple #[v', .int .i64 (normE (T.map Prod.fst))]) ∧ OwnC w' w.heap.size v' S' ∧ chs S' = normL (T.map Prod.fst) ∧ Below w.heap.size w w' := by
  have hmm := @run_makeMap Tryz.prog
  obtain ⟨ao, cap, rfl⟩ := h.form
  rw [List.length_map] at h ⊢
  have hB0 := below_alloc w (.map #[] 0)
  have hF0 : (w.alloc (.map #[] 0)).ownsMap Tryz.prog 9 selfR w.heap.size 0 (.map []) := World.ownsMap_made w Tryz.prog 9 selfR
  have HF0 := Lib.hid hF0
  have HB0 := Lib.hid hB0
  have HH := Lib.hid h
  have HS := Lib.hid hs
  have HM := Lib.hid hm
  clear h hs hm hB0 hF0
  go_enter Tryz.func7, Tryz.ntmps7
  go_wp2_with fail
  go_loopw [13] (fun i wr => ∃ k : Nat, i = .int .i64 k ∧ k ≤ T.length ∧ (∃ D, wr.ownsMap Tryz.prog 9 selfR w.heap.size k D ∧ Hid (GDat D (T.take k))) ∧ Hid (mayTo T k) ∧ Hid (Below w.heap.size w wr)) (fun i _ => T.length - (intOf i).toNat)
  case atStart => exact ⟨0, rfl, Nat.zero_le _, ⟨_, HF0.out, Lib.hid gdat_nil⟩, Lib.hid (fun _ _ h => absurd h (Nat.not_lt_zero _)), HB0⟩
  case round =>
    obtain ⟨k, rfl, hk, ⟨D, hD, hd⟩, hf, hB⟩ := hrel
    by_cases hlt : k < T.length
    · obtain ⟨b, off, rfl, ⟨c0, c1, c2, c3, c4⟩, hI⟩ := (HH.out.below hB.out).at (k := k) (by simpa using hlt)
      simp only [List.getElem_map] at c0 c1 c2 c3 c4 hI
      have hsm := HS.out T[k].1 (List.mem_map.2 ⟨_, List.getElem_mem hlt, rfl⟩)
      have hno := fun h => norm_may (l := T.map Prod.fst) (k := k) (by simpa using hlt) (by simpa using h)
      have hgo := fun h => mayTo_succ hf.out hlt h
      have htk : T.take (k + 1) = T.take k ++ [T[k]] := List.take_succ_eq_append_getElem hlt
      obtain ⟨⟨⟨q, g, z, d, cs⟩, s1, s2, s3⟩, hx⟩ : ∃ x, T[k] = x := ⟨_, rfl⟩
      rw [hx] at c0 c1 c2 c3 c4 hI hsm hgo htk
      have hno : mayB (q, g, z, d, cs) = false → _ := fun h => hno (by rw [hx]; exact h)
      dsimp only [toCv, sval] at c0 c1 c2 c3 c4 hI hsm hgo
      obtain rfl : s2 = cs.length := by
        obtain ⟨_, _, e⟩ := hI.form
        cases e
        rfl
      have hB1 := below_alloc wr (.cells #[.string ⟨q.toArray⟩, .bool g, .int .i64 z, .int .i64 d, .slice s1 cs.length s3] 36)
      have KM := mayBe_calls q g z d _ cs _ (hI.below hB1) hsm.2 hsm.1 ((HM.out.below hB.out).below hB1)
      have HX := Lib.hid (Cx.new wr 36 [.string ⟨q.toArray⟩, .bool g, .int .i64 z, .int .i64 d, .slice s1 cs.length s3])
      have HD1 := Lib.hid (hD.alloc (.cells #[.string ⟨q.toArray⟩, .bool g, .int .i64 z, .int .i64 d, .slice s1 cs.length s3] 36))
      have hBB1 := Lib.hid (below2 hB.out hB1)
      clear hB1 hI hD hx
      cases hma : mayB (q, g, z, d, cs) with
      | false =>
        rw [hma] at KM
        have K := Lib.hid KM
        have HN := Lib.hid (hno hma)
        clear KM hma hno hgo htk hsm
        go_wp2_with fail
        refine K.out.mono ?_
        rintro e w1 ⟨rfl, hB2⟩
        go_wp2_with fail
        go_ret2
        exact ⟨_, [], by rw [HN.out.2]; rfl, OwnC.nil _ _, by rw [HN.out.1]; rfl, below2 hBB1.out hB2⟩
      | true =>
        rw [hma] at KM
        have K := Lib.hid KM
        have HG := Lib.hid (hgo hma)
        have hkey : keyOf Tryz.prog 9 (.string ⟨q.toArray⟩) = some (.string q) := by
          have := WideMaps.keyOf_string_mk (P := Tryz.prog) (s := ⟨q.toArray⟩) Tryz.underlying9 (by unfold maxLen; simpa [ByteArray.size] using (by omega : q.length ≤ 9223372036854775807))
          simpa using this
        have HP := Lib.hid (fun hM => gdat_put (x := ((q, g, z, d, cs), (s1, cs.length, s3))) hd.out hM)
        have HT := Lib.hid htk
        clear KM hma hno hgo htk hsm
        go_wp2_with fail
        refine K.out.mono ?_
        rintro e w1 ⟨rfl, hB2⟩
        obtain ⟨x0, x1, x2, x3, x4⟩ := (HX.out.below hB2).five
        have hD2 := HD1.out.kept (below_grown hB2) (by simp)
        have hBB2 := Lib.hid (below2 hBB1.out hB2)
        clear hB2 c0 c1 c2 c3 c4
        go_wp2_with (at_mapUpdate; refine wpList_mapUpdate_own _ rfl _ _ _ 41 rfl 9 42 strLaw Tryz.underlying41 selfR w.heap.size k D rfl hD2 (by unfold maxLen; omega) _ _ _ rfl rfl hkey (.held (CsV ((q, g, z, d, cs), (s1, cs.length, s3)))) [] rfl ?_; intro w3 hD3 hg3)
        go_roundw
        case rel =>
          exact ⟨k + 1, by go_num, by omega, ⟨_, hD3, by rw [HT.out]; exact Lib.hid (HP.out hD2.isMap)⟩, HG, Lib.hid (hBB2.out.grown hg3 hBB2.out.size (fun j e => by cases e; exact Nat.le_refl _))⟩
        case measure => simp [intOf]; omega
    · obtain rfl : k = T.length := by omega
      rw [List.take_length] at hd
      have HA := Lib.hid (mayTo_all hf.out)
      have KS := Lib.hid (sorted_calls wr.heap.size w.heap.size T.length D T hd.out (wr.alloc (.cells #[.map (some w.heap.size)] 41)) (Boxed.new _ _ _) (hD.alloc _) (by omega))
      have hBB := Lib.hid (below2 hB.out (below_alloc wr (.cells #[.map (some w.heap.size)] 41)))
      clear hd hf hD
      go_wp2_with (go_at_call 22; refine (values_calls _ _).mono ?_; rintro e w1 ⟨rfl, rfl⟩)
      refine KS.out.mono ?_
      rintro e w2 ⟨v2, zs, rfl, hz1, hz2, ho, hl, hB2⟩
      have hBw2 := Lib.hid (below2 hBB.out hB2)
      have hoS : OwnS w2 w.heap.size v2 zs := own_weak ho hBB.out.size
      have HO := Lib.hid hoS
      have HZ1 := Lib.hid hz1
      have HZ2 := Lib.hid hz2
      obtain ⟨a2, cap2, rfl⟩ := (Rw.own ho).form
      clear hz1 hz2 ho hoS hB2 KS hBB
      go_wp2_with fail
      go_loopw [7, 29] (fun r i wq => ∃ (k : Nat) (S' : List Cv), i = .int .i64 k ∧ k ≤ zs.length ∧ OwnC wq w.heap.size r S' ∧ S'.length = k ∧ Hid (chs S' = (zs.take k).map Prod.fst) ∧ Hid (OwnS wq w.heap.size (.slice a2 zs.length cap2) zs) ∧ Hid (Below w.heap.size w wq)) (fun _ i _ => zs.length - (intOf i).toNat)
      case atStart => exact ⟨0, [], rfl, Nat.zero_le _, OwnC.nil _ _, rfl, Lib.hid rfl, HO, hBw2⟩
      case round =>
        obtain ⟨k, S', rfl, hk2, hown, hlen, hch, hoz, hBq⟩ := hrel
        rename World => wq
        have hcg : Cgs wq (.slice a2 zs.length cap2) (zs.map toCv) := by
          refine ⟨?_, fun x hx => ?_⟩
          · rw [List.length_map, cells_flat]
            exact Rw.own hoz.out
          · obtain ⟨z, hz, rfl⟩ := List.mem_map.1 hx
            exact (HH.out.2 _ (List.mem_map.2 ⟨z, HZ2.out z hz, rfl⟩)).below hBq.out
        by_cases hlt2 : k < zs.length
        · obtain ⟨b2, off2, rfl, ⟨c0, c1, c2, c3, c4⟩, hI⟩ := hcg.at (k := k) (by simpa using hlt2)
          simp only [List.getElem_map] at c0 c1 c2 c3 c4 hI
          have hsm := HS.out zs[k].1 (List.mem_map.2 ⟨_, HZ2.out _ (List.getElem_mem hlt2), rfl⟩)
          have htk : zs.take (k + 1) = zs.take k ++ [zs[k]] := List.take_succ_eq_append_getElem hlt2
          obtain ⟨⟨⟨q, g, z, d, cs⟩, s1, s2, s3⟩, hx⟩ : ∃ x, zs[k] = x := ⟨_, rfl⟩
          rw [hx] at c0 c1 c2 c3 c4 hI hsm htk
          dsimp only [toCv, sval] at c0 c1 c2 c3 c4 hI hsm
          obtain rfl : s2 = cs.length := by
            obtain ⟨_, _, e⟩ := hI.form
            cases e
            rfl
          have hB1 := below_alloc wq (.cells #[.string ⟨q.toArray⟩, .bool g, .int .i64 z, .int .i64 d, .slice s1 cs.length s3] 42)
          have KC := Lib.hid (copied_calls q g z d _ cs _ (hI.below hB1) hsm.2)
          have HO1 := Lib.hid (hown.stays hB1)
          have HZ3 := Lib.hid (own_stays hoz.out hB1)
          have hBB1 := Lib.hid (below2 hBq.out hB1)
          have HT := Lib.hid htk
          have hszq := hBq.out.size
          clear hcg hI hsm htk hx hB1 hown hoz
          go_wp2_with fail
          refine KC.out.mono ?_
          rintro e w3 ⟨v3, rfl, ho3, hB3⟩
          have HO3 := Lib.hid (HO1.out.stays hB3)
          have HZ4 := Lib.hid (own_stays HZ3.out hB3)
          have hB13 := Lib.hid (below2 hBB1.out hB3)
          have hsz3 := hB13.out.size
          have HI3 : Hid (OwnI w3 w.heap.size v3 cs) := Lib.hid (own_weak ho3 (by rw [World.size_alloc]; omega))
          obtain ⟨a3, n3, cap3, rfl⟩ := own_form ho3
          clear ho3 hB3 c0 c1 c2 c3 c4
          go_wp2_with (at_builtin; refine app_change rfl _ _ rfl w.heap.size _ S' rfl HO3.out q g z d (.slice a3 n3 cap3) cs HI3.out rfl (by omega) hsz3 ?_; intro v4 w4 ho4 hB4 hK4)
          go_roundw
          case rel =>
            refine ⟨k + 1, _, by go_num, by omega, ho4, by simp [hlen], Lib.hid ?_, Lib.hid (hK4 _ _ _ _ _ _ (by decide) HZ4.out), Lib.hid (hB4 w hB13.out)⟩
            rw [HT.out, List.map_append, ← hch.out]
            simp
          case measure => simp [intOf]; omega
        · obtain rfl : k = zs.length := by omega
          rw [List.take_length] at hch
          have e1 : chs S' = putsC (T.map Prod.fst) := hch.out.trans HZ1.out
          have KI := baIs_calls _ S' wq hown.cgs (by omega) (fun c hc => HS.out c (baPuts_mem (by rw [← e1]; exact hc))) (HM.out.below hBq.out)
          rw [e1] at KI
          have HN := Lib.hid (norm_isB HA.out)
          have HE := Lib.hid e1
          have HW := Lib.hid hown
          obtain ⟨a5, cap5, rfl⟩ := hown.form
          clear hown hcg hch hoz e1 hlen
          cases hb : isB (putsC (T.map Prod.fst)) with
          | false =>
            rw [hb] at KI
            have K := Lib.hid KI
            have HX := Lib.hid (norm_no (HN.out.trans hb))
            clear KI hb
            go_wp2_with fail
            refine K.out.mono ?_
            rintro e w3 ⟨rfl, hB3⟩
            go_wp2_with fail
            go_ret2
            exact ⟨_, [], by rw [HX.out.2]; rfl, OwnC.nil _ _, by rw [HX.out.1]; rfl, below2 hBq.out hB3⟩
          | true =>
            rw [hb] at KI
            have K := Lib.hid KI
            have HX := Lib.hid (norm_yes (HN.out.trans hb))
            clear KI hb
            go_wp2_with fail
            refine K.out.mono ?_
            rintro e w3 ⟨rfl, hB3⟩
            go_wp2_with fail
            go_ret2
            exact ⟨_, S', by rw [HX.out.2]; rfl, HW.out.stays hB3, by rw [HX.out.1]; exact HE.out, below2 hBq.out hB3⟩

end Go.Proofs.YtmbnmmnoahddcaaGreatDoor

/-
  Slices of rows of changes.
-/
namespace Go.Proofs.YtmbnmmnoahddcaaGreatDoor
set_option maxRecDepth 100000
open Go.RowKit

theorem change_elem : Tryz.prog.elem 22 = 36 := by kernel_rfl
theorem change_slice : Tryz.prog.underlying 22 = some (.slice (Tryz.prog.elem 22)) := by kernel_rfl
theorem change_sizeW (W : World) : (sizeOf 36).run Tryz.prog W = .ok 5 W := by
  have h : (Tryz.prog.info? 36).map (·.size) = some 5 := by kernel_rfl
  cases hq : Tryz.prog.info? 36 with
  | none => simp [hq] at h
  | some i =>
    have hs : i.size = 5 := by simpa [hq] using h
    simp [sizeOf, typeInfo, hq, hs]
/-- A slice from the n-th change on. -/
theorem csl_from {w : World} {ao : Option Addr} {k cap : Nat} {S : List Cv} (h : Cgs w (.slice ao k cap) S) (n m : Nat) (hn : n ≤ k) (hm : n + m = k) :
    ∃ a1 c1, (∀ W, (Instr.slice 22 (.slice ao k cap) (some (.int .i64 (n : Int))) none none).run Tryz.prog W = .ok (.slice a1 m c1) W) ∧ Cgs w (.slice a1 m c1) (S.drop n) := by
  have hc : k ≤ cap ∧ k = S.length := by
    obtain ⟨⟨_, ao', c, he, hc, _⟩, _⟩ := h
    cases he
    exact ⟨hc, rfl⟩
  obtain ⟨hc, rfl⟩ := hc
  have hm' : m = S.length - n := by omega
  have hr : ∀ W, (Instr.slice 22 (.slice ao S.length cap) (some (.int .i64 (n : Int))) none none).run Tryz.prog W = .ok (sliced ao n S.length cap 5) W := by
    intro W
    rw [run_slice_l W _ ao S.length cap change_slice .i64 n (by omega) (by omega), change_elem, change_sizeW]
    rfl
  unfold sliced at hr
  rw [← hm'] at hr
  refine ⟨_, _, hr, ?_⟩
  cases ao with
  | none =>
    obtain rfl := h.of_nil
    obtain rfl : m = 0 := by simpa using hm'
    have e : (if cap = n then (none : Option Addr) else Option.map (fun a : Addr => a.add (n * 5)) none) = none := by split <;> rfl
    rw [e]
    rw [List.drop_nil]
    exact ⟨⟨rfl, none, _, rfl, Nat.zero_le _, .inl rfl⟩, fun x hx => by cases hx⟩
  | some a =>
    by_cases h0 : S = []
    · subst h0
      obtain rfl : m = 0 := by simpa using hm'
      rw [List.drop_nil]
      exact ⟨⟨rfl, _, _, rfl, Nat.zero_le _, .inl rfl⟩, fun x hx => by cases hx⟩
    · obtain ⟨b, off, rfl⟩ := h.spot h0
      by_cases hcn : cap = n
      · rw [if_pos hcn]
        exact h.drop hn hm' (cap' := cap - n) (by omega) off (.inr (by omega))
      · rw [if_neg hcn, Option.map_some, Go.WideShapes.add_plain]
        exact h.drop hn hm' (cap' := cap - n) (by omega) _ (.inl rfl)
/-- A slice of the first n changes. -/
theorem csl_to {w : World} {ao : Option Addr} {k cap : Nat} {S : List Cv} (h : Cgs w (.slice ao k cap) S) (n : Nat) (hn : n ≤ k) :
    (∀ W, (Instr.slice 22 (.slice ao k cap) none (some (.int .i64 (n : Int))) none).run Tryz.prog W = .ok (.slice ao n cap) W) ∧ Cgs w (.slice ao n cap) (S.take n) := by
  have hc : k ≤ cap ∧ k = S.length := by
    obtain ⟨⟨_, ao', c, he, hc, _⟩, _⟩ := h
    cases he
    exact ⟨hc, rfl⟩
  obtain ⟨hc, rfl⟩ := hc
  refine ⟨fun W => ?_, h.take hn⟩
  rw [run_slice_h W _ ao S.length cap change_slice .i64 n (by omega) (by omega), change_elem, change_sizeW]
  cases ao <;> simp [sliced, Result.andThen, Addr.add]

end Go.Proofs.YtmbnmmnoahddcaaGreatDoor

/-
  slices.Grow, slices.Concat of changes; batch: Join.
-/
namespace Go.Proofs.YtmbnmmnoahddcaaGreatDoor
set_option maxRecDepth 100000
open Go.RowKit

set_option maxHeartbeats 2000000 in
set_option maxRecDepth 100000 in
theorem growC_calls (n : Nat) (w : World) (hm : n ≤ 1000000) :
    Calls Tryz.prog 52 #[.slice none 0 0, .int .i64 n] w fun e w' => ∃ ao cap, e = .returned (.slice ao 0 cap) ∧ w'.ownsRow w.heap.size 36 5 (.slice ao 0 cap) 0 [] ∧ Below w.heap.size w w' := by
  obtain ⟨i0, hi, hz0, hz1, hz2⟩ := info_parts infoC
  by_cases h0 : n = 0
  · subst h0
    go_enter Tryz.func52, Tryz.ntmps52
    go_wp2_with fail
    go_ret
    exact ⟨none, 0, rfl, World.ownsRow_nil _ _ _ _, Below.refl _ _⟩
  · obtain ⟨cap, w1, hr, hc1, hc2, ho, hB⟩ := grow_nil w 22 36 i0 _ 5 64 Tryz.underlying22 int_under hi hz0 hz1 hz2 rfl (by decide) n (by omega) hm (by decide)
    have HO := Lib.hid ho
    have hp : (0 : Int) < (n : Int) := by omega
    unfold maxLen at hc2
    have hsl : ∀ W, (Instr.slice 22 (.slice (some ⟨w.heap.size, 0, none⟩) n cap) none (some (.int .i64 0)) none).run Tryz.prog W = .ok (.slice (some ⟨w.heap.size, 0, none⟩) 0 cap) W := fun W => by
      have := run_slice_h (P := Tryz.prog) W 22 (some ⟨w.heap.size, 0, none⟩) n cap change_slice .i64 0 (by omega) (by omega)
      simpa [change_elem, change_sizeW, sliced, Result.andThen, Addr.add] using this
    clear ho
    go_enter Tryz.func52, Tryz.ntmps52
    go_wp2_with (at_builtin; refine Lib.wpList_append_run _ rfl _ _ _ _ rfl _ _ rfl rfl _ _ (hr _) ?_)
    go_ret
    exact ⟨_, cap, rfl, HO.out, hB⟩

set_option maxHeartbeats 4000000 in
set_option maxRecDepth 100000 in
theorem concatC_raw (v : Value) (R : List Rin) (w : World) (hs : RwsN w 5 v R) (h1 : ∀ x ∈ R, ∀ u ∈ x.2.2, u.oneCell' = true) (hn : R.length ≤ 1000) (hm : catN R ≤ 1000000) :
    Calls Tryz.prog 31 #[v] w fun e w' => ∃ ao cap, e = .returned (.slice ao (catN R) cap) ∧ Rw w' 5 (.slice ao (catN R) cap) (catN R) (catC R) ∧ Below w.heap.size w w' := by
  obtain ⟨i0, hi, hz0, hz1, hz2⟩ := info_parts infoC
  obtain ⟨av, cv, rfl⟩ := hs.form
  have HS := Lib.hid (And.intro hs h1)
  clear hs h1
  go_enter Tryz.func31, Tryz.ntmps31
  go_wp2_with fail
  go_loop [3, 11] (fun n i => ∃ k : Nat, k ≤ R.length ∧ i = .int .i64 k ∧ n = .int .i64 (catN (R.take k))) (fun _ i => R.length - (intOf i).toNat)
  case atStart => exact ⟨0, Nat.zero_le _, rfl, by simp [catN]⟩
  case round =>
    obtain ⟨k, hk, rfl, rfl⟩ := hrel
    by_cases hlt : k < R.length
    · obtain ⟨b, off, ar, cr, rfl, c0, hp⟩ := HS.out.1.at hlt
      have hl := catN_succ hlt
      have hl2 := catN_le R (k + 1)
      obtain ⟨m, hm1⟩ : ∃ m, R[k].2.1 = m := ⟨_, rfl⟩
      obtain ⟨t, ht⟩ : ∃ t, catN (R.take k) = t := ⟨_, rfl⟩
      rw [hm1] at hl c0
      rw [ht] at hl ⊢
      have HL := Lib.hid hl
      have hb : t + m ≤ 1000000 := by omega
      have hneg : decide ((t : Int) + (m : Int) < 0) = false := by rw [decide_eq_false_iff_not]; omega
      clear hl hl2 hp hm1 ht
      go_wp2_with fail
      go_round
      case rel => exact ⟨k + 1, by omega, by go_num, by rw [HL.out]; go_num⟩
      case measure => simp [intOf]; omega
    · obtain rfl : k = R.length := by omega
      rw [List.take_length]
      obtain ⟨t, ht⟩ : ∃ t, catN R = t := ⟨_, rfl⟩
      rw [ht] at hm ⊢
      have HT := Lib.hid ht
      have KG := Lib.hid (growC_calls t w hm)
      clear ht
      go_wp2_with fail
      refine KG.out.mono ?_
      rintro e w0 ⟨a0, cap0, rfl, ho, hB0⟩
      have HO := Lib.hid ho
      clear ho
      go_wp2_with fail
      go_loopw [6, 27] (fun r i wr => ∃ k : Nat, k ≤ R.length ∧ i = .int .i64 k ∧ (∃ ao cap, r = .slice ao (catN (R.take k)) cap ∧ wr.ownsRow w.heap.size 36 5 (.slice ao (catN (R.take k)) cap) (catN (R.take k)) (catC (R.take k))) ∧ Below w.heap.size w wr) (fun _ i _ => R.length - (intOf i).toNat)
      case atStart => exact ⟨0, Nat.zero_le _, rfl, ⟨a0, cap0, by simp [catN], by simpa [catN, catC] using HO.out⟩, hB0⟩
      case round =>
        obtain ⟨k, hk, rfl, ⟨ao, cap, rfl, hown⟩, hB⟩ := hrel
        by_cases hlt : k < R.length
        · obtain ⟨b, off, ar, cr, rfl, c0, hp⟩ := (HS.out.1.below hB).at hlt
          have hone := HS.out.2 _ (List.getElem_mem hlt)
          have hl := catN_succ hlt
          have hl2 := catN_le R (k + 1)
          have hcs := catC_succ hlt
          rw [HT.out] at hl2
          obtain ⟨m, hm1⟩ : ∃ m, R[k].2.1 = m := ⟨_, rfl⟩
          obtain ⟨cs, hcs1⟩ : ∃ cs, R[k].2.2 = cs := ⟨_, rfl⟩
          obtain ⟨n, hm2⟩ : ∃ n, catN (R.take k) = n := ⟨_, rfl⟩
          obtain ⟨q, hm3⟩ : ∃ q, catN (R.take (k + 1)) = q := ⟨_, rfl⟩
          rw [hm1, hcs1] at hp
          rw [hm1] at c0 hl
          rw [hcs1] at hone hcs
          rw [hm2] at hown hl ⊢
          rw [hm3] at hl hl2
          have HP := Lib.hid (And.intro hp (And.intro hown (And.intro hcs (And.intro hm3 hone))))
          have hb : n + m = q := by omega
          have hb2 : q ≤ 1000000 := by omega
          clear hl hl2 hcs hp hown hm1 hm2 hm3 hone hcs1
          go_wp2_with (at_builtin; refine wpList_append_rw rfl (.tmp 31) (.tmp 32) 22 rfl w.heap.size 36 i0 _ 5 64 Tryz.underlying22 hi hz0 hz1 hz2 rfl (by decide) _ n _ rfl HP.out.2.1 ar m cr cs rfl HP.out.1 HP.out.2.2.2.2 q hb (by unfold maxLen; omega) (by omega) hB.size ?_; intro a3 c3 w3 hown3 hg3)
          have hB3 := hB.grown hg3 hB.size (fun j e => (HP.out.2.1.lt j e).1)
          go_roundw
          case rel =>
            obtain ⟨_, _, f3, f4, _⟩ := HP.out
            refine ⟨k + 1, by omega, by go_num, ⟨a3, c3, by rw [f4], ?_⟩, hB3⟩
            rw [f4, f3]
            exact hown3
          case measure => simp [intOf]; omega
        · obtain rfl : k = R.length := by omega
          rw [List.take_length, HT.out] at hown ⊢
          have HW := Lib.hid hown
          clear hown
          go_wp2_with fail
          go_ret
          exact ⟨ao, cap, by rw [HT.out]; rfl, by rw [HT.out]; exact Rw.own HW.out, hB⟩


/-- Two rows as they were written out. -/
theorem two_lit (w : World) (u v : Value) (t : TypeId) : Rw (w.alloc (.cells #[u, v] t)) 1 (.slice (some ⟨w.heap.size, 0, none⟩) 2 2) 2 [u, v] := by
  refine ⟨rfl, _, _, rfl, Nat.le_refl _, .inr ⟨_, 0, rfl, fun j hj => ?_⟩⟩
  rw [Nat.zero_add, World.cell?_alloc_new]
  match j, hj with
  | 0, _ => rfl
  | 1, _ => rfl

set_option maxHeartbeats 2000000 in
theorem baJoin_calls (u v : Value) (S T : List Cs) (w : World) (hS : Cgs w u (S.map toCv)) (hT : Cgs w v (T.map toCv)) (hn : S.length ≤ 500) (hn2 : T.length ≤ 500) (hs : SmallC (S.map Prod.fst)) (hs2 : SmallC (T.map Prod.fst)) (hm : Ml w) :
    Calls Tryz.prog 11 #[u, v] w fun e w' => ∃ v' S', e = .returned (.tuple #[v', .int .i64 (normE (S.map Prod.fst ++ T.map Prod.fst))]) ∧ OwnC w' w.heap.size v' S' ∧ chs S' = normL (S.map Prod.fst ++ T.map Prod.fst) ∧ Below w.heap.size w w' := by
  obtain ⟨ao, c1, rfl⟩ := hS.form
  obtain ⟨bo, c2, rfl⟩ := hT.form
  rw [List.length_map] at hS hT ⊢
  rw [List.length_map]
  have hB0 := below_alloc w (.cells #[.slice ao S.length c1, .slice bo T.length c2] 22)
  have hR : RwsN (w.alloc (.cells #[.slice ao S.length c1, .slice bo T.length c2] 22)) 5 (.slice (some ⟨w.heap.size, 0, none⟩) 2 2) [(.slice ao S.length c1, S.length, ccells (S.map toCv)), (.slice bo T.length c2, T.length, ccells (T.map toCv))] := by
    refine ⟨two_lit w _ _ _, fun x hx => ?_⟩
    rcases List.mem_cons.1 hx with rfl | hx
    · have := (hS.below hB0).1
      rwa [List.length_map] at this
    · obtain rfl := List.mem_singleton.1 hx
      have := (hT.below hB0).1
      rwa [List.length_map] at this
  have KC := concatC_raw _ _ _ hR (fun x hx y hy => by
    rcases List.mem_cons.1 hx with rfl | hx
    · exact ccells_one hS.2 y hy
    · obtain rfl := List.mem_singleton.1 hx
      exact ccells_one hT.2 y hy) (by simp) (by simp [catN]; omega)
  have e1 : catN [((.slice ao S.length c1, S.length, ccells (S.map toCv)) : Rin), (.slice bo T.length c2, T.length, ccells (T.map toCv))] = (S ++ T).length := by simp [catN]
  have e2 : catC [((.slice ao S.length c1, S.length, ccells (S.map toCv)) : Rin), (.slice bo T.length c2, T.length, ccells (T.map toCv))] = ccells ((S ++ T).map toCv) := by simp [catC, ccells_append]
  rw [e1, e2] at KC
  obtain ⟨n, hnn⟩ : ∃ n, (S ++ T).length = n := ⟨_, rfl⟩
  have hn5 : n ≤ 1000 := by rw [← hnn, List.length_append]; omega
  rw [hnn] at KC
  have HNN := Lib.hid hnn
  have HB0 := Lib.hid hB0
  have HK := Lib.hid KC
  have HST := Lib.hid (And.intro hS hT)
  have HM := Lib.hid hm
  have HSM : Hid (SmallC ((S ++ T).map Prod.fst)) := Lib.hid (fun c hc => by
    rw [List.map_append] at hc
    rcases List.mem_append.1 hc with hc | hc
    · exact hs c hc
    · exact hs2 c hc)
  have HMA := Lib.hid (List.map_append (f := (Prod.fst : Cs → Cg)) (l₁ := S) (l₂ := T))
  clear hS hT hB0 hR KC e1 e2 hm hs hs2 hnn
  go_enter Tryz.func11, Tryz.ntmps11
  go_wp2_with fail
  refine HK.out.mono ?_
  rintro e w1 ⟨a1, cap1, rfl, hr, hB1⟩
  have hBB := Lib.hid (below2 HB0.out hB1)
  have hC : Cgs w1 (.slice a1 n cap1) ((S ++ T).map toCv) := by
    refine ⟨by rw [List.length_map, HNN.out]; exact hr, fun x hx => ?_⟩
    rw [List.map_append] at hx
    rcases List.mem_append.1 hx with hx | hx
    · exact (HST.out.1.2 x hx).below hBB.out
    · exact (HST.out.2.2 x hx).below hBB.out
  have KN := Lib.hid (baNorm_calls _ (S ++ T) w1 hC (by rw [HNN.out]; exact hn5) HSM.out (HM.out.below hBB.out))
  clear hC hr hB1
  go_wp2_with fail
  refine KN.out.mono ?_
  rintro e w2 ⟨v', S', rfl, ho, hch, hB2⟩
  have HO := Lib.hid (And.intro ho (And.intro hch hB2))
  obtain ⟨a3, c3, rfl⟩ := ho.form
  clear ho hch hB2
  go_wp2_with fail
  go_ret2
  obtain ⟨ho, hch, hB2⟩ := HO.out
  exact ⟨_, S', rfl, ho.weak hBB.out.size, by rw [← HMA.out]; exact hch, below2 hBB.out hB2⟩

end Go.Proofs.YtmbnmmnoahddcaaGreatDoor

/-
  A batch's bytes in plain words.
-/
namespace Go.Proofs.YtmbnmmnoahddcaaGreatDoor
set_option maxRecDepth 100000

/-- A value's bytes. -/
def cval (c : Cg) : List UInt8 := valM c.2.2.1 c.2.2.2.1 c.2.2.2.2 c.2.1
/-- The texts of a batch's row. -/
def rowL (l : List Cg) : List (List UInt8) := l.flatMap fun c => [c.1, cval c]
theorem rowL_cons (c : Cg) (r : List Cg) : rowL (c :: r) = c.1 :: cval c :: rowL r := rfl
theorem rowL_len (l : List Cg) : (rowL l).length = 2 * l.length := by
  induction l with
  | nil => rfl
  | cons c r ih => rw [rowL_cons]; simp only [List.length_cons, ih]; omega
theorem rowL_snoc {l : List Cg} {k : Nat} (hk : k < l.length) : rowL (l.take (k + 1)) = rowL (l.take k) ++ [l[k].1, cval l[k]] := by
  rw [List.take_succ_eq_append_getElem hk, rowL, List.flatMap_append]
  rfl
theorem rowL_at : ∀ (l : List Cg) (i : Nat) (h : i < l.length), (rowL l)[2 * i]? = some l[i].1 ∧ (rowL l)[2 * i + 1]? = some (cval l[i])
  | c :: r, 0, _ => ⟨rfl, rfl⟩
  | c :: r, i + 1, h => by
    have ih := rowL_at r i (by simpa using h)
    rw [rowL_cons, show 2 * (i + 1) = 2 * i + 1 + 1 by omega]
    exact ih
theorem isP_len {s : List UInt8} (h : isP s = true) : s.length ≤ 100 := by
  obtain ⟨l, hl⟩ := isP_some h
  exact (names_fine hl).2.2
theorem cval_len {c : Cg} (h : mayB c = true) : (cval c).length ≤ 96 := by
  obtain ⟨_, _, h3, _⟩ := mayB_iff.1 h
  have h4 := (metaB_iff.1 h3).1
  have h5 := metaT_len c.2.2.1 c.2.2.2.1 c.2.2.2.2
  unfold cval valM
  cases c.2.1 with
  | true => simp
  | false =>
    rw [if_neg (by simp), if_pos h3, List.length_cons]
    omega
theorem rowL_fine {l : List Cg} (h : ∀ c ∈ l, mayB c = true) : ∀ t ∈ rowL l, t.length ≤ 4000 := by
  intro t ht
  obtain ⟨c, hc, hx⟩ := List.mem_flatMap.1 ht
  have h1 := cval_len (h c hc)
  have h2 := isP_len (mayB_iff.1 (h c hc)).2.1
  simp at hx
  rcases hx with rfl | rfl <;> omega
/-- What Put answers. -/
def putBT (l : List Cg) : List UInt8 := if isB l then rowB (rowL l) else []
def putBE (l : List Cg) : Int := if isB l then 0 else 1
theorem baPut_yes {l : List Cg} (h : isB l = true) : putBT l = rowB (rowL l) ∧ putBE l = 0 ∧ rowOut (rowL l) = (rowB (rowL l), 0) := by
  obtain ⟨h1, h2, h3, _⟩ := isB_iff.1 h
  refine ⟨by rw [putBT, if_pos h], by rw [putBE, if_pos h], rowOut_fine (by rw [rowL_len]; omega) (rowL_fine h3)⟩
theorem baPut_no {l : List Cg} (h : isB l = false) : putBT l = [] ∧ putBE l = 1 := by
  rw [putBT, putBE, if_neg (by simp [h]), if_neg (by simp [h])]
  exact ⟨rfl, rfl⟩
/-- The i-th change of a row's texts. -/
def pairAt (row : List (List UInt8)) (i : Nat) : Cg := (row.getD (2 * i) [], redG (row.getD (2 * i + 1) []), redM (row.getD (2 * i + 1) []))
def pairsL (row : List (List UInt8)) (k : Nat) : List Cg := (List.range k).map (pairAt row)
theorem pairs_snoc (row : List (List UInt8)) (k : Nat) : pairsL row (k + 1) = pairsL row k ++ [pairAt row k] := by simp [pairsL, List.range_succ]
theorem pairs_len (row : List (List UInt8)) (k : Nat) : (pairsL row k).length = k := by simp [pairsL]
def pairsB (row : List (List UInt8)) (k : Nat) : Bool := (List.range k).all fun i => redE (row.getD (2 * i + 1) []) == 0
theorem pairsB_snoc {row : List (List UInt8)} {k : Nat} (h : pairsB row k = true) (hk : redE (row.getD (2 * k + 1) []) = 0) : pairsB row (k + 1) = true := by
  unfold pairsB at *
  rw [List.range_succ, List.all_append, h, Bool.true_and, List.all_cons, List.all_nil, Bool.and_true, hk]
  rfl
theorem pairsB_not {row : List (List UInt8)} {k n : Nat} (hk : k < n) (h : redE (row.getD (2 * k + 1) []) ≠ 0) : pairsB row n = false := by
  unfold pairsB
  rw [List.all_eq_false]
  exact ⟨k, List.mem_range.2 hk, by simpa using h⟩
/-- What Get answers. -/
def getC (s : List UInt8) : Option (List Cg) :=
  match getR s with
  | none => none
  | some (row, rest) => if rest = [] ∧ row.length % 2 = 0 ∧ pairsB row (row.length / 2) = true ∧ isB (pairsL row (row.length / 2)) = true then some (pairsL row (row.length / 2)) else none
def gotC (s : List UInt8) : List Cg := (getC s).getD []
def gotCE (s : List UInt8) : Int := if (getC s).isSome then 0 else 30
theorem got_none {s : List UInt8} (h : getC s = none) : gotC s = [] ∧ gotCE s = 30 := by rw [gotC, gotCE, h]; exact ⟨rfl, rfl⟩
theorem got_some {s : List UInt8} {l : List Cg} (h : getC s = some l) : gotC s = l ∧ gotCE s = 0 := by rw [gotC, gotCE, h]; exact ⟨rfl, rfl⟩

/-! ### What is laid is read, what is read is laid -/

theorem red_one {t : List UInt8} {x : Mt} (h : getM t = some x) : redE (1 :: t) = 0 ∧ redM (1 :: t) = x := by
  have h1 : (1 :: t : List UInt8).head? = some 1 := rfl
  have hne : (1 :: t : List UInt8) ≠ [0] := by simp
  rw [redE, redM, if_neg hne, if_pos h1, if_pos h1, List.tail_cons, gotE, gotM, h]
  exact ⟨rfl, rfl⟩
theorem val_red {c : Cg} (h : mayB c = true) : redE (cval c) = 0 ∧ redG (cval c) = c.2.1 ∧ redM (cval c) = c.2.2 := by
  obtain ⟨_, _, h3, h4⟩ := mayB_iff.1 h
  unfold cval valM
  cases hg : c.2.1 with
  | true =>
    rw [if_pos rfl, h4 hg]
    exact ⟨rfl, rfl, rfl⟩
  | false =>
    have hm := getM_laid h3
    rw [if_neg (by simp), if_pos h3]
    obtain ⟨r1, r2⟩ := red_one hm
    exact ⟨r1, by rw [redG]; simp, r2⟩
theorem red_val {p v : List UInt8} (h : redE v = 0) : cval (p, redG v, redM v) = v := by
  unfold cval valM
  by_cases h0 : v = [0]
  · subst h0
    rfl
  · have hg : redG v = false := by rw [redG]; simpa using h0
    rw [redE, if_neg h0] at h
    by_cases h1 : v.head? = some 1
    · rw [if_pos h1] at h
      obtain ⟨t, rfl⟩ : ∃ t, v = 1 :: t := by
        cases v with
        | nil => simp at h1
        | cons x t => simp at h1; exact ⟨t, by rw [h1]⟩
      rw [List.tail_cons, gotE] at h
      cases hm : getM t with
      | none => rw [hm] at h; simp at h
      | some x =>
        obtain ⟨z, d, cs⟩ := x
        obtain ⟨e1, e2⟩ := laid_getM hm
        have hr := (red_one hm).2
        simp only [hg, hr]
        rw [if_neg (by simp), if_pos e2, ← e1]
    · rw [if_neg h1] at h
      cases h
theorem rowL_pair {l : List Cg} (h : ∀ c ∈ l, mayB c = true) {i : Nat} (hi : i < l.length) : pairAt (rowL l) i = l[i] ∧ redE ((rowL l).getD (2 * i + 1) []) = 0 := by
  obtain ⟨e1, e2⟩ := rowL_at l i hi
  obtain ⟨r1, r2, r3⟩ := val_red (h _ (List.getElem_mem hi))
  unfold pairAt
  rw [List.getD_eq_getElem?_getD, List.getD_eq_getElem?_getD, e1, e2, Option.getD_some, Option.getD_some, r1, r2, r3]
  exact ⟨rfl, rfl⟩
theorem rowL_pairs {l : List Cg} (h : ∀ c ∈ l, mayB c = true) : pairsL (rowL l) l.length = l ∧ pairsB (rowL l) l.length = true := by
  constructor
  · refine List.ext_getElem (by simp [pairsL]) fun i h1 h2 => ?_
    rw [← (rowL_pair h h2).1]
    simp [pairsL]
  · unfold pairsB
    rw [List.all_eq_true]
    intro i hi
    rw [(rowL_pair h (List.mem_range.1 hi)).2]
    rfl
theorem baGet_put {l : List Cg} (h : isB l = true) : getC (putBT l) = some l := by
  obtain ⟨h1, h2, h3, _⟩ := isB_iff.1 h
  have hr := laid_getR (rowL l) (by rw [rowL_len]; omega) (rowL_fine h3) []
  rw [List.append_nil] at hr
  obtain ⟨p1, p2⟩ := rowL_pairs h3
  have e : (rowL l).length / 2 = l.length := by rw [rowL_len]; omega
  rw [(baPut_yes h).1, getC, hr]
  simp only
  rw [e, p1, p2, if_pos ⟨trivial, by rw [rowL_len]; omega, rfl, h⟩]
theorem pairs_row {row : List (List UInt8)} {k : Nat} (hk : row.length = 2 * k) (h : pairsB row k = true) : rowL (pairsL row k) = row := by
  have hl : (rowL (pairsL row k)).length = row.length := by rw [rowL_len, pairs_len, hk]
  have ha : ∀ i, i < k → (pairsL row k)[i]? = some (pairAt row i) := fun i hi => by simp [pairsL, hi]
  refine List.ext_getElem? fun j => ?_
  by_cases hj : j < row.length
  · have hi : j / 2 < (pairsL row k).length := by rw [pairs_len]; omega
    obtain ⟨e1, e2⟩ := rowL_at (pairsL row k) (j / 2) hi
    have hp : (pairsL row k)[j / 2] = pairAt row (j / 2) := by
      have := ha (j / 2) (by omega)
      rw [List.getElem?_eq_getElem hi] at this
      exact Option.some.inj this
    rw [hp] at e1 e2
    unfold pairsB at h
    rw [List.all_eq_true] at h
    have hz := h (j / 2) (List.mem_range.2 (by omega))
    rcases (by omega : j % 2 = 0 ∨ j % 2 = 1) with hm | hm
    · have ej : 2 * (j / 2) = j := by omega
      rw [ej] at e1
      rw [e1, pairAt, ej, List.getD_eq_getElem?_getD, List.getElem?_eq_getElem hj]
      rfl
    · have ej : 2 * (j / 2) + 1 = j := by omega
      rw [ej] at e2 hz
      rw [e2, pairAt, ej, red_val (by simpa using hz), List.getD_eq_getElem?_getD, List.getElem?_eq_getElem hj]
      rfl
  · rw [List.getElem?_eq_none (by omega), List.getElem?_eq_none (by omega)]
theorem put_get_ba {s : List UInt8} {l : List Cg} (h : getC s = some l) : isB l = true ∧ putBT l = s := by
  unfold getC at h
  cases hr : getR s with
  | none => rw [hr] at h; cases h
  | some x =>
    obtain ⟨row, rest⟩ := x
    rw [hr] at h
    simp only at h
    split at h
    · rename_i hc
      obtain ⟨c1, c2, c3, c4⟩ := hc
      cases h
      refine ⟨c4, ?_⟩
      rw [(baPut_yes c4).1, pairs_row (by omega) c3, (getR_laid hr).1, c1, List.append_nil]
    · cases h

end Go.Proofs.YtmbnmmnoahddcaaGreatDoor
