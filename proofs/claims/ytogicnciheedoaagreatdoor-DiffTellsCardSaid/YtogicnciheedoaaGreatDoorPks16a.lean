/-
  The texts of one folder in one: IntsEq, DiSpec, DiMath, DlRow, Dls, DiTab, DiThruE, DiKindE, DiEachE, DiThruD, DiKindD, DiEachD, DiOuter, DiBack, DiSame, DiDocs, DiOfL, DiOf.
-/
import Derived.Test.YtogicnciheedoaaGreatDoorPks12
import Derived.Test.YtogicnciheedoaaGreatDoorPks15a
import Derived.Test.YtogicnciheedoaaGreatDoorPkbase
import Derived.Deep.RegionHeld3
import Derived.RangeFuncNested
import Derived.Laws.EntriesVeiled
import Derived.Test.YtogicnciheedoaaGreatDoorPks15b

/-
  slices.Equal of two rows of numbers; diff.same.
-/
namespace Go.Proofs.YtogicnciheedoaaGreatDoor
set_option maxRecDepth 100000
open Go.RowKit

set_option maxHeartbeats 2000000 in
theorem intsEq_calls (va vb : Value) (a b : List Int) (w : World) (ha : Ints w va a) (hb : Ints w vb b) (hla : a.length ≤ 1000000) :
    Calls Tryz.prog 80 #[va, vb] w fun e w' => e = .returned (.bool (a == b)) ∧ Below w.heap.size w w' := by
  obtain ⟨aa, ca, rfl⟩ := ha.form
  obtain ⟨ab, cb, rfl⟩ := hb.form
  have HA := Lib.hid ha
  have HB := Lib.hid hb
  clear ha hb
  by_cases hl : a.length = b.length
  · have hne : ((a.length : Int) != (b.length : Int)) = false := by rw [bne_eq_false_iff_eq]; omega
    have HL := Lib.hid hl
    go_enter Tryz.func80, Tryz.ntmps80
    clear hl
    go_wp2_with fail
    go_loopw [13] (fun i wr => ∃ k : Nat, k ≤ a.length ∧ i = .int .i64 k ∧ Hid (a.take k = b.take k) ∧ Hid (Below w.heap.size w wr)) (fun i _ => a.length - (intOf i).toNat)
    case atStart => exact ⟨0, Nat.zero_le _, rfl, Lib.hid (by simp), Lib.hid (Below.refl _ _)⟩
    case round =>
      obtain ⟨k, hk, rfl, hf, hB⟩ := hrel
      by_cases hlt : k < a.length
      · have hlt2 : k < b.length := by have := HL.out; omega
        have hd : decide ((k : Int) < (a.length : Int)) = true := by rw [decide_eq_true_eq]; omega
        obtain ⟨ba, oa, rfl, cella⟩ := (HA.out.below hB.out).at hlt
        obtain ⟨bb, ob, rfl, cellb⟩ := (HB.out.below hB.out).at hlt2
        have ca2 := look_below (drew_below wr) cella
        have cb2 := look_below (drew_below wr) cellb
        have hn := fun h => intsSame_next hf.out hlt hlt2 h
        have hx := fun h => intsSame_not hlt hlt2 h
        generalize a[k] = x at *
        generalize b[k] = y at *
        by_cases hxy : x = y
        · have HN := Lib.hid (hn hxy)
          subst hxy
          clear hn hx cella cellb
          go_wp2_with fail
          go_region
          all_goals
            go_wp2_with fail
            go_roundw
            case rel => exact ⟨k + 1, by omega, by go_num, HN, Lib.hid (hB.out.drew)⟩
            case measure => simp [intOf]; omega
        · have HX := Lib.hid (hx hxy)
          have hd : (x != y) = true := by rw [bne_iff_ne]; exact hxy
          clear hn hx cella cellb hxy
          go_wp2_with fail
          go_region
          all_goals
            go_wp2_with fail
            go_ret
            exact ⟨by rw [HX.out]; rfl, hB.out.drew⟩
      · obtain rfl : k = a.length := by omega
        have hd : decide ((a.length : Int) < (a.length : Int)) = false := by simp
        have HS := Lib.hid (intsSame_all HL.out hf.out)
        go_wp2_with fail
        go_ret
        exact ⟨by rw [HS.out]; rfl, hB.out⟩
  · have hne : ((a.length : Int) != (b.length : Int)) = true := by rw [bne_iff_ne]; omega
    have HX := Lib.hid (show (a == b) = false by rw [beq_eq_false_iff_ne]; intro e; exact hl (by rw [e]))
    clear hl
    go_enter Tryz.func80, Tryz.ntmps80
    go_wp2_with fail
    go_ret
    exact ⟨by rw [HX.out]; rfl, Below.refl _ _⟩

set_option maxHeartbeats 2000000 in
theorem diSame_calls (z d : Int) (v : Value) (cs : List Int) (z' d' : Int) (v' : Value) (cs' : List Int) (w : World) (hv : Ints w v cs) (hv' : Ints w v' cs') (hl : cs.length ≤ 1000000) :
    Calls Tryz.prog 51 #[MV z d v, MV z' d' v'] w fun e w' => e = .returned (.bool (sameM z d cs z' d' cs')) ∧ Below w.heap.size w w' := by
  have hB := below_alloc2 w (.cells #[.int .i64 z, .int .i64 d, v] 48) (.cells #[.int .i64 z', .int .i64 d', v'] 48)
  obtain ⟨ao, ca, rfl⟩ := hv.form
  obtain ⟨ab, cb, rfl⟩ := hv'.form
  have K := Lib.hid (intsEq_calls _ _ cs cs' _ (hv.below hB) (hv'.below hB) hl)
  unfold sameM
  clear hv hv' hB
  by_cases hz : z = z'
  · have hz1 : (z == z') = true := by simpa using hz
    by_cases hd : d = d'
    · have hd1 : (d == d') = true := by simpa using hd
      rw [hz1, hd1]
      generalize (cs == cs') = b at *
      clear hz hd
      go_enter Tryz.func51, Tryz.ntmps51
      go_wp2_with (refine K.out.mono ?_; rintro e w1 ⟨rfl, hB1⟩)
      go_ret
      exact ⟨rfl, below2 (below_alloc2 _ _ _) hB1⟩
    · have hd1 : (d == d') = false := by simpa using hd
      rw [hz1, hd1]
      clear hz hd
      go_enter Tryz.func51, Tryz.ntmps51
      go_wp2_with fail
      go_ret
      exact ⟨rfl, below_alloc2 _ _ _⟩
  · have hz1 : (z == z') = false := by simpa using hz
    rw [hz1]
    clear hz
    go_enter Tryz.func51, Tryz.ntmps51
    go_wp2_with fail
    go_ret
    exact ⟨rfl, below_alloc2 _ _ _⟩

end Go.Proofs.YtogicnciheedoaaGreatDoor

/-
  Differences in plain words: two rows that rise, gone through side by side. No program is named here.
-/
namespace Go.Proofs.YtogicnciheedoaaGreatDoor
set_option maxRecDepth 100000

/-- A delta: a path, and a kind. -/
abbrev Dl := List UInt8 × Int
def RiseD (l : List Dl) : Prop := l.Pairwise fun a b => Op.bytesLess a.1 b.1 = true
/-- The kind of a path; 0: it is none's. -/
def lookD (l : List Dl) (p : List UInt8) : Int := match l.find? (fun x => x.1 == p) with | none => 0 | some x => x.2
/-- No kind is 0. -/
def FullD (l : List Dl) : Prop := ∀ x ∈ l, x.2 ≠ 0
theorem look_mem {l : List Dl} (h : RiseD l) {x : Dl} (hx : x ∈ l) : lookD l x.1 = x.2 := by
  induction l with
  | nil => cases hx
  | cons y r ih =>
    obtain ⟨h1, h2⟩ := List.pairwise_cons.1 h
    unfold lookD
    rw [List.find?_cons]
    rcases List.mem_cons.1 hx with rfl | hx
    · simp
    · have h3 := h1 x hx
      have h4 : (y.1 == x.1) = false := by
        rw [beq_eq_false_iff_ne]
        intro e
        rw [e, less_irrefl] at h3
        cases h3
      rw [h4]
      exact ih h2 hx
theorem mem_look {l : List Dl} (h : RiseD l) (hf : FullD l) {x : Dl} : x ∈ l ↔ lookD l x.1 = x.2 ∧ x.2 ≠ 0 := by
  refine ⟨fun hx => ⟨look_mem h hx, hf x hx⟩, fun ⟨h1, h2⟩ => ?_⟩
  unfold lookD at h1
  cases hq : l.find? (fun y => y.1 == x.1) with
  | none => rw [hq] at h1; exact absurd h1.symm h2
  | some y =>
    rw [hq] at h1
    have e := List.find?_some hq
    have e1 : y.1 = x.1 := by simpa using e
    have : y = x := Prod.ext e1 h1
    exact this ▸ List.mem_of_find?_eq_some hq
theorem rise_extD : ∀ {a b : List Dl}, RiseD a → RiseD b → (∀ x, x ∈ a ↔ x ∈ b) → a = b
  | [], [], _, _, _ => rfl
  | [], y :: s, _, _, h => absurd ((h y).2 (by simp)) (by simp)
  | x :: r, [], _, _, h => absurd ((h x).1 (by simp)) (by simp)
  | x :: r, y :: s, ha, hb, h => by
    obtain ⟨a1, a2⟩ := List.pairwise_cons.1 ha
    obtain ⟨b1, b2⟩ := List.pairwise_cons.1 hb
    have e : x = y := by
      rcases List.mem_cons.1 ((h x).1 (by simp)) with e | hx
      · exact e
      · rcases List.mem_cons.1 ((h y).2 (by simp)) with e | hy
        · exact e.symm
        · have := less_trans (a1 y hy) (b1 x hx)
          rw [less_irrefl] at this
          cases this
    subst e
    refine congrArg (x :: ·) (rise_extD a2 b2 fun z => ⟨fun hz => ?_, fun hz => ?_⟩)
    · rcases List.mem_cons.1 ((h z).1 (List.mem_cons_of_mem _ hz)) with rfl | hz'
      · have := a1 z hz
        rw [less_irrefl] at this
        cases this
      · exact hz'
    · rcases List.mem_cons.1 ((h z).2 (List.mem_cons_of_mem _ hz)) with rfl | hz'
      · have := b1 z hz
        rw [less_irrefl] at this
        cases this
      · exact hz'
/-- Two rows that rise and tell the same of each path are one. -/
theorem look_ext {a b : List Dl} (ha : RiseD a) (hb : RiseD b) (fa : FullD a) (fb : FullD b) (h : ∀ p, lookD a p = lookD b p) : a = b :=
  rise_extD ha hb fun x => by rw [mem_look ha fa, mem_look hb fb, h x.1]

/-! ### Side by side -/

section
variable {α : Type} (key : α → List UInt8) (fa fb : α → Int) (f : α → α → Int)
def RiseK (l : List α) : Prop := l.Pairwise fun a b => Op.bytesLess (key a) (key b) = true
def lookK (l : List α) (p : List UInt8) : Option α := l.find? fun x => key x == p
/-- A kind, or none. -/
def oneD (p : List UInt8) (n : Int) : List Dl := if n = 0 then [] else [(p, n)]
def mergeD : List α → List α → List Dl
  | [], [] => []
  | x :: r, [] => (key x, fa x) :: mergeD r []
  | [], y :: s => (key y, fb y) :: mergeD [] s
  | x :: r, y :: s =>
    if Op.bytesLess (key x) (key y) then (key x, fa x) :: mergeD r (y :: s)
    else if Op.bytesLess (key y) (key x) then (key y, fb y) :: mergeD (x :: r) s
    else oneD (key x) (f x y) ++ mergeD r s
  termination_by a b => a.length + b.length
/-- What is told of a path by what both rows have of it. -/
def combD : Option α → Option α → Int
  | none, none => 0
  | some x, none => fa x
  | none, some y => fb y
  | some x, some y => f x y
variable {key}
theorem lookK_ahead {l : List α} {p : List UInt8} (h : ∀ x ∈ l, Op.bytesLess p (key x) = true) : lookK key l p = none := by
  unfold lookK
  rw [List.find?_eq_none]
  intro x hx e
  have e1 : key x = p := by simpa using e
  have := h x hx
  rw [e1, less_irrefl] at this
  cases this
theorem lookK_cons (x : α) (l : List α) (p : List UInt8) : lookK key (x :: l) p = if key x = p then some x else lookK key l p := by
  unfold lookK
  rw [List.find?_cons]
  by_cases h : key x = p
  · rw [if_pos h, beq_iff_eq.2 h]
  · rw [if_neg h, beq_eq_false_iff_ne.2 h]
theorem lookD_cons (x : Dl) (l : List Dl) (p : List UInt8) : lookD (x :: l) p = if x.1 = p then x.2 else lookD l p := by
  unfold lookD
  rw [List.find?_cons]
  by_cases h : x.1 = p
  · rw [if_pos h, beq_iff_eq.2 h]
  · rw [if_neg h, beq_eq_false_iff_ne.2 h]
theorem lookD_one (p : List UInt8) (n : Int) (l : List Dl) (q : List UInt8) (h : p = q → lookD l q = 0) : lookD (oneD p n ++ l) q = if p = q then n else lookD l q := by
  unfold oneD
  by_cases hn : n = 0
  · rw [if_pos hn, List.nil_append]
    split
    · rw [hn]; exact h ‹_›
    · rfl
  · rw [if_neg hn, List.singleton_append, lookD_cons]
variable {fa fb f}
theorem rise_tail {x : α} {l : List α} (h : RiseK key (x :: l)) : RiseK key l ∧ ∀ y ∈ l, Op.bytesLess (key x) (key y) = true := ⟨(List.pairwise_cons.1 h).2, (List.pairwise_cons.1 h).1⟩
/-- All paths of what is told are a's, or b's. -/
theorem merge_from (a b : List α) : ∀ d ∈ mergeD key fa fb f a b, (∃ x ∈ a, key x = d.1) ∨ ∃ y ∈ b, key y = d.1 := by
  fun_induction mergeD key fa fb f a b with
  | case1 => intro d hd; cases hd
  | case2 x r ih =>
    intro d hd
    rcases List.mem_cons.1 hd with rfl | hd
    · exact .inl ⟨x, by simp, rfl⟩
    · rcases ih d hd with ⟨z, hz, e⟩ | ⟨z, hz, e⟩
      · exact .inl ⟨z, List.mem_cons_of_mem _ hz, e⟩
      · exact .inr ⟨z, hz, e⟩
  | case3 y s ih =>
    intro d hd
    rcases List.mem_cons.1 hd with rfl | hd
    · exact .inr ⟨y, by simp, rfl⟩
    · rcases ih d hd with ⟨z, hz, e⟩ | ⟨z, hz, e⟩
      · exact .inl ⟨z, hz, e⟩
      · exact .inr ⟨z, List.mem_cons_of_mem _ hz, e⟩
  | case4 x r y s h ih =>
    intro d hd
    rcases List.mem_cons.1 hd with rfl | hd
    · exact .inl ⟨x, by simp, rfl⟩
    · rcases ih d hd with ⟨z, hz, e⟩ | ⟨z, hz, e⟩
      · exact .inl ⟨z, List.mem_cons_of_mem _ hz, e⟩
      · exact .inr ⟨z, hz, e⟩
  | case5 x r y s h1 h2 ih =>
    intro d hd
    rcases List.mem_cons.1 hd with rfl | hd
    · exact .inr ⟨y, by simp, rfl⟩
    · rcases ih d hd with ⟨z, hz, e⟩ | ⟨z, hz, e⟩
      · exact .inl ⟨z, hz, e⟩
      · exact .inr ⟨z, List.mem_cons_of_mem _ hz, e⟩
  | case6 x r y s h1 h2 ih =>
    intro d hd
    rcases List.mem_append.1 hd with hd | hd
    · unfold oneD at hd
      split at hd
      · cases hd
      · obtain rfl := List.mem_singleton.1 hd
        exact .inl ⟨x, by simp, rfl⟩
    · rcases ih d hd with ⟨z, hz, e⟩ | ⟨z, hz, e⟩
      · exact .inl ⟨z, List.mem_cons_of_mem _ hz, e⟩
      · exact .inr ⟨z, List.mem_cons_of_mem _ hz, e⟩
theorem same_key {x y : α} (h1 : ¬ Op.bytesLess (key x) (key y) = true) (h2 : ¬ Op.bytesLess (key y) (key x) = true) : key x = key y := by
  by_cases e : key x = key y
  · exact e
  · exact absurd (less_total (by simpa using h1) e) h2
/-- What is told rises, and no kind is 0. -/
theorem merge_rise (a b : List α) (ha : RiseK key a) (hb : RiseK key b) (fa0 : ∀ x ∈ a, fa x ≠ 0) (fb0 : ∀ y ∈ b, fb y ≠ 0) : RiseD (mergeD key fa fb f a b) ∧ FullD (mergeD key fa fb f a b) := by
  fun_induction mergeD key fa fb f a b with
  | case1 => exact ⟨List.Pairwise.nil, fun d hd => by cases hd⟩
  | case2 x r ih =>
    obtain ⟨h1, h2⟩ := rise_tail ha
    obtain ⟨i1, i2⟩ := ih h1 hb (fun z hz => fa0 z (List.mem_cons_of_mem _ hz)) fb0
    refine ⟨List.pairwise_cons.2 ⟨fun d hd => ?_, i1⟩, fun d hd => ?_⟩
    · rcases merge_from _ _ d hd with ⟨z, hz, e⟩ | ⟨z, hz, _⟩
      · exact e ▸ h2 z hz
      · cases hz
    · rcases List.mem_cons.1 hd with rfl | hd
      · exact fa0 x (by simp)
      · exact i2 d hd
  | case3 y s ih =>
    obtain ⟨h1, h2⟩ := rise_tail hb
    obtain ⟨i1, i2⟩ := ih ha h1 fa0 (fun z hz => fb0 z (List.mem_cons_of_mem _ hz))
    refine ⟨List.pairwise_cons.2 ⟨fun d hd => ?_, i1⟩, fun d hd => ?_⟩
    · rcases merge_from _ _ d hd with ⟨z, hz, _⟩ | ⟨z, hz, e⟩
      · cases hz
      · exact e ▸ h2 z hz
    · rcases List.mem_cons.1 hd with rfl | hd
      · exact fb0 y (by simp)
      · exact i2 d hd
  | case4 x r y s h ih =>
    obtain ⟨h1, h2⟩ := rise_tail ha
    obtain ⟨i1, i2⟩ := ih h1 hb (fun z hz => fa0 z (List.mem_cons_of_mem _ hz)) fb0
    refine ⟨List.pairwise_cons.2 ⟨fun d hd => ?_, i1⟩, fun d hd => ?_⟩
    · rcases merge_from _ _ d hd with ⟨z, hz, e⟩ | ⟨z, hz, e⟩
      · exact e ▸ h2 z hz
      · rcases List.mem_cons.1 hz with rfl | hz
        · exact e ▸ h
        · exact e ▸ less_trans h ((rise_tail hb).2 z hz)
    · rcases List.mem_cons.1 hd with rfl | hd
      · exact fa0 x (by simp)
      · exact i2 d hd
  | case5 x r y s h1 h2 ih =>
    obtain ⟨g1, g2⟩ := rise_tail hb
    obtain ⟨i1, i2⟩ := ih ha g1 fa0 (fun z hz => fb0 z (List.mem_cons_of_mem _ hz))
    refine ⟨List.pairwise_cons.2 ⟨fun d hd => ?_, i1⟩, fun d hd => ?_⟩
    · rcases merge_from _ _ d hd with ⟨z, hz, e⟩ | ⟨z, hz, e⟩
      · rcases List.mem_cons.1 hz with rfl | hz
        · exact e ▸ h2
        · exact e ▸ less_trans h2 ((rise_tail ha).2 z hz)
      · exact e ▸ g2 z hz
    · rcases List.mem_cons.1 hd with rfl | hd
      · exact fb0 y (by simp)
      · exact i2 d hd
  | case6 x r y s h1 h2 ih =>
    obtain ⟨a1, a2⟩ := rise_tail ha
    obtain ⟨b1, b2⟩ := rise_tail hb
    have e := same_key h1 h2
    obtain ⟨i1, i2⟩ := ih a1 b1 (fun z hz => fa0 z (List.mem_cons_of_mem _ hz)) (fun z hz => fb0 z (List.mem_cons_of_mem _ hz))
    unfold oneD
    split
    · exact ⟨i1, i2⟩
    · rename_i hn
      refine ⟨List.pairwise_cons.2 ⟨fun d hd => ?_, i1⟩, fun d hd => ?_⟩
      · rcases merge_from _ _ d hd with ⟨z, hz, e'⟩ | ⟨z, hz, e'⟩
        · exact e' ▸ a2 z hz
        · exact e' ▸ e ▸ b2 z hz
      · rcases List.mem_cons.1 hd with rfl | hd
        · exact hn
        · exact i2 d hd
theorem merge_ahead {a b : List α} {p : List UInt8} (ha : ∀ x ∈ a, Op.bytesLess p (key x) = true) (hb : ∀ y ∈ b, Op.bytesLess p (key y) = true) : lookD (mergeD key fa fb f a b) p = 0 := by
  unfold lookD
  rw [List.find?_eq_none.2 fun d hd e => ?_]
  have e1 : d.1 = p := by simpa using e
  rcases merge_from _ _ d hd with ⟨z, hz, e2⟩ | ⟨z, hz, e2⟩
  · have := ha z hz
    rw [e2, e1, less_irrefl] at this
    cases this
  · have := hb z hz
    rw [e2, e1, less_irrefl] at this
    cases this
/-- What is told of a path is told by what both rows have of it. -/
theorem merge_look (a b : List α) (ha : RiseK key a) (hb : RiseK key b) (p : List UInt8) : lookD (mergeD key fa fb f a b) p = combD fa fb f (lookK key a p) (lookK key b p) := by
  fun_induction mergeD key fa fb f a b with
  | case1 => rfl
  | case2 x r ih =>
    obtain ⟨h1, h2⟩ := rise_tail ha
    rw [lookD_cons, lookK_cons, ih h1 hb]
    split
    · rfl
    · rfl
  | case3 y s ih =>
    obtain ⟨h1, h2⟩ := rise_tail hb
    rw [lookD_cons, lookK_cons, ih ha h1]
    split
    · rfl
    · rfl
  | case4 x r y s h ih =>
    obtain ⟨h1, h2⟩ := rise_tail ha
    rw [lookD_cons, lookK_cons x, ih h1 hb]
    by_cases e : key x = p
    · rw [if_pos e, if_pos e]
      have : lookK key (y :: s) p = none := lookK_ahead fun z hz => by
        rcases List.mem_cons.1 hz with rfl | hz
        · exact e ▸ h
        · exact e ▸ less_trans h ((rise_tail hb).2 z hz)
      rw [this]
      rfl
    · rw [if_neg e, if_neg e]
  | case5 x r y s h1 h2 ih =>
    obtain ⟨g1, g2⟩ := rise_tail hb
    rw [lookD_cons, lookK_cons y, ih ha g1]
    by_cases e : key y = p
    · rw [if_pos e, if_pos e]
      have : lookK key (x :: r) p = none := lookK_ahead fun z hz => by
        rcases List.mem_cons.1 hz with rfl | hz
        · exact e ▸ h2
        · exact e ▸ less_trans h2 ((rise_tail ha).2 z hz)
      rw [this]
      rfl
    · rw [if_neg e, if_neg e]
  | case6 x r y s h1 h2 ih =>
    obtain ⟨a1, a2⟩ := rise_tail ha
    obtain ⟨b1, b2⟩ := rise_tail hb
    have e := same_key h1 h2
    rw [lookD_one _ _ _ _ fun hp => ?_, lookK_cons x, lookK_cons y, ih a1 b1, ← e]
    · split
      · rfl
      · rfl
    · subst hp
      exact merge_ahead a2 fun z hz => e ▸ b2 z hz
end

end Go.Proofs.YtogicnciheedoaaGreatDoor

/-
  Differences in plain words: what is told between two times, the way back, two ways one behind the other. No program is named here.
-/
namespace Go.Proofs.YtogicnciheedoaaGreatDoor
set_option maxRecDepth 100000

/-- Of two entries of one path: ANOTHER, if the metas are not the same. -/
def chgE (x y : En) : Int := if x.2.2 = y.2.2 then 0 else 2
def diffE (a b : List En) : List Dl := mergeD (fun x : En => x.1) (fun _ => 3) (fun _ => 1) chgE a b
def backN (n : Int) : Int := if n = 1 ∨ n = 3 then 4 - n else n
def backL (l : List Dl) : List Dl := l.map fun x => (x.1, backN x.2)
def bothN (m n : Int) : Int := if m = 1 ∧ n = 3 then 0 else if m = 3 ∧ n = 1 then 2 else if m = 2 ∧ n = 3 then 3 else m
def thenL (a b : List Dl) : List Dl := mergeD (fun x : Dl => x.1) (fun x => x.2) (fun y => y.2) (fun x y => bothN x.2 y.2) a b
/-- Deltas that may be: the paths rise, the kinds are 1 to 3. -/
def KindD (l : List Dl) : Prop := ∀ x ∈ l, 1 ≤ x.2 ∧ x.2 ≤ 3
theorem KindD.full {l : List Dl} (h : KindD l) : FullD l := fun x hx e => by have := h x hx; omega

/-! ### One step, by places -/

section
variable {α : Type} {key : α → List UInt8} {fa fb : α → Int} {f : α → α → Int}
theorem merge_nil : mergeD key fa fb f [] [] = [] := by rw [mergeD]
theorem merge_l (x : α) (r : List α) : mergeD key fa fb f (x :: r) [] = (key x, fa x) :: mergeD key fa fb f r [] := by rw [mergeD]
theorem merge_r (y : α) (s : List α) : mergeD key fa fb f [] (y :: s) = (key y, fb y) :: mergeD key fa fb f [] s := by rw [mergeD]
theorem merge_lt {x y : α} {r s : List α} (h : Op.bytesLess (key x) (key y) = true) : mergeD key fa fb f (x :: r) (y :: s) = (key x, fa x) :: mergeD key fa fb f r (y :: s) := by rw [mergeD, if_pos h]
theorem merge_gt {x y : α} {r s : List α} (h : Op.bytesLess (key y) (key x) = true) : mergeD key fa fb f (x :: r) (y :: s) = (key y, fb y) :: mergeD key fa fb f (x :: r) s := by rw [mergeD, if_neg (by rw [less_asymm h]; simp), if_pos h]
theorem merge_eq {x y : α} {r s : List α} (h : key x = key y) : mergeD key fa fb f (x :: r) (y :: s) = oneD (key x) (f x y) ++ mergeD key fa fb f r s := by rw [mergeD, if_neg (by rw [h, less_irrefl]; simp), if_neg (by rw [h, less_irrefl]; simp)]
/-- No more is told than there is. -/
theorem merge_len (a b : List α) : (mergeD key fa fb f a b).length ≤ a.length + b.length := by
  fun_induction mergeD key fa fb f a b with
  | case1 => simp
  | case2 x r ih => simp only [List.length_cons, List.length_nil] at ih ⊢; omega
  | case3 y s ih => simp only [List.length_cons, List.length_nil] at ih ⊢; omega
  | case4 x r y s h ih => simp only [List.length_cons] at ih ⊢; omega
  | case5 x r y s h1 h2 ih => simp only [List.length_cons] at ih ⊢; omega
  | case6 x r y s h1 h2 ih =>
    have h3 : (oneD (key x) (f x y)).length ≤ 1 := by unfold oneD; split <;> simp
    rw [List.length_append]
    simp only [List.length_cons]
    omega
end

/-- What rises from each to the next one rises. -/
theorem rise_next {α : Type} {key : α → List UInt8} {l : List α} (h : ∀ i (hi : i + 1 < l.length), Op.bytesLess (key l[i]) (key l[i + 1]) = true) : RiseK key l := by
  unfold RiseK
  rw [List.pairwise_iff_getElem]
  intro i j hi hj hij
  induction j with
  | zero => omega
  | succ j ih =>
    by_cases e : i = j
    · subst e
      exact h i hj
    · exact less_trans (ih (by omega) (by omega)) (h j hj)
theorem rise_at {α : Type} {key : α → List UInt8} {l : List α} (h : RiseK key l) {i : Nat} (hi : i + 1 < l.length) : Op.bytesLess (key l[i]) (key l[i + 1]) = true := by
  unfold RiseK at h
  rw [List.pairwise_iff_getElem] at h
  exact h i (i + 1) (by omega) hi (by omega)

/-! ### What is told -/

theorem diff_rise {a b : List En} (ha : RiseE a) (hb : RiseE b) : RiseD (diffE a b) ∧ FullD (diffE a b) :=
  merge_rise (key := fun x : En => x.1) a b ha hb (fun _ _ => by decide) (fun _ _ => by decide)
theorem diff_look {a b : List En} (ha : RiseE a) (hb : RiseE b) (p : List UInt8) : lookD (diffE a b) p = combD (fun _ => 3) (fun _ => 1) chgE (lookK (fun x : En => x.1) a p) (lookK (fun x : En => x.1) b p) :=
  merge_look (key := fun x : En => x.1) a b ha hb p
theorem merge_kinds {α : Type} {key : α → List UInt8} {fa fb : α → Int} {f : α → α → Int} (a b : List α) (h1 : ∀ x ∈ a, 1 ≤ fa x ∧ fa x ≤ 3) (h2 : ∀ x ∈ b, 1 ≤ fb x ∧ fb x ≤ 3) (h3 : ∀ x ∈ a, ∀ y ∈ b, 0 ≤ f x y ∧ f x y ≤ 3) : KindD (mergeD key fa fb f a b) := by
  fun_induction mergeD key fa fb f a b with
  | case1 => intro d hd; cases hd
  | case2 x r ih =>
    intro d hd
    rcases List.mem_cons.1 hd with rfl | hd
    · exact h1 x (by simp)
    · exact ih (fun z hz => h1 z (List.mem_cons_of_mem _ hz)) h2 (fun _ _ y hy => by cases hy) d hd
  | case3 y s ih =>
    intro d hd
    rcases List.mem_cons.1 hd with rfl | hd
    · exact h2 y (by simp)
    · exact ih h1 (fun z hz => h2 z (List.mem_cons_of_mem _ hz)) (fun x hx => by cases hx) d hd
  | case4 x r y s h ih =>
    intro d hd
    rcases List.mem_cons.1 hd with rfl | hd
    · exact h1 x (by simp)
    · exact ih (fun z hz => h1 z (List.mem_cons_of_mem _ hz)) h2 (fun z hz => h3 z (List.mem_cons_of_mem _ hz)) d hd
  | case5 x r y s g1 g2 ih =>
    intro d hd
    rcases List.mem_cons.1 hd with rfl | hd
    · exact h2 y (by simp)
    · exact ih h1 (fun z hz => h2 z (List.mem_cons_of_mem _ hz)) (fun z hz u hu => h3 z hz u (List.mem_cons_of_mem _ hu)) d hd
  | case6 x r y s g1 g2 ih =>
    intro d hd
    rcases List.mem_append.1 hd with hd | hd
    · unfold oneD at hd
      split at hd
      · cases hd
      · obtain rfl := List.mem_singleton.1 hd
        have := h3 x (by simp) y (by simp)
        dsimp only
        omega
    · exact ih (fun z hz => h1 z (List.mem_cons_of_mem _ hz)) (fun z hz => h2 z (List.mem_cons_of_mem _ hz)) (fun z hz u hu => h3 z (List.mem_cons_of_mem _ hz) u (List.mem_cons_of_mem _ hu)) d hd
theorem diff_kinds (a b : List En) : KindD (diffE a b) :=
  merge_kinds a b (fun _ _ => by decide) (fun _ _ => by decide) (fun x _ y _ => by unfold chgE; split <;> decide)
theorem both_kinds {m n : Int} (h1 : 1 ≤ m ∧ m ≤ 3) : 0 ≤ bothN m n ∧ bothN m n ≤ 3 := by
  unfold bothN
  split
  · omega
  · split
    · omega
    · split <;> omega
theorem then_kinds {a b : List Dl} (ha : KindD a) (hb : KindD b) : KindD (thenL a b) :=
  merge_kinds a b ha hb (fun x hx _ _ => both_kinds (ha x hx))
theorem then_rise {a b : List Dl} (ha : RiseD a) (hb : RiseD b) (ka : KindD a) (kb : KindD b) : RiseD (thenL a b) ∧ FullD (thenL a b) :=
  merge_rise (key := fun x : Dl => x.1) a b ha hb ka.full kb.full
/-- What is there of a path, as a kind. -/
theorem look_kind {l : List Dl} (p : List UInt8) : (lookK (fun x : Dl => x.1) l p = none ∧ lookD l p = 0) ∨ ∃ x, lookK (fun x : Dl => x.1) l p = some x ∧ x ∈ l ∧ lookD l p = x.2 := by
  have e : lookD l p = match lookK (fun x : Dl => x.1) l p with | none => 0 | some x => x.2 := rfl
  cases h : lookK (fun x : Dl => x.1) l p with
  | none => rw [h] at e; exact .inl ⟨rfl, e⟩
  | some x =>
    rw [h] at e
    exact .inr ⟨x, rfl, List.mem_of_find?_eq_some h, e⟩
/-- Two kinds, one behind the other, where 0 says none. -/
def thenN (m n : Int) : Int := if m = 0 then n else if n = 0 then m else bothN m n
theorem then_look {a b : List Dl} (ha : RiseD a) (hb : RiseD b) (ka : KindD a) (kb : KindD b) (p : List UInt8) : lookD (thenL a b) p = thenN (lookD a p) (lookD b p) := by
  have h := merge_look (key := fun x : Dl => x.1) (fa := fun x => x.2) (fb := fun y => y.2) (f := fun x y => bothN x.2 y.2) a b ha hb p
  have e : lookD (thenL a b) p = _ := h
  rw [e]
  unfold thenN
  rcases look_kind (l := a) p with ⟨h1, h2⟩ | ⟨x, h1, hx, h2⟩
  · rcases look_kind (l := b) p with ⟨g1, g2⟩ | ⟨y, g1, hy, g2⟩
    · rw [h1, g1, h2, g2]; rfl
    · rw [h1, g1, h2, g2]; rfl
  · have hx0 := ka.full x hx
    rcases look_kind (l := b) p with ⟨g1, g2⟩ | ⟨y, g1, hy, g2⟩
    · rw [h1, g1, h2, g2, if_neg hx0, if_pos rfl]; rfl
    · rw [h1, g1, h2, g2, if_neg hx0, if_neg (kb.full y hy)]; rfl

/-! ### The way back -/

theorem back_snoc {l : List Dl} {k : Nat} (h : k < l.length) : backL (l.take (k + 1)) = backL (l.take k) ++ [(l[k].1, backN l[k].2)] := by
  unfold backL
  rw [List.take_succ_eq_append_getElem h, List.map_append]
  rfl
theorem back_look (l : List Dl) (p : List UInt8) : lookD (backL l) p = backN (lookD l p) := by
  induction l with
  | nil => rfl
  | cons x r ih =>
    show lookD ((x.1, backN x.2) :: backL r) p = _
    rw [lookD_cons, lookD_cons, ih]
    split <;> rfl
theorem back_rise {l : List Dl} (h : RiseD l) : RiseD (backL l) := by
  unfold RiseD backL
  rw [List.pairwise_map]
  exact h
theorem back_kinds {l : List Dl} (h : KindD l) : KindD (backL l) := by
  intro x hx
  obtain ⟨y, hy, rfl⟩ := List.mem_map.1 hx
  have := h y hy
  show 1 ≤ backN y.2 ∧ backN y.2 ≤ 3
  unfold backN
  split <;> omega
theorem back_diff {a b : List En} (ha : RiseE a) (hb : RiseE b) : backL (diffE a b) = diffE b a := by
  refine look_ext (back_rise (diff_rise ha hb).1) (diff_rise hb ha).1 (back_kinds (diff_kinds a b)).full (diff_rise hb ha).2 fun p => ?_
  rw [back_look, diff_look ha hb, diff_look hb ha]
  cases lookK (fun x : En => x.1) a p with
  | none => cases lookK (fun x : En => x.1) b p <;> rfl
  | some x =>
    cases lookK (fun x : En => x.1) b p with
    | none => rfl
    | some y =>
      show backN (chgE x y) = chgE y x
      by_cases h : x.2.2 = y.2.2
      · rw [show chgE x y = 0 from if_pos h, show chgE y x = 0 from if_pos h.symm]; rfl
      · rw [show chgE x y = 2 from if_neg h, show chgE y x = 2 from if_neg fun e => h e.symm]; rfl
theorem diff_self {a : List En} (ha : RiseE a) : diffE a a = [] := by
  refine look_ext (diff_rise ha ha).1 List.Pairwise.nil (diff_rise ha ha).2 (fun _ h => by cases h) fun p => ?_
  rw [diff_look ha ha]
  cases lookK (fun x : En => x.1) a p with
  | none => rfl
  | some x =>
    show chgE x x = 0
    unfold chgE
    rw [if_pos rfl]

/-! ### Two ways, one behind the other -/

theorem comb_then (A B C : Option En) :
    (combD (fun _ => 3) (fun _ => 1) chgE A C ≠ 0 → thenN (combD (fun _ => 3) (fun _ => 1) chgE A B) (combD (fun _ => 3) (fun _ => 1) chgE B C) = combD (fun _ => 3) (fun _ => 1) chgE A C) ∧
    (thenN (combD (fun _ => 3) (fun _ => 1) chgE A B) (combD (fun _ => 3) (fun _ => 1) chgE B C) ≠ 0 → combD (fun _ => 3) (fun _ => 1) chgE A C = thenN (combD (fun _ => 3) (fun _ => 1) chgE A B) (combD (fun _ => 3) (fun _ => 1) chgE B C) ∨
      (combD (fun _ => 3) (fun _ => 1) chgE A C = 0 ∧ thenN (combD (fun _ => 3) (fun _ => 1) chgE A B) (combD (fun _ => 3) (fun _ => 1) chgE B C) = 2)) := by
  have hc : ∀ x y : En, chgE x y = 0 ∨ chgE x y = 2 := fun x y => by
    unfold chgE
    split
    · exact .inl rfl
    · exact .inr rfl
  cases A with
  | none =>
    cases B with
    | none =>
      cases C with
      | none => simp [combD, thenN]
      | some z => simp [combD, thenN]
    | some y =>
      cases C with
      | none => simp [combD, thenN, bothN]
      | some z => rcases hc y z with h | h <;> simp [combD, thenN, bothN, h]
  | some x =>
    cases B with
    | none =>
      cases C with
      | none => simp [combD, thenN]
      | some z => rcases hc x z with h | h <;> simp [combD, thenN, bothN, h]
    | some y =>
      cases C with
      | none => rcases hc x y with h | h <;> simp [combD, thenN, bothN, h]
      | some z =>
        have h3 : chgE x y = 0 → chgE y z = 0 → chgE x z = 0 := fun h1 h2 => by
          unfold chgE at h1 h2 ⊢
          by_cases e1 : x.2.2 = y.2.2
          · by_cases e2 : y.2.2 = z.2.2
            · rw [if_pos (e1.trans e2)]
            · rw [if_neg e2] at h2; cases h2
          · rw [if_neg e1] at h1; cases h1
        rcases hc x y with h | h <;> rcases hc y z with g | g <;> rcases hc x z with k | k <;> simp [combD, thenN, bothN, h, g, k]
        exact absurd (h3 h g) (by rw [k]; decide)
theorem then_diff {a b c : List En} (ha : RiseE a) (hb : RiseE b) (hc : RiseE c) :
    (∀ d ∈ diffE a c, lookD (thenL (diffE a b) (diffE b c)) d.1 = d.2) ∧ ∀ d ∈ thenL (diffE a b) (diffE b c), lookD (diffE a c) d.1 = d.2 ∨ (lookD (diffE a c) d.1 = 0 ∧ d.2 = 2) := by
  have hl := fun p => then_look (diff_rise ha hb).1 (diff_rise hb hc).1 (diff_kinds a b) (diff_kinds b c) p
  have hr := then_rise (diff_rise ha hb).1 (diff_rise hb hc).1 (diff_kinds a b) (diff_kinds b c)
  refine ⟨fun d hd => ?_, fun d hd => ?_⟩
  · have h1 := look_mem (diff_rise ha hc).1 hd
    have h2 := (diff_rise ha hc).2 d hd
    have h3 := (comb_then (lookK (fun x : En => x.1) a d.1) (lookK (fun x : En => x.1) b d.1) (lookK (fun x : En => x.1) c d.1)).1
    rw [← diff_look ha hb, ← diff_look hb hc, ← diff_look ha hc, h1] at h3
    rw [hl]
    exact h3 h2
  · have h1 := look_mem hr.1 hd
    have h2 := hr.2 d hd
    have h3 := (comb_then (lookK (fun x : En => x.1) a d.1) (lookK (fun x : En => x.1) b d.1) (lookK (fun x : En => x.1) c d.1)).2
    rw [← diff_look ha hb, ← diff_look hb hc, ← diff_look ha hc, ← hl, h1] at h3
    exact h3 h2

/-! ### By what a store tells -/

theorem list_look {U : List Pr} (h : Rises U) (d : List UInt8) (n : Int) (p : List UInt8) : lookK (fun x : En => x.1) (listL U d n) p = if underOf d p then told (asOf U p n) else none := by
  unfold lookK
  cases hf : (listL U d n).find? (fun x => x.1 == p) with
  | none =>
    rw [List.find?_eq_none] at hf
    by_cases hu : underOf d p = true
    · rw [if_pos hu]
      cases ht : told (asOf U p n) with
      | none => rfl
      | some e =>
        have hp : e.1 = p := by
          cases ha : asOf U p n with
          | none => rw [ha] at ht; cases ht
          | some x =>
            rw [ha] at ht
            unfold told at ht
            dsimp only at ht
            split at ht
            · cases ht
            · cases ht
              exact ((asOf_iff h).1 ha).2.1
        exact absurd (by simpa using hp) (hf e ((mem_list h).2 ⟨by rw [hp]; exact hu, by rw [hp]; exact ht⟩))
    · rw [if_neg hu]
  | some e =>
    have e1 : e.1 = p := by simpa using List.find?_some hf
    obtain ⟨h1, h2⟩ := (mem_list h).1 (List.mem_of_find?_eq_some hf)
    rw [e1] at h1 h2
    rw [if_pos h1, h2]
/-- The kinds, by what a store tells at both times. -/
theorem tells_diff {U : List Pr} (h : Rises U) (p : List UInt8) (m n : Int) (hp : underOf [] p = true) :
    let k := lookD (diffE (listL U [] m) (listL U [] n)) p
    let was := (told (asOf U p m)).isSome
    let is := (told (asOf U p n)).isSome
    (decide (k = 1) = (is && !was)) ∧ (decide (k = 3) = (was && !is)) ∧ (k = 2 → (was && is) = true) := by
  dsimp only
  rw [diff_look (list_rise h [] m) (list_rise h [] n), list_look h, list_look h, if_pos hp, if_pos hp]
  cases told (asOf U p m) with
  | none => cases told (asOf U p n) <;> simp [combD]
  | some x =>
    cases told (asOf U p n) with
    | none => simp [combD]
    | some y =>
      show (decide (chgE x y = 1) = _) ∧ (decide (chgE x y = 3) = _) ∧ _
      unfold chgE
      by_cases e : x.2.2 = y.2.2
      · rw [if_pos e]; simp
      · rw [if_neg e]; simp

end Go.Proofs.YtogicnciheedoaaGreatDoor

/-
  Rows of deltas: two cells each. No type is named here.
-/
namespace Go.Proofs.YtogicnciheedoaaGreatDoor
set_option maxRecDepth 100000
open Go.RowKit

def dcell (x : Dl) : List Value := [.string ⟨x.1.toArray⟩, .int .i64 x.2]
theorem dcell_k : CellsK dcell 2 := ⟨by decide, fun _ => rfl⟩
theorem dcell_o : CellsO dcell := fun x u hu => by
  simp [dcell] at hu
  rcases hu with rfl | rfl <;> rfl
abbrev Dls (w : World) (v : Value) (l : List Dl) : Prop := RowOf dcell 2 w v l
theorem dls_at {w : World} {ao : Option Addr} {n cap : Nat} {l : List Dl} (h : Dls w (.slice ao n cap) l) {i : Nat} (hi : i < l.length) :
    ∃ b off, ao = some ⟨b, off, none⟩ ∧ w.cell? ⟨b, off + i * 2, none⟩ = some (.string ⟨l[i].1.toArray⟩) ∧ w.cell? ⟨b, off + i * 2 + 1, none⟩ = some (.int .i64 l[i].2) := by
  obtain ⟨b, off, e, hc⟩ := h.at dcell_k hi
  exact ⟨b, off, e, hc 0 _ rfl, hc 1 _ rfl⟩

end Go.Proofs.YtogicnciheedoaaGreatDoor

/-
  Rows of deltas of the call's own; appends.
-/
namespace Go.Proofs.YtogicnciheedoaaGreatDoor
set_option maxRecDepth 100000
open Go.RowKit

abbrev OwnDl (w : World) (base : Nat) (v : Value) (l : List Dl) : Prop := OwnOf dcell 2 44 w base v l
theorem infoDl : (Tryz.prog.info? 44).map (fun i => (i.zero, i.size, i.bytes)) = some (some (.agg #[.string ⟨#[]⟩, .int .i64 0]), 2, 24) := by kernel_rfl
/-- An append of one delta, which was laid for it. -/
theorem app_del {w : World} {ops : Array Oper} {rest : List Oper} {o : Oper} {a : Act} {Q : Exit → Act → World → Prop} (hgd : o.guard = none) (s x : Operand)
    (ho : o.op = .call { callee := .builtin .append, args := #[s, x], argTypes := #[26, 26] })
    (base : Nat) (v : Value) (T : List Dl) (hs : a.eval s = v) (hown : OwnDl w base v T) (p : List UInt8) (n : Int) (hx : a.eval x = .slice (some ⟨w.heap.size, 0, none⟩) 1 1)
    (hn : T.length < 1000000) (hbase : base ≤ w.heap.size)
    (h : ∀ ao' cap' w', OwnDl w' base (.slice ao' (T.length + 1) cap') (T ++ [(p, n)]) → (∀ w0, Below base w0 w → Below base w0 w') → wpList Tryz.prog ops Q rest (a.put o.dst (.slice ao' (T.length + 1) cap')) w') :
    wpList Tryz.prog ops Q (o :: rest) a (w.alloc (.cells #[.string ⟨p.toArray⟩, .int .i64 n] 44)) := by
  obtain ⟨i0, hi, hz0, hz1, hz2⟩ := info_parts infoDl
  exact wpList_app_of dcell_k dcell_o hgd s x 26 ho i0 _ 24 Tryz.underlying26 hi hz0 hz1 hz2 rfl (by decide) base v T hs hown (p, n) _ rfl hx hn hbase h
/-- The same, where the block's number is spelled otherwise. -/
theorem app_delK {w : World} {ops : Array Oper} {rest : List Oper} {o : Oper} {a : Act} {Q : Exit → Act → World → Prop} (hgd : o.guard = none) (s x : Operand)
    (ho : o.op = .call { callee := .builtin .append, args := #[s, x], argTypes := #[26, 26] })
    (base : Nat) (v : Value) (T : List Dl) (hs : a.eval s = v) (hown : OwnDl w base v T) (p : List UInt8) (n : Int) (k : Nat) (hk : w.heap.size = k) (hx : a.eval x = .slice (some ⟨k, 0, none⟩) 1 1)
    (hn : T.length < 1000000) (hbase : base ≤ w.heap.size)
    (h : ∀ ao' cap' w', OwnDl w' base (.slice ao' (T.length + 1) cap') (T ++ [(p, n)]) → (∀ w0, Below base w0 w → Below base w0 w') → wpList Tryz.prog ops Q rest (a.put o.dst (.slice ao' (T.length + 1) cap')) w') :
    wpList Tryz.prog ops Q (o :: rest) a (w.alloc (.cells #[.string ⟨p.toArray⟩, .int .i64 n] 44)) := by
  subst hk
  exact app_del hgd s x ho base v T hs hown p n hx hn hbase h
end Go.Proofs.YtogicnciheedoaaGreatDoor

/-
  diff's tables: the kind of the way back, the kind of two; known, kindOf, together.
-/
namespace Go.Proofs.YtogicnciheedoaaGreatDoor
set_option maxRecDepth 100000
open Go.RowKit

def turnedL : List Int := [0, 3, 2, 1]
def joinedL : List Int := [0, 1, 2, 3, 1, 1, 1, 0, 2, 2, 2, 3, 3, 2, 3, 3]
/-- Both tables read as they are laid. -/
def KiOk (w : World) : Prop := (∀ i, i < 4 → w.cell? ⟨0, i, none⟩ = some (.int .i64 (turnedL.getD i 0))) ∧ ∀ i, i < 16 → w.cell? ⟨1, i, none⟩ = some (.int .i64 (joinedL.getD i 0))
theorem KiOk.below {w w' : World} (h : KiOk w) (hb : Below w.heap.size w w') : KiOk w' := ⟨fun i hi => look_below hb (h.1 i hi), fun i hi => look_below hb (h.2 i hi)⟩

theorem known_calls (n : Int) (w : World) (h : 0 ≤ n ∧ n ≤ 3) : Calls Tryz.prog 32 #[.int .i64 n] w fun e w' => e = .returned (.bool true) ∧ w = w' := by
  have h1 : decide (0 ≤ n) = true := by rw [decide_eq_true_eq]; omega
  have h2 : decide (n < 4) = true := by rw [decide_eq_true_eq]; omega
  clear h
  go_enter Tryz.func32, Tryz.ntmps32
  go_wp2_with fail
  go_ret
  exact ⟨rfl, rfl⟩

theorem kindOf_none (v : Value) (w : World) (h : Dls w v []) : Calls Tryz.prog 37 #[v] w fun e w' => e = .returned (.int .i64 0) ∧ w = w' := by
  obtain ⟨ao, cap, rfl⟩ := h.form
  go_enter Tryz.func37, Tryz.ntmps37
  go_wp2_with fail
  go_ret
  exact ⟨rfl, rfl⟩
theorem kindOf_one (v : Value) (x : Dl) (w : World) (h : Dls w v [x]) : Calls Tryz.prog 37 #[v] w fun e w' => e = .returned (.int .i64 x.2) ∧ w = w' := by
  obtain ⟨ao, cap, rfl⟩ := h.form
  obtain ⟨b, off, rfl, c0, c1⟩ := dls_at h (i := 0) (by simp)
  rw [Nat.zero_mul, Nat.add_zero] at c0 c1
  dsimp only [List.getElem_cons_zero] at c0 c1
  clear h
  go_enter Tryz.func37, Tryz.ntmps37
  go_wp2_with fail
  go_ret
  exact ⟨rfl, rfl⟩

/-- The kind of two: by the table. -/
theorem joined_at {m n : Nat} (hm : m < 4) (hn : n < 4) : joinedL.getD (m * 4 + n) 0 = thenN (m : Int) (n : Int) := by
  have : (∀ a : Fin 4, ∀ b : Fin 4, joinedL.getD (a.val * 4 + b.val) 0 = thenN (a.val : Int) (b.val : Int)) := by decide
  exact this ⟨m, hm⟩ ⟨n, hn⟩
set_option maxHeartbeats 1000000 in
theorem together_calls (m n : Int) (hm : 0 ≤ m ∧ m ≤ 3) (hn : 0 ≤ n ∧ n ≤ 3) (w : World) (h : KiOk w) : Calls Tryz.prog 36 #[.int .i64 m, .int .i64 n] w fun e w' => e = .returned (.int .i64 (thenN m n)) ∧ w = w' := by
  obtain ⟨a, rfl⟩ : ∃ a : Nat, m = a := ⟨m.toNat, by omega⟩
  obtain ⟨b, rfl⟩ : ∃ b : Nat, n = b := ⟨n.toNat, by omega⟩
  have ha : a < 4 := by omega
  have hb : b < 4 := by omega
  have K1 := Lib.hid (known_calls (a : Int) w hm)
  have K2 := Lib.hid (known_calls (b : Int) w hn)
  have c := h.2 (a * 4 + b) (by omega)
  rw [joined_at ha hb] at c
  clear hm hn h
  obtain ⟨z, hz⟩ : ∃ z, thenN (a : Int) (b : Int) = z := ⟨_, rfl⟩
  rw [hz] at c ⊢
  clear hz
  go_enter Tryz.func36, Tryz.ntmps36
  go_wp2_with fail
  refine K1.out.mono ?_
  rintro e w1 ⟨rfl, rfl⟩
  go_wp2_with fail
  refine K2.out.mono ?_
  rintro e w1 ⟨rfl, rfl⟩
  go_wp2_with fail
  go_ret
  exact ⟨rfl, rfl⟩

end Go.Proofs.YtogicnciheedoaaGreatDoor

/-
  diff.through over entries: one row, gone through by two closures.
-/
namespace Go.Proofs.YtogicnciheedoaaGreatDoor
set_option maxRecDepth 100000
open Go.RowKit

theorem ecell_k : CellsK ecell 5 := ⟨by decide, fun _ => rfl⟩
theorem ents_elem : Tryz.prog.elem 59 = 50 := by kernel_rfl
theorem ents_from {w : World} {ao : Option Addr} {n cap : Nat} {S : List Ev} (h : Ents w (.slice ao n cap) S) (i m : Nat) (hi : i ≤ n) (hm : i + m = n) :
    ∃ a1 c1, (∀ W, (Instr.slice 59 (.slice ao n cap) (some (.int .i64 (i : Int))) none none).run Tryz.prog W = .ok (.slice a1 m c1) W) ∧ Ents w (.slice a1 m c1) (S.drop i) := by
  obtain ⟨a1, c1, h1, h2⟩ := rowOf_from ecell_k (by rw [ents_elem]; exact Tryz.underlying59) (size_of (by rw [ents_elem]; kernel_rfl)) (show RowOf ecell 5 w _ S from h.1) i m hi hm
  exact ⟨a1, c1, h1, h2, fun x hx => h.2 x (List.mem_of_mem_drop hx)⟩
theorem ents_to {w : World} {ao : Option Addr} {n cap : Nat} {S : List Ev} (h : Ents w (.slice ao n cap) S) (i : Nat) (hi : i ≤ n) :
    (∀ W, (Instr.slice 59 (.slice ao n cap) none (some (.int .i64 (i : Int))) none).run Tryz.prog W = .ok (.slice ao i cap) W) ∧ Ents w (.slice ao i cap) (S.take i) := by
  obtain ⟨h1, h2⟩ := rowOf_to ecell_k (by rw [ents_elem]; exact Tryz.underlying59) (size_of (by rw [ents_elem]; kernel_rfl)) (show RowOf ecell 5 w _ S from h.1) i hi
  exact ⟨h1, h2, fun x hx => h.2 x (List.mem_of_mem_take hx)⟩

/-- A path of an entry. -/
theorem ePath_calls (x : En) (u : Value) (w : World) : Calls Tryz.prog 48 #[EV x u] w fun e w' => e = .returned (.string ⟨x.1.toArray⟩) ∧ Below w.heap.size w w' := by
  obtain ⟨p, n, z, d, cs⟩ := x
  have hB := below_alloc w (.cells #[.string ⟨p.toArray⟩, .int .i64 n, .int .i64 z, .int .i64 d, u] 50)
  go_enter Tryz.func48, Tryz.ntmps48
  go_wp2_with fail
  go_ret
  exact ⟨rfl, hB⟩

/-- The closures' boxes: the row that is left, what tells a path, the first closure. -/
abbrev HvE (g : Nat) : Value := .func (.func 108) #[] #[.pointer (some ⟨g, 0, none⟩), .pointer (some ⟨g + 1, 0, none⟩)]
abbrev TvE (g : Nat) : Value := .func (.func 109) #[] #[.pointer (some ⟨g + 2, 0, none⟩), .pointer (some ⟨g, 0, none⟩)]
def ThrE (w : World) (g : Nat) (v : Value) : Prop := Boxed w g 59 v ∧ Boxed w (g + 1) 99 (.func (.func 48) #[] #[]) ∧ Boxed w (g + 2) 98 (HvE g)
theorem ThrE.below {w w' : World} {g : Nat} {v : Value} (h : ThrE w g v) (hb : Below w.heap.size w w') : ThrE w' g v := ⟨boxed_stays h.1 hb, boxed_stays h.2.1 hb, boxed_stays h.2.2 hb⟩
theorem ThrE.keeps {w w' : World} {g k : Nat} {v : Value} (h : ThrE w g v) (hk : Keeps k w w') (h0 : k < g ∨ g + 2 < k) : ThrE w' g v := ⟨boxed_keeps h.1 hk (by omega), boxed_keeps h.2.1 hk (by omega), boxed_keeps h.2.2 hk (by omega)⟩

theorem eHere_none {w : World} {g : Nat} {v : Value} (hT : ThrE w g v) (h : Ents w v []) : Calls Tryz.prog 108 #[.pointer (some ⟨g, 0, none⟩), .pointer (some ⟨g + 1, 0, none⟩)] w fun e w' => e = .returned (.tuple #[.string ⟨#[]⟩, .bool false]) ∧ w = w' := by
  obtain ⟨ao, cap, rfl⟩ := h.form
  have c0 := hT.1.cell
  clear hT h
  go_enter Tryz.func108, Tryz.ntmps108
  go_wp2_with fail
  go_ret2
  exact ⟨rfl, rfl⟩
set_option maxHeartbeats 4000000 in
theorem eHere_some {w : World} {g : Nat} {v : Value} {x : Ev} {S : List Ev} (hT : ThrE w g v) (h : Ents w v (x :: S)) (hl : S.length ≤ 1000000) : Calls Tryz.prog 108 #[.pointer (some ⟨g, 0, none⟩), .pointer (some ⟨g + 1, 0, none⟩)] w fun e w' => e = .returned (.tuple #[.string ⟨x.1.1.toArray⟩, .bool true]) ∧ Below w.heap.size w w' := by
  obtain ⟨ao, cap, rfl⟩ := h.form
  obtain ⟨b, off, rfl, ⟨e0, e1, e2, e3, e4⟩, hi⟩ := h.at (k := 0) (by simp)
  rw [Nat.zero_mul, Nat.add_zero] at e0 e1 e2 e3 e4
  dsimp only [List.getElem_cons_zero] at e0 e1 e2 e3 e4
  obtain ⟨⟨p, n, z, d, cs⟩, u⟩ := x
  dsimp only at e0 e1 e2 e3 e4
  replace hi : Ints w u cs := hi
  obtain ⟨au, cu, rfl⟩ := hi.form
  have c0 := hT.1.cell
  have c1 := hT.2.1.cell
  have hne : (((S.length + 1 : Nat) : Int) == 0) = false := by rw [beq_eq_false_iff_ne]; omega
  rw [List.length_cons] at c0
  obtain ⟨q, hq⟩ : ∃ q, S.length + 1 = q := ⟨_, rfl⟩
  have hq1 : 1 ≤ q := by omega
  have hq2 : q ≤ 1000001 := by omega
  have hlt : 0 < q := by omega
  rw [hq] at c0 hne
  have hbr : Below w.heap.size w w := Below.refl _ _
  obtain ⟨nu, hnu⟩ : ∃ k, cs.length = k := ⟨_, rfl⟩
  rw [hnu] at e4
  have HC := Lib.hid (fun W (hW : Below w.heap.size w W) => (And.intro (look_below hW c0) (And.intro (look_below hW c1) (And.intro (look_below hW e0) (And.intro (look_below hW e1) (And.intro (look_below hW e2) (And.intro (look_below hW e3) (look_below hW e4)))))) : W.cell? ⟨g, 0, none⟩ = some (.slice (some ⟨b, off, none⟩) q cap) ∧ W.cell? ⟨g + 1, 0, none⟩ = some (.func (.func 48) #[] #[]) ∧ W.cell? ⟨b, off, none⟩ = some (.string ⟨p.toArray⟩) ∧ W.cell? ⟨b, off + 1, none⟩ = some (.int .i64 n) ∧ W.cell? ⟨b, off + 2, none⟩ = some (.int .i64 z) ∧ W.cell? ⟨b, off + 3, none⟩ = some (.int .i64 d) ∧ W.cell? ⟨b, off + 4, none⟩ = some (.slice au nu cu)))
  have KP := Lib.hid (fun W => ePath_calls (p, n, z, d, cs) (.slice au nu cu) W)
  clear hT h hi hq hnu hl
  go_enter Tryz.func108, Tryz.ntmps108
  go_wp2_with fail
  have hbr : Below w.heap.size w w.drew := drew_below _
  go_region_held3 (fun w' => w'.cell? ⟨g, 0, none⟩ = some (.slice (some ⟨b, off, none⟩) q cap) ∧ w'.cell? ⟨g + 1, 0, none⟩ = some (.func (.func 48) #[] #[]) ∧ w'.cell? ⟨b, off, none⟩ = some (.string ⟨p.toArray⟩) ∧ w'.cell? ⟨b, off + 1, none⟩ = some (.int .i64 n) ∧ w'.cell? ⟨b, off + 2, none⟩ = some (.int .i64 z) ∧ w'.cell? ⟨b, off + 3, none⟩ = some (.int .i64 d) ∧ w'.cell? ⟨b, off + 4, none⟩ = some (.slice au nu cu)) (exact HC.out _ hbr) (first
    | (go_at_call 48; (with_reducible refine (KP.out _).mono ?_); rintro e w3 ⟨rfl, hB3⟩; have hbr := below2 hbr hB3))
  all_goals
    go_wp2_with fail
    go_ret2
    exact ⟨rfl, hbr⟩

set_option maxHeartbeats 2000000 in
theorem eTake_none {w w0 : World} {g : Nat} {v : Value} (hT : ThrE w g v) (h : Ents w0 v []) (hB : Below w0.heap.size w0 w) (p : List UInt8) : Calls Tryz.prog 109 #[.string ⟨p.toArray⟩, .pointer (some ⟨g + 2, 0, none⟩), .pointer (some ⟨g, 0, none⟩)] w fun e w' => e = .returned (.slice none 0 0) ∧ w = w' := by
  have K := Lib.hid (eHere_none hT (h.below hB))
  have c2 : w.cell? ⟨g + 2, 0, none⟩ = some (.func (.func 108) #[] #[.pointer (some ⟨g, 0, none⟩), .pointer (some ⟨g + 1, 0, none⟩)]) := hT.2.2.cell
  clear hT h hB
  go_enter Tryz.func109, Tryz.ntmps109
  go_wp2_with fail
  refine K.out.mono ?_
  rintro e w1 ⟨rfl, rfl⟩
  go_wp2_with fail
  go_ret
  exact ⟨rfl, rfl⟩
set_option maxHeartbeats 2000000 in
theorem eTake_no {w w0 : World} {g : Nat} {v : Value} {x : Ev} {S : List Ev} (hT : ThrE w g v) (h : Ents w0 v (x :: S)) (hl : S.length ≤ 1000000) (hB : Below w0.heap.size w0 w) (p : List UInt8) (hp : x.1.1 ≠ p) : Calls Tryz.prog 109 #[.string ⟨p.toArray⟩, .pointer (some ⟨g + 2, 0, none⟩), .pointer (some ⟨g, 0, none⟩)] w fun e w' => e = .returned (.slice none 0 0) ∧ Below w.heap.size w w' := by
  have K := Lib.hid (eHere_some hT (h.below hB) hl)
  have c2 : w.cell? ⟨g + 2, 0, none⟩ = some (.func (.func 108) #[] #[.pointer (some ⟨g, 0, none⟩), .pointer (some ⟨g + 1, 0, none⟩)]) := hT.2.2.cell
  generalize x.1.1 = q at *
  have hq : (q == p) = false := by rw [beq_eq_false_iff_ne]; exact hp
  clear hT h hB hp
  go_enter Tryz.func109, Tryz.ntmps109
  go_wp2_with fail
  refine K.out.mono ?_
  rintro e w1 ⟨rfl, hB1⟩
  go_wp2_with fail
  go_ret
  exact ⟨rfl, hB1⟩
set_option maxHeartbeats 2000000 in
theorem eTake_yes {w w0 : World} {g : Nat} {v : Value} {x : Ev} {S : List Ev} (hT : ThrE w g v) (h : Ents w0 v (x :: S)) (hl : S.length ≤ 1000000) (hB : Below w0.heap.size w0 w) : Calls Tryz.prog 109 #[.string ⟨x.1.1.toArray⟩, .pointer (some ⟨g + 2, 0, none⟩), .pointer (some ⟨g, 0, none⟩)] w fun e w' => ∃ v1 v2, e = .returned v1 ∧ Ents w0 v1 [x] ∧ Ents w0 v2 S ∧ ThrE w' g v2 ∧ Keeps g w w' := by
  have K := Lib.hid (eHere_some hT (h.below hB) hl)
  have c2 : w.cell? ⟨g + 2, 0, none⟩ = some (.func (.func 108) #[] #[.pointer (some ⟨g, 0, none⟩), .pointer (some ⟨g + 1, 0, none⟩)]) := hT.2.2.cell
  obtain ⟨ao, cap, rfl⟩ := h.form
  obtain ⟨a1, c1, hs1, hf⟩ := ents_from h 1 S.length (by simp) (by simp; omega)
  obtain ⟨hs2, ht⟩ := ents_to h 1 (by simp)
  have HF := Lib.hid (And.intro hf ht)
  have HT := Lib.hid hT
  generalize x.1.1 = q at *
  obtain ⟨nl, hnl⟩ : ∃ n, (x :: S).length = n := ⟨_, rfl⟩
  obtain ⟨ns, hns⟩ : ∃ n, S.length = n := ⟨_, rfl⟩
  rw [hnl] at hs1 hs2 HT
  rw [hns] at hs1 HF
  replace hs1 : ∀ W, (Instr.slice 59 (.slice ao nl cap) (some (.int .i64 1)) none none).run Tryz.prog W = .ok (.slice a1 ns c1) W := hs1
  replace hs2 : ∀ W, (Instr.slice 59 (.slice ao nl cap) none (some (.int .i64 1)) none).run Tryz.prog W = .ok (.slice ao 1 cap) W := hs2
  clear hT h hB hf ht hnl hns hl
  go_enter Tryz.func109, Tryz.ntmps109
  go_wp2_with fail
  refine K.out.mono ?_
  rintro e w1 ⟨rfl, hB1⟩
  have HT1 := Lib.hid (HT.out.below hB1)
  have c0 := HT1.out.1.cell
  have f0 := HT1.out.1.frozen
  have HK := Lib.hid ((Keeps.below g hB1).set 0 (.slice a1 ns c1))
  clear hB1
  go_wp2_with fail
  go_ret
  exact ⟨_, _, rfl, HF.out.2, HF.out.1, ⟨HT1.out.1.set _, HT1.out.2.1.other (by omega) _, HT1.out.2.2.other (by omega) _⟩, HK.out⟩

set_option maxHeartbeats 2000000 in
theorem eThrough_calls (v : Value) (S : List Ev) (w : World) (h : Ents w v S) : Calls Tryz.prog 79 #[v, .func (.func 48) #[] #[]] w fun e w' => ∃ g, e = .returned (.tuple #[HvE g, TvE g]) ∧ ThrE w' g v ∧ w.heap.size ≤ g ∧ Below w.heap.size w w' := by
  obtain ⟨ao, cap, rfl⟩ := h.form
  obtain ⟨n, hn⟩ : ∃ n, S.length = n := ⟨_, rfl⟩
  rw [hn]
  have hmf : ∀ (fn : Fn) (first cap : Array Value) (w : World), (Instr.makeFunc fn first cap).run Tryz.prog w = .ok (.func fn first cap) w := fun _ _ _ _ => rfl
  have b2 := Boxed.new ((w.alloc (.cells #[.slice ao n cap] 59)).alloc (.cells #[.func (.func 48) #[] #[]] 99)) 98 .nilFunc
  rw [World.size_alloc, World.size_alloc] at b2
  have c2 := b2.cell
  have f2 := b2.frozen
  have d0 := ((Boxed.new w 59 (.slice ao n cap)).alloc (.cells #[.func (.func 48) #[] #[]] 99)).alloc (.cells #[HvE w.heap.size] 98)
  have d1 := (Boxed.new (w.alloc (.cells #[.slice ao n cap] 59)) 99 (.func (.func 48) #[] #[])).alloc (.cells #[HvE w.heap.size] 98)
  have d2 := Boxed.new ((w.alloc (.cells #[.slice ao n cap] 59)).alloc (.cells #[.func (.func 48) #[] #[]] 99)) 98 (HvE w.heap.size)
  have hB := below_alloc3 w (.cells #[.slice ao n cap] 59) (.cells #[.func (.func 48) #[] #[]] 99) (.cells #[HvE w.heap.size] 98)
  rw [World.size_alloc] at d1
  rw [World.size_alloc, World.size_alloc] at d2
  have HH := Lib.hid (And.intro d0 (And.intro d1 (And.intro d2 hB)))
  clear h hn b2 d0 d1 d2 hB
  go_enter Tryz.func79, Tryz.ntmps79
  go_wp2_with fail
  exact ret_func2 rfl rfl _ _ _ rfl rfl HH.out.2.2.1.cell (by simp [isAgg, run_underlying Tryz.underlying98]) ⟨_, rfl, ⟨HH.out.1, HH.out.2.1, HH.out.2.2.1⟩, Nat.le_refl _, HH.out.2.2.2⟩

end Go.Proofs.YtogicnciheedoaaGreatDoor

/-
  diff.Entries$2: the kind of a path, by what each row has of it.
-/
namespace Go.Proofs.YtogicnciheedoaaGreatDoor
set_option maxRecDepth 100000
open Go.RowKit

theorem eKind_b (va vb : Value) (w : World) (y : Ev) (ha : Ents w va []) (hb : Ents w vb [y]) : Calls Tryz.prog 50 #[va, vb] w fun e w' => e = .returned (.int .i64 1) ∧ w = w' := by
  obtain ⟨ao, ca, rfl⟩ := ha.form
  obtain ⟨bo, cb, rfl⟩ := hb.form
  clear ha hb
  go_enter Tryz.func50, Tryz.ntmps50
  go_wp2_with fail
  go_ret
  exact ⟨rfl, rfl⟩
theorem eKind_a (va vb : Value) (w : World) (x : Ev) (ha : Ents w va [x]) (hb : Ents w vb []) : Calls Tryz.prog 50 #[va, vb] w fun e w' => e = .returned (.int .i64 3) ∧ w = w' := by
  obtain ⟨ao, ca, rfl⟩ := ha.form
  obtain ⟨bo, cb, rfl⟩ := hb.form
  clear ha hb
  go_enter Tryz.func50, Tryz.ntmps50
  go_wp2_with fail
  go_ret
  exact ⟨rfl, rfl⟩
theorem sameM_three {x y : Int × Int × List Int} : sameM x.1 x.2.1 x.2.2 y.1 y.2.1 y.2.2 = true ↔ x = y := by
  obtain ⟨a, b, c⟩ := x
  obtain ⟨a', b', c'⟩ := y
  simp [sameM]
set_option maxHeartbeats 4000000 in
theorem eKind_both (va vb : Value) (w : World) (x y : Ev) (ha : Ents w va [x]) (hb : Ents w vb [y]) (hl : x.1.2.2.2.2.length ≤ 1000000) : Calls Tryz.prog 50 #[va, vb] w fun e w' => e = .returned (.int .i64 (chgE x.1 y.1)) ∧ Below w.heap.size w w' := by
  obtain ⟨ao, ca, rfl⟩ := ha.form
  obtain ⟨bo, cb, rfl⟩ := hb.form
  obtain ⟨a, oa, rfl, ⟨_, _, x2, x3, x4⟩, hi⟩ := ha.at (k := 0) (by simp)
  obtain ⟨b, ob, rfl, ⟨_, _, y2, y3, y4⟩, hj⟩ := hb.at (k := 0) (by simp)
  rw [Nat.zero_mul, Nat.add_zero] at x2 x3 x4 y2 y3 y4
  dsimp only [List.getElem_cons_zero] at x2 x3 x4 y2 y3 y4
  have hch : chgE x.1 y.1 = if sameM x.1.2.2.1 x.1.2.2.2.1 x.1.2.2.2.2 y.1.2.2.1 y.1.2.2.2.1 y.1.2.2.2.2 then 0 else 2 := by
    unfold chgE
    by_cases h : x.1.2.2 = y.1.2.2
    · rw [if_pos h, if_pos (sameM_three.2 h)]
    · rw [if_neg h, if_neg fun e => h (sameM_three.1 e)]
  rw [hch]
  obtain ⟨⟨p, n, z, d, cs⟩, u⟩ := x
  obtain ⟨⟨p', n', z', d', cs'⟩, u'⟩ := y
  dsimp only at x2 x3 x4 y2 y3 y4 hl ⊢
  replace hi : Ints w u cs := hi
  replace hj : Ints w u' cs' := hj
  have KS := Lib.hid (fun W (hW : Below w.heap.size w W) => diSame_calls z d u cs z' d' u' cs' W (hi.below hW) (hj.below hW) hl)
  obtain ⟨au, cu, rfl⟩ := hi.form
  obtain ⟨av, cv, rfl⟩ := hj.form
  generalize sameM z d cs z' d' cs' = s at *
  obtain ⟨nu, hnu⟩ : ∃ k, cs.length = k := ⟨_, rfl⟩
  obtain ⟨nv, hnv⟩ : ∃ k, cs'.length = k := ⟨_, rfl⟩
  rw [hnu] at x4 KS
  rw [hnv] at y4 KS
  have HC := Lib.hid (fun W (hW : Below w.heap.size w W) => (And.intro (look_below hW x2) (And.intro (look_below hW x3) (And.intro (look_below hW x4) (And.intro (look_below hW y2) (And.intro (look_below hW y3) (look_below hW y4))))) : W.cell? ⟨a, oa + 2, none⟩ = some (.int .i64 z) ∧ W.cell? ⟨a, oa + 3, none⟩ = some (.int .i64 d) ∧ W.cell? ⟨a, oa + 4, none⟩ = some (.slice au nu cu) ∧ W.cell? ⟨b, ob + 2, none⟩ = some (.int .i64 z') ∧ W.cell? ⟨b, ob + 3, none⟩ = some (.int .i64 d') ∧ W.cell? ⟨b, ob + 4, none⟩ = some (.slice av nv cv)))
  clear ha hb hi hj hl hch hnu hnv
  have hbr : Below w.heap.size w w.drew := drew_below _
  go_enter Tryz.func50, Tryz.ntmps50
  go_wp2_with fail
  go_region_held3 (fun w' => w'.cell? ⟨a, oa + 2, none⟩ = some (.int .i64 z) ∧ w'.cell? ⟨a, oa + 3, none⟩ = some (.int .i64 d) ∧ w'.cell? ⟨a, oa + 4, none⟩ = some (.slice au nu cu) ∧ w'.cell? ⟨b, ob + 2, none⟩ = some (.int .i64 z') ∧ w'.cell? ⟨b, ob + 3, none⟩ = some (.int .i64 d') ∧ w'.cell? ⟨b, ob + 4, none⟩ = some (.slice av nv cv)) (exact HC.out _ hbr) (first
    | (go_at_call 51; (with_reducible refine (KS.out _ hbr).mono ?_); rintro e w3 ⟨rfl, hB3⟩; have hbr := below2 hbr hB3))
  all_goals
    cases s
    · go_wp2_with fail
      go_ret
      exact ⟨rfl, hbr⟩
    · go_wp2_with fail
      go_ret
      exact ⟨rfl, hbr⟩

end Go.Proofs.YtogicnciheedoaaGreatDoor

/-
  diff.eachPath over entries: two rows gone through side by side.
-/
namespace Go.Proofs.YtogicnciheedoaaGreatDoor
set_option maxRecDepth 100000
open Go.RowKit

/-- How much is left of a row, as its box tells. -/
def leftE (w : World) (g : Nat) : Nat := match w.cell? ⟨g, 0, none⟩ with | some (.slice _ n _) => n | _ => 0
theorem leftE_is {w w0 : World} {g : Nat} {v : Value} {S : List Ev} (h : ThrE w g v) (hs : Ents w0 v S) : leftE w g = S.length := by
  obtain ⟨ao, cap, rfl⟩ := hs.form
  unfold leftE
  rw [h.1.cell]
/-- What holds in eachPath's loop. -/
def EaE (w : World) (gA gB bs : Nat) (u vA vB : Value) (O : List Dl) (W : World) : Prop := ThrE W gA vA ∧ ThrE W gB vB ∧ OwnDl W bs u O ∧ Below w.heap.size w W ∧ bs ≤ W.heap.size
/-- The order of the blocks. -/
def OrE (w : World) (gA gB bs : Nat) : Prop := w.heap.size ≤ gA ∧ gA + 2 < gB ∧ gB + 2 < bs
theorem EaE.below {w : World} {gA gB bs : Nat} {u vA vB : Value} {O : List Dl} {W W' : World} (h : EaE w gA gB bs u vA vB O W) (hb : Below W.heap.size W W') : EaE w gA gB bs u vA vB O W' :=
  ⟨h.1.below hb, h.2.1.below hb, h.2.2.1.stays hb, below2 h.2.2.2.1 hb, Nat.le_trans h.2.2.2.2 hb.size⟩
theorem EaE.takeA {w : World} {gA gB bs : Nat} {u vA vA' vB : Value} {O : List Dl} {W W' : World} (h : EaE w gA gB bs u vA vB O W) (ho : OrE w gA gB bs) (hT : ThrE W' gA vA') (hk : Keeps gA W W') : EaE w gA gB bs u vA' vB O W' := by
  obtain ⟨o1, o2, o3⟩ := ho
  exact ⟨hT, h.2.1.keeps hk (by omega), h.2.2.1.kept hk (.inr fun e => by have := (h.2.2.1.lt _ e).1; omega), hk.on h.2.2.2.1 o1 h.2.2.2.1.size, Nat.le_trans h.2.2.2.2 hk.size⟩
theorem EaE.takeB {w : World} {gA gB bs : Nat} {u vA vB vB' : Value} {O : List Dl} {W W' : World} (h : EaE w gA gB bs u vA vB O W) (ho : OrE w gA gB bs) (hT : ThrE W' gB vB') (hk : Keeps gB W W') : EaE w gA gB bs u vA vB' O W' := by
  obtain ⟨o1, o2, o3⟩ := ho
  exact ⟨h.1.keeps hk (by omega), hT, h.2.2.1.kept hk (.inr fun e => by have := (h.2.2.1.lt _ e).1; omega), hk.on h.2.2.2.1 (by omega) h.2.2.2.1.size, Nat.le_trans h.2.2.2.2 hk.size⟩
theorem EaE.put {w : World} {gA gB bs : Nat} {u u' vA vB : Value} {O O' : List Dl} {W W' : World} (h : EaE w gA gB bs u vA vB O W) (ho : OwnDl W' bs u' O') (hb : Below bs W W') (o : OrE w gA gB bs) : EaE w gA gB bs u' vA vB O' W' := by
  obtain ⟨o1, o2, o3⟩ := o
  have hx : ∀ {b t x}, b < bs → Boxed W b t x → Boxed W' b t x := fun hlt hh => (hb.block _ hlt).trans hh
  refine ⟨⟨hx (by omega) h.1.1, hx (by omega) h.1.2.1, hx (by omega) h.1.2.2⟩, ⟨hx (by omega) h.2.1.1, hx (by omega) h.2.1.2.1, hx (by omega) h.2.1.2.2⟩, ho, h.2.2.2.1.trans (hb.mono (by omega)), Nat.le_trans h.2.2.2.2 hb.size⟩

set_option maxHeartbeats 32000000 in
theorem eEach_calls (va vb : Value) (A B : List Ev) (w : World) (ha : Ents w va A) (hb : Ents w vb B) (hla : A.length ≤ 2000) (hlb : B.length ≤ 2000) (hc : ∀ x ∈ A, x.1.2.2.2.2.length ≤ 1000000) :
    Calls Tryz.prog 49 #[va, vb, .func (.func 48) #[] #[], .func (.func 50) #[] #[]] w fun e w' => ∃ u, e = .returned u ∧ OwnDl w' w.heap.size u (diffE (ens A) (ens B)) ∧ Below w.heap.size w w' := by
  obtain ⟨ao, ca, rfl⟩ := ha.form
  obtain ⟨bo, cb, rfl⟩ := hb.form
  have KT := Lib.hid (fun (v : Value) (S : List Ev) W (h : Ents W v S) => eThrough_calls v S W h)
  obtain ⟨nA, hnA⟩ : ∃ n, A.length = n := ⟨_, rfl⟩
  obtain ⟨nB, hnB⟩ : ∃ n, B.length = n := ⟨_, rfl⟩
  have HL := Lib.hid (show A.length + B.length ≤ 4000 by omega)
  have HK := Lib.hid hc
  rw [hnA] at ha ⊢
  rw [hnB] at hb ⊢
  have HA := Lib.hid ha
  have HB := Lib.hid hb
  clear ha hb hla hlb hc hnA hnB
  go_enter Tryz.func49, Tryz.ntmps49
  go_wp2_with fail
  refine (KT.out _ _ _ HA.out).mono ?_
  rintro e w1 ⟨gA, rfl, hT1, hg1, hB1⟩
  have H1 := Lib.hid (And.intro hT1 (And.intro hg1 hB1))
  clear hT1 hg1 hB1
  go_wp2_with fail
  refine (KT.out _ _ _ (HB.out.below H1.out.2.2)).mono ?_
  rintro e w2 ⟨gB, rfl, hT2, hg2, hB2⟩
  have HO := Lib.hid (show OrE w gA gB w2.heap.size from ⟨H1.out.2.1, Nat.lt_of_lt_of_le H1.out.1.2.2.lt hg2, hT2.2.2.lt⟩)
  obtain ⟨bs, hbs⟩ : ∃ n, w2.heap.size = n := ⟨_, rfl⟩
  have HE := Lib.hid (show EaE w gA gB w2.heap.size (.slice none 0 0) (.slice ao nA ca) (.slice bo nB cb) [] w2 from ⟨H1.out.1.below hB2, hT2, OwnOf.nil _ _, below2 H1.out.2.2 hB2, Nat.le_refl _⟩)
  rw [hbs] at HE HO
  clear hT2 hg2 hB2 hbs H1
  go_wp2_with fail

  go_loopw [9] (fun u wr => ∃ (A' B' : List Ev) (vA vB : Value) (O : List Dl), EaE w gA gB bs u vA vB O wr ∧ Ents w vA A' ∧ Ents w vB B' ∧ O ++ diffE (ens A') (ens B') = diffE (ens A) (ens B) ∧ O.length + A'.length + B'.length ≤ 4000 ∧ (∀ x ∈ A', x.1.2.2.2.2.length ≤ 1000000)) (fun _ wr => leftE wr gA + leftE wr gB)
  case atStart => exact ⟨A, B, _, _, [], HE.out, HA.out, HB.out, rfl, by have := HL.out; simpa using this, HK.out⟩
  case round =>
    obtain ⟨A', B', vA, vB, O, he, ha, hb, hO, hln, hc⟩ := hrel
    have hlA := leftE_is he.1 ha
    have hlB := leftE_is he.2.1 hb
    obtain ⟨au, cu, rfl⟩ := he.2.2.1.form
    have hsz := Nat.le_trans (show w.heap.size ≤ bs by have := HO.out; unfold OrE at this; omega) he.2.2.2.2
    have hq6 : O.length < 1000000 := by omega
    have HRel := Lib.hid (And.intro he (And.intro ha (And.intro hb (And.intro hO (And.intro hln (And.intro hlA (And.intro hlB hc)))))))
    cases A' with
    | nil =>
      cases B' with
      | nil =>
        clear he ha hb hO hln hlA hlB hc
        go_wp2_with fail
        refine (eHere_none HRel.out.1.1 (HRel.out.2.1.below HRel.out.1.2.2.2.1)).mono ?_
        rintro e _ ⟨rfl, rfl⟩
        go_wp2_with fail
        refine (eHere_none HRel.out.1.2.1 (HRel.out.2.2.1.below HRel.out.1.2.2.2.1)).mono ?_
        rintro e _ ⟨rfl, rfl⟩
        go_wp2_with fail
        go_ret
        exact ⟨_, rfl, (by have h := HRel.out.2.2.2.1; have hh : diffE (ens []) (ens []) = [] := merge_nil; rw [hh, List.append_nil] at h; rw [← h]; exact HRel.out.1.2.2.1.weak (show w.heap.size ≤ bs by have := HO.out; unfold OrE at this; omega)), HRel.out.1.2.2.2.1⟩
      | cons y B'' =>
        clear he ha hb hO hln hlA hlB hc
        go_wp2_with fail
        refine (eHere_none HRel.out.1.1 (HRel.out.2.1.below HRel.out.1.2.2.2.1)).mono ?_
        rintro e _ ⟨rfl, rfl⟩
        go_wp2_with fail
        refine (eHere_some HRel.out.1.2.1 (HRel.out.2.2.1.below HRel.out.1.2.2.2.1) (by have := HRel.out.2.2.2.2.1; simp only [List.length_cons] at this; omega)).mono ?_
        rintro e w20 ⟨rfl, hB⟩
        have S1 := Lib.hid (HRel.out.1.below hB)
        clear hB
        go_wp2_with fail
        refine (eTake_none S1.out.1 HRel.out.2.1 S1.out.2.2.2.1 _).mono ?_
        rintro e _ ⟨rfl, rfl⟩
        go_wp2_with fail
        refine (eTake_yes S1.out.2.1 HRel.out.2.2.1 (by have := HRel.out.2.2.2.2.1; simp only [List.length_cons] at this; omega) S1.out.2.2.2.1).mono ?_
        rintro e w21 ⟨r1, r2, rfl, hr1, hr2, hT, hK⟩
        obtain ⟨_, _, rfl⟩ := hr1.form
        have Hr := Lib.hid (And.intro hr1 hr2)
        have S2 := Lib.hid (S1.out.takeB HO.out hT hK)
        clear hT hK hr1 hr2
        go_wp2_with fail
        refine (eKind_b _ _ _ y (show Ents _ (.slice none 0 0) [] from Ents.nil _) (Hr.out.1.below S2.out.2.2.2.1)).mono ?_
        rintro e _ ⟨rfl, rfl⟩
        have hszW := S2.out.2.2.2.2
        have hownW := S2.out.2.2.1
        go_wp2_with (at_builtin; refine app_del rfl _ _ rfl bs _ O rfl hownW y.1.1 1 rfl hq6 hszW ?_; intro a8 c8 w8 ho8 hb8)
        have H8 := Lib.hid (S2.out.put ho8 (hb8 _ (Below.refl _ _)) HO.out)
        clear hszW hownW ho8 hb8
        go_roundw
        case rel => exact ⟨[], B'', vA, r2, O ++ [(y.1.1, 1)], H8.out, HRel.out.2.1, Hr.out.2, (by rw [← HRel.out.2.2.2.1, show (diffE (ens []) (ens (y :: B''))) = _ from merge_r _ _]; simp [diffE]), (by have := HRel.out.2.2.2.2.1; rw [List.length_append, show ([(_, _)] : List Dl).length = 1 from rfl]; simp only [List.length_cons] at this ⊢; omega), HRel.out.2.2.2.2.2.2.2⟩
        case measure => exact (by rw [leftE_is H8.out.1 HRel.out.2.1, leftE_is H8.out.2.1 Hr.out.2, HRel.out.2.2.2.2.2.1, HRel.out.2.2.2.2.2.2.1]; simp only [List.length_cons]; omega)
    | cons x A'' =>
      cases B' with
      | nil =>
        clear he ha hb hO hln hlA hlB hc
        go_wp2_with fail
        refine (eHere_some HRel.out.1.1 (HRel.out.2.1.below HRel.out.1.2.2.2.1) (by have := HRel.out.2.2.2.2.1; simp only [List.length_cons] at this; omega)).mono ?_
        rintro e w20 ⟨rfl, hB⟩
        have S1 := Lib.hid (HRel.out.1.below hB)
        clear hB
        go_wp2_with fail
        refine (eHere_none S1.out.2.1 (HRel.out.2.2.1.below S1.out.2.2.2.1)).mono ?_
        rintro e _ ⟨rfl, rfl⟩
        go_wp2_with fail
        refine (eTake_yes S1.out.1 HRel.out.2.1 (by have := HRel.out.2.2.2.2.1; simp only [List.length_cons] at this; omega) S1.out.2.2.2.1).mono ?_
        rintro e w21 ⟨p1, p2, rfl, hp1, hp2, hT, hK⟩
        obtain ⟨_, _, rfl⟩ := hp1.form
        have Hp := Lib.hid (And.intro hp1 hp2)
        have S2 := Lib.hid (S1.out.takeA HO.out hT hK)
        clear hT hK hp1 hp2
        go_wp2_with fail
        refine (eTake_none S2.out.2.1 HRel.out.2.2.1 S2.out.2.2.2.1 _).mono ?_
        rintro e _ ⟨rfl, rfl⟩
        go_wp2_with fail
        refine (eKind_a _ _ _ x (Hp.out.1.below S2.out.2.2.2.1) (show Ents _ (.slice none 0 0) [] from Ents.nil _)).mono ?_
        rintro e _ ⟨rfl, rfl⟩
        have hszW := S2.out.2.2.2.2
        have hownW := S2.out.2.2.1
        go_wp2_with (at_builtin; refine app_del rfl _ _ rfl bs _ O rfl hownW x.1.1 3 rfl hq6 hszW ?_; intro a8 c8 w8 ho8 hb8)
        have H8 := Lib.hid (S2.out.put ho8 (hb8 _ (Below.refl _ _)) HO.out)
        clear hszW hownW ho8 hb8
        go_roundw
        case rel => exact ⟨A'', [], p2, vB, O ++ [(x.1.1, 3)], H8.out, Hp.out.2, HRel.out.2.2.1, (by rw [← HRel.out.2.2.2.1, show (diffE (ens (x :: A'')) (ens [])) = _ from merge_l _ _]; simp [diffE]), (by have := HRel.out.2.2.2.2.1; rw [List.length_append, show ([(_, _)] : List Dl).length = 1 from rfl]; simp only [List.length_cons] at this ⊢; omega), (fun z hz => HRel.out.2.2.2.2.2.2.2 z (List.mem_cons_of_mem _ hz))⟩
        case measure => exact (by rw [leftE_is H8.out.1 Hp.out.2, leftE_is H8.out.2.1 HRel.out.2.2.1, HRel.out.2.2.2.2.2.1, HRel.out.2.2.2.2.2.2.1]; simp only [List.length_cons]; omega)
      | cons y B'' =>
        clear he ha hb hO hln hlA hlB hc
        by_cases hlt : Op.bytesLess x.1.1 y.1.1 = true
        · have hgt : Op.bytesLess y.1.1 x.1.1 = false := less_asymm hlt
          have HLT := Lib.hid hlt
          have HNE := Lib.hid (show y.1.1 ≠ x.1.1 from fun e => by rw [e, less_irrefl] at hlt; cases hlt)
          clear hlt
          go_wp2_with fail
          refine (eHere_some HRel.out.1.1 (HRel.out.2.1.below HRel.out.1.2.2.2.1) (by have := HRel.out.2.2.2.2.1; simp only [List.length_cons] at this; omega)).mono ?_
          rintro e w20 ⟨rfl, hB⟩
          have S1 := Lib.hid (HRel.out.1.below hB)
          clear hB
          go_wp2_with fail
          refine (eHere_some S1.out.2.1 (HRel.out.2.2.1.below S1.out.2.2.2.1) (by have := HRel.out.2.2.2.2.1; simp only [List.length_cons] at this; omega)).mono ?_
          rintro e w21 ⟨rfl, hB⟩
          have S2 := Lib.hid (S1.out.below hB)
          clear hB
          go_wp2_with fail
          refine (eTake_yes S2.out.1 HRel.out.2.1 (by have := HRel.out.2.2.2.2.1; simp only [List.length_cons] at this; omega) S2.out.2.2.2.1).mono ?_
          rintro e w22 ⟨p1, p2, rfl, hp1, hp2, hT, hK⟩
          obtain ⟨_, _, rfl⟩ := hp1.form
          have Hp := Lib.hid (And.intro hp1 hp2)
          have S3 := Lib.hid (S2.out.takeA HO.out hT hK)
          clear hT hK hp1 hp2
          go_wp2_with fail
          refine (eTake_no S3.out.2.1 HRel.out.2.2.1 (by have := HRel.out.2.2.2.2.1; simp only [List.length_cons] at this; omega) S3.out.2.2.2.1 _ HNE.out).mono ?_
          rintro e w23 ⟨rfl, hB⟩
          have S4 := Lib.hid (S3.out.below hB)
          clear hB
          go_wp2_with fail
          refine (eKind_a _ _ _ x (Hp.out.1.below S4.out.2.2.2.1) (show Ents _ (.slice none 0 0) [] from Ents.nil _)).mono ?_
          rintro e _ ⟨rfl, rfl⟩
          have hszW := S4.out.2.2.2.2
          have hownW := S4.out.2.2.1
          go_wp2_with (at_builtin; refine app_del rfl _ _ rfl bs _ O rfl hownW x.1.1 3 rfl hq6 hszW ?_; intro a8 c8 w8 ho8 hb8)
          have H8 := Lib.hid (S4.out.put ho8 (hb8 _ (Below.refl _ _)) HO.out)
          clear hszW hownW ho8 hb8
          go_roundw
          case rel => exact ⟨A'', (y :: B''), p2, vB, O ++ [(x.1.1, 3)], H8.out, Hp.out.2, HRel.out.2.2.1, (by rw [← HRel.out.2.2.2.1, show (diffE (ens (x :: A'')) (ens (y :: B''))) = _ from merge_lt HLT.out]; simp [diffE]), (by have := HRel.out.2.2.2.2.1; rw [List.length_append, show ([(_, _)] : List Dl).length = 1 from rfl]; simp only [List.length_cons] at this ⊢; omega), (fun z hz => HRel.out.2.2.2.2.2.2.2 z (List.mem_cons_of_mem _ hz))⟩
          case measure => exact (by rw [leftE_is H8.out.1 Hp.out.2, leftE_is H8.out.2.1 HRel.out.2.2.1, HRel.out.2.2.2.2.2.1, HRel.out.2.2.2.2.2.2.1]; simp only [List.length_cons]; omega)
        · by_cases hgt : Op.bytesLess y.1.1 x.1.1 = true
          · have HLT := Lib.hid hgt
            have HNE := Lib.hid (show x.1.1 ≠ y.1.1 from fun e => by rw [e, less_irrefl] at hgt; cases hgt)
            clear hlt
            go_wp2_with fail
            refine (eHere_some HRel.out.1.1 (HRel.out.2.1.below HRel.out.1.2.2.2.1) (by have := HRel.out.2.2.2.2.1; simp only [List.length_cons] at this; omega)).mono ?_
            rintro e w20 ⟨rfl, hB⟩
            have S1 := Lib.hid (HRel.out.1.below hB)
            clear hB
            go_wp2_with fail
            refine (eHere_some S1.out.2.1 (HRel.out.2.2.1.below S1.out.2.2.2.1) (by have := HRel.out.2.2.2.2.1; simp only [List.length_cons] at this; omega)).mono ?_
            rintro e w21 ⟨rfl, hB⟩
            have S2 := Lib.hid (S1.out.below hB)
            clear hB
            go_wp2_with fail
            refine (eTake_no S2.out.1 HRel.out.2.1 (by have := HRel.out.2.2.2.2.1; simp only [List.length_cons] at this; omega) S2.out.2.2.2.1 _ HNE.out).mono ?_
            rintro e w22 ⟨rfl, hB⟩
            have S3 := Lib.hid (S2.out.below hB)
            clear hB
            go_wp2_with fail
            refine (eTake_yes S3.out.2.1 HRel.out.2.2.1 (by have := HRel.out.2.2.2.2.1; simp only [List.length_cons] at this; omega) S3.out.2.2.2.1).mono ?_
            rintro e w23 ⟨r1, r2, rfl, hr1, hr2, hT, hK⟩
            obtain ⟨_, _, rfl⟩ := hr1.form
            have Hr := Lib.hid (And.intro hr1 hr2)
            have S4 := Lib.hid (S3.out.takeB HO.out hT hK)
            clear hT hK hr1 hr2
            go_wp2_with fail
            refine (eKind_b _ _ _ y (show Ents _ (.slice none 0 0) [] from Ents.nil _) (Hr.out.1.below S4.out.2.2.2.1)).mono ?_
            rintro e _ ⟨rfl, rfl⟩
            have hszW := S4.out.2.2.2.2
            have hownW := S4.out.2.2.1
            go_wp2_with (at_builtin; refine app_del rfl _ _ rfl bs _ O rfl hownW y.1.1 1 rfl hq6 hszW ?_; intro a8 c8 w8 ho8 hb8)
            have H8 := Lib.hid (S4.out.put ho8 (hb8 _ (Below.refl _ _)) HO.out)
            clear hszW hownW ho8 hb8
            go_roundw
            case rel => exact ⟨(x :: A''), B'', vA, r2, O ++ [(y.1.1, 1)], H8.out, HRel.out.2.1, Hr.out.2, (by rw [← HRel.out.2.2.2.1, show (diffE (ens (x :: A'')) (ens (y :: B''))) = _ from merge_gt HLT.out]; simp [diffE]), (by have := HRel.out.2.2.2.2.1; rw [List.length_append, show ([(_, _)] : List Dl).length = 1 from rfl]; simp only [List.length_cons] at this ⊢; omega), HRel.out.2.2.2.2.2.2.2⟩
            case measure => exact (by rw [leftE_is H8.out.1 HRel.out.2.1, leftE_is H8.out.2.1 Hr.out.2, HRel.out.2.2.2.2.2.1, HRel.out.2.2.2.2.2.2.1]; simp only [List.length_cons]; omega)
          · have hgt : Op.bytesLess y.1.1 x.1.1 = false := by simpa using hgt
            have HEQ2 := Lib.hid (same_key (key := fun z : Ev => z.1.1) hlt (by rw [hgt]; simp) : x.1.1 = y.1.1)
            have HEQ := HEQ2
            clear hlt
            go_wp2_with fail
            refine (eHere_some HRel.out.1.1 (HRel.out.2.1.below HRel.out.1.2.2.2.1) (by have := HRel.out.2.2.2.2.1; simp only [List.length_cons] at this; omega)).mono ?_
            rintro e w20 ⟨rfl, hB⟩
            have S1 := Lib.hid (HRel.out.1.below hB)
            clear hB
            go_wp2_with fail
            refine (eHere_some S1.out.2.1 (HRel.out.2.2.1.below S1.out.2.2.2.1) (by have := HRel.out.2.2.2.2.1; simp only [List.length_cons] at this; omega)).mono ?_
            rintro e w21 ⟨rfl, hB⟩
            have S2 := Lib.hid (S1.out.below hB)
            clear hB
            go_wp2_with fail
            refine (eTake_yes S2.out.1 HRel.out.2.1 (by have := HRel.out.2.2.2.2.1; simp only [List.length_cons] at this; omega) S2.out.2.2.2.1).mono ?_
            rintro e w22 ⟨p1, p2, rfl, hp1, hp2, hT, hK⟩
            obtain ⟨_, _, rfl⟩ := hp1.form
            have Hp := Lib.hid (And.intro hp1 hp2)
            have S3 := Lib.hid (S2.out.takeA HO.out hT hK)
            clear hT hK hp1 hp2
            go_wp2_with fail
            rw [HEQ.out]
            refine (eTake_yes S3.out.2.1 HRel.out.2.2.1 (by have := HRel.out.2.2.2.2.1; simp only [List.length_cons] at this; omega) S3.out.2.2.2.1).mono ?_
            rintro e w23 ⟨r1, r2, rfl, hr1, hr2, hT, hK⟩
            obtain ⟨_, _, rfl⟩ := hr1.form
            have Hr := Lib.hid (And.intro hr1 hr2)
            have S4 := Lib.hid (S3.out.takeB HO.out hT hK)
            clear hT hK hr1 hr2
            go_wp2_with fail
            refine (eKind_both _ _ _ x y (Hp.out.1.below S4.out.2.2.2.1) (Hr.out.1.below S4.out.2.2.2.1) (HRel.out.2.2.2.2.2.2.2 _ (by simp))).mono ?_
            rintro e w40 ⟨rfl, hB⟩
            have S5 := Lib.hid (S4.out.below hB)
            clear hB
            obtain ⟨kz, hkz⟩ : ∃ k, (chgE x.1 y.1) = k := ⟨_, rfl⟩
            rw [hkz]
            have HKZ := Lib.hid hkz
            clear hkz
            by_cases hz : kz = 0
            · subst hz
              go_wp2_with fail
              go_roundw
              case rel => exact ⟨A'', B'', p2, r2, O, S5.out, Hp.out.2, Hr.out.2, (by rw [← HRel.out.2.2.2.1, show (diffE (ens (x :: A'')) (ens (y :: B''))) = _ from merge_eq HEQ2.out]; rw [show oneD _ ((chgE x.1 y.1)) = [] from if_pos HKZ.out, List.nil_append]; all_goals rfl), (by have := HRel.out.2.2.2.2.1; simp only [List.length_cons] at this ⊢; omega), (fun z hz => HRel.out.2.2.2.2.2.2.2 z (List.mem_cons_of_mem _ hz))⟩
              case measure => exact (by rw [leftE_is S5.out.1 Hp.out.2, leftE_is S5.out.2.1 Hr.out.2, HRel.out.2.2.2.2.2.1, HRel.out.2.2.2.2.2.2.1]; simp only [List.length_cons]; omega)
            · have hz1 : (kz == 0) = false := by rw [beq_eq_false_iff_ne]; exact hz
              have HZ := Lib.hid hz
              clear hz
              have hszW := S5.out.2.2.2.2
              have hownW := S5.out.2.2.1
              go_wp2_with (at_builtin; refine app_del rfl _ _ rfl bs _ O rfl hownW y.1.1 (kz) rfl hq6 hszW ?_; intro a8 c8 w8 ho8 hb8)
              have H8 := Lib.hid (S5.out.put ho8 (hb8 _ (Below.refl _ _)) HO.out)
              clear hszW hownW ho8 hb8
              go_roundw
              case rel => exact ⟨A'', B'', p2, r2, O ++ [(y.1.1, kz)], H8.out, Hp.out.2, Hr.out.2, (by rw [← HRel.out.2.2.2.1, show (diffE (ens (x :: A'')) (ens (y :: B''))) = _ from merge_eq HEQ2.out]; rw [HEQ2.out, show oneD _ ((chgE x.1 y.1)) = [(_, kz)] from (if_neg (HKZ.out ▸ HZ.out)).trans (by rw [HKZ.out])]; simp [diffE]), (by have := HRel.out.2.2.2.2.1; rw [List.length_append, show ([(_, _)] : List Dl).length = 1 from rfl]; simp only [List.length_cons] at this ⊢; omega), (fun z hz => HRel.out.2.2.2.2.2.2.2 z (List.mem_cons_of_mem _ hz))⟩
              case measure => exact (by rw [leftE_is H8.out.1 Hp.out.2, leftE_is H8.out.2.1 Hr.out.2, HRel.out.2.2.2.2.2.1, HRel.out.2.2.2.2.2.2.1]; simp only [List.length_cons]; omega)

end Go.Proofs.YtogicnciheedoaaGreatDoor

/-
  diff.through over deltas: one row, gone through by two closures.
-/
namespace Go.Proofs.YtogicnciheedoaaGreatDoor
set_option maxRecDepth 100000
open Go.RowKit

theorem dls_elem : Tryz.prog.elem 26 = 44 := by kernel_rfl
theorem dls_from {w : World} {ao : Option Addr} {n cap : Nat} {S : List Dl} (h : Dls w (.slice ao n cap) S) (i m : Nat) (hi : i ≤ n) (hm : i + m = n) :
    ∃ a1 c1, (∀ W, (Instr.slice 26 (.slice ao n cap) (some (.int .i64 (i : Int))) none none).run Tryz.prog W = .ok (.slice a1 m c1) W) ∧ Dls w (.slice a1 m c1) (S.drop i) :=
  rowOf_from dcell_k (by rw [dls_elem]; exact Tryz.underlying26) (size_of (by rw [dls_elem]; kernel_rfl)) h i m hi hm
theorem dls_to {w : World} {ao : Option Addr} {n cap : Nat} {S : List Dl} (h : Dls w (.slice ao n cap) S) (i : Nat) (hi : i ≤ n) :
    (∀ W, (Instr.slice 26 (.slice ao n cap) none (some (.int .i64 (i : Int))) none).run Tryz.prog W = .ok (.slice ao i cap) W) ∧ Dls w (.slice ao i cap) (S.take i) :=
  rowOf_to dcell_k (by rw [dls_elem]; exact Tryz.underlying26) (size_of (by rw [dls_elem]; kernel_rfl)) h i hi

theorem dPath_calls (x : Dl) (w : World) : Calls Tryz.prog 33 #[.agg #[.string ⟨x.1.toArray⟩, .int .i64 x.2]] w fun e w' => e = .returned (.string ⟨x.1.toArray⟩) ∧ Below w.heap.size w w' := by
  obtain ⟨p, n⟩ := x
  have hB := below_alloc w (.cells #[.string ⟨p.toArray⟩, .int .i64 n] 44)
  go_enter Tryz.func33, Tryz.ntmps33
  go_wp2_with fail
  go_ret
  exact ⟨rfl, hB⟩

/-- The closures' boxes: the row that is left, what tells a path, the first closure. -/
abbrev HvD (g : Nat) : Value := .func (.func 95) #[] #[.pointer (some ⟨g, 0, none⟩), .pointer (some ⟨g + 1, 0, none⟩)]
abbrev TvD (g : Nat) : Value := .func (.func 96) #[] #[.pointer (some ⟨g + 2, 0, none⟩), .pointer (some ⟨g, 0, none⟩)]
def ThrD (w : World) (g : Nat) (v : Value) : Prop := Boxed w g 26 v ∧ Boxed w (g + 1) 77 (.func (.func 33) #[] #[]) ∧ Boxed w (g + 2) 98 (HvD g)
theorem ThrD.below {w w' : World} {g : Nat} {v : Value} (h : ThrD w g v) (hb : Below w.heap.size w w') : ThrD w' g v := ⟨boxed_stays h.1 hb, boxed_stays h.2.1 hb, boxed_stays h.2.2 hb⟩
theorem ThrD.keeps {w w' : World} {g k : Nat} {v : Value} (h : ThrD w g v) (hk : Keeps k w w') (h0 : k < g ∨ g + 2 < k) : ThrD w' g v := ⟨boxed_keeps h.1 hk (by omega), boxed_keeps h.2.1 hk (by omega), boxed_keeps h.2.2 hk (by omega)⟩

theorem dHere_none {w : World} {g : Nat} {v : Value} (hT : ThrD w g v) (h : Dls w v []) : Calls Tryz.prog 95 #[.pointer (some ⟨g, 0, none⟩), .pointer (some ⟨g + 1, 0, none⟩)] w fun e w' => e = .returned (.tuple #[.string ⟨#[]⟩, .bool false]) ∧ w = w' := by
  obtain ⟨ao, cap, rfl⟩ := h.form
  have c0 := hT.1.cell
  clear hT h
  go_enter Tryz.func95, Tryz.ntmps95
  go_wp2_with fail
  go_ret2
  exact ⟨rfl, rfl⟩
set_option maxHeartbeats 4000000 in
theorem dHere_some {w : World} {g : Nat} {v : Value} {x : Dl} {S : List Dl} (hT : ThrD w g v) (h : Dls w v (x :: S)) (hl : S.length ≤ 1000000) : Calls Tryz.prog 95 #[.pointer (some ⟨g, 0, none⟩), .pointer (some ⟨g + 1, 0, none⟩)] w fun e w' => e = .returned (.tuple #[.string ⟨x.1.toArray⟩, .bool true]) ∧ Below w.heap.size w w' := by
  obtain ⟨ao, cap, rfl⟩ := h.form
  obtain ⟨b, off, rfl, e0, e1⟩ := dls_at h (i := 0) (by simp)
  rw [Nat.zero_mul, Nat.add_zero] at e0 e1
  dsimp only [List.getElem_cons_zero] at e0 e1
  obtain ⟨p, n⟩ := x
  dsimp only at e0 e1
  have c0 := hT.1.cell
  have c1 := hT.2.1.cell
  have hne : (((S.length + 1 : Nat) : Int) == 0) = false := by rw [beq_eq_false_iff_ne]; omega
  rw [List.length_cons] at c0
  obtain ⟨q, hq⟩ : ∃ q, S.length + 1 = q := ⟨_, rfl⟩
  have hq2 : q ≤ 1000001 := by omega
  have hlt : 0 < q := by omega
  rw [hq] at c0 hne
  have HC := Lib.hid (fun W (hW : Below w.heap.size w W) => (And.intro (look_below hW c0) (And.intro (look_below hW c1) (And.intro (look_below hW e0) (look_below hW e1))) : W.cell? ⟨g, 0, none⟩ = some (.slice (some ⟨b, off, none⟩) q cap) ∧ W.cell? ⟨g + 1, 0, none⟩ = some (.func (.func 33) #[] #[]) ∧ W.cell? ⟨b, off, none⟩ = some (.string ⟨p.toArray⟩) ∧ W.cell? ⟨b, off + 1, none⟩ = some (.int .i64 n)))
  have KP := Lib.hid (fun W => dPath_calls (p, n) W)
  clear hT h hq hl
  go_enter Tryz.func95, Tryz.ntmps95
  go_wp2_with fail
  have hbr : Below w.heap.size w w.drew := drew_below _
  go_region_held3 (fun w' => w'.cell? ⟨g, 0, none⟩ = some (.slice (some ⟨b, off, none⟩) q cap) ∧ w'.cell? ⟨g + 1, 0, none⟩ = some (.func (.func 33) #[] #[]) ∧ w'.cell? ⟨b, off, none⟩ = some (.string ⟨p.toArray⟩) ∧ w'.cell? ⟨b, off + 1, none⟩ = some (.int .i64 n)) (exact HC.out _ hbr) (first
    | (go_at_call 33; (with_reducible refine (KP.out _).mono ?_); rintro e w3 ⟨rfl, hB3⟩; have hbr := below2 hbr hB3))
  all_goals
    go_wp2_with fail
    go_ret2
    exact ⟨rfl, hbr⟩

set_option maxHeartbeats 2000000 in
theorem dTake_none {w w0 : World} {g : Nat} {v : Value} (hT : ThrD w g v) (h : Dls w0 v []) (hB : Below w0.heap.size w0 w) (p : List UInt8) : Calls Tryz.prog 96 #[.string ⟨p.toArray⟩, .pointer (some ⟨g + 2, 0, none⟩), .pointer (some ⟨g, 0, none⟩)] w fun e w' => e = .returned (.slice none 0 0) ∧ w = w' := by
  have K := Lib.hid (dHere_none hT (h.below hB))
  have c2 : w.cell? ⟨g + 2, 0, none⟩ = some (.func (.func 95) #[] #[.pointer (some ⟨g, 0, none⟩), .pointer (some ⟨g + 1, 0, none⟩)]) := hT.2.2.cell
  clear hT h hB
  go_enter Tryz.func96, Tryz.ntmps96
  go_wp2_with fail
  refine K.out.mono ?_
  rintro e w1 ⟨rfl, rfl⟩
  go_wp2_with fail
  go_ret
  exact ⟨rfl, rfl⟩
set_option maxHeartbeats 2000000 in
theorem dTake_no {w w0 : World} {g : Nat} {v : Value} {x : Dl} {S : List Dl} (hT : ThrD w g v) (h : Dls w0 v (x :: S)) (hl : S.length ≤ 1000000) (hB : Below w0.heap.size w0 w) (p : List UInt8) (hp : x.1 ≠ p) : Calls Tryz.prog 96 #[.string ⟨p.toArray⟩, .pointer (some ⟨g + 2, 0, none⟩), .pointer (some ⟨g, 0, none⟩)] w fun e w' => e = .returned (.slice none 0 0) ∧ Below w.heap.size w w' := by
  have K := Lib.hid (dHere_some hT (h.below hB) hl)
  have c2 : w.cell? ⟨g + 2, 0, none⟩ = some (.func (.func 95) #[] #[.pointer (some ⟨g, 0, none⟩), .pointer (some ⟨g + 1, 0, none⟩)]) := hT.2.2.cell
  generalize x.1 = q at *
  have hq : (q == p) = false := by rw [beq_eq_false_iff_ne]; exact hp
  clear hT h hB hp
  go_enter Tryz.func96, Tryz.ntmps96
  go_wp2_with fail
  refine K.out.mono ?_
  rintro e w1 ⟨rfl, hB1⟩
  go_wp2_with fail
  go_ret
  exact ⟨rfl, hB1⟩
set_option maxHeartbeats 2000000 in
theorem dTake_yes {w w0 : World} {g : Nat} {v : Value} {x : Dl} {S : List Dl} (hT : ThrD w g v) (h : Dls w0 v (x :: S)) (hl : S.length ≤ 1000000) (hB : Below w0.heap.size w0 w) : Calls Tryz.prog 96 #[.string ⟨x.1.toArray⟩, .pointer (some ⟨g + 2, 0, none⟩), .pointer (some ⟨g, 0, none⟩)] w fun e w' => ∃ v1 v2, e = .returned v1 ∧ Dls w0 v1 [x] ∧ Dls w0 v2 S ∧ ThrD w' g v2 ∧ Keeps g w w' := by
  have K := Lib.hid (dHere_some hT (h.below hB) hl)
  have c2 : w.cell? ⟨g + 2, 0, none⟩ = some (.func (.func 95) #[] #[.pointer (some ⟨g, 0, none⟩), .pointer (some ⟨g + 1, 0, none⟩)]) := hT.2.2.cell
  obtain ⟨ao, cap, rfl⟩ := h.form
  obtain ⟨a1, c1, hs1, hf⟩ := dls_from h 1 S.length (by simp) (by simp; omega)
  obtain ⟨hs2, ht⟩ := dls_to h 1 (by simp)
  have HF := Lib.hid (And.intro hf ht)
  have HT := Lib.hid hT
  generalize x.1 = q at *
  obtain ⟨nl, hnl⟩ : ∃ n, (x :: S).length = n := ⟨_, rfl⟩
  obtain ⟨ns, hns⟩ : ∃ n, S.length = n := ⟨_, rfl⟩
  rw [hnl] at hs1 hs2 HT
  rw [hns] at hs1 HF
  replace hs1 : ∀ W, (Instr.slice 26 (.slice ao nl cap) (some (.int .i64 1)) none none).run Tryz.prog W = .ok (.slice a1 ns c1) W := hs1
  replace hs2 : ∀ W, (Instr.slice 26 (.slice ao nl cap) none (some (.int .i64 1)) none).run Tryz.prog W = .ok (.slice ao 1 cap) W := hs2
  clear hT h hB hf ht hnl hns hl
  go_enter Tryz.func96, Tryz.ntmps96
  go_wp2_with fail
  refine K.out.mono ?_
  rintro e w1 ⟨rfl, hB1⟩
  have HT1 := Lib.hid (HT.out.below hB1)
  have c0 := HT1.out.1.cell
  have f0 := HT1.out.1.frozen
  have HK := Lib.hid ((Keeps.below g hB1).set 0 (.slice a1 ns c1))
  clear hB1
  go_wp2_with fail
  go_ret
  exact ⟨_, _, rfl, HF.out.2, HF.out.1, ⟨HT1.out.1.set _, HT1.out.2.1.other (by omega) _, HT1.out.2.2.other (by omega) _⟩, HK.out⟩

set_option maxHeartbeats 2000000 in
theorem dThrough_calls (v : Value) (S : List Dl) (w : World) (h : Dls w v S) : Calls Tryz.prog 63 #[v, .func (.func 33) #[] #[]] w fun e w' => ∃ g, e = .returned (.tuple #[HvD g, TvD g]) ∧ ThrD w' g v ∧ w.heap.size ≤ g ∧ Below w.heap.size w w' := by
  obtain ⟨ao, cap, rfl⟩ := h.form
  obtain ⟨n, hn⟩ : ∃ n, S.length = n := ⟨_, rfl⟩
  rw [hn]
  have hmf : ∀ (fn : Fn) (first cap : Array Value) (w : World), (Instr.makeFunc fn first cap).run Tryz.prog w = .ok (.func fn first cap) w := fun _ _ _ _ => rfl
  have b2 := Boxed.new ((w.alloc (.cells #[.slice ao n cap] 26)).alloc (.cells #[.func (.func 33) #[] #[]] 77)) 98 .nilFunc
  rw [World.size_alloc, World.size_alloc] at b2
  have c2 := b2.cell
  have f2 := b2.frozen
  have d0 := ((Boxed.new w 26 (.slice ao n cap)).alloc (.cells #[.func (.func 33) #[] #[]] 77)).alloc (.cells #[HvD w.heap.size] 98)
  have d1 := (Boxed.new (w.alloc (.cells #[.slice ao n cap] 26)) 77 (.func (.func 33) #[] #[])).alloc (.cells #[HvD w.heap.size] 98)
  have d2 := Boxed.new ((w.alloc (.cells #[.slice ao n cap] 26)).alloc (.cells #[.func (.func 33) #[] #[]] 77)) 98 (HvD w.heap.size)
  have hB := below_alloc3 w (.cells #[.slice ao n cap] 26) (.cells #[.func (.func 33) #[] #[]] 77) (.cells #[HvD w.heap.size] 98)
  rw [World.size_alloc] at d1
  rw [World.size_alloc, World.size_alloc] at d2
  have HH := Lib.hid (And.intro d0 (And.intro d1 (And.intro d2 hB)))
  clear h hn b2 d0 d1 d2 hB
  go_enter Tryz.func63, Tryz.ntmps63
  go_wp2_with fail
  exact ret_func2 rfl rfl _ _ _ rfl rfl HH.out.2.2.1.cell (by simp [isAgg, run_underlying Tryz.underlying98]) ⟨_, rfl, ⟨HH.out.1, HH.out.2.1, HH.out.2.2.1⟩, Nat.le_refl _, HH.out.2.2.2⟩

end Go.Proofs.YtogicnciheedoaaGreatDoor

/-
  diff.Then$2: the kind of a path, by what each row has of it.
-/
namespace Go.Proofs.YtogicnciheedoaaGreatDoor
set_option maxRecDepth 100000
open Go.RowKit

theorem then_zero_a {n : Int} (h : 1 ≤ n) : thenN n 0 = n := by unfold thenN; rw [if_neg (by omega), if_pos rfl]
theorem then_zero_b (n : Int) : thenN 0 n = n := by unfold thenN; rw [if_pos rfl]
theorem then_both {m n : Int} (h : 1 ≤ m) (k : 1 ≤ n) : thenN m n = bothN m n := by unfold thenN; rw [if_neg (by omega), if_neg (by omega)]
theorem dKind_b (va vb : Value) (w : World) (y : Dl) (ha : Dls w va []) (hb : Dls w vb [y]) (hy : 1 ≤ y.2 ∧ y.2 ≤ 3) (hk : KiOk w) : Calls Tryz.prog 35 #[va, vb] w fun e w' => e = .returned (.int .i64 y.2) ∧ w = w' := by
  have K1 := Lib.hid (kindOf_none va w ha)
  have K2 := Lib.hid (kindOf_one vb y w hb)
  have K3 := Lib.hid (together_calls 0 y.2 (by omega) (by omega) w hk)
  rw [then_zero_b] at K3
  generalize y.2 = n at *
  clear ha hb hk
  go_enter Tryz.func35, Tryz.ntmps35
  go_wp2_with fail
  refine K1.out.mono ?_
  rintro e w1 ⟨rfl, rfl⟩
  go_wp2_with fail
  refine K2.out.mono ?_
  rintro e w1 ⟨rfl, rfl⟩
  go_wp2_with fail
  refine K3.out.mono ?_
  rintro e w1 ⟨rfl, rfl⟩
  go_wp2_with fail
  go_ret
  exact ⟨rfl, rfl⟩
theorem dKind_a (va vb : Value) (w : World) (x : Dl) (ha : Dls w va [x]) (hb : Dls w vb []) (hx : 1 ≤ x.2 ∧ x.2 ≤ 3) (hk : KiOk w) : Calls Tryz.prog 35 #[va, vb] w fun e w' => e = .returned (.int .i64 x.2) ∧ w = w' := by
  have K1 := Lib.hid (kindOf_one va x w ha)
  have K2 := Lib.hid (kindOf_none vb w hb)
  have K3 := Lib.hid (together_calls x.2 0 (by omega) (by omega) w hk)
  rw [then_zero_a hx.1] at K3
  generalize x.2 = n at *
  clear ha hb hk
  go_enter Tryz.func35, Tryz.ntmps35
  go_wp2_with fail
  refine K1.out.mono ?_
  rintro e w1 ⟨rfl, rfl⟩
  go_wp2_with fail
  refine K2.out.mono ?_
  rintro e w1 ⟨rfl, rfl⟩
  go_wp2_with fail
  refine K3.out.mono ?_
  rintro e w1 ⟨rfl, rfl⟩
  go_wp2_with fail
  go_ret
  exact ⟨rfl, rfl⟩
theorem dKind_both (va vb : Value) (w : World) (x y : Dl) (ha : Dls w va [x]) (hb : Dls w vb [y]) (hx : 1 ≤ x.2 ∧ x.2 ≤ 3) (hy : 1 ≤ y.2 ∧ y.2 ≤ 3) (hk : KiOk w) : Calls Tryz.prog 35 #[va, vb] w fun e w' => e = .returned (.int .i64 (bothN x.2 y.2)) ∧ w = w' := by
  have K1 := Lib.hid (kindOf_one va x w ha)
  have K2 := Lib.hid (kindOf_one vb y w hb)
  have K3 := Lib.hid (together_calls x.2 y.2 (by omega) (by omega) w hk)
  rw [then_both hx.1 hy.1] at K3
  generalize x.2 = m at *
  generalize y.2 = n at *
  generalize bothN m n = z at *
  clear ha hb hk
  go_enter Tryz.func35, Tryz.ntmps35
  go_wp2_with fail
  refine K1.out.mono ?_
  rintro e w1 ⟨rfl, rfl⟩
  go_wp2_with fail
  refine K2.out.mono ?_
  rintro e w1 ⟨rfl, rfl⟩
  go_wp2_with fail
  refine K3.out.mono ?_
  rintro e w1 ⟨rfl, rfl⟩
  go_wp2_with fail
  go_ret
  exact ⟨rfl, rfl⟩

end Go.Proofs.YtogicnciheedoaaGreatDoor

/-
  diff.eachPath over deltas: two rows gone through side by side.
-/
namespace Go.Proofs.YtogicnciheedoaaGreatDoor
set_option maxRecDepth 100000
open Go.RowKit

/-- How much is left of a row, as its box tells. -/
def leftD (w : World) (g : Nat) : Nat := match w.cell? ⟨g, 0, none⟩ with | some (.slice _ n _) => n | _ => 0
theorem leftD_is {w w0 : World} {g : Nat} {v : Value} {S : List Dl} (h : ThrD w g v) (hs : Dls w0 v S) : leftD w g = S.length := by
  obtain ⟨ao, cap, rfl⟩ := hs.form
  unfold leftD
  rw [h.1.cell]
/-- What holds in eachPath's loop. -/
def EaD (w : World) (gA gB bs : Nat) (u vA vB : Value) (O : List Dl) (W : World) : Prop := ThrD W gA vA ∧ ThrD W gB vB ∧ OwnDl W bs u O ∧ Below w.heap.size w W ∧ bs ≤ W.heap.size
/-- The order of the blocks. -/
def OrD (w : World) (gA gB bs : Nat) : Prop := w.heap.size ≤ gA ∧ gA + 2 < gB ∧ gB + 2 < bs
theorem EaD.below {w : World} {gA gB bs : Nat} {u vA vB : Value} {O : List Dl} {W W' : World} (h : EaD w gA gB bs u vA vB O W) (hb : Below W.heap.size W W') : EaD w gA gB bs u vA vB O W' :=
  ⟨h.1.below hb, h.2.1.below hb, h.2.2.1.stays hb, below2 h.2.2.2.1 hb, Nat.le_trans h.2.2.2.2 hb.size⟩
theorem EaD.takeA {w : World} {gA gB bs : Nat} {u vA vA' vB : Value} {O : List Dl} {W W' : World} (h : EaD w gA gB bs u vA vB O W) (ho : OrD w gA gB bs) (hT : ThrD W' gA vA') (hk : Keeps gA W W') : EaD w gA gB bs u vA' vB O W' := by
  obtain ⟨o1, o2, o3⟩ := ho
  exact ⟨hT, h.2.1.keeps hk (by omega), h.2.2.1.kept hk (.inr fun e => by have := (h.2.2.1.lt _ e).1; omega), hk.on h.2.2.2.1 o1 h.2.2.2.1.size, Nat.le_trans h.2.2.2.2 hk.size⟩
theorem EaD.takeB {w : World} {gA gB bs : Nat} {u vA vB vB' : Value} {O : List Dl} {W W' : World} (h : EaD w gA gB bs u vA vB O W) (ho : OrD w gA gB bs) (hT : ThrD W' gB vB') (hk : Keeps gB W W') : EaD w gA gB bs u vA vB' O W' := by
  obtain ⟨o1, o2, o3⟩ := ho
  exact ⟨h.1.keeps hk (by omega), hT, h.2.2.1.kept hk (.inr fun e => by have := (h.2.2.1.lt _ e).1; omega), hk.on h.2.2.2.1 (by omega) h.2.2.2.1.size, Nat.le_trans h.2.2.2.2 hk.size⟩
theorem EaD.put {w : World} {gA gB bs : Nat} {u u' vA vB : Value} {O O' : List Dl} {W W' : World} (h : EaD w gA gB bs u vA vB O W) (ho : OwnDl W' bs u' O') (hb : Below bs W W') (o : OrD w gA gB bs) : EaD w gA gB bs u' vA vB O' W' := by
  obtain ⟨o1, o2, o3⟩ := o
  have hx : ∀ {b t x}, b < bs → Boxed W b t x → Boxed W' b t x := fun hlt hh => (hb.block _ hlt).trans hh
  refine ⟨⟨hx (by omega) h.1.1, hx (by omega) h.1.2.1, hx (by omega) h.1.2.2⟩, ⟨hx (by omega) h.2.1.1, hx (by omega) h.2.1.2.1, hx (by omega) h.2.1.2.2⟩, ho, h.2.2.2.1.trans (hb.mono (by omega)), Nat.le_trans h.2.2.2.2 hb.size⟩

set_option maxHeartbeats 32000000 in
theorem dEach_calls (va vb : Value) (A B : List Dl) (w : World) (ha : Dls w va A) (hb : Dls w vb B) (hla : A.length ≤ 2000) (hlb : B.length ≤ 2000) (hc : KindD A) (hcb : KindD B) (hki : KiOk w) :
    Calls Tryz.prog 34 #[va, vb, .func (.func 33) #[] #[], .func (.func 35) #[] #[]] w fun e w' => ∃ u, e = .returned u ∧ OwnDl w' w.heap.size u (thenL A B) ∧ Below w.heap.size w w' := by
  obtain ⟨ao, ca, rfl⟩ := ha.form
  obtain ⟨bo, cb, rfl⟩ := hb.form
  have KT := Lib.hid (fun (v : Value) (S : List Dl) W (h : Dls W v S) => dThrough_calls v S W h)
  obtain ⟨nA, hnA⟩ : ∃ n, A.length = n := ⟨_, rfl⟩
  obtain ⟨nB, hnB⟩ : ∃ n, B.length = n := ⟨_, rfl⟩
  have HL := Lib.hid (show A.length + B.length ≤ 4000 by omega)
  have HK := Lib.hid hc
  have HKB := Lib.hid hcb
  have HKI := Lib.hid hki
  rw [hnA] at ha ⊢
  rw [hnB] at hb ⊢
  have HA := Lib.hid ha
  have HB := Lib.hid hb
  clear ha hb hla hlb hc hnA hnB hcb hki
  go_enter Tryz.func34, Tryz.ntmps34
  go_wp2_with fail
  refine (KT.out _ _ _ HA.out).mono ?_
  rintro e w1 ⟨gA, rfl, hT1, hg1, hB1⟩
  have H1 := Lib.hid (And.intro hT1 (And.intro hg1 hB1))
  clear hT1 hg1 hB1
  go_wp2_with fail
  refine (KT.out _ _ _ (HB.out.below H1.out.2.2)).mono ?_
  rintro e w2 ⟨gB, rfl, hT2, hg2, hB2⟩
  have HO := Lib.hid (show OrD w gA gB w2.heap.size from ⟨H1.out.2.1, Nat.lt_of_lt_of_le H1.out.1.2.2.lt hg2, hT2.2.2.lt⟩)
  obtain ⟨bs, hbs⟩ : ∃ n, w2.heap.size = n := ⟨_, rfl⟩
  have HE := Lib.hid (show EaD w gA gB w2.heap.size (.slice none 0 0) (.slice ao nA ca) (.slice bo nB cb) [] w2 from ⟨H1.out.1.below hB2, hT2, OwnOf.nil _ _, below2 H1.out.2.2 hB2, Nat.le_refl _⟩)
  rw [hbs] at HE HO
  clear hT2 hg2 hB2 hbs H1
  go_wp2_with fail

  go_loopw [9] (fun u wr => ∃ (A' B' : List Dl) (vA vB : Value) (O : List Dl), EaD w gA gB bs u vA vB O wr ∧ Dls w vA A' ∧ Dls w vB B' ∧ O ++ thenL A' B' = thenL A B ∧ O.length + A'.length + B'.length ≤ 4000 ∧ (KindD A') ∧ (KindD B')) (fun _ wr => leftD wr gA + leftD wr gB)
  case atStart => exact ⟨A, B, _, _, [], HE.out, HA.out, HB.out, rfl, by have := HL.out; simpa using this, HK.out, HKB.out⟩
  case round =>
    obtain ⟨A', B', vA, vB, O, he, ha, hb, hO, hln, hc, hcb⟩ := hrel
    have hlA := leftD_is he.1 ha
    have hlB := leftD_is he.2.1 hb
    obtain ⟨au, cu, rfl⟩ := he.2.2.1.form
    have hsz := Nat.le_trans (show w.heap.size ≤ bs by have := HO.out; unfold OrD at this; omega) he.2.2.2.2
    have hq6 : O.length < 1000000 := by omega
    have HRel := Lib.hid (And.intro he (And.intro ha (And.intro hb (And.intro hO (And.intro hln (And.intro hlA (And.intro hlB hc)))))))
    have HKB' := Lib.hid hcb
    cases A' with
    | nil =>
      cases B' with
      | nil =>
        clear he ha hb hO hln hlA hlB hc hcb
        go_wp2_with fail
        refine (dHere_none HRel.out.1.1 (HRel.out.2.1.below HRel.out.1.2.2.2.1)).mono ?_
        rintro e _ ⟨rfl, rfl⟩
        go_wp2_with fail
        refine (dHere_none HRel.out.1.2.1 (HRel.out.2.2.1.below HRel.out.1.2.2.2.1)).mono ?_
        rintro e _ ⟨rfl, rfl⟩
        go_wp2_with fail
        go_ret
        exact ⟨_, rfl, (by have h := HRel.out.2.2.2.1; have hh : thenL [] [] = [] := merge_nil; rw [hh, List.append_nil] at h; rw [← h]; exact HRel.out.1.2.2.1.weak (show w.heap.size ≤ bs by have := HO.out; unfold OrD at this; omega)), HRel.out.1.2.2.2.1⟩
      | cons y B'' =>
        clear he ha hb hO hln hlA hlB hc hcb
        go_wp2_with fail
        refine (dHere_none HRel.out.1.1 (HRel.out.2.1.below HRel.out.1.2.2.2.1)).mono ?_
        rintro e _ ⟨rfl, rfl⟩
        go_wp2_with fail
        refine (dHere_some HRel.out.1.2.1 (HRel.out.2.2.1.below HRel.out.1.2.2.2.1) (by have := HRel.out.2.2.2.2.1; simp only [List.length_cons] at this; omega)).mono ?_
        rintro e w20 ⟨rfl, hB⟩
        have S1 := Lib.hid (HRel.out.1.below hB)
        clear hB
        go_wp2_with fail
        refine (dTake_none S1.out.1 HRel.out.2.1 S1.out.2.2.2.1 _).mono ?_
        rintro e _ ⟨rfl, rfl⟩
        go_wp2_with fail
        refine (dTake_yes S1.out.2.1 HRel.out.2.2.1 (by have := HRel.out.2.2.2.2.1; simp only [List.length_cons] at this; omega) S1.out.2.2.2.1).mono ?_
        rintro e w21 ⟨r1, r2, rfl, hr1, hr2, hT, hK⟩
        obtain ⟨_, _, rfl⟩ := hr1.form
        have Hr := Lib.hid (And.intro hr1 hr2)
        have S2 := Lib.hid (S1.out.takeB HO.out hT hK)
        clear hT hK hr1 hr2
        go_wp2_with fail
        refine (dKind_b _ _ _ y (show Dls _ (.slice none 0 0) [] from RowOf.nil _) (Hr.out.1.below S2.out.2.2.2.1) (HKB'.out _ (by simp)) (HKI.out.below S2.out.2.2.2.1)).mono ?_
        rintro e _ ⟨rfl, rfl⟩
        have hz1 : (y.2 == 0) = false := by rw [beq_eq_false_iff_ne]; have := HKB'.out _ (List.mem_cons_self (a := y)); omega
        have hszW := S2.out.2.2.2.2
        have hownW := S2.out.2.2.1
        go_wp2_with (at_builtin; refine app_del rfl _ _ rfl bs _ O rfl hownW y.1 (y.2) rfl hq6 hszW ?_; intro a8 c8 w8 ho8 hb8)
        have H8 := Lib.hid (S2.out.put ho8 (hb8 _ (Below.refl _ _)) HO.out)
        clear hszW hownW ho8 hb8
        go_roundw
        case rel => exact ⟨[], B'', vA, r2, O ++ [(y.1, y.2)], H8.out, HRel.out.2.1, Hr.out.2, (by rw [← HRel.out.2.2.2.1, show (thenL [] (y :: B'')) = _ from merge_r _ _]; simp [thenL]), (by have := HRel.out.2.2.2.2.1; rw [List.length_append, show ([(_, _)] : List Dl).length = 1 from rfl]; simp only [List.length_cons] at this ⊢; omega), HRel.out.2.2.2.2.2.2.2, (fun z hz => HKB'.out z (List.mem_cons_of_mem _ hz))⟩
        case measure => exact (by rw [leftD_is H8.out.1 HRel.out.2.1, leftD_is H8.out.2.1 Hr.out.2, HRel.out.2.2.2.2.2.1, HRel.out.2.2.2.2.2.2.1]; simp only [List.length_cons]; omega)
    | cons x A'' =>
      cases B' with
      | nil =>
        clear he ha hb hO hln hlA hlB hc hcb
        go_wp2_with fail
        refine (dHere_some HRel.out.1.1 (HRel.out.2.1.below HRel.out.1.2.2.2.1) (by have := HRel.out.2.2.2.2.1; simp only [List.length_cons] at this; omega)).mono ?_
        rintro e w20 ⟨rfl, hB⟩
        have S1 := Lib.hid (HRel.out.1.below hB)
        clear hB
        go_wp2_with fail
        refine (dHere_none S1.out.2.1 (HRel.out.2.2.1.below S1.out.2.2.2.1)).mono ?_
        rintro e _ ⟨rfl, rfl⟩
        go_wp2_with fail
        refine (dTake_yes S1.out.1 HRel.out.2.1 (by have := HRel.out.2.2.2.2.1; simp only [List.length_cons] at this; omega) S1.out.2.2.2.1).mono ?_
        rintro e w21 ⟨p1, p2, rfl, hp1, hp2, hT, hK⟩
        obtain ⟨_, _, rfl⟩ := hp1.form
        have Hp := Lib.hid (And.intro hp1 hp2)
        have S2 := Lib.hid (S1.out.takeA HO.out hT hK)
        clear hT hK hp1 hp2
        go_wp2_with fail
        refine (dTake_none S2.out.2.1 HRel.out.2.2.1 S2.out.2.2.2.1 _).mono ?_
        rintro e _ ⟨rfl, rfl⟩
        go_wp2_with fail
        refine (dKind_a _ _ _ x (Hp.out.1.below S2.out.2.2.2.1) (show Dls _ (.slice none 0 0) [] from RowOf.nil _) (HRel.out.2.2.2.2.2.2.2 _ (by simp)) (HKI.out.below S2.out.2.2.2.1)).mono ?_
        rintro e _ ⟨rfl, rfl⟩
        have hz1 : (x.2 == 0) = false := by rw [beq_eq_false_iff_ne]; have := HRel.out.2.2.2.2.2.2.2 _ (List.mem_cons_self (a := x)); omega
        have hszW := S2.out.2.2.2.2
        have hownW := S2.out.2.2.1
        go_wp2_with (at_builtin; refine app_del rfl _ _ rfl bs _ O rfl hownW x.1 (x.2) rfl hq6 hszW ?_; intro a8 c8 w8 ho8 hb8)
        have H8 := Lib.hid (S2.out.put ho8 (hb8 _ (Below.refl _ _)) HO.out)
        clear hszW hownW ho8 hb8
        go_roundw
        case rel => exact ⟨A'', [], p2, vB, O ++ [(x.1, x.2)], H8.out, Hp.out.2, HRel.out.2.2.1, (by rw [← HRel.out.2.2.2.1, show (thenL (x :: A'') []) = _ from merge_l _ _]; simp [thenL]), (by have := HRel.out.2.2.2.2.1; rw [List.length_append, show ([(_, _)] : List Dl).length = 1 from rfl]; simp only [List.length_cons] at this ⊢; omega), (fun z hz => HRel.out.2.2.2.2.2.2.2 z (List.mem_cons_of_mem _ hz)), HKB'.out⟩
        case measure => exact (by rw [leftD_is H8.out.1 Hp.out.2, leftD_is H8.out.2.1 HRel.out.2.2.1, HRel.out.2.2.2.2.2.1, HRel.out.2.2.2.2.2.2.1]; simp only [List.length_cons]; omega)
      | cons y B'' =>
        clear he ha hb hO hln hlA hlB hc hcb
        by_cases hlt : Op.bytesLess x.1 y.1 = true
        · have hgt : Op.bytesLess y.1 x.1 = false := less_asymm hlt
          have HLT := Lib.hid hlt
          have HNE := Lib.hid (show y.1 ≠ x.1 from fun e => by rw [e, less_irrefl] at hlt; cases hlt)
          clear hlt
          go_wp2_with fail
          refine (dHere_some HRel.out.1.1 (HRel.out.2.1.below HRel.out.1.2.2.2.1) (by have := HRel.out.2.2.2.2.1; simp only [List.length_cons] at this; omega)).mono ?_
          rintro e w20 ⟨rfl, hB⟩
          have S1 := Lib.hid (HRel.out.1.below hB)
          clear hB
          go_wp2_with fail
          refine (dHere_some S1.out.2.1 (HRel.out.2.2.1.below S1.out.2.2.2.1) (by have := HRel.out.2.2.2.2.1; simp only [List.length_cons] at this; omega)).mono ?_
          rintro e w21 ⟨rfl, hB⟩
          have S2 := Lib.hid (S1.out.below hB)
          clear hB
          go_wp2_with fail
          refine (dTake_yes S2.out.1 HRel.out.2.1 (by have := HRel.out.2.2.2.2.1; simp only [List.length_cons] at this; omega) S2.out.2.2.2.1).mono ?_
          rintro e w22 ⟨p1, p2, rfl, hp1, hp2, hT, hK⟩
          obtain ⟨_, _, rfl⟩ := hp1.form
          have Hp := Lib.hid (And.intro hp1 hp2)
          have S3 := Lib.hid (S2.out.takeA HO.out hT hK)
          clear hT hK hp1 hp2
          go_wp2_with fail
          refine (dTake_no S3.out.2.1 HRel.out.2.2.1 (by have := HRel.out.2.2.2.2.1; simp only [List.length_cons] at this; omega) S3.out.2.2.2.1 _ HNE.out).mono ?_
          rintro e w23 ⟨rfl, hB⟩
          have S4 := Lib.hid (S3.out.below hB)
          clear hB
          go_wp2_with fail
          refine (dKind_a _ _ _ x (Hp.out.1.below S4.out.2.2.2.1) (show Dls _ (.slice none 0 0) [] from RowOf.nil _) (HRel.out.2.2.2.2.2.2.2 _ (by simp)) (HKI.out.below S4.out.2.2.2.1)).mono ?_
          rintro e _ ⟨rfl, rfl⟩
          have hz1 : (x.2 == 0) = false := by rw [beq_eq_false_iff_ne]; have := HRel.out.2.2.2.2.2.2.2 _ (List.mem_cons_self (a := x)); omega
          have hszW := S4.out.2.2.2.2
          have hownW := S4.out.2.2.1
          go_wp2_with (at_builtin; refine app_del rfl _ _ rfl bs _ O rfl hownW x.1 (x.2) rfl hq6 hszW ?_; intro a8 c8 w8 ho8 hb8)
          have H8 := Lib.hid (S4.out.put ho8 (hb8 _ (Below.refl _ _)) HO.out)
          clear hszW hownW ho8 hb8
          go_roundw
          case rel => exact ⟨A'', (y :: B''), p2, vB, O ++ [(x.1, x.2)], H8.out, Hp.out.2, HRel.out.2.2.1, (by rw [← HRel.out.2.2.2.1, show (thenL (x :: A'') (y :: B'')) = _ from merge_lt HLT.out]; simp [thenL]), (by have := HRel.out.2.2.2.2.1; rw [List.length_append, show ([(_, _)] : List Dl).length = 1 from rfl]; simp only [List.length_cons] at this ⊢; omega), (fun z hz => HRel.out.2.2.2.2.2.2.2 z (List.mem_cons_of_mem _ hz)), HKB'.out⟩
          case measure => exact (by rw [leftD_is H8.out.1 Hp.out.2, leftD_is H8.out.2.1 HRel.out.2.2.1, HRel.out.2.2.2.2.2.1, HRel.out.2.2.2.2.2.2.1]; simp only [List.length_cons]; omega)
        · by_cases hgt : Op.bytesLess y.1 x.1 = true
          · have HLT := Lib.hid hgt
            have HNE := Lib.hid (show x.1 ≠ y.1 from fun e => by rw [e, less_irrefl] at hgt; cases hgt)
            clear hlt
            go_wp2_with fail
            refine (dHere_some HRel.out.1.1 (HRel.out.2.1.below HRel.out.1.2.2.2.1) (by have := HRel.out.2.2.2.2.1; simp only [List.length_cons] at this; omega)).mono ?_
            rintro e w20 ⟨rfl, hB⟩
            have S1 := Lib.hid (HRel.out.1.below hB)
            clear hB
            go_wp2_with fail
            refine (dHere_some S1.out.2.1 (HRel.out.2.2.1.below S1.out.2.2.2.1) (by have := HRel.out.2.2.2.2.1; simp only [List.length_cons] at this; omega)).mono ?_
            rintro e w21 ⟨rfl, hB⟩
            have S2 := Lib.hid (S1.out.below hB)
            clear hB
            go_wp2_with fail
            refine (dTake_no S2.out.1 HRel.out.2.1 (by have := HRel.out.2.2.2.2.1; simp only [List.length_cons] at this; omega) S2.out.2.2.2.1 _ HNE.out).mono ?_
            rintro e w22 ⟨rfl, hB⟩
            have S3 := Lib.hid (S2.out.below hB)
            clear hB
            go_wp2_with fail
            refine (dTake_yes S3.out.2.1 HRel.out.2.2.1 (by have := HRel.out.2.2.2.2.1; simp only [List.length_cons] at this; omega) S3.out.2.2.2.1).mono ?_
            rintro e w23 ⟨r1, r2, rfl, hr1, hr2, hT, hK⟩
            obtain ⟨_, _, rfl⟩ := hr1.form
            have Hr := Lib.hid (And.intro hr1 hr2)
            have S4 := Lib.hid (S3.out.takeB HO.out hT hK)
            clear hT hK hr1 hr2
            go_wp2_with fail
            refine (dKind_b _ _ _ y (show Dls _ (.slice none 0 0) [] from RowOf.nil _) (Hr.out.1.below S4.out.2.2.2.1) (HKB'.out _ (by simp)) (HKI.out.below S4.out.2.2.2.1)).mono ?_
            rintro e _ ⟨rfl, rfl⟩
            have hz1 : (y.2 == 0) = false := by rw [beq_eq_false_iff_ne]; have := HKB'.out _ (List.mem_cons_self (a := y)); omega
            have hszW := S4.out.2.2.2.2
            have hownW := S4.out.2.2.1
            go_wp2_with (at_builtin; refine app_del rfl _ _ rfl bs _ O rfl hownW y.1 (y.2) rfl hq6 hszW ?_; intro a8 c8 w8 ho8 hb8)
            have H8 := Lib.hid (S4.out.put ho8 (hb8 _ (Below.refl _ _)) HO.out)
            clear hszW hownW ho8 hb8
            go_roundw
            case rel => exact ⟨(x :: A''), B'', vA, r2, O ++ [(y.1, y.2)], H8.out, HRel.out.2.1, Hr.out.2, (by rw [← HRel.out.2.2.2.1, show (thenL (x :: A'') (y :: B'')) = _ from merge_gt HLT.out]; simp [thenL]), (by have := HRel.out.2.2.2.2.1; rw [List.length_append, show ([(_, _)] : List Dl).length = 1 from rfl]; simp only [List.length_cons] at this ⊢; omega), HRel.out.2.2.2.2.2.2.2, (fun z hz => HKB'.out z (List.mem_cons_of_mem _ hz))⟩
            case measure => exact (by rw [leftD_is H8.out.1 HRel.out.2.1, leftD_is H8.out.2.1 Hr.out.2, HRel.out.2.2.2.2.2.1, HRel.out.2.2.2.2.2.2.1]; simp only [List.length_cons]; omega)
          · have hgt : Op.bytesLess y.1 x.1 = false := by simpa using hgt
            have HEQ2 := Lib.hid (same_key (key := fun z : Dl => z.1) hlt (by rw [hgt]; simp) : x.1 = y.1)
            have HEQ := HEQ2
            clear hlt
            go_wp2_with fail
            refine (dHere_some HRel.out.1.1 (HRel.out.2.1.below HRel.out.1.2.2.2.1) (by have := HRel.out.2.2.2.2.1; simp only [List.length_cons] at this; omega)).mono ?_
            rintro e w20 ⟨rfl, hB⟩
            have S1 := Lib.hid (HRel.out.1.below hB)
            clear hB
            go_wp2_with fail
            refine (dHere_some S1.out.2.1 (HRel.out.2.2.1.below S1.out.2.2.2.1) (by have := HRel.out.2.2.2.2.1; simp only [List.length_cons] at this; omega)).mono ?_
            rintro e w21 ⟨rfl, hB⟩
            have S2 := Lib.hid (S1.out.below hB)
            clear hB
            go_wp2_with fail
            refine (dTake_yes S2.out.1 HRel.out.2.1 (by have := HRel.out.2.2.2.2.1; simp only [List.length_cons] at this; omega) S2.out.2.2.2.1).mono ?_
            rintro e w22 ⟨p1, p2, rfl, hp1, hp2, hT, hK⟩
            obtain ⟨_, _, rfl⟩ := hp1.form
            have Hp := Lib.hid (And.intro hp1 hp2)
            have S3 := Lib.hid (S2.out.takeA HO.out hT hK)
            clear hT hK hp1 hp2
            go_wp2_with fail
            rw [HEQ.out]
            refine (dTake_yes S3.out.2.1 HRel.out.2.2.1 (by have := HRel.out.2.2.2.2.1; simp only [List.length_cons] at this; omega) S3.out.2.2.2.1).mono ?_
            rintro e w23 ⟨r1, r2, rfl, hr1, hr2, hT, hK⟩
            obtain ⟨_, _, rfl⟩ := hr1.form
            have Hr := Lib.hid (And.intro hr1 hr2)
            have S4 := Lib.hid (S3.out.takeB HO.out hT hK)
            clear hT hK hr1 hr2
            go_wp2_with fail
            refine (dKind_both _ _ _ x y (Hp.out.1.below S4.out.2.2.2.1) (Hr.out.1.below S4.out.2.2.2.1) (HRel.out.2.2.2.2.2.2.2 _ (by simp)) (HKB'.out _ (by simp)) (HKI.out.below S4.out.2.2.2.1)).mono ?_
            rintro e _ ⟨rfl, rfl⟩
            obtain ⟨kz, hkz⟩ : ∃ k, (bothN x.2 y.2) = k := ⟨_, rfl⟩
            rw [hkz]
            have HKZ := Lib.hid hkz
            clear hkz
            by_cases hz : kz = 0
            · subst hz
              go_wp2_with fail
              go_roundw
              case rel => exact ⟨A'', B'', p2, r2, O, S4.out, Hp.out.2, Hr.out.2, (by rw [← HRel.out.2.2.2.1, show (thenL (x :: A'') (y :: B'')) = _ from merge_eq HEQ2.out]; rw [show oneD _ ((bothN x.2 y.2)) = [] from if_pos HKZ.out, List.nil_append]; all_goals rfl), (by have := HRel.out.2.2.2.2.1; simp only [List.length_cons] at this ⊢; omega), (fun z hz => HRel.out.2.2.2.2.2.2.2 z (List.mem_cons_of_mem _ hz)), (fun z hz => HKB'.out z (List.mem_cons_of_mem _ hz))⟩
              case measure => exact (by rw [leftD_is S4.out.1 Hp.out.2, leftD_is S4.out.2.1 Hr.out.2, HRel.out.2.2.2.2.2.1, HRel.out.2.2.2.2.2.2.1]; simp only [List.length_cons]; omega)
            · have hz1 : (kz == 0) = false := by rw [beq_eq_false_iff_ne]; exact hz
              have HZ := Lib.hid hz
              clear hz
              have hszW := S4.out.2.2.2.2
              have hownW := S4.out.2.2.1
              go_wp2_with (at_builtin; refine app_del rfl _ _ rfl bs _ O rfl hownW y.1 (kz) rfl hq6 hszW ?_; intro a8 c8 w8 ho8 hb8)
              have H8 := Lib.hid (S4.out.put ho8 (hb8 _ (Below.refl _ _)) HO.out)
              clear hszW hownW ho8 hb8
              go_roundw
              case rel => exact ⟨A'', B'', p2, r2, O ++ [(y.1, kz)], H8.out, Hp.out.2, Hr.out.2, (by rw [← HRel.out.2.2.2.1, show (thenL (x :: A'') (y :: B'')) = _ from merge_eq HEQ2.out]; rw [HEQ2.out, show oneD _ ((bothN x.2 y.2)) = [(_, kz)] from (if_neg (HKZ.out ▸ HZ.out)).trans (by rw [HKZ.out])]; simp [thenL]), (by have := HRel.out.2.2.2.2.1; rw [List.length_append, show ([(_, _)] : List Dl).length = 1 from rfl]; simp only [List.length_cons] at this ⊢; omega), (fun z hz => HRel.out.2.2.2.2.2.2.2 z (List.mem_cons_of_mem _ hz)), (fun z hz => HKB'.out z (List.mem_cons_of_mem _ hz))⟩
              case measure => exact (by rw [leftD_is H8.out.1 Hp.out.2, leftD_is H8.out.2.1 Hr.out.2, HRel.out.2.2.2.2.2.1, HRel.out.2.2.2.2.2.2.1]; simp only [List.length_cons]; omega)

end Go.Proofs.YtogicnciheedoaaGreatDoor

/-
  diff.Entries and diff.Then.
-/
namespace Go.Proofs.YtogicnciheedoaaGreatDoor
set_option maxRecDepth 100000
open Go.RowKit

set_option maxHeartbeats 2000000 in
theorem entries_calls (va vb : Value) (A B : List Ev) (w : World) (ha : Ents w va A) (hb : Ents w vb B) (hla : A.length ≤ 2000) (hlb : B.length ≤ 2000) (hc : ∀ x ∈ A, x.1.2.2.2.2.length ≤ 1000000) :
    Calls Tryz.prog 24 #[va, vb] w fun e w' => ∃ u, e = .returned u ∧ OwnDl w' w.heap.size u (diffE (ens A) (ens B)) ∧ Below w.heap.size w w' := by
  have K := Lib.hid (eEach_calls va vb A B w ha hb hla hlb hc)
  obtain ⟨ao, ca, rfl⟩ := ha.form
  obtain ⟨bo, cb, rfl⟩ := hb.form
  clear ha hb hla hlb hc
  go_enter Tryz.func24, Tryz.ntmps24
  go_wp2_with fail
  refine K.out.mono ?_
  rintro e w1 ⟨u, rfl, ho, hB⟩
  obtain ⟨_, _, rfl⟩ := ho.form
  go_wp2_with fail
  go_ret
  exact ⟨_, rfl, ho, hB⟩
set_option maxHeartbeats 2000000 in
theorem then_calls (va vb : Value) (A B : List Dl) (w : World) (ha : Dls w va A) (hb : Dls w vb B) (hla : A.length ≤ 2000) (hlb : B.length ≤ 2000) (hc : KindD A) (hcb : KindD B) (hki : KiOk w) :
    Calls Tryz.prog 18 #[va, vb] w fun e w' => ∃ u, e = .returned u ∧ OwnDl w' w.heap.size u (thenL A B) ∧ Below w.heap.size w w' := by
  have K := Lib.hid (dEach_calls va vb A B w ha hb hla hlb hc hcb hki)
  obtain ⟨ao, ca, rfl⟩ := ha.form
  obtain ⟨bo, cb, rfl⟩ := hb.form
  clear ha hb hla hlb hc hcb hki
  go_enter Tryz.func18, Tryz.ntmps18
  go_wp2_with fail
  refine K.out.mono ?_
  rintro e w1 ⟨u, rfl, ho, hB⟩
  obtain ⟨_, _, rfl⟩ := ho.form
  go_wp2_with fail
  go_ret
  exact ⟨_, rfl, ho, hB⟩

end Go.Proofs.YtogicnciheedoaaGreatDoor

/-
  diff.Back.
-/
namespace Go.Proofs.YtogicnciheedoaaGreatDoor
set_option maxRecDepth 100000
open Go.RowKit

theorem turned_at {n : Nat} (h : 1 ≤ n ∧ n ≤ 3) : turnedL.getD n 0 = backN (n : Int) := by
  rcases (show n = 1 ∨ n = 2 ∨ n = 3 by omega) with rfl | rfl | rfl <;> decide

set_option maxHeartbeats 8000000 in
theorem back_calls (v : Value) (l : List Dl) (w : World) (h : Dls w v l) (hl : l.length ≤ 100000) (hk : KindD l) (hki : KiOk w) :
    Calls Tryz.prog 16 #[v] w fun e w' => ∃ u, e = .returned u ∧ OwnDl w' w.heap.size u (backL l) ∧ Below w.heap.size w w' := by
  obtain ⟨ao, cap, rfl⟩ := h.form
  have HH := Lib.hid (And.intro h (And.intro hl (And.intro hk hki)))
  clear h hl hk hki
  go_enter Tryz.func16, Tryz.ntmps16
  go_wp2_with fail
  go_loopw [3, 8] (fun u i wr => ∃ k : Nat, i = .int .i64 k ∧ k ≤ l.length ∧ OwnDl wr w.heap.size u (backL (l.take k)) ∧ Below w.heap.size w wr) (fun _ i _ => l.length - (intOf i).toNat)
  case atStart => exact ⟨0, rfl, Nat.zero_le _, OwnOf.nil _ _, Below.refl _ _⟩
  case round =>
    obtain ⟨k, rfl, hk, hown, hB⟩ := hrel
    have hl := HH.out.2.1
    by_cases hlt : k < l.length
    · have hd : decide ((k : Int) < (l.length : Int)) = true := by rw [decide_eq_true_eq]; omega
      have hsn := back_snoc hlt
      have hkd := HH.out.2.2.1 _ (List.getElem_mem hlt)
      have hq6 : (backL (l.take k)).length < 1000000 := by unfold backL; rw [List.length_map, List.length_take]; omega
      have hki := HH.out.2.2.2.below hB
      obtain ⟨b, off, rfl, x0, x1⟩ := dls_at (HH.out.1.below hB) hlt
      obtain ⟨p, hp⟩ : ∃ p, l[k].1 = p := ⟨_, rfl⟩
      obtain ⟨n, hn⟩ : ∃ n, l[k].2 = n := ⟨_, rfl⟩
      rw [hp] at x0 hsn
      rw [hn] at x1 hsn hkd
      obtain ⟨m, rfl⟩ : ∃ m : Nat, n = m := ⟨n.toNat, by omega⟩
      have hc := hki.1 m (by omega)
      rw [turned_at (by omega)] at hc
      obtain ⟨z, hz⟩ : ∃ z, backN (m : Int) = z := ⟨_, rfl⟩
      rw [hz] at hc hsn
      have HSN := Lib.hid hsn
      have hm4 : (m : Int) < 4 := by omega
      have hm0 : (0 : Int) ≤ (m : Int) := by omega
      have hB1 := below_alloc wr (.cells #[.string ⟨p.toArray⟩, .int .i64 (m : Int)] 44)
      have hc1 := look_below hB1 hc
      have KK := Lib.hid (fun W => known_calls (m : Int) W (by omega))
      obtain ⟨aw, cw, rfl⟩ := hown.form
      have HO := Lib.hid (And.intro hown hB)
      clear hsn hkd hki hp hn hz hown
      go_wp2_with fail
      refine (KK.out _).mono ?_
      rintro e w1 ⟨rfl, rfl⟩
      have hown2 := HO.out.1.stays (below_alloc wr (.cells #[.string ⟨p.toArray⟩, .int .i64 z] 44))
      have hsz2 := (HO.out.2.alloc HO.out.2.size (.cells #[.string ⟨p.toArray⟩, .int .i64 z] 44)).size
      go_wp2_with (at_builtin; refine app_delK rfl _ _ rfl w.heap.size _ (backL (l.take k)) rfl hown2 p z _ (World.size_alloc _ _) rfl hq6 hsz2 ?_; intro a8 c8 w8 ho8 hb8)
      go_roundw
      case rel => exact ⟨k + 1, by go_num, by omega, by rw [HSN.out]; exact ho8, hb8 _ (HO.out.2.alloc HO.out.2.size _)⟩
      case measure => simp [intOf]; omega
    · obtain rfl : k = l.length := by omega
      have hd : decide ((l.length : Int) < (l.length : Int)) = false := by simp
      rw [List.take_length] at hown
      go_wp2_with fail
      go_ret
      exact ⟨_, rfl, hown, hB⟩

end Go.Proofs.YtogicnciheedoaaGreatDoor

/-
  The document's own Same and Own of deltas.
-/
namespace Go.Proofs.YtogicnciheedoaaGreatDoor
set_option maxRecDepth 100000
open Go.RowKit

theorem dsame_next {a b : List Dl} {k : Nat} (h : a.take k = b.take k) (ha : k < a.length) (hb : k < b.length) (he : a[k] = b[k]) : a.take (k + 1) = b.take (k + 1) := by
  rw [List.take_succ_eq_append_getElem ha, List.take_succ_eq_append_getElem hb, h, he]
theorem dsame_not {a b : List Dl} {k : Nat} (ha : k < a.length) (hb : k < b.length) (he : a[k] ≠ b[k]) : decide (a = b) = false := by
  rw [decide_eq_false_iff_not]
  intro e
  subst e
  exact he rfl
theorem dl_cases (x y : Dl) : (x = y ∧ (x.1 == y.1) = true ∧ (x.2 == y.2) = true) ∨ (x ≠ y ∧ (x.1 == y.1) = false) ∨ (x ≠ y ∧ (x.1 == y.1) = true ∧ (x.2 == y.2) = false) := by
  obtain ⟨p, n⟩ := x
  obtain ⟨q, m⟩ := y
  by_cases h1 : p = q
  · by_cases h2 : n = m
    · exact .inl ⟨by rw [h1, h2], by simp [h1], by simp [h2]⟩
    · exact .inr (.inr ⟨fun e => h2 (congrArg Prod.snd e), by simp [h1], by simpa using h2⟩)
  · exact .inr (.inl ⟨fun e => h1 (congrArg Prod.fst e), by simpa using h1⟩)

set_option maxHeartbeats 4000000 in
theorem refDsame_calls (va vb : Value) (a b : List Dl) (w : World) (ha : Dls w va a) (hb : Dls w vb b) (hla : a.length ≤ 1000000) :
    Calls Tryz.prog 13 #[va, vb] w fun e w' => e = .returned (.bool (decide (a = b))) ∧ Below w.heap.size w w' := by
  obtain ⟨aa, ca, rfl⟩ := ha.form
  obtain ⟨ab, cb, rfl⟩ := hb.form
  have HA := Lib.hid ha
  have HB := Lib.hid hb
  clear ha hb
  by_cases hl : a.length = b.length
  · have hne : ((a.length : Int) != (b.length : Int)) = false := by rw [bne_eq_false_iff_eq]; omega
    have HL := Lib.hid hl
    go_enter Tryz.func13, Tryz.ntmps13
    clear hl
    go_wp2_with fail
    go_loopw [5] (fun i wr => ∃ k : Nat, k ≤ a.length ∧ i = .int .i64 k ∧ Hid (a.take k = b.take k) ∧ Hid (Below w.heap.size w wr)) (fun i _ => a.length - (intOf i).toNat)
    case atStart => exact ⟨0, Nat.zero_le _, rfl, Lib.hid (by simp), Lib.hid (Below.refl _ _)⟩
    case round =>
      obtain ⟨k, hk, rfl, hf, hB⟩ := hrel
      by_cases hlt : k < a.length
      · have hlt2 : k < b.length := by have := HL.out; omega
        have hd : decide ((k : Int) < (a.length : Int)) = true := by rw [decide_eq_true_eq]; omega
        obtain ⟨ba, oa, rfl, x0, x1⟩ := dls_at (HA.out.below (hB.out.drew)) hlt
        obtain ⟨bb, ob, rfl, y0, y1⟩ := dls_at (HB.out.below (hB.out.drew)) hlt2
        have hn := fun h => dsame_next hf.out hlt hlt2 h
        have hx := fun h => dsame_not hlt hlt2 h
        generalize a[k] = x at *
        generalize b[k] = y at *
        rcases dl_cases x y with ⟨e, e1, e2⟩ | ⟨e, e1⟩ | ⟨e, e1, e2⟩
        · have HN := Lib.hid (hn e)
          clear hn hx e
          go_wp2_with fail
          go_region
          all_goals
            go_wp2_with fail
            go_roundw
            case rel => exact ⟨k + 1, by omega, by go_num, HN, Lib.hid (hB.out.drew)⟩
            case measure => simp [intOf]; omega
        · have HX := Lib.hid (hx e)
          clear hn hx e
          go_wp2_with fail
          go_region
          all_goals
            go_wp2_with fail
            go_ret
            exact ⟨by rw [HX.out]; rfl, hB.out.drew⟩
        · have HX := Lib.hid (hx e)
          clear hn hx e
          go_wp2_with fail
          go_region
          all_goals
            go_wp2_with fail
            go_ret
            exact ⟨by rw [HX.out]; rfl, hB.out.drew⟩
      · obtain rfl : k = a.length := by omega
        have hd : decide ((a.length : Int) < (a.length : Int)) = false := by simp
        have HS := Lib.hid (show decide (a = b) = true by
          have h := hf.out
          rw [List.take_length, HL.out, List.take_length] at h
          rw [decide_eq_true_eq]
          exact h)
        go_wp2_with fail
        go_ret
        exact ⟨by rw [HS.out]; rfl, hB.out⟩
  · have hne : ((a.length : Int) != (b.length : Int)) = true := by rw [bne_iff_ne]; omega
    have HX := Lib.hid (show decide (a = b) = false by rw [decide_eq_false_iff_not]; intro e; exact hl (by rw [e]))
    clear hl
    go_enter Tryz.func13, Tryz.ntmps13
    go_wp2_with fail
    go_ret
    exact ⟨by rw [HX.out]; rfl, Below.refl _ _⟩
theorem refDsame_self (va vb : Value) (l : List Dl) (w : World) (ha : Dls w va l) (hb : Dls w vb l) (hla : l.length ≤ 1000000) :
    Calls Tryz.prog 13 #[va, vb] w fun e w' => e = .returned (.bool true) ∧ Below w.heap.size w w' :=
  (refDsame_calls va vb l l w ha hb hla).mono fun e w' h => ⟨h.1.trans (by rw [decide_eq_true rfl]), h.2⟩

end Go.Proofs.YtogicnciheedoaaGreatDoor

/-
  The law file's diffs: the document's rows.
-/
namespace Go.Proofs.YtogicnciheedoaaGreatDoor
set_option maxRecDepth 100000
open Go.RowKit

def doA : List Ev := [(([97], 0, 1, 0, []), .slice none 0 0), (([98], 0, 0, 0, []), .slice none 0 0)]
def doB : List Ev := [(([97], 0, 2, 0, []), .slice none 0 0), (([99], 0, 0, 0, []), .slice none 0 0)]
def doW : List Dl := [([97], 2), ([98], 3), ([99], 1)]
def doV : List Dl := [([97], 2), ([98], 1), ([99], 3)]
theorem do_diff : diffE (ens doA) (ens doB) = doW := by
  show mergeD (fun x : En => x.1) (fun _ => 3) (fun _ => 1) chgE [([97], 0, 1, 0, []), ([98], 0, 0, 0, [])] [([97], 0, 2, 0, []), ([99], 0, 0, 0, [])] = _
  rw [mergeD, if_neg (by decide), if_neg (by decide), mergeD, if_pos (by decide), merge_r, merge_nil]
  rfl
theorem do_back : backL doW = doV := by decide
theorem do_then : thenL [([97], 1)] [([97], 3)] = [] := by
  show mergeD (fun x : Dl => x.1) (fun x => x.2) (fun y => y.2) (fun x y => bothN x.2 y.2) [([97], 1)] [([97], 3)] = _
  rw [mergeD, if_neg (by decide), if_neg (by decide), merge_nil]
  rfl
theorem do_kinds : KindD doW := by
  intro x hx
  simp [doW] at hx
  rcases hx with rfl | rfl | rfl <;> decide
theorem do_rowA (w : World) : Ents (w.alloc (.cells #[.string ⟨#[97]⟩, .int .i64 0, .int .i64 1, .int .i64 0, .slice none 0 0, .string ⟨#[98]⟩, .int .i64 0, .int .i64 0, .int .i64 0, .slice none 0 0] 50)) (.slice (some ⟨w.heap.size, 0, none⟩) 2 2) doA :=
  ⟨rowOf_lit ecell_k w doA 50, fun x hx => by
    simp [doA] at hx
    rcases hx with rfl | rfl <;> exact Rw.nil _ 1⟩
theorem do_rowB (w : World) : Ents (w.alloc (.cells #[.string ⟨#[97]⟩, .int .i64 0, .int .i64 2, .int .i64 0, .slice none 0 0, .string ⟨#[99]⟩, .int .i64 0, .int .i64 0, .int .i64 0, .slice none 0 0] 50)) (.slice (some ⟨w.heap.size, 0, none⟩) 2 2) doB :=
  ⟨rowOf_lit ecell_k w doB 50, fun x hx => by
    simp [doB] at hx
    rcases hx with rfl | rfl <;> exact Rw.nil _ 1⟩
theorem do_rowW (w : World) : Dls (w.alloc (.cells #[.string ⟨#[97]⟩, .int .i64 2, .string ⟨#[98]⟩, .int .i64 3, .string ⟨#[99]⟩, .int .i64 1] 44)) (.slice (some ⟨w.heap.size, 0, none⟩) 3 3) doW := rowOf_lit dcell_k w doW _
theorem do_rowV (w : World) : Dls (w.alloc (.cells #[.string ⟨#[97]⟩, .int .i64 2, .string ⟨#[98]⟩, .int .i64 1, .string ⟨#[99]⟩, .int .i64 3] 44)) (.slice (some ⟨w.heap.size, 0, none⟩) 3 3) doV := rowOf_lit dcell_k w doV _
theorem do_row1 (w : World) : Dls (w.alloc (.cells #[.string ⟨#[97]⟩, .int .i64 1] 44)) (.slice (some ⟨w.heap.size, 0, none⟩) 1 1) [([97], 1)] := rowOf_lit dcell_k w [([97], 1)] _
theorem do_row3 (w : World) : Dls (w.alloc (.cells #[.string ⟨#[97]⟩, .int .i64 3] 44)) (.slice (some ⟨w.heap.size, 0, none⟩) 1 1) [([97], 3)] := rowOf_lit dcell_k w [([97], 3)] _

set_option maxHeartbeats 16000000 in
theorem diffs_calls (w : World) (hki : KiOk w) : Calls Tryz.prog 12 #[] w fun e w' => e = .returned (.bool true) ∧ Below w.heap.size w w' := by
  obtain ⟨W3, hW3⟩ : ∃ X, X = ((w.alloc (.cells #[.string ⟨#[97]⟩, .int .i64 0, .int .i64 1, .int .i64 0, .slice none 0 0, .string ⟨#[98]⟩, .int .i64 0, .int .i64 0, .int .i64 0, .slice none 0 0] 50)).alloc (.cells #[.string ⟨#[97]⟩, .int .i64 0, .int .i64 2, .int .i64 0, .slice none 0 0, .string ⟨#[99]⟩, .int .i64 0, .int .i64 0, .int .i64 0, .slice none 0 0] 50)).alloc (.cells #[.string ⟨#[97]⟩, .int .i64 2, .string ⟨#[98]⟩, .int .i64 3, .string ⟨#[99]⟩, .int .i64 1] 44) := ⟨_, rfl⟩
  have hB : Below w.heap.size w W3 := by rw [hW3]; exact below_alloc3 w _ _ _
  have hA3 : Ents W3 (.slice (some ⟨w.heap.size, 0, none⟩) 2 2) doA := by rw [hW3]; exact (do_rowA w).below (below_alloc2 _ _ _)
  have hB3 : Ents W3 (.slice (some ⟨w.heap.size + 1, 0, none⟩) 2 2) doB := by
    have h := (do_rowB (w.alloc (.cells #[.string ⟨#[97]⟩, .int .i64 0, .int .i64 1, .int .i64 0, .slice none 0 0, .string ⟨#[98]⟩, .int .i64 0, .int .i64 0, .int .i64 0, .slice none 0 0] 50))).below (below_alloc _ (.cells #[.string ⟨#[97]⟩, .int .i64 2, .string ⟨#[98]⟩, .int .i64 3, .string ⟨#[99]⟩, .int .i64 1] 44))
    rw [World.size_alloc] at h
    rw [hW3]
    exact h
  have hC3 : Dls W3 (.slice (some ⟨w.heap.size + 1 + 1, 0, none⟩) 3 3) doW := by
    have h := do_rowW ((w.alloc (.cells #[.string ⟨#[97]⟩, .int .i64 0, .int .i64 1, .int .i64 0, .slice none 0 0, .string ⟨#[98]⟩, .int .i64 0, .int .i64 0, .int .i64 0, .slice none 0 0] 50)).alloc (.cells #[.string ⟨#[97]⟩, .int .i64 0, .int .i64 2, .int .i64 0, .slice none 0 0, .string ⟨#[99]⟩, .int .i64 0, .int .i64 0, .int .i64 0, .slice none 0 0] 50))
    rw [World.size_alloc, World.size_alloc] at h
    rw [hW3]
    exact h
  have HH := Lib.hid (And.intro hA3 (And.intro hB3 (And.intro hC3 (And.intro hB hki))))
  have HW := Lib.hid hW3
  have KE := Lib.hid (entries_calls _ _ doA doB W3 hA3 hB3 (by decide) (by decide) (by decide))
  rw [do_diff] at KE
  have KS := Lib.hid (fun (va vb : Value) (l : List Dl) W (ha : Dls W va l) (hb : Dls W vb l) (hl : l.length ≤ 1000000) => refDsame_self va vb l W ha hb hl)
  clear hA3 hB3 hC3 hB hki hW3
  go_enter Tryz.func12, Tryz.ntmps12
  go_wp2_with fail
  rw [← HW.out]
  refine KE.out.mono ?_
  rintro e w4 ⟨u, rfl, ho, hB4⟩
  obtain ⟨au, cu, rfl⟩ := ho.form
  have H4 := Lib.hid (And.intro ho.row hB4)
  clear ho hB4
  go_wp2_with fail
  refine (KS.out _ _ doW _ H4.out.1 (HH.out.2.2.1.below H4.out.2) (by decide)).mono ?_
  rintro e w5 ⟨rfl, hB5⟩
  have H5 := Lib.hid (And.intro (H4.out.1.below hB5) (below2 HH.out.2.2.2.1 (below2 H4.out.2 hB5)))
  clear hB5
  go_wp2_with fail
  refine (back_calls _ doW _ H5.out.1 (by decide) do_kinds (HH.out.2.2.2.2.below H5.out.2)).mono ?_
  rw [do_back]
  rintro e w6 ⟨u, rfl, ho, hB6⟩
  obtain ⟨av, cv, rfl⟩ := ho.form
  have H6 := Lib.hid (And.intro ho.row (below2 H5.out.2 hB6))
  clear ho hB6
  go_wp2_with fail
  refine (KS.out _ _ doV _ (H6.out.1.below (below_alloc _ _)) (do_rowV _) (by decide)).mono ?_
  rintro e w7 ⟨rfl, hB7⟩
  have H7 := Lib.hid (below2 H6.out.2 (below2 (below_alloc _ _) hB7))
  clear hB7
  have h1 := (do_row1 w7).below (below_alloc _ (.cells #[.string ⟨#[97]⟩, .int .i64 3] 44))
  have h3 := do_row3 (w7.alloc (.cells #[.string ⟨#[97]⟩, .int .i64 1] 44))
  rw [World.size_alloc] at h3
  have H8 := Lib.hid (And.intro h1 (And.intro h3 (below2 H7.out (below_alloc2 w7 (.cells #[.string ⟨#[97]⟩, .int .i64 1] 44) (.cells #[.string ⟨#[97]⟩, .int .i64 3] 44)))))
  clear h1 h3
  go_wp2_with fail
  refine (then_calls _ _ _ _ _ H8.out.1 H8.out.2.1 (by decide) (by decide) (fun x hx => by rw [List.mem_singleton.1 hx]; decide) (fun x hx => by rw [List.mem_singleton.1 hx]; decide) (HH.out.2.2.2.2.below H8.out.2.2)).mono ?_
  rw [do_then]
  rintro e w9 ⟨u, rfl, ho, hB9⟩
  obtain ⟨az, cz, rfl⟩ := ho.form
  have H9 := Lib.hid (below2 H8.out.2.2 hB9)
  clear ho hB9
  go_wp2_with fail
  go_ret
  exact ⟨rfl, H9.out⟩

end Go.Proofs.YtogicnciheedoaaGreatDoor

/-
  What Of tells, in plain words.
-/
namespace Go.Proofs.YtogicnciheedoaaGreatDoor
set_option maxRecDepth 100000

/-- The error of Of, and its deltas. -/
def ofE (U : List Pr) (d : List UInt8) (m n : Int) : Int := if refX U d m = 0 then refX U d n else refX U d m
def ofX (U : List Pr) (d : List UInt8) (m n : Int) : List Dl := if ofE U d m n = 0 then diffE (listX U d m) (listX U d n) else []
theorem ofE_zero {U : List Pr} {d : List UInt8} {m n : Int} : ofE U d m n = 0 ↔ refX U d m = 0 ∧ refX U d n = 0 := by
  unfold ofE
  by_cases h : refX U d m = 0
  · rw [if_pos h]
    exact ⟨fun g => ⟨h, g⟩, fun g => g.2⟩
  · rw [if_neg h]
    exact ⟨fun g => absurd g h, fun g => absurd g.1 h⟩
theorem listX_rise {U : List Pr} (h : Rises U) (d : List UInt8) (n : Int) : RiseE (listX U d n) := by
  unfold listX
  split
  · exact list_rise h d n
  · exact List.Pairwise.nil
theorem ofX_kinds (U : List Pr) (d : List UInt8) (m n : Int) : KindD (ofX U d m n) := by
  unfold ofX
  split
  · exact diff_kinds _ _
  · intro x hx; cases hx
theorem ofX_rise {U : List Pr} (h : Rises U) (d : List UInt8) (m n : Int) : RiseD (ofX U d m n) := by
  unfold ofX
  split
  · exact (diff_rise (listX_rise h d m) (listX_rise h d n)).1
  · exact List.Pairwise.nil
theorem ofX_len {U : List Pr} {d : List UInt8} {k : Nat} (hl : ∀ n, (listX U d n).length ≤ k) (m n : Int) : (ofX U d m n).length ≤ k + k := by
  unfold ofX
  split
  · have h1 := merge_len (key := fun x : En => x.1) (fa := fun _ => 3) (fb := fun _ => 1) (f := chgE) (listX U d m) (listX U d n)
    have h2 := hl m
    have h3 := hl n
    show (mergeD _ _ _ _ _ _).length ≤ _
    omega
  · simp
/-- The way back; a time and itself. -/
theorem ofX_back {U : List Pr} (h : Rises U) (d : List UInt8) (m n : Int) (h0 : ofE U d m n = 0) : backL (ofX U d m n) = ofX U d n m ∧ ofX U d m m = [] ∧ ofE U d m m = 0 := by
  obtain ⟨h1, h2⟩ := ofE_zero.1 h0
  have h3 : ofE U d n m = 0 := ofE_zero.2 ⟨h2, h1⟩
  have h4 : ofE U d m m = 0 := ofE_zero.2 ⟨h1, h1⟩
  unfold ofX
  rw [if_pos h0, if_pos h3, if_pos h4]
  exact ⟨back_diff (listX_rise h d m) (listX_rise h d n), diff_self (listX_rise h d m), h4⟩
/-- Two ways, one behind the other. -/
theorem ofX_then {U : List Pr} (h : Rises U) (d : List UInt8) (a b c : Int) (h1 : ofE U d a b = 0) (h2 : ofE U d b c = 0) :
    (∀ x ∈ ofX U d a c, lookD (thenL (ofX U d a b) (ofX U d b c)) x.1 = x.2) ∧ (∀ x ∈ thenL (ofX U d a b) (ofX U d b c), lookD (ofX U d a c) x.1 = x.2 ∨ (lookD (ofX U d a c) x.1 = 0 ∧ x.2 = 2)) ∧ RiseD (thenL (ofX U d a b) (ofX U d b c)) ∧ KindD (thenL (ofX U d a b) (ofX U d b c)) := by
  obtain ⟨g1, g2⟩ := ofE_zero.1 h1
  obtain ⟨_, g3⟩ := ofE_zero.1 h2
  have h3 : ofE U d a c = 0 := ofE_zero.2 ⟨g1, g3⟩
  unfold ofX
  rw [if_pos h1, if_pos h2, if_pos h3]
  have ra := listX_rise h d a
  have rb := listX_rise h d b
  have rc := listX_rise h d c
  obtain ⟨k1, k2⟩ := then_diff ra rb rc
  exact ⟨k1, k2, (then_rise (diff_rise ra rb).1 (diff_rise rb rc).1 (diff_kinds _ _) (diff_kinds _ _)).1, then_kinds (diff_kinds _ _) (diff_kinds _ _)⟩
/-- What a store tells at both times. -/
theorem ofX_tells {U : List Pr} (h : Rises U) (p : List UInt8) (m n : Int) (h1 : ofE U [] m n = 0) (hp1 : refX U p m = 0) (hp2 : refX U p n = 0) :
    let k := lookD (ofX U [] m n) p
    let was := (asX U p m).isSome
    let is := (asX U p n).isSome
    (decide (k = 1) = (is && !was)) ∧ (decide (k = 3) = (was && !is)) ∧ (k = 2 → (was && is) = true) := by
  obtain ⟨g1, g2⟩ := ofE_zero.1 h1
  have hx : ofX U [] m n = diffE (listL U [] m) (listL U [] n) := by
    unfold ofX
    rw [if_pos h1]
    unfold listX
    rw [if_pos g1, if_pos g2]
  dsimp only
  rw [hx, asX_told hp1, asX_told hp2]
  exact tells_diff h p m n ((under_root p).trans (refX_zero.1 hp1).2.1)

end Go.Proofs.YtogicnciheedoaaGreatDoor

/-
  diff.Of.
-/
namespace Go.Proofs.YtogicnciheedoaaGreatDoor
set_option maxRecDepth 100000
open Go.RowKit

set_option maxHeartbeats 4000000 in
theorem of_calls {tv : Value} {U : List Pr} {w : World} (h : Sto w tv U) (d : List UInt8) (m n : Int) (hl : d.length ≤ 1000000) :
    Calls Tryz.prog 9 #[tv, .string ⟨d.toArray⟩, .int .i64 m, .int .i64 n] w fun e w' => ∃ v, e = .returned (.tuple #[v, .int .i64 (ofE U d m n)]) ∧ OwnDl w' w.heap.size v (ofX U d m n) ∧ Below w.heap.size w w' := by
  obtain ⟨tp, rfl⟩ := h.val
  obtain ⟨f1, f2⟩ := listX_facts h.rises d m
  obtain ⟨g1, _⟩ := listX_facts h.rises d n
  have hU := h.2.2.1
  have K1 := Lib.hid (listX_calls h d m hl)
  have K2 := Lib.hid (fun W (hW : Below w.heap.size w W) => listX_calls (h.below hW) d n hl)
  have HF := Lib.hid (And.intro f2 (And.intro (Nat.le_trans f1 hU) (Nat.le_trans g1 hU)))
  have hE : ofE U d m n = if refX U d m = 0 then refX U d n else refX U d m := rfl
  have hX : ofX U d m n = if ofE U d m n = 0 then diffE (listX U d m) (listX U d n) else [] := rfl
  rw [hX, hE]
  clear h f1 f2 g1 hU hE hX
  generalize refX U d m = E1 at *
  generalize refX U d n = E2 at *
  generalize listX U d m = A at *
  generalize listX U d n = B at *
  by_cases h1 : E1 = 0
  · rw [if_pos h1]
    subst h1
    by_cases h2 : E2 = 0
    · rw [if_pos h2]
      subst h2
      go_enter Tryz.func9, Tryz.ntmps9
      go_wp2_with fail
      refine K1.out.mono ?_
      rintro e w1 ⟨v1, S, rfl, ho1, hS, hB1⟩
      obtain ⟨a1, c1, rfl⟩ := ho1.form
      have H1 := Lib.hid (And.intro ho1.ents (And.intro hS hB1))
      clear ho1 hS hB1
      go_wp2_with fail
      refine (K2.out _ H1.out.2.2).mono ?_
      rintro e w2 ⟨v2, T, rfl, ho2, hT, hB2⟩
      obtain ⟨a2, c2, rfl⟩ := ho2.form
      have H2 := Lib.hid (And.intro (H1.out.1.below hB2) (And.intro ho2.ents (And.intro hT (below2 H1.out.2.2 hB2))))
      clear ho2 hT hB2
      go_wp2_with fail
      refine (entries_calls _ _ S T _ H2.out.1 H2.out.2.1 (by rw [ents_len H1.out.2.1]; have := HF.out.2.1; omega) (by rw [ents_len H2.out.2.2.1]; have := HF.out.2.2; omega) (ents_chunks H1.out.2.1 HF.out.1)).mono ?_
      rw [H1.out.2.1, H2.out.2.2.1]
      rintro e w3 ⟨v3, rfl, ho3, hB3⟩
      obtain ⟨a3, c3, rfl⟩ := ho3.form
      have H3 := Lib.hid (And.intro (ho3.weak H2.out.2.2.2.size) (below2 H2.out.2.2.2 hB3))
      clear ho3 hB3
      go_wp2_with fail
      go_ret2
      exact ⟨_, rfl, H3.out.1, H3.out.2⟩
    · rw [if_neg h2]
      have e2 : (E2 == 0) = false := by rw [beq_eq_false_iff_ne]; exact h2
      clear h2
      go_enter Tryz.func9, Tryz.ntmps9
      go_wp2_with fail
      refine K1.out.mono ?_
      rintro e w1 ⟨v1, S, rfl, ho1, _, hB1⟩
      obtain ⟨a1, c1, rfl⟩ := ho1.form
      have H1 := Lib.hid hB1
      clear ho1 hB1
      go_wp2_with fail
      refine (K2.out _ H1.out).mono ?_
      rintro e w2 ⟨v2, T, rfl, ho2, _, hB2⟩
      obtain ⟨a2, c2, rfl⟩ := ho2.form
      have H2 := Lib.hid (below2 H1.out hB2)
      clear ho2 hB2
      go_wp2_with fail
      go_ret2
      exact ⟨_, rfl, OwnOf.nil _ _, H2.out⟩
  · rw [if_neg h1, if_neg h1]
    have e1 : (E1 == 0) = false := by rw [beq_eq_false_iff_ne]; exact h1
    clear h1
    go_enter Tryz.func9, Tryz.ntmps9
    go_wp2_with fail
    refine K1.out.mono ?_
    rintro e w1 ⟨v1, S, rfl, ho1, _, hB1⟩
    obtain ⟨a1, c1, rfl⟩ := ho1.form
    have H1 := Lib.hid hB1
    clear ho1 hB1
    go_wp2_with fail
    go_ret2
    exact ⟨_, rfl, OwnOf.nil _ _, H1.out⟩

end Go.Proofs.YtogicnciheedoaaGreatDoor
