/-
  The texts of one folder in one: IntsEq, DiSpec, DiMath, DlRow, Dls, DiTab, DiThruE, DiKindE, DiEachE, DiThruD, DiKindD, DiEachD, DiOuter, DiBack, DiSame, DiDocs, DiFar.
-/
import Derived.Test.YtogicnciheedoaaDoorPks12
import Derived.Test.YtogicnciheedoaaDoorPks15
import Derived.Test.YtogicnciheedoaaDoorPkbase
import Derived.Deep.RegionHeld3
import Derived.RangeFuncNested
import Derived.Laws.EntriesVeiled

/-
  slices.Equal of two rows of numbers; diff.same.
-/
namespace Go.Proofs.YtogicnciheedoaaDoor
set_option maxRecDepth 100000
open Go.RowKit

set_option maxHeartbeats 2000000 in
theorem intsEq_calls (va vb : Value) (a b : List Int) (w : World) (ha : Ints w va a) (hb : Ints w vb b) (hla : a.length ≤ 1000000) :
    Calls Tryd.prog 29 #[va, vb] w fun e w' => e = .returned (.bool (a == b)) ∧ Below w.heap.size w w' := by
  obtain ⟨aa, ca, rfl⟩ := ha.form
  obtain ⟨ab, cb, rfl⟩ := hb.form
  have HA := Lib.hid ha
  have HB := Lib.hid hb
  clear ha hb
  by_cases hl : a.length = b.length
  · have hne : ((a.length : Int) != (b.length : Int)) = false := by rw [bne_eq_false_iff_eq]; omega
    have HL := Lib.hid hl
    go_enter Tryd.func29, Tryd.ntmps29
    clear hl
    go_wp2_with fail
    go_loopw [13] (fun i wr => ∃ k : Nat, k ≤ a.length ∧ i = .int .i64 k ∧ Hid (a.take k = b.take k) ∧ Hid (Below w.heap.size w wr)) (fun i _ => a.length - (intOf i).toNat)
    case atStart => exact ⟨0, Nat.zero_le _, rfl, Lib.hid (by simp), Lib.hid (Below.refl _ _)⟩
    case round =>
      obtain ⟨k, hk, rfl, hf, hB⟩ := hrel
      by_cases hlt : k < a.length
      · have hlt2 : k < b.length := by have := HL.out; omega
        have hd : decide ((k : Int) < (a.length : Int)) = true := by rw [decide_eq_true_eq]; omega
        obtain ⟨ba, oa, rfl, cella⟩ := (HA.out.below hB.out).at hlt
        obtain ⟨bb, ob, rfl, cellb⟩ := (HB.out.below hB.out).at hlt2
        have ca2 := look_below (drew_below wr) cella
        have cb2 := look_below (drew_below wr) cellb
        have hn := fun h => intsSame_next hf.out hlt hlt2 h
        have hx := fun h => intsSame_not hlt hlt2 h
        generalize a[k] = x at *
        generalize b[k] = y at *
        by_cases hxy : x = y
        · have HN := Lib.hid (hn hxy)
          subst hxy
          clear hn hx cella cellb
          go_wp2_with fail
          go_region
          all_goals
            go_wp2_with fail
            go_roundw
            case rel => exact ⟨k + 1, by omega, by go_num, HN, Lib.hid (hB.out.drew)⟩
            case measure => simp [intOf]; omega
        · have HX := Lib.hid (hx hxy)
          have hd : (x != y) = true := by rw [bne_iff_ne]; exact hxy
          clear hn hx cella cellb hxy
          go_wp2_with fail
          go_region
          all_goals
            go_wp2_with fail
            go_ret
            exact ⟨by rw [HX.out]; rfl, hB.out.drew⟩
      · obtain rfl : k = a.length := by omega
        have hd : decide ((a.length : Int) < (a.length : Int)) = false := by simp
        have HS := Lib.hid (intsSame_all HL.out hf.out)
        go_wp2_with fail
        go_ret
        exact ⟨by rw [HS.out]; rfl, hB.out⟩
  · have hne : ((a.length : Int) != (b.length : Int)) = true := by rw [bne_iff_ne]; omega
    have HX := Lib.hid (show (a == b) = false by rw [beq_eq_false_iff_ne]; intro e; exact hl (by rw [e]))
    clear hl
    go_enter Tryd.func29, Tryd.ntmps29
    go_wp2_with fail
    go_ret
    exact ⟨by rw [HX.out]; rfl, Below.refl _ _⟩

set_option maxHeartbeats 2000000 in
theorem diSame_calls (z d : Int) (v : Value) (cs : List Int) (z' d' : Int) (v' : Value) (cs' : List Int) (w : World) (hv : Ints w v cs) (hv' : Ints w v' cs') (hl : cs.length ≤ 1000000) :
    Calls Tryd.prog 19 #[MV z d v, MV z' d' v'] w fun e w' => e = .returned (.bool (sameM z d cs z' d' cs')) ∧ Below w.heap.size w w' := by
  have hB := below_alloc2 w (.cells #[.int .i64 z, .int .i64 d, v] 34) (.cells #[.int .i64 z', .int .i64 d', v'] 34)
  obtain ⟨ao, ca, rfl⟩ := hv.form
  obtain ⟨ab, cb, rfl⟩ := hv'.form
  have K := Lib.hid (intsEq_calls _ _ cs cs' _ (hv.below hB) (hv'.below hB) hl)
  unfold sameM
  clear hv hv' hB
  by_cases hz : z = z'
  · have hz1 : (z == z') = true := by simpa using hz
    by_cases hd : d = d'
    · have hd1 : (d == d') = true := by simpa using hd
      rw [hz1, hd1]
      generalize (cs == cs') = b at *
      clear hz hd
      go_enter Tryd.func19, Tryd.ntmps19
      go_wp2_with (refine K.out.mono ?_; rintro e w1 ⟨rfl, hB1⟩)
      go_ret
      exact ⟨rfl, below2 (below_alloc2 _ _ _) hB1⟩
    · have hd1 : (d == d') = false := by simpa using hd
      rw [hz1, hd1]
      clear hz hd
      go_enter Tryd.func19, Tryd.ntmps19
      go_wp2_with fail
      go_ret
      exact ⟨rfl, below_alloc2 _ _ _⟩
  · have hz1 : (z == z') = false := by simpa using hz
    rw [hz1]
    clear hz
    go_enter Tryd.func19, Tryd.ntmps19
    go_wp2_with fail
    go_ret
    exact ⟨rfl, below_alloc2 _ _ _⟩

end Go.Proofs.YtogicnciheedoaaDoor

/-
  Differences in plain words: two rows that rise, gone through side by side. No program is named here.
-/
namespace Go.Proofs.YtogicnciheedoaaDoor
set_option maxRecDepth 100000

/-- A delta: a path, and a kind. -/
abbrev Dl := List UInt8 × Int
def RiseD (l : List Dl) : Prop := l.Pairwise fun a b => Op.bytesLess a.1 b.1 = true
/-! ### Side by side -/

section
variable {α : Type} (key : α → List UInt8) (fa fb : α → Int) (f : α → α → Int)
def RiseK (l : List α) : Prop := l.Pairwise fun a b => Op.bytesLess (key a) (key b) = true
/-- A kind, or none. -/
def oneD (p : List UInt8) (n : Int) : List Dl := if n = 0 then [] else [(p, n)]
def mergeD : List α → List α → List Dl
  | [], [] => []
  | x :: r, [] => (key x, fa x) :: mergeD r []
  | [], y :: s => (key y, fb y) :: mergeD [] s
  | x :: r, y :: s =>
    if Op.bytesLess (key x) (key y) then (key x, fa x) :: mergeD r (y :: s)
    else if Op.bytesLess (key y) (key x) then (key y, fb y) :: mergeD (x :: r) s
    else oneD (key x) (f x y) ++ mergeD r s
  termination_by a b => a.length + b.length
variable {key}
variable {fa fb f}
theorem same_key {x y : α} (h1 : ¬ Op.bytesLess (key x) (key y) = true) (h2 : ¬ Op.bytesLess (key y) (key x) = true) : key x = key y := by
  by_cases e : key x = key y
  · exact e
  · exact absurd (less_total (by simpa using h1) e) h2
end

end Go.Proofs.YtogicnciheedoaaDoor

/-
  Differences in plain words: what is told between two times, the way back, two ways one behind the other. No program is named here.
-/
namespace Go.Proofs.YtogicnciheedoaaDoor
set_option maxRecDepth 100000

/-- Of two entries of one path: ANOTHER, if the metas are not the same. -/
def chgE (x y : En) : Int := if x.2.2 = y.2.2 then 0 else 2
def diffE (a b : List En) : List Dl := mergeD (fun x : En => x.1) (fun _ => 3) (fun _ => 1) chgE a b
def backN (n : Int) : Int := if n = 1 ∨ n = 3 then 4 - n else n
def backL (l : List Dl) : List Dl := l.map fun x => (x.1, backN x.2)
def bothN (m n : Int) : Int := if m = 1 ∧ n = 3 then 0 else if m = 3 ∧ n = 1 then 2 else if m = 2 ∧ n = 3 then 3 else m
def thenL (a b : List Dl) : List Dl := mergeD (fun x : Dl => x.1) (fun x => x.2) (fun y => y.2) (fun x y => bothN x.2 y.2) a b
/-- Deltas that may be: the paths rise, the kinds are 1 to 3. -/
def KindD (l : List Dl) : Prop := ∀ x ∈ l, 1 ≤ x.2 ∧ x.2 ≤ 3
/-! ### One step, by places -/

section
variable {α : Type} {key : α → List UInt8} {fa fb : α → Int} {f : α → α → Int}
theorem merge_nil : mergeD key fa fb f [] [] = [] := by rw [mergeD]
theorem merge_l (x : α) (r : List α) : mergeD key fa fb f (x :: r) [] = (key x, fa x) :: mergeD key fa fb f r [] := by rw [mergeD]
theorem merge_r (y : α) (s : List α) : mergeD key fa fb f [] (y :: s) = (key y, fb y) :: mergeD key fa fb f [] s := by rw [mergeD]
theorem merge_lt {x y : α} {r s : List α} (h : Op.bytesLess (key x) (key y) = true) : mergeD key fa fb f (x :: r) (y :: s) = (key x, fa x) :: mergeD key fa fb f r (y :: s) := by rw [mergeD, if_pos h]
theorem merge_gt {x y : α} {r s : List α} (h : Op.bytesLess (key y) (key x) = true) : mergeD key fa fb f (x :: r) (y :: s) = (key y, fb y) :: mergeD key fa fb f (x :: r) s := by rw [mergeD, if_neg (by rw [less_asymm h]; simp), if_pos h]
theorem merge_eq {x y : α} {r s : List α} (h : key x = key y) : mergeD key fa fb f (x :: r) (y :: s) = oneD (key x) (f x y) ++ mergeD key fa fb f r s := by rw [mergeD, if_neg (by rw [h, less_irrefl]; simp), if_neg (by rw [h, less_irrefl]; simp)]
/-- No more is told than there is. -/
theorem merge_len (a b : List α) : (mergeD key fa fb f a b).length ≤ a.length + b.length := by
  fun_induction mergeD key fa fb f a b with
  | case1 => simp
  | case2 x r ih => simp only [List.length_cons, List.length_nil] at ih ⊢; omega
  | case3 y s ih => simp only [List.length_cons, List.length_nil] at ih ⊢; omega
  | case4 x r y s h ih => simp only [List.length_cons] at ih ⊢; omega
  | case5 x r y s h1 h2 ih => simp only [List.length_cons] at ih ⊢; omega
  | case6 x r y s h1 h2 ih =>
    have h3 : (oneD (key x) (f x y)).length ≤ 1 := by unfold oneD; split <;> simp
    rw [List.length_append]
    simp only [List.length_cons]
    omega
end

/-- What rises from each to the next one rises. -/
theorem rise_next {α : Type} {key : α → List UInt8} {l : List α} (h : ∀ i (hi : i + 1 < l.length), Op.bytesLess (key l[i]) (key l[i + 1]) = true) : RiseK key l := by
  unfold RiseK
  rw [List.pairwise_iff_getElem]
  intro i j hi hj hij
  induction j with
  | zero => omega
  | succ j ih =>
    by_cases e : i = j
    · subst e
      exact h i hj
    · exact less_trans (ih (by omega) (by omega)) (h j hj)
theorem rise_at {α : Type} {key : α → List UInt8} {l : List α} (h : RiseK key l) {i : Nat} (hi : i + 1 < l.length) : Op.bytesLess (key l[i]) (key l[i + 1]) = true := by
  unfold RiseK at h
  rw [List.pairwise_iff_getElem] at h
  exact h i (i + 1) (by omega) hi (by omega)

/-! ### What is told -/

/-- Two kinds, one behind the other, where 0 says none. -/
def thenN (m n : Int) : Int := if m = 0 then n else if n = 0 then m else bothN m n
/-! ### The way back -/

theorem back_snoc {l : List Dl} {k : Nat} (h : k < l.length) : backL (l.take (k + 1)) = backL (l.take k) ++ [(l[k].1, backN l[k].2)] := by
  unfold backL
  rw [List.take_succ_eq_append_getElem h, List.map_append]
  rfl
/-! ### Two ways, one behind the other -/

/-! ### By what a store tells -/

end Go.Proofs.YtogicnciheedoaaDoor

/-
  Rows of deltas: two cells each. No type is named here.
-/
namespace Go.Proofs.YtogicnciheedoaaDoor
set_option maxRecDepth 100000
open Go.RowKit

def dcell (x : Dl) : List Value := [.string ⟨x.1.toArray⟩, .int .i64 x.2]
theorem dcell_k : CellsK dcell 2 := ⟨by decide, fun _ => rfl⟩
theorem dcell_o : CellsO dcell := fun x u hu => by
  simp [dcell] at hu
  rcases hu with rfl | rfl <;> rfl
abbrev Dls (w : World) (v : Value) (l : List Dl) : Prop := RowOf dcell 2 w v l
theorem dls_at {w : World} {ao : Option Addr} {n cap : Nat} {l : List Dl} (h : Dls w (.slice ao n cap) l) {i : Nat} (hi : i < l.length) :
    ∃ b off, ao = some ⟨b, off, none⟩ ∧ w.cell? ⟨b, off + i * 2, none⟩ = some (.string ⟨l[i].1.toArray⟩) ∧ w.cell? ⟨b, off + i * 2 + 1, none⟩ = some (.int .i64 l[i].2) := by
  obtain ⟨b, off, e, hc⟩ := h.at dcell_k hi
  exact ⟨b, off, e, hc 0 _ rfl, hc 1 _ rfl⟩

end Go.Proofs.YtogicnciheedoaaDoor

/-
  Rows of deltas of the call's own; appends.
-/
namespace Go.Proofs.YtogicnciheedoaaDoor
set_option maxRecDepth 100000
open Go.RowKit

abbrev OwnDl (w : World) (base : Nat) (v : Value) (l : List Dl) : Prop := OwnOf dcell 2 38 w base v l
theorem infoDl : (Tryd.prog.info? 38).map (fun i => (i.zero, i.size, i.bytes)) = some (some (.agg #[.string ⟨#[]⟩, .int .i64 0]), 2, 24) := by kernel_rfl
/-- An append of one delta, which was laid for it. -/
theorem app_del {w : World} {ops : Array Oper} {rest : List Oper} {o : Oper} {a : Act} {Q : Exit → Act → World → Prop} (hgd : o.guard = none) (s x : Operand)
    (ho : o.op = .call { callee := .builtin .append, args := #[s, x], argTypes := #[23, 23] })
    (base : Nat) (v : Value) (T : List Dl) (hs : a.eval s = v) (hown : OwnDl w base v T) (p : List UInt8) (n : Int) (hx : a.eval x = .slice (some ⟨w.heap.size, 0, none⟩) 1 1)
    (hn : T.length < 1000000) (hbase : base ≤ w.heap.size)
    (h : ∀ ao' cap' w', OwnDl w' base (.slice ao' (T.length + 1) cap') (T ++ [(p, n)]) → (∀ w0, Below base w0 w → Below base w0 w') → wpList Tryd.prog ops Q rest (a.put o.dst (.slice ao' (T.length + 1) cap')) w') :
    wpList Tryd.prog ops Q (o :: rest) a (w.alloc (.cells #[.string ⟨p.toArray⟩, .int .i64 n] 38)) := by
  obtain ⟨i0, hi, hz0, hz1, hz2⟩ := info_parts infoDl
  exact wpList_app_of dcell_k dcell_o hgd s x 23 ho i0 _ 24 Tryd.underlying23 hi hz0 hz1 hz2 rfl (by decide) base v T hs hown (p, n) _ rfl hx hn hbase h
/-- The same, where the block's number is spelled otherwise. -/
theorem app_delK {w : World} {ops : Array Oper} {rest : List Oper} {o : Oper} {a : Act} {Q : Exit → Act → World → Prop} (hgd : o.guard = none) (s x : Operand)
    (ho : o.op = .call { callee := .builtin .append, args := #[s, x], argTypes := #[23, 23] })
    (base : Nat) (v : Value) (T : List Dl) (hs : a.eval s = v) (hown : OwnDl w base v T) (p : List UInt8) (n : Int) (k : Nat) (hk : w.heap.size = k) (hx : a.eval x = .slice (some ⟨k, 0, none⟩) 1 1)
    (hn : T.length < 1000000) (hbase : base ≤ w.heap.size)
    (h : ∀ ao' cap' w', OwnDl w' base (.slice ao' (T.length + 1) cap') (T ++ [(p, n)]) → (∀ w0, Below base w0 w → Below base w0 w') → wpList Tryd.prog ops Q rest (a.put o.dst (.slice ao' (T.length + 1) cap')) w') :
    wpList Tryd.prog ops Q (o :: rest) a (w.alloc (.cells #[.string ⟨p.toArray⟩, .int .i64 n] 38)) := by
  subst hk
  exact app_del hgd s x ho base v T hs hown p n hx hn hbase h
/-- An append of a row of deltas. -/
theorem app_dels {w : World} {ops : Array Oper} {rest : List Oper} {o : Oper} {a : Act} {Q : Exit → Act → World → Prop} (hgd : o.guard = none) (s x : Operand)
    (ho : o.op = .call { callee := .builtin .append, args := #[s, x], argTypes := #[23, 23] }) (base : Nat) (v : Value) (T : List Dl) (hs : a.eval s = v) (hown : OwnDl w base v T)
    (ao : Option Addr) (m c : Nat) (R : List Dl) (hx : a.eval x = .slice ao m c) (hR : Dls w (.slice ao m c) R) (U : List Dl) (hU : T ++ R = U) (q : Nat) (hq : U.length = q) (hq2 : q ≤ 1000000) (w0 : World) (hB : Below base w0 w) (hb0 : base ≤ w0.heap.size)
    (h : ∀ ao' cap' w', OwnDl w' base (.slice ao' q cap') U → Below base w0 w' → wpList Tryd.prog ops Q rest (a.put o.dst (.slice ao' q cap')) w') : wpList Tryd.prog ops Q (o :: rest) a w := by
  obtain ⟨i0, hi, hz0, hz1, hz2⟩ := info_parts infoDl
  exact wpList_app_rowOf dcell_k dcell_o hgd s x 23 ho i0 _ 24 Tryd.underlying23 hi hz0 hz1 hz2 rfl (by decide) base v T hs hown ao m c R hx hR U hU q hq hq2 w0 hB hb0 h

end Go.Proofs.YtogicnciheedoaaDoor

/-
  diff's tables: the kind of the way back, the kind of two; known, kindOf, together.
-/
namespace Go.Proofs.YtogicnciheedoaaDoor
set_option maxRecDepth 100000
open Go.RowKit

def turnedL : List Int := [0, 3, 2, 1]
def joinedL : List Int := [0, 1, 2, 3, 1, 1, 1, 0, 2, 2, 2, 3, 3, 2, 3, 3]
/-- Both tables read as they are laid. -/
def KiOk (w : World) : Prop := (∀ i, i < 4 → w.cell? ⟨0, i, none⟩ = some (.int .i64 (turnedL.getD i 0))) ∧ ∀ i, i < 16 → w.cell? ⟨1, i, none⟩ = some (.int .i64 (joinedL.getD i 0))
theorem KiOk.below {w w' : World} (h : KiOk w) (hb : Below w.heap.size w w') : KiOk w' := ⟨fun i hi => look_below hb (h.1 i hi), fun i hi => look_below hb (h.2 i hi)⟩

theorem known_calls (n : Int) (w : World) (h : 0 ≤ n ∧ n ≤ 3) : Calls Tryd.prog 21 #[.int .i64 n] w fun e w' => e = .returned (.bool true) ∧ w = w' := by
  have h1 : decide (0 ≤ n) = true := by rw [decide_eq_true_eq]; omega
  have h2 : decide (n < 4) = true := by rw [decide_eq_true_eq]; omega
  clear h
  go_enter Tryd.func21, Tryd.ntmps21
  go_wp2_with fail
  go_ret
  exact ⟨rfl, rfl⟩

theorem kindOf_none (v : Value) (w : World) (h : Dls w v []) : Calls Tryd.prog 26 #[v] w fun e w' => e = .returned (.int .i64 0) ∧ w = w' := by
  obtain ⟨ao, cap, rfl⟩ := h.form
  go_enter Tryd.func26, Tryd.ntmps26
  go_wp2_with fail
  go_ret
  exact ⟨rfl, rfl⟩
theorem kindOf_one (v : Value) (x : Dl) (w : World) (h : Dls w v [x]) : Calls Tryd.prog 26 #[v] w fun e w' => e = .returned (.int .i64 x.2) ∧ w = w' := by
  obtain ⟨ao, cap, rfl⟩ := h.form
  obtain ⟨b, off, rfl, c0, c1⟩ := dls_at h (i := 0) (by simp)
  rw [Nat.zero_mul, Nat.add_zero] at c0 c1
  dsimp only [List.getElem_cons_zero] at c0 c1
  clear h
  go_enter Tryd.func26, Tryd.ntmps26
  go_wp2_with fail
  go_ret
  exact ⟨rfl, rfl⟩

/-- The kind of two: by the table. -/
theorem joined_at {m n : Nat} (hm : m < 4) (hn : n < 4) : joinedL.getD (m * 4 + n) 0 = thenN (m : Int) (n : Int) := by
  have : (∀ a : Fin 4, ∀ b : Fin 4, joinedL.getD (a.val * 4 + b.val) 0 = thenN (a.val : Int) (b.val : Int)) := by decide
  exact this ⟨m, hm⟩ ⟨n, hn⟩
set_option maxHeartbeats 1000000 in
theorem together_calls (m n : Int) (hm : 0 ≤ m ∧ m ≤ 3) (hn : 0 ≤ n ∧ n ≤ 3) (w : World) (h : KiOk w) : Calls Tryd.prog 25 #[.int .i64 m, .int .i64 n] w fun e w' => e = .returned (.int .i64 (thenN m n)) ∧ w = w' := by
  obtain ⟨a, rfl⟩ : ∃ a : Nat, m = a := ⟨m.toNat, by omega⟩
  obtain ⟨b, rfl⟩ : ∃ b : Nat, n = b := ⟨n.toNat, by omega⟩
  have ha : a < 4 := by omega
  have hb : b < 4 := by omega
  have K1 := Lib.hid (known_calls (a : Int) w hm)
  have K2 := Lib.hid (known_calls (b : Int) w hn)
  have c := h.2 (a * 4 + b) (by omega)
  rw [joined_at ha hb] at c
  clear hm hn h
  obtain ⟨z, hz⟩ : ∃ z, thenN (a : Int) (b : Int) = z := ⟨_, rfl⟩
  rw [hz] at c ⊢
  clear hz
  go_enter Tryd.func25, Tryd.ntmps25
  go_wp2_with fail
  refine K1.out.mono ?_
  rintro e w1 ⟨rfl, rfl⟩
  go_wp2_with fail
  refine K2.out.mono ?_
  rintro e w1 ⟨rfl, rfl⟩
  go_wp2_with fail
  go_ret
  exact ⟨rfl, rfl⟩

end Go.Proofs.YtogicnciheedoaaDoor

/-
  diff.through over entries: one row, gone through by two closures.
-/
namespace Go.Proofs.YtogicnciheedoaaDoor
set_option maxRecDepth 100000
open Go.RowKit

theorem ecell_k : CellsK ecell 5 := ⟨by decide, fun _ => rfl⟩
theorem ents_elem : Tryd.prog.elem 22 = 36 := by kernel_rfl
theorem ents_from {w : World} {ao : Option Addr} {n cap : Nat} {S : List Ev} (h : Ents w (.slice ao n cap) S) (i m : Nat) (hi : i ≤ n) (hm : i + m = n) :
    ∃ a1 c1, (∀ W, (Instr.slice 22 (.slice ao n cap) (some (.int .i64 (i : Int))) none none).run Tryd.prog W = .ok (.slice a1 m c1) W) ∧ Ents w (.slice a1 m c1) (S.drop i) := by
  obtain ⟨a1, c1, h1, h2⟩ := rowOf_from ecell_k (by rw [ents_elem]; exact Tryd.underlying22) (size_of (by rw [ents_elem]; kernel_rfl)) (show RowOf ecell 5 w _ S from h.1) i m hi hm
  exact ⟨a1, c1, h1, h2, fun x hx => h.2 x (List.mem_of_mem_drop hx)⟩
theorem ents_to {w : World} {ao : Option Addr} {n cap : Nat} {S : List Ev} (h : Ents w (.slice ao n cap) S) (i : Nat) (hi : i ≤ n) :
    (∀ W, (Instr.slice 22 (.slice ao n cap) none (some (.int .i64 (i : Int))) none).run Tryd.prog W = .ok (.slice ao i cap) W) ∧ Ents w (.slice ao i cap) (S.take i) := by
  obtain ⟨h1, h2⟩ := rowOf_to ecell_k (by rw [ents_elem]; exact Tryd.underlying22) (size_of (by rw [ents_elem]; kernel_rfl)) (show RowOf ecell 5 w _ S from h.1) i hi
  exact ⟨h1, h2, fun x hx => h.2 x (List.mem_of_mem_take hx)⟩

/-- A path of an entry. -/
theorem ePath_calls (x : En) (u : Value) (w : World) : Calls Tryd.prog 16 #[EV x u] w fun e w' => e = .returned (.string ⟨x.1.toArray⟩) ∧ Below w.heap.size w w' := by
  obtain ⟨p, n, z, d, cs⟩ := x
  have hB := below_alloc w (.cells #[.string ⟨p.toArray⟩, .int .i64 n, .int .i64 z, .int .i64 d, u] 36)
  go_enter Tryd.func16, Tryd.ntmps16
  go_wp2_with fail
  go_ret
  exact ⟨rfl, hB⟩

/-- The closures' boxes: the row that is left, what tells a path, the first closure. -/
abbrev HvE (g : Nat) : Value := .func (.func 32) #[] #[.pointer (some ⟨g, 0, none⟩), .pointer (some ⟨g + 1, 0, none⟩)]
abbrev TvE (g : Nat) : Value := .func (.func 33) #[] #[.pointer (some ⟨g + 2, 0, none⟩), .pointer (some ⟨g, 0, none⟩)]
def ThrE (w : World) (g : Nat) (v : Value) : Prop := Boxed w g 22 v ∧ Boxed w (g + 1) 39 (.func (.func 16) #[] #[]) ∧ Boxed w (g + 2) 50 (HvE g)
theorem ThrE.below {w w' : World} {g : Nat} {v : Value} (h : ThrE w g v) (hb : Below w.heap.size w w') : ThrE w' g v := ⟨boxed_stays h.1 hb, boxed_stays h.2.1 hb, boxed_stays h.2.2 hb⟩
theorem ThrE.keeps {w w' : World} {g k : Nat} {v : Value} (h : ThrE w g v) (hk : Keeps k w w') (h0 : k < g ∨ g + 2 < k) : ThrE w' g v := ⟨boxed_keeps h.1 hk (by omega), boxed_keeps h.2.1 hk (by omega), boxed_keeps h.2.2 hk (by omega)⟩

theorem eHere_none {w : World} {g : Nat} {v : Value} (hT : ThrE w g v) (h : Ents w v []) : Calls Tryd.prog 32 #[.pointer (some ⟨g, 0, none⟩), .pointer (some ⟨g + 1, 0, none⟩)] w fun e w' => e = .returned (.tuple #[.string ⟨#[]⟩, .bool false]) ∧ w = w' := by
  obtain ⟨ao, cap, rfl⟩ := h.form
  have c0 := hT.1.cell
  clear hT h
  go_enter Tryd.func32, Tryd.ntmps32
  go_wp2_with fail
  go_ret2
  exact ⟨rfl, rfl⟩
set_option maxHeartbeats 4000000 in
theorem eHere_some {w : World} {g : Nat} {v : Value} {x : Ev} {S : List Ev} (hT : ThrE w g v) (h : Ents w v (x :: S)) (hl : S.length ≤ 1000000) : Calls Tryd.prog 32 #[.pointer (some ⟨g, 0, none⟩), .pointer (some ⟨g + 1, 0, none⟩)] w fun e w' => e = .returned (.tuple #[.string ⟨x.1.1.toArray⟩, .bool true]) ∧ Below w.heap.size w w' := by
  obtain ⟨ao, cap, rfl⟩ := h.form
  obtain ⟨b, off, rfl, ⟨e0, e1, e2, e3, e4⟩, hi⟩ := h.at (k := 0) (by simp)
  rw [Nat.zero_mul, Nat.add_zero] at e0 e1 e2 e3 e4
  dsimp only [List.getElem_cons_zero] at e0 e1 e2 e3 e4
  obtain ⟨⟨p, n, z, d, cs⟩, u⟩ := x
  dsimp only at e0 e1 e2 e3 e4
  replace hi : Ints w u cs := hi
  obtain ⟨au, cu, rfl⟩ := hi.form
  have c0 := hT.1.cell
  have c1 := hT.2.1.cell
  have hne : (((S.length + 1 : Nat) : Int) == 0) = false := by rw [beq_eq_false_iff_ne]; omega
  rw [List.length_cons] at c0
  obtain ⟨q, hq⟩ : ∃ q, S.length + 1 = q := ⟨_, rfl⟩
  have hq1 : 1 ≤ q := by omega
  have hq2 : q ≤ 1000001 := by omega
  have hlt : 0 < q := by omega
  rw [hq] at c0 hne
  have hbr : Below w.heap.size w w := Below.refl _ _
  obtain ⟨nu, hnu⟩ : ∃ k, cs.length = k := ⟨_, rfl⟩
  rw [hnu] at e4
  have HC := Lib.hid (fun W (hW : Below w.heap.size w W) => (And.intro (look_below hW c0) (And.intro (look_below hW c1) (And.intro (look_below hW e0) (And.intro (look_below hW e1) (And.intro (look_below hW e2) (And.intro (look_below hW e3) (look_below hW e4)))))) : W.cell? ⟨g, 0, none⟩ = some (.slice (some ⟨b, off, none⟩) q cap) ∧ W.cell? ⟨g + 1, 0, none⟩ = some (.func (.func 16) #[] #[]) ∧ W.cell? ⟨b, off, none⟩ = some (.string ⟨p.toArray⟩) ∧ W.cell? ⟨b, off + 1, none⟩ = some (.int .i64 n) ∧ W.cell? ⟨b, off + 2, none⟩ = some (.int .i64 z) ∧ W.cell? ⟨b, off + 3, none⟩ = some (.int .i64 d) ∧ W.cell? ⟨b, off + 4, none⟩ = some (.slice au nu cu)))
  have KP := Lib.hid (fun W => ePath_calls (p, n, z, d, cs) (.slice au nu cu) W)
  clear hT h hi hq hnu hl
  go_enter Tryd.func32, Tryd.ntmps32
  go_wp2_with fail
  have hbr : Below w.heap.size w w.drew := drew_below _
  go_region_held3 (fun w' => w'.cell? ⟨g, 0, none⟩ = some (.slice (some ⟨b, off, none⟩) q cap) ∧ w'.cell? ⟨g + 1, 0, none⟩ = some (.func (.func 16) #[] #[]) ∧ w'.cell? ⟨b, off, none⟩ = some (.string ⟨p.toArray⟩) ∧ w'.cell? ⟨b, off + 1, none⟩ = some (.int .i64 n) ∧ w'.cell? ⟨b, off + 2, none⟩ = some (.int .i64 z) ∧ w'.cell? ⟨b, off + 3, none⟩ = some (.int .i64 d) ∧ w'.cell? ⟨b, off + 4, none⟩ = some (.slice au nu cu)) (exact HC.out _ hbr) (first
    | (go_at_call 16; (with_reducible refine (KP.out _).mono ?_); rintro e w3 ⟨rfl, hB3⟩; have hbr := below2 hbr hB3))
  all_goals
    go_wp2_with fail
    go_ret2
    exact ⟨rfl, hbr⟩

set_option maxHeartbeats 2000000 in
theorem eTake_none {w w0 : World} {g : Nat} {v : Value} (hT : ThrE w g v) (h : Ents w0 v []) (hB : Below w0.heap.size w0 w) (p : List UInt8) : Calls Tryd.prog 33 #[.string ⟨p.toArray⟩, .pointer (some ⟨g + 2, 0, none⟩), .pointer (some ⟨g, 0, none⟩)] w fun e w' => e = .returned (.slice none 0 0) ∧ w = w' := by
  have K := Lib.hid (eHere_none hT (h.below hB))
  have c2 : w.cell? ⟨g + 2, 0, none⟩ = some (.func (.func 32) #[] #[.pointer (some ⟨g, 0, none⟩), .pointer (some ⟨g + 1, 0, none⟩)]) := hT.2.2.cell
  clear hT h hB
  go_enter Tryd.func33, Tryd.ntmps33
  go_wp2_with fail
  refine K.out.mono ?_
  rintro e w1 ⟨rfl, rfl⟩
  go_wp2_with fail
  go_ret
  exact ⟨rfl, rfl⟩
set_option maxHeartbeats 2000000 in
theorem eTake_no {w w0 : World} {g : Nat} {v : Value} {x : Ev} {S : List Ev} (hT : ThrE w g v) (h : Ents w0 v (x :: S)) (hl : S.length ≤ 1000000) (hB : Below w0.heap.size w0 w) (p : List UInt8) (hp : x.1.1 ≠ p) : Calls Tryd.prog 33 #[.string ⟨p.toArray⟩, .pointer (some ⟨g + 2, 0, none⟩), .pointer (some ⟨g, 0, none⟩)] w fun e w' => e = .returned (.slice none 0 0) ∧ Below w.heap.size w w' := by
  have K := Lib.hid (eHere_some hT (h.below hB) hl)
  have c2 : w.cell? ⟨g + 2, 0, none⟩ = some (.func (.func 32) #[] #[.pointer (some ⟨g, 0, none⟩), .pointer (some ⟨g + 1, 0, none⟩)]) := hT.2.2.cell
  generalize x.1.1 = q at *
  have hq : (q == p) = false := by rw [beq_eq_false_iff_ne]; exact hp
  clear hT h hB hp
  go_enter Tryd.func33, Tryd.ntmps33
  go_wp2_with fail
  refine K.out.mono ?_
  rintro e w1 ⟨rfl, hB1⟩
  go_wp2_with fail
  go_ret
  exact ⟨rfl, hB1⟩
set_option maxHeartbeats 2000000 in
theorem eTake_yes {w w0 : World} {g : Nat} {v : Value} {x : Ev} {S : List Ev} (hT : ThrE w g v) (h : Ents w0 v (x :: S)) (hl : S.length ≤ 1000000) (hB : Below w0.heap.size w0 w) : Calls Tryd.prog 33 #[.string ⟨x.1.1.toArray⟩, .pointer (some ⟨g + 2, 0, none⟩), .pointer (some ⟨g, 0, none⟩)] w fun e w' => ∃ v1 v2, e = .returned v1 ∧ Ents w0 v1 [x] ∧ Ents w0 v2 S ∧ ThrE w' g v2 ∧ Keeps g w w' := by
  have K := Lib.hid (eHere_some hT (h.below hB) hl)
  have c2 : w.cell? ⟨g + 2, 0, none⟩ = some (.func (.func 32) #[] #[.pointer (some ⟨g, 0, none⟩), .pointer (some ⟨g + 1, 0, none⟩)]) := hT.2.2.cell
  obtain ⟨ao, cap, rfl⟩ := h.form
  obtain ⟨a1, c1, hs1, hf⟩ := ents_from h 1 S.length (by simp) (by simp; omega)
  obtain ⟨hs2, ht⟩ := ents_to h 1 (by simp)
  have HF := Lib.hid (And.intro hf ht)
  have HT := Lib.hid hT
  generalize x.1.1 = q at *
  obtain ⟨nl, hnl⟩ : ∃ n, (x :: S).length = n := ⟨_, rfl⟩
  obtain ⟨ns, hns⟩ : ∃ n, S.length = n := ⟨_, rfl⟩
  rw [hnl] at hs1 hs2 HT
  rw [hns] at hs1 HF
  replace hs1 : ∀ W, (Instr.slice 22 (.slice ao nl cap) (some (.int .i64 1)) none none).run Tryd.prog W = .ok (.slice a1 ns c1) W := hs1
  replace hs2 : ∀ W, (Instr.slice 22 (.slice ao nl cap) none (some (.int .i64 1)) none).run Tryd.prog W = .ok (.slice ao 1 cap) W := hs2
  clear hT h hB hf ht hnl hns hl
  go_enter Tryd.func33, Tryd.ntmps33
  go_wp2_with fail
  refine K.out.mono ?_
  rintro e w1 ⟨rfl, hB1⟩
  have HT1 := Lib.hid (HT.out.below hB1)
  have c0 := HT1.out.1.cell
  have f0 := HT1.out.1.frozen
  have HK := Lib.hid ((Keeps.below g hB1).set 0 (.slice a1 ns c1))
  clear hB1
  go_wp2_with fail
  go_ret
  exact ⟨_, _, rfl, HF.out.2, HF.out.1, ⟨HT1.out.1.set _, HT1.out.2.1.other (by omega) _, HT1.out.2.2.other (by omega) _⟩, HK.out⟩

set_option maxHeartbeats 2000000 in
theorem eThrough_calls (v : Value) (S : List Ev) (w : World) (h : Ents w v S) : Calls Tryd.prog 28 #[v, .func (.func 16) #[] #[]] w fun e w' => ∃ g, e = .returned (.tuple #[HvE g, TvE g]) ∧ ThrE w' g v ∧ w.heap.size ≤ g ∧ Below w.heap.size w w' := by
  obtain ⟨ao, cap, rfl⟩ := h.form
  obtain ⟨n, hn⟩ : ∃ n, S.length = n := ⟨_, rfl⟩
  rw [hn]
  have hmf : ∀ (fn : Fn) (first cap : Array Value) (w : World), (Instr.makeFunc fn first cap).run Tryd.prog w = .ok (.func fn first cap) w := fun _ _ _ _ => rfl
  have b2 := Boxed.new ((w.alloc (.cells #[.slice ao n cap] 22)).alloc (.cells #[.func (.func 16) #[] #[]] 39)) 50 .nilFunc
  rw [World.size_alloc, World.size_alloc] at b2
  have c2 := b2.cell
  have f2 := b2.frozen
  have d0 := ((Boxed.new w 22 (.slice ao n cap)).alloc (.cells #[.func (.func 16) #[] #[]] 39)).alloc (.cells #[HvE w.heap.size] 50)
  have d1 := (Boxed.new (w.alloc (.cells #[.slice ao n cap] 22)) 39 (.func (.func 16) #[] #[])).alloc (.cells #[HvE w.heap.size] 50)
  have d2 := Boxed.new ((w.alloc (.cells #[.slice ao n cap] 22)).alloc (.cells #[.func (.func 16) #[] #[]] 39)) 50 (HvE w.heap.size)
  have hB := below_alloc3 w (.cells #[.slice ao n cap] 22) (.cells #[.func (.func 16) #[] #[]] 39) (.cells #[HvE w.heap.size] 50)
  rw [World.size_alloc] at d1
  rw [World.size_alloc, World.size_alloc] at d2
  have HH := Lib.hid (And.intro d0 (And.intro d1 (And.intro d2 hB)))
  clear h hn b2 d0 d1 d2 hB
  go_enter Tryd.func28, Tryd.ntmps28
  go_wp2_with fail
  exact ret_func2 rfl rfl _ _ _ rfl rfl HH.out.2.2.1.cell (by simp [isAgg, run_underlying Tryd.underlying50]) ⟨_, rfl, ⟨HH.out.1, HH.out.2.1, HH.out.2.2.1⟩, Nat.le_refl _, HH.out.2.2.2⟩

end Go.Proofs.YtogicnciheedoaaDoor

/-
  diff.Entries$2: the kind of a path, by what each row has of it.
-/
namespace Go.Proofs.YtogicnciheedoaaDoor
set_option maxRecDepth 100000
open Go.RowKit

theorem eKind_b (va vb : Value) (w : World) (y : Ev) (ha : Ents w va []) (hb : Ents w vb [y]) : Calls Tryd.prog 18 #[va, vb] w fun e w' => e = .returned (.int .i64 1) ∧ w = w' := by
  obtain ⟨ao, ca, rfl⟩ := ha.form
  obtain ⟨bo, cb, rfl⟩ := hb.form
  clear ha hb
  go_enter Tryd.func18, Tryd.ntmps18
  go_wp2_with fail
  go_ret
  exact ⟨rfl, rfl⟩
theorem eKind_a (va vb : Value) (w : World) (x : Ev) (ha : Ents w va [x]) (hb : Ents w vb []) : Calls Tryd.prog 18 #[va, vb] w fun e w' => e = .returned (.int .i64 3) ∧ w = w' := by
  obtain ⟨ao, ca, rfl⟩ := ha.form
  obtain ⟨bo, cb, rfl⟩ := hb.form
  clear ha hb
  go_enter Tryd.func18, Tryd.ntmps18
  go_wp2_with fail
  go_ret
  exact ⟨rfl, rfl⟩
theorem sameM_three {x y : Int × Int × List Int} : sameM x.1 x.2.1 x.2.2 y.1 y.2.1 y.2.2 = true ↔ x = y := by
  obtain ⟨a, b, c⟩ := x
  obtain ⟨a', b', c'⟩ := y
  simp [sameM]
set_option maxHeartbeats 4000000 in
theorem eKind_both (va vb : Value) (w : World) (x y : Ev) (ha : Ents w va [x]) (hb : Ents w vb [y]) (hl : x.1.2.2.2.2.length ≤ 1000000) : Calls Tryd.prog 18 #[va, vb] w fun e w' => e = .returned (.int .i64 (chgE x.1 y.1)) ∧ Below w.heap.size w w' := by
  obtain ⟨ao, ca, rfl⟩ := ha.form
  obtain ⟨bo, cb, rfl⟩ := hb.form
  obtain ⟨a, oa, rfl, ⟨_, _, x2, x3, x4⟩, hi⟩ := ha.at (k := 0) (by simp)
  obtain ⟨b, ob, rfl, ⟨_, _, y2, y3, y4⟩, hj⟩ := hb.at (k := 0) (by simp)
  rw [Nat.zero_mul, Nat.add_zero] at x2 x3 x4 y2 y3 y4
  dsimp only [List.getElem_cons_zero] at x2 x3 x4 y2 y3 y4
  have hch : chgE x.1 y.1 = if sameM x.1.2.2.1 x.1.2.2.2.1 x.1.2.2.2.2 y.1.2.2.1 y.1.2.2.2.1 y.1.2.2.2.2 then 0 else 2 := by
    unfold chgE
    by_cases h : x.1.2.2 = y.1.2.2
    · rw [if_pos h, if_pos (sameM_three.2 h)]
    · rw [if_neg h, if_neg fun e => h (sameM_three.1 e)]
  rw [hch]
  obtain ⟨⟨p, n, z, d, cs⟩, u⟩ := x
  obtain ⟨⟨p', n', z', d', cs'⟩, u'⟩ := y
  dsimp only at x2 x3 x4 y2 y3 y4 hl ⊢
  replace hi : Ints w u cs := hi
  replace hj : Ints w u' cs' := hj
  have KS := Lib.hid (fun W (hW : Below w.heap.size w W) => diSame_calls z d u cs z' d' u' cs' W (hi.below hW) (hj.below hW) hl)
  obtain ⟨au, cu, rfl⟩ := hi.form
  obtain ⟨av, cv, rfl⟩ := hj.form
  generalize sameM z d cs z' d' cs' = s at *
  obtain ⟨nu, hnu⟩ : ∃ k, cs.length = k := ⟨_, rfl⟩
  obtain ⟨nv, hnv⟩ : ∃ k, cs'.length = k := ⟨_, rfl⟩
  rw [hnu] at x4 KS
  rw [hnv] at y4 KS
  have HC := Lib.hid (fun W (hW : Below w.heap.size w W) => (And.intro (look_below hW x2) (And.intro (look_below hW x3) (And.intro (look_below hW x4) (And.intro (look_below hW y2) (And.intro (look_below hW y3) (look_below hW y4))))) : W.cell? ⟨a, oa + 2, none⟩ = some (.int .i64 z) ∧ W.cell? ⟨a, oa + 3, none⟩ = some (.int .i64 d) ∧ W.cell? ⟨a, oa + 4, none⟩ = some (.slice au nu cu) ∧ W.cell? ⟨b, ob + 2, none⟩ = some (.int .i64 z') ∧ W.cell? ⟨b, ob + 3, none⟩ = some (.int .i64 d') ∧ W.cell? ⟨b, ob + 4, none⟩ = some (.slice av nv cv)))
  clear ha hb hi hj hl hch hnu hnv
  have hbr : Below w.heap.size w w.drew := drew_below _
  go_enter Tryd.func18, Tryd.ntmps18
  go_wp2_with fail
  go_region_held3 (fun w' => w'.cell? ⟨a, oa + 2, none⟩ = some (.int .i64 z) ∧ w'.cell? ⟨a, oa + 3, none⟩ = some (.int .i64 d) ∧ w'.cell? ⟨a, oa + 4, none⟩ = some (.slice au nu cu) ∧ w'.cell? ⟨b, ob + 2, none⟩ = some (.int .i64 z') ∧ w'.cell? ⟨b, ob + 3, none⟩ = some (.int .i64 d') ∧ w'.cell? ⟨b, ob + 4, none⟩ = some (.slice av nv cv)) (exact HC.out _ hbr) (first
    | (go_at_call 19; (with_reducible refine (KS.out _ hbr).mono ?_); rintro e w3 ⟨rfl, hB3⟩; have hbr := below2 hbr hB3))
  all_goals
    cases s
    · go_wp2_with fail
      go_ret
      exact ⟨rfl, hbr⟩
    · go_wp2_with fail
      go_ret
      exact ⟨rfl, hbr⟩

end Go.Proofs.YtogicnciheedoaaDoor

/-
  diff.eachPath over entries: two rows gone through side by side.
-/
namespace Go.Proofs.YtogicnciheedoaaDoor
set_option maxRecDepth 100000
open Go.RowKit

/-- How much is left of a row, as its box tells. -/
def leftE (w : World) (g : Nat) : Nat := match w.cell? ⟨g, 0, none⟩ with | some (.slice _ n _) => n | _ => 0
theorem leftE_is {w w0 : World} {g : Nat} {v : Value} {S : List Ev} (h : ThrE w g v) (hs : Ents w0 v S) : leftE w g = S.length := by
  obtain ⟨ao, cap, rfl⟩ := hs.form
  unfold leftE
  rw [h.1.cell]
/-- What holds in eachPath's loop. -/
def EaE (w : World) (gA gB bs : Nat) (u vA vB : Value) (O : List Dl) (W : World) : Prop := ThrE W gA vA ∧ ThrE W gB vB ∧ OwnDl W bs u O ∧ Below w.heap.size w W ∧ bs ≤ W.heap.size
/-- The order of the blocks. -/
def OrE (w : World) (gA gB bs : Nat) : Prop := w.heap.size ≤ gA ∧ gA + 2 < gB ∧ gB + 2 < bs
theorem EaE.below {w : World} {gA gB bs : Nat} {u vA vB : Value} {O : List Dl} {W W' : World} (h : EaE w gA gB bs u vA vB O W) (hb : Below W.heap.size W W') : EaE w gA gB bs u vA vB O W' :=
  ⟨h.1.below hb, h.2.1.below hb, h.2.2.1.stays hb, below2 h.2.2.2.1 hb, Nat.le_trans h.2.2.2.2 hb.size⟩
theorem EaE.takeA {w : World} {gA gB bs : Nat} {u vA vA' vB : Value} {O : List Dl} {W W' : World} (h : EaE w gA gB bs u vA vB O W) (ho : OrE w gA gB bs) (hT : ThrE W' gA vA') (hk : Keeps gA W W') : EaE w gA gB bs u vA' vB O W' := by
  obtain ⟨o1, o2, o3⟩ := ho
  exact ⟨hT, h.2.1.keeps hk (by omega), h.2.2.1.kept hk (.inr fun e => by have := (h.2.2.1.lt _ e).1; omega), hk.on h.2.2.2.1 o1 h.2.2.2.1.size, Nat.le_trans h.2.2.2.2 hk.size⟩
theorem EaE.takeB {w : World} {gA gB bs : Nat} {u vA vB vB' : Value} {O : List Dl} {W W' : World} (h : EaE w gA gB bs u vA vB O W) (ho : OrE w gA gB bs) (hT : ThrE W' gB vB') (hk : Keeps gB W W') : EaE w gA gB bs u vA vB' O W' := by
  obtain ⟨o1, o2, o3⟩ := ho
  exact ⟨h.1.keeps hk (by omega), hT, h.2.2.1.kept hk (.inr fun e => by have := (h.2.2.1.lt _ e).1; omega), hk.on h.2.2.2.1 (by omega) h.2.2.2.1.size, Nat.le_trans h.2.2.2.2 hk.size⟩
theorem EaE.put {w : World} {gA gB bs : Nat} {u u' vA vB : Value} {O O' : List Dl} {W W' : World} (h : EaE w gA gB bs u vA vB O W) (ho : OwnDl W' bs u' O') (hb : Below bs W W') (o : OrE w gA gB bs) : EaE w gA gB bs u' vA vB O' W' := by
  obtain ⟨o1, o2, o3⟩ := o
  have hx : ∀ {b t x}, b < bs → Boxed W b t x → Boxed W' b t x := fun hlt hh => (hb.block _ hlt).trans hh
  refine ⟨⟨hx (by omega) h.1.1, hx (by omega) h.1.2.1, hx (by omega) h.1.2.2⟩, ⟨hx (by omega) h.2.1.1, hx (by omega) h.2.1.2.1, hx (by omega) h.2.1.2.2⟩, ho, h.2.2.2.1.trans (hb.mono (by omega)), Nat.le_trans h.2.2.2.2 hb.size⟩

set_option maxHeartbeats 32000000 in
theorem eEach_calls (va vb : Value) (A B : List Ev) (w : World) (ha : Ents w va A) (hb : Ents w vb B) (hla : A.length ≤ 2000) (hlb : B.length ≤ 2000) (hc : ∀ x ∈ A, x.1.2.2.2.2.length ≤ 1000000) :
    Calls Tryd.prog 17 #[va, vb, .func (.func 16) #[] #[], .func (.func 18) #[] #[]] w fun e w' => ∃ u, e = .returned u ∧ OwnDl w' w.heap.size u (diffE (ens A) (ens B)) ∧ Below w.heap.size w w' := by
  obtain ⟨ao, ca, rfl⟩ := ha.form
  obtain ⟨bo, cb, rfl⟩ := hb.form
  have KT := Lib.hid (fun (v : Value) (S : List Ev) W (h : Ents W v S) => eThrough_calls v S W h)
  obtain ⟨nA, hnA⟩ : ∃ n, A.length = n := ⟨_, rfl⟩
  obtain ⟨nB, hnB⟩ : ∃ n, B.length = n := ⟨_, rfl⟩
  have HL := Lib.hid (show A.length + B.length ≤ 4000 by omega)
  have HK := Lib.hid hc
  rw [hnA] at ha ⊢
  rw [hnB] at hb ⊢
  have HA := Lib.hid ha
  have HB := Lib.hid hb
  clear ha hb hla hlb hc hnA hnB
  go_enter Tryd.func17, Tryd.ntmps17
  go_wp2_with fail
  refine (KT.out _ _ _ HA.out).mono ?_
  rintro e w1 ⟨gA, rfl, hT1, hg1, hB1⟩
  have H1 := Lib.hid (And.intro hT1 (And.intro hg1 hB1))
  clear hT1 hg1 hB1
  go_wp2_with fail
  refine (KT.out _ _ _ (HB.out.below H1.out.2.2)).mono ?_
  rintro e w2 ⟨gB, rfl, hT2, hg2, hB2⟩
  have HO := Lib.hid (show OrE w gA gB w2.heap.size from ⟨H1.out.2.1, Nat.lt_of_lt_of_le H1.out.1.2.2.lt hg2, hT2.2.2.lt⟩)
  obtain ⟨bs, hbs⟩ : ∃ n, w2.heap.size = n := ⟨_, rfl⟩
  have HE := Lib.hid (show EaE w gA gB w2.heap.size (.slice none 0 0) (.slice ao nA ca) (.slice bo nB cb) [] w2 from ⟨H1.out.1.below hB2, hT2, OwnOf.nil _ _, below2 H1.out.2.2 hB2, Nat.le_refl _⟩)
  rw [hbs] at HE HO
  clear hT2 hg2 hB2 hbs H1
  go_wp2_with fail

  go_loopw [9] (fun u wr => ∃ (A' B' : List Ev) (vA vB : Value) (O : List Dl), EaE w gA gB bs u vA vB O wr ∧ Ents w vA A' ∧ Ents w vB B' ∧ O ++ diffE (ens A') (ens B') = diffE (ens A) (ens B) ∧ O.length + A'.length + B'.length ≤ 4000 ∧ (∀ x ∈ A', x.1.2.2.2.2.length ≤ 1000000)) (fun _ wr => leftE wr gA + leftE wr gB)
  case atStart => exact ⟨A, B, _, _, [], HE.out, HA.out, HB.out, rfl, by have := HL.out; simpa using this, HK.out⟩
  case round =>
    obtain ⟨A', B', vA, vB, O, he, ha, hb, hO, hln, hc⟩ := hrel
    have hlA := leftE_is he.1 ha
    have hlB := leftE_is he.2.1 hb
    obtain ⟨au, cu, rfl⟩ := he.2.2.1.form
    have hsz := Nat.le_trans (show w.heap.size ≤ bs by have := HO.out; unfold OrE at this; omega) he.2.2.2.2
    have hq6 : O.length < 1000000 := by omega
    have HRel := Lib.hid (And.intro he (And.intro ha (And.intro hb (And.intro hO (And.intro hln (And.intro hlA (And.intro hlB hc)))))))
    cases A' with
    | nil =>
      cases B' with
      | nil =>
        clear he ha hb hO hln hlA hlB hc
        go_wp2_with fail
        refine (eHere_none HRel.out.1.1 (HRel.out.2.1.below HRel.out.1.2.2.2.1)).mono ?_
        rintro e _ ⟨rfl, rfl⟩
        go_wp2_with fail
        refine (eHere_none HRel.out.1.2.1 (HRel.out.2.2.1.below HRel.out.1.2.2.2.1)).mono ?_
        rintro e _ ⟨rfl, rfl⟩
        go_wp2_with fail
        go_ret
        exact ⟨_, rfl, (by have h := HRel.out.2.2.2.1; have hh : diffE (ens []) (ens []) = [] := merge_nil; rw [hh, List.append_nil] at h; rw [← h]; exact HRel.out.1.2.2.1.weak (show w.heap.size ≤ bs by have := HO.out; unfold OrE at this; omega)), HRel.out.1.2.2.2.1⟩
      | cons y B'' =>
        clear he ha hb hO hln hlA hlB hc
        go_wp2_with fail
        refine (eHere_none HRel.out.1.1 (HRel.out.2.1.below HRel.out.1.2.2.2.1)).mono ?_
        rintro e _ ⟨rfl, rfl⟩
        go_wp2_with fail
        refine (eHere_some HRel.out.1.2.1 (HRel.out.2.2.1.below HRel.out.1.2.2.2.1) (by have := HRel.out.2.2.2.2.1; simp only [List.length_cons] at this; omega)).mono ?_
        rintro e w20 ⟨rfl, hB⟩
        have S1 := Lib.hid (HRel.out.1.below hB)
        clear hB
        go_wp2_with fail
        refine (eTake_none S1.out.1 HRel.out.2.1 S1.out.2.2.2.1 _).mono ?_
        rintro e _ ⟨rfl, rfl⟩
        go_wp2_with fail
        refine (eTake_yes S1.out.2.1 HRel.out.2.2.1 (by have := HRel.out.2.2.2.2.1; simp only [List.length_cons] at this; omega) S1.out.2.2.2.1).mono ?_
        rintro e w21 ⟨r1, r2, rfl, hr1, hr2, hT, hK⟩
        obtain ⟨_, _, rfl⟩ := hr1.form
        have Hr := Lib.hid (And.intro hr1 hr2)
        have S2 := Lib.hid (S1.out.takeB HO.out hT hK)
        clear hT hK hr1 hr2
        go_wp2_with fail
        refine (eKind_b _ _ _ y (show Ents _ (.slice none 0 0) [] from Ents.nil _) (Hr.out.1.below S2.out.2.2.2.1)).mono ?_
        rintro e _ ⟨rfl, rfl⟩
        have hszW := S2.out.2.2.2.2
        have hownW := S2.out.2.2.1
        go_wp2_with (at_builtin; refine app_del rfl _ _ rfl bs _ O rfl hownW y.1.1 1 rfl hq6 hszW ?_; intro a8 c8 w8 ho8 hb8)
        have H8 := Lib.hid (S2.out.put ho8 (hb8 _ (Below.refl _ _)) HO.out)
        clear hszW hownW ho8 hb8
        go_roundw
        case rel => exact ⟨[], B'', vA, r2, O ++ [(y.1.1, 1)], H8.out, HRel.out.2.1, Hr.out.2, (by rw [← HRel.out.2.2.2.1, show (diffE (ens []) (ens (y :: B''))) = _ from merge_r _ _]; simp [diffE]), (by have := HRel.out.2.2.2.2.1; rw [List.length_append, show ([(_, _)] : List Dl).length = 1 from rfl]; simp only [List.length_cons] at this ⊢; omega), HRel.out.2.2.2.2.2.2.2⟩
        case measure => exact (by rw [leftE_is H8.out.1 HRel.out.2.1, leftE_is H8.out.2.1 Hr.out.2, HRel.out.2.2.2.2.2.1, HRel.out.2.2.2.2.2.2.1]; simp only [List.length_cons]; omega)
    | cons x A'' =>
      cases B' with
      | nil =>
        clear he ha hb hO hln hlA hlB hc
        go_wp2_with fail
        refine (eHere_some HRel.out.1.1 (HRel.out.2.1.below HRel.out.1.2.2.2.1) (by have := HRel.out.2.2.2.2.1; simp only [List.length_cons] at this; omega)).mono ?_
        rintro e w20 ⟨rfl, hB⟩
        have S1 := Lib.hid (HRel.out.1.below hB)
        clear hB
        go_wp2_with fail
        refine (eHere_none S1.out.2.1 (HRel.out.2.2.1.below S1.out.2.2.2.1)).mono ?_
        rintro e _ ⟨rfl, rfl⟩
        go_wp2_with fail
        refine (eTake_yes S1.out.1 HRel.out.2.1 (by have := HRel.out.2.2.2.2.1; simp only [List.length_cons] at this; omega) S1.out.2.2.2.1).mono ?_
        rintro e w21 ⟨p1, p2, rfl, hp1, hp2, hT, hK⟩
        obtain ⟨_, _, rfl⟩ := hp1.form
        have Hp := Lib.hid (And.intro hp1 hp2)
        have S2 := Lib.hid (S1.out.takeA HO.out hT hK)
        clear hT hK hp1 hp2
        go_wp2_with fail
        refine (eTake_none S2.out.2.1 HRel.out.2.2.1 S2.out.2.2.2.1 _).mono ?_
        rintro e _ ⟨rfl, rfl⟩
        go_wp2_with fail
        refine (eKind_a _ _ _ x (Hp.out.1.below S2.out.2.2.2.1) (show Ents _ (.slice none 0 0) [] from Ents.nil _)).mono ?_
        rintro e _ ⟨rfl, rfl⟩
        have hszW := S2.out.2.2.2.2
        have hownW := S2.out.2.2.1
        go_wp2_with (at_builtin; refine app_del rfl _ _ rfl bs _ O rfl hownW x.1.1 3 rfl hq6 hszW ?_; intro a8 c8 w8 ho8 hb8)
        have H8 := Lib.hid (S2.out.put ho8 (hb8 _ (Below.refl _ _)) HO.out)
        clear hszW hownW ho8 hb8
        go_roundw
        case rel => exact ⟨A'', [], p2, vB, O ++ [(x.1.1, 3)], H8.out, Hp.out.2, HRel.out.2.2.1, (by rw [← HRel.out.2.2.2.1, show (diffE (ens (x :: A'')) (ens [])) = _ from merge_l _ _]; simp [diffE]), (by have := HRel.out.2.2.2.2.1; rw [List.length_append, show ([(_, _)] : List Dl).length = 1 from rfl]; simp only [List.length_cons] at this ⊢; omega), (fun z hz => HRel.out.2.2.2.2.2.2.2 z (List.mem_cons_of_mem _ hz))⟩
        case measure => exact (by rw [leftE_is H8.out.1 Hp.out.2, leftE_is H8.out.2.1 HRel.out.2.2.1, HRel.out.2.2.2.2.2.1, HRel.out.2.2.2.2.2.2.1]; simp only [List.length_cons]; omega)
      | cons y B'' =>
        clear he ha hb hO hln hlA hlB hc
        by_cases hlt : Op.bytesLess x.1.1 y.1.1 = true
        · have hgt : Op.bytesLess y.1.1 x.1.1 = false := less_asymm hlt
          have HLT := Lib.hid hlt
          have HNE := Lib.hid (show y.1.1 ≠ x.1.1 from fun e => by rw [e, less_irrefl] at hlt; cases hlt)
          clear hlt
          go_wp2_with fail
          refine (eHere_some HRel.out.1.1 (HRel.out.2.1.below HRel.out.1.2.2.2.1) (by have := HRel.out.2.2.2.2.1; simp only [List.length_cons] at this; omega)).mono ?_
          rintro e w20 ⟨rfl, hB⟩
          have S1 := Lib.hid (HRel.out.1.below hB)
          clear hB
          go_wp2_with fail
          refine (eHere_some S1.out.2.1 (HRel.out.2.2.1.below S1.out.2.2.2.1) (by have := HRel.out.2.2.2.2.1; simp only [List.length_cons] at this; omega)).mono ?_
          rintro e w21 ⟨rfl, hB⟩
          have S2 := Lib.hid (S1.out.below hB)
          clear hB
          go_wp2_with fail
          refine (eTake_yes S2.out.1 HRel.out.2.1 (by have := HRel.out.2.2.2.2.1; simp only [List.length_cons] at this; omega) S2.out.2.2.2.1).mono ?_
          rintro e w22 ⟨p1, p2, rfl, hp1, hp2, hT, hK⟩
          obtain ⟨_, _, rfl⟩ := hp1.form
          have Hp := Lib.hid (And.intro hp1 hp2)
          have S3 := Lib.hid (S2.out.takeA HO.out hT hK)
          clear hT hK hp1 hp2
          go_wp2_with fail
          refine (eTake_no S3.out.2.1 HRel.out.2.2.1 (by have := HRel.out.2.2.2.2.1; simp only [List.length_cons] at this; omega) S3.out.2.2.2.1 _ HNE.out).mono ?_
          rintro e w23 ⟨rfl, hB⟩
          have S4 := Lib.hid (S3.out.below hB)
          clear hB
          go_wp2_with fail
          refine (eKind_a _ _ _ x (Hp.out.1.below S4.out.2.2.2.1) (show Ents _ (.slice none 0 0) [] from Ents.nil _)).mono ?_
          rintro e _ ⟨rfl, rfl⟩
          have hszW := S4.out.2.2.2.2
          have hownW := S4.out.2.2.1
          go_wp2_with (at_builtin; refine app_del rfl _ _ rfl bs _ O rfl hownW x.1.1 3 rfl hq6 hszW ?_; intro a8 c8 w8 ho8 hb8)
          have H8 := Lib.hid (S4.out.put ho8 (hb8 _ (Below.refl _ _)) HO.out)
          clear hszW hownW ho8 hb8
          go_roundw
          case rel => exact ⟨A'', (y :: B''), p2, vB, O ++ [(x.1.1, 3)], H8.out, Hp.out.2, HRel.out.2.2.1, (by rw [← HRel.out.2.2.2.1, show (diffE (ens (x :: A'')) (ens (y :: B''))) = _ from merge_lt HLT.out]; simp [diffE]), (by have := HRel.out.2.2.2.2.1; rw [List.length_append, show ([(_, _)] : List Dl).length = 1 from rfl]; simp only [List.length_cons] at this ⊢; omega), (fun z hz => HRel.out.2.2.2.2.2.2.2 z (List.mem_cons_of_mem _ hz))⟩
          case measure => exact (by rw [leftE_is H8.out.1 Hp.out.2, leftE_is H8.out.2.1 HRel.out.2.2.1, HRel.out.2.2.2.2.2.1, HRel.out.2.2.2.2.2.2.1]; simp only [List.length_cons]; omega)
        · by_cases hgt : Op.bytesLess y.1.1 x.1.1 = true
          · have HLT := Lib.hid hgt
            have HNE := Lib.hid (show x.1.1 ≠ y.1.1 from fun e => by rw [e, less_irrefl] at hgt; cases hgt)
            clear hlt
            go_wp2_with fail
            refine (eHere_some HRel.out.1.1 (HRel.out.2.1.below HRel.out.1.2.2.2.1) (by have := HRel.out.2.2.2.2.1; simp only [List.length_cons] at this; omega)).mono ?_
            rintro e w20 ⟨rfl, hB⟩
            have S1 := Lib.hid (HRel.out.1.below hB)
            clear hB
            go_wp2_with fail
            refine (eHere_some S1.out.2.1 (HRel.out.2.2.1.below S1.out.2.2.2.1) (by have := HRel.out.2.2.2.2.1; simp only [List.length_cons] at this; omega)).mono ?_
            rintro e w21 ⟨rfl, hB⟩
            have S2 := Lib.hid (S1.out.below hB)
            clear hB
            go_wp2_with fail
            refine (eTake_no S2.out.1 HRel.out.2.1 (by have := HRel.out.2.2.2.2.1; simp only [List.length_cons] at this; omega) S2.out.2.2.2.1 _ HNE.out).mono ?_
            rintro e w22 ⟨rfl, hB⟩
            have S3 := Lib.hid (S2.out.below hB)
            clear hB
            go_wp2_with fail
            refine (eTake_yes S3.out.2.1 HRel.out.2.2.1 (by have := HRel.out.2.2.2.2.1; simp only [List.length_cons] at this; omega) S3.out.2.2.2.1).mono ?_
            rintro e w23 ⟨r1, r2, rfl, hr1, hr2, hT, hK⟩
            obtain ⟨_, _, rfl⟩ := hr1.form
            have Hr := Lib.hid (And.intro hr1 hr2)
            have S4 := Lib.hid (S3.out.takeB HO.out hT hK)
            clear hT hK hr1 hr2
            go_wp2_with fail
            refine (eKind_b _ _ _ y (show Ents _ (.slice none 0 0) [] from Ents.nil _) (Hr.out.1.below S4.out.2.2.2.1)).mono ?_
            rintro e _ ⟨rfl, rfl⟩
            have hszW := S4.out.2.2.2.2
            have hownW := S4.out.2.2.1
            go_wp2_with (at_builtin; refine app_del rfl _ _ rfl bs _ O rfl hownW y.1.1 1 rfl hq6 hszW ?_; intro a8 c8 w8 ho8 hb8)
            have H8 := Lib.hid (S4.out.put ho8 (hb8 _ (Below.refl _ _)) HO.out)
            clear hszW hownW ho8 hb8
            go_roundw
            case rel => exact ⟨(x :: A''), B'', vA, r2, O ++ [(y.1.1, 1)], H8.out, HRel.out.2.1, Hr.out.2, (by rw [← HRel.out.2.2.2.1, show (diffE (ens (x :: A'')) (ens (y :: B''))) = _ from merge_gt HLT.out]; simp [diffE]), (by have := HRel.out.2.2.2.2.1; rw [List.length_append, show ([(_, _)] : List Dl).length = 1 from rfl]; simp only [List.length_cons] at this ⊢; omega), HRel.out.2.2.2.2.2.2.2⟩
            case measure => exact (by rw [leftE_is H8.out.1 HRel.out.2.1, leftE_is H8.out.2.1 Hr.out.2, HRel.out.2.2.2.2.2.1, HRel.out.2.2.2.2.2.2.1]; simp only [List.length_cons]; omega)
          · have hgt : Op.bytesLess y.1.1 x.1.1 = false := by simpa using hgt
            have HEQ2 := Lib.hid (same_key (key := fun z : Ev => z.1.1) hlt (by rw [hgt]; simp) : x.1.1 = y.1.1)
            have HEQ := HEQ2
            clear hlt
            go_wp2_with fail
            refine (eHere_some HRel.out.1.1 (HRel.out.2.1.below HRel.out.1.2.2.2.1) (by have := HRel.out.2.2.2.2.1; simp only [List.length_cons] at this; omega)).mono ?_
            rintro e w20 ⟨rfl, hB⟩
            have S1 := Lib.hid (HRel.out.1.below hB)
            clear hB
            go_wp2_with fail
            refine (eHere_some S1.out.2.1 (HRel.out.2.2.1.below S1.out.2.2.2.1) (by have := HRel.out.2.2.2.2.1; simp only [List.length_cons] at this; omega)).mono ?_
            rintro e w21 ⟨rfl, hB⟩
            have S2 := Lib.hid (S1.out.below hB)
            clear hB
            go_wp2_with fail
            refine (eTake_yes S2.out.1 HRel.out.2.1 (by have := HRel.out.2.2.2.2.1; simp only [List.length_cons] at this; omega) S2.out.2.2.2.1).mono ?_
            rintro e w22 ⟨p1, p2, rfl, hp1, hp2, hT, hK⟩
            obtain ⟨_, _, rfl⟩ := hp1.form
            have Hp := Lib.hid (And.intro hp1 hp2)
            have S3 := Lib.hid (S2.out.takeA HO.out hT hK)
            clear hT hK hp1 hp2
            go_wp2_with fail
            rw [HEQ.out]
            refine (eTake_yes S3.out.2.1 HRel.out.2.2.1 (by have := HRel.out.2.2.2.2.1; simp only [List.length_cons] at this; omega) S3.out.2.2.2.1).mono ?_
            rintro e w23 ⟨r1, r2, rfl, hr1, hr2, hT, hK⟩
            obtain ⟨_, _, rfl⟩ := hr1.form
            have Hr := Lib.hid (And.intro hr1 hr2)
            have S4 := Lib.hid (S3.out.takeB HO.out hT hK)
            clear hT hK hr1 hr2
            go_wp2_with fail
            refine (eKind_both _ _ _ x y (Hp.out.1.below S4.out.2.2.2.1) (Hr.out.1.below S4.out.2.2.2.1) (HRel.out.2.2.2.2.2.2.2 _ (by simp))).mono ?_
            rintro e w40 ⟨rfl, hB⟩
            have S5 := Lib.hid (S4.out.below hB)
            clear hB
            obtain ⟨kz, hkz⟩ : ∃ k, (chgE x.1 y.1) = k := ⟨_, rfl⟩
            rw [hkz]
            have HKZ := Lib.hid hkz
            clear hkz
            by_cases hz : kz = 0
            · subst hz
              go_wp2_with fail
              go_roundw
              case rel => exact ⟨A'', B'', p2, r2, O, S5.out, Hp.out.2, Hr.out.2, (by rw [← HRel.out.2.2.2.1, show (diffE (ens (x :: A'')) (ens (y :: B''))) = _ from merge_eq HEQ2.out]; rw [show oneD _ ((chgE x.1 y.1)) = [] from if_pos HKZ.out, List.nil_append]; all_goals rfl), (by have := HRel.out.2.2.2.2.1; simp only [List.length_cons] at this ⊢; omega), (fun z hz => HRel.out.2.2.2.2.2.2.2 z (List.mem_cons_of_mem _ hz))⟩
              case measure => exact (by rw [leftE_is S5.out.1 Hp.out.2, leftE_is S5.out.2.1 Hr.out.2, HRel.out.2.2.2.2.2.1, HRel.out.2.2.2.2.2.2.1]; simp only [List.length_cons]; omega)
            · have hz1 : (kz == 0) = false := by rw [beq_eq_false_iff_ne]; exact hz
              have HZ := Lib.hid hz
              clear hz
              have hszW := S5.out.2.2.2.2
              have hownW := S5.out.2.2.1
              go_wp2_with (at_builtin; refine app_del rfl _ _ rfl bs _ O rfl hownW y.1.1 (kz) rfl hq6 hszW ?_; intro a8 c8 w8 ho8 hb8)
              have H8 := Lib.hid (S5.out.put ho8 (hb8 _ (Below.refl _ _)) HO.out)
              clear hszW hownW ho8 hb8
              go_roundw
              case rel => exact ⟨A'', B'', p2, r2, O ++ [(y.1.1, kz)], H8.out, Hp.out.2, Hr.out.2, (by rw [← HRel.out.2.2.2.1, show (diffE (ens (x :: A'')) (ens (y :: B''))) = _ from merge_eq HEQ2.out]; rw [HEQ2.out, show oneD _ ((chgE x.1 y.1)) = [(_, kz)] from (if_neg (HKZ.out ▸ HZ.out)).trans (by rw [HKZ.out])]; simp [diffE]), (by have := HRel.out.2.2.2.2.1; rw [List.length_append, show ([(_, _)] : List Dl).length = 1 from rfl]; simp only [List.length_cons] at this ⊢; omega), (fun z hz => HRel.out.2.2.2.2.2.2.2 z (List.mem_cons_of_mem _ hz))⟩
              case measure => exact (by rw [leftE_is H8.out.1 Hp.out.2, leftE_is H8.out.2.1 Hr.out.2, HRel.out.2.2.2.2.2.1, HRel.out.2.2.2.2.2.2.1]; simp only [List.length_cons]; omega)

end Go.Proofs.YtogicnciheedoaaDoor

/-
  diff.through over deltas: one row, gone through by two closures.
-/
namespace Go.Proofs.YtogicnciheedoaaDoor
set_option maxRecDepth 100000
open Go.RowKit

theorem dls_elem : Tryd.prog.elem 23 = 38 := by kernel_rfl
theorem dls_from {w : World} {ao : Option Addr} {n cap : Nat} {S : List Dl} (h : Dls w (.slice ao n cap) S) (i m : Nat) (hi : i ≤ n) (hm : i + m = n) :
    ∃ a1 c1, (∀ W, (Instr.slice 23 (.slice ao n cap) (some (.int .i64 (i : Int))) none none).run Tryd.prog W = .ok (.slice a1 m c1) W) ∧ Dls w (.slice a1 m c1) (S.drop i) :=
  rowOf_from dcell_k (by rw [dls_elem]; exact Tryd.underlying23) (size_of (by rw [dls_elem]; kernel_rfl)) h i m hi hm
theorem dls_to {w : World} {ao : Option Addr} {n cap : Nat} {S : List Dl} (h : Dls w (.slice ao n cap) S) (i : Nat) (hi : i ≤ n) :
    (∀ W, (Instr.slice 23 (.slice ao n cap) none (some (.int .i64 (i : Int))) none).run Tryd.prog W = .ok (.slice ao i cap) W) ∧ Dls w (.slice ao i cap) (S.take i) :=
  rowOf_to dcell_k (by rw [dls_elem]; exact Tryd.underlying23) (size_of (by rw [dls_elem]; kernel_rfl)) h i hi

theorem dPath_calls (x : Dl) (w : World) : Calls Tryd.prog 22 #[.agg #[.string ⟨x.1.toArray⟩, .int .i64 x.2]] w fun e w' => e = .returned (.string ⟨x.1.toArray⟩) ∧ Below w.heap.size w w' := by
  obtain ⟨p, n⟩ := x
  have hB := below_alloc w (.cells #[.string ⟨p.toArray⟩, .int .i64 n] 38)
  go_enter Tryd.func22, Tryd.ntmps22
  go_wp2_with fail
  go_ret
  exact ⟨rfl, hB⟩

/-- The closures' boxes: the row that is left, what tells a path, the first closure. -/
abbrev HvD (g : Nat) : Value := .func (.func 34) #[] #[.pointer (some ⟨g, 0, none⟩), .pointer (some ⟨g + 1, 0, none⟩)]
abbrev TvD (g : Nat) : Value := .func (.func 35) #[] #[.pointer (some ⟨g + 2, 0, none⟩), .pointer (some ⟨g, 0, none⟩)]
def ThrD (w : World) (g : Nat) (v : Value) : Prop := Boxed w g 23 v ∧ Boxed w (g + 1) 45 (.func (.func 22) #[] #[]) ∧ Boxed w (g + 2) 50 (HvD g)
theorem ThrD.below {w w' : World} {g : Nat} {v : Value} (h : ThrD w g v) (hb : Below w.heap.size w w') : ThrD w' g v := ⟨boxed_stays h.1 hb, boxed_stays h.2.1 hb, boxed_stays h.2.2 hb⟩
theorem ThrD.keeps {w w' : World} {g k : Nat} {v : Value} (h : ThrD w g v) (hk : Keeps k w w') (h0 : k < g ∨ g + 2 < k) : ThrD w' g v := ⟨boxed_keeps h.1 hk (by omega), boxed_keeps h.2.1 hk (by omega), boxed_keeps h.2.2 hk (by omega)⟩

theorem dHere_none {w : World} {g : Nat} {v : Value} (hT : ThrD w g v) (h : Dls w v []) : Calls Tryd.prog 34 #[.pointer (some ⟨g, 0, none⟩), .pointer (some ⟨g + 1, 0, none⟩)] w fun e w' => e = .returned (.tuple #[.string ⟨#[]⟩, .bool false]) ∧ w = w' := by
  obtain ⟨ao, cap, rfl⟩ := h.form
  have c0 := hT.1.cell
  clear hT h
  go_enter Tryd.func34, Tryd.ntmps34
  go_wp2_with fail
  go_ret2
  exact ⟨rfl, rfl⟩
set_option maxHeartbeats 4000000 in
theorem dHere_some {w : World} {g : Nat} {v : Value} {x : Dl} {S : List Dl} (hT : ThrD w g v) (h : Dls w v (x :: S)) (hl : S.length ≤ 1000000) : Calls Tryd.prog 34 #[.pointer (some ⟨g, 0, none⟩), .pointer (some ⟨g + 1, 0, none⟩)] w fun e w' => e = .returned (.tuple #[.string ⟨x.1.toArray⟩, .bool true]) ∧ Below w.heap.size w w' := by
  obtain ⟨ao, cap, rfl⟩ := h.form
  obtain ⟨b, off, rfl, e0, e1⟩ := dls_at h (i := 0) (by simp)
  rw [Nat.zero_mul, Nat.add_zero] at e0 e1
  dsimp only [List.getElem_cons_zero] at e0 e1
  obtain ⟨p, n⟩ := x
  dsimp only at e0 e1
  have c0 := hT.1.cell
  have c1 := hT.2.1.cell
  have hne : (((S.length + 1 : Nat) : Int) == 0) = false := by rw [beq_eq_false_iff_ne]; omega
  rw [List.length_cons] at c0
  obtain ⟨q, hq⟩ : ∃ q, S.length + 1 = q := ⟨_, rfl⟩
  have hq2 : q ≤ 1000001 := by omega
  have hlt : 0 < q := by omega
  rw [hq] at c0 hne
  have HC := Lib.hid (fun W (hW : Below w.heap.size w W) => (And.intro (look_below hW c0) (And.intro (look_below hW c1) (And.intro (look_below hW e0) (look_below hW e1))) : W.cell? ⟨g, 0, none⟩ = some (.slice (some ⟨b, off, none⟩) q cap) ∧ W.cell? ⟨g + 1, 0, none⟩ = some (.func (.func 22) #[] #[]) ∧ W.cell? ⟨b, off, none⟩ = some (.string ⟨p.toArray⟩) ∧ W.cell? ⟨b, off + 1, none⟩ = some (.int .i64 n)))
  have KP := Lib.hid (fun W => dPath_calls (p, n) W)
  clear hT h hq hl
  go_enter Tryd.func34, Tryd.ntmps34
  go_wp2_with fail
  have hbr : Below w.heap.size w w.drew := drew_below _
  go_region_held3 (fun w' => w'.cell? ⟨g, 0, none⟩ = some (.slice (some ⟨b, off, none⟩) q cap) ∧ w'.cell? ⟨g + 1, 0, none⟩ = some (.func (.func 22) #[] #[]) ∧ w'.cell? ⟨b, off, none⟩ = some (.string ⟨p.toArray⟩) ∧ w'.cell? ⟨b, off + 1, none⟩ = some (.int .i64 n)) (exact HC.out _ hbr) (first
    | (go_at_call 22; (with_reducible refine (KP.out _).mono ?_); rintro e w3 ⟨rfl, hB3⟩; have hbr := below2 hbr hB3))
  all_goals
    go_wp2_with fail
    go_ret2
    exact ⟨rfl, hbr⟩

set_option maxHeartbeats 2000000 in
theorem dTake_none {w w0 : World} {g : Nat} {v : Value} (hT : ThrD w g v) (h : Dls w0 v []) (hB : Below w0.heap.size w0 w) (p : List UInt8) : Calls Tryd.prog 35 #[.string ⟨p.toArray⟩, .pointer (some ⟨g + 2, 0, none⟩), .pointer (some ⟨g, 0, none⟩)] w fun e w' => e = .returned (.slice none 0 0) ∧ w = w' := by
  have K := Lib.hid (dHere_none hT (h.below hB))
  have c2 : w.cell? ⟨g + 2, 0, none⟩ = some (.func (.func 34) #[] #[.pointer (some ⟨g, 0, none⟩), .pointer (some ⟨g + 1, 0, none⟩)]) := hT.2.2.cell
  clear hT h hB
  go_enter Tryd.func35, Tryd.ntmps35
  go_wp2_with fail
  refine K.out.mono ?_
  rintro e w1 ⟨rfl, rfl⟩
  go_wp2_with fail
  go_ret
  exact ⟨rfl, rfl⟩
set_option maxHeartbeats 2000000 in
theorem dTake_no {w w0 : World} {g : Nat} {v : Value} {x : Dl} {S : List Dl} (hT : ThrD w g v) (h : Dls w0 v (x :: S)) (hl : S.length ≤ 1000000) (hB : Below w0.heap.size w0 w) (p : List UInt8) (hp : x.1 ≠ p) : Calls Tryd.prog 35 #[.string ⟨p.toArray⟩, .pointer (some ⟨g + 2, 0, none⟩), .pointer (some ⟨g, 0, none⟩)] w fun e w' => e = .returned (.slice none 0 0) ∧ Below w.heap.size w w' := by
  have K := Lib.hid (dHere_some hT (h.below hB) hl)
  have c2 : w.cell? ⟨g + 2, 0, none⟩ = some (.func (.func 34) #[] #[.pointer (some ⟨g, 0, none⟩), .pointer (some ⟨g + 1, 0, none⟩)]) := hT.2.2.cell
  generalize x.1 = q at *
  have hq : (q == p) = false := by rw [beq_eq_false_iff_ne]; exact hp
  clear hT h hB hp
  go_enter Tryd.func35, Tryd.ntmps35
  go_wp2_with fail
  refine K.out.mono ?_
  rintro e w1 ⟨rfl, hB1⟩
  go_wp2_with fail
  go_ret
  exact ⟨rfl, hB1⟩
set_option maxHeartbeats 2000000 in
theorem dTake_yes {w w0 : World} {g : Nat} {v : Value} {x : Dl} {S : List Dl} (hT : ThrD w g v) (h : Dls w0 v (x :: S)) (hl : S.length ≤ 1000000) (hB : Below w0.heap.size w0 w) : Calls Tryd.prog 35 #[.string ⟨x.1.toArray⟩, .pointer (some ⟨g + 2, 0, none⟩), .pointer (some ⟨g, 0, none⟩)] w fun e w' => ∃ v1 v2, e = .returned v1 ∧ Dls w0 v1 [x] ∧ Dls w0 v2 S ∧ ThrD w' g v2 ∧ Keeps g w w' := by
  have K := Lib.hid (dHere_some hT (h.below hB) hl)
  have c2 : w.cell? ⟨g + 2, 0, none⟩ = some (.func (.func 34) #[] #[.pointer (some ⟨g, 0, none⟩), .pointer (some ⟨g + 1, 0, none⟩)]) := hT.2.2.cell
  obtain ⟨ao, cap, rfl⟩ := h.form
  obtain ⟨a1, c1, hs1, hf⟩ := dls_from h 1 S.length (by simp) (by simp; omega)
  obtain ⟨hs2, ht⟩ := dls_to h 1 (by simp)
  have HF := Lib.hid (And.intro hf ht)
  have HT := Lib.hid hT
  generalize x.1 = q at *
  obtain ⟨nl, hnl⟩ : ∃ n, (x :: S).length = n := ⟨_, rfl⟩
  obtain ⟨ns, hns⟩ : ∃ n, S.length = n := ⟨_, rfl⟩
  rw [hnl] at hs1 hs2 HT
  rw [hns] at hs1 HF
  replace hs1 : ∀ W, (Instr.slice 23 (.slice ao nl cap) (some (.int .i64 1)) none none).run Tryd.prog W = .ok (.slice a1 ns c1) W := hs1
  replace hs2 : ∀ W, (Instr.slice 23 (.slice ao nl cap) none (some (.int .i64 1)) none).run Tryd.prog W = .ok (.slice ao 1 cap) W := hs2
  clear hT h hB hf ht hnl hns hl
  go_enter Tryd.func35, Tryd.ntmps35
  go_wp2_with fail
  refine K.out.mono ?_
  rintro e w1 ⟨rfl, hB1⟩
  have HT1 := Lib.hid (HT.out.below hB1)
  have c0 := HT1.out.1.cell
  have f0 := HT1.out.1.frozen
  have HK := Lib.hid ((Keeps.below g hB1).set 0 (.slice a1 ns c1))
  clear hB1
  go_wp2_with fail
  go_ret
  exact ⟨_, _, rfl, HF.out.2, HF.out.1, ⟨HT1.out.1.set _, HT1.out.2.1.other (by omega) _, HT1.out.2.2.other (by omega) _⟩, HK.out⟩

set_option maxHeartbeats 2000000 in
theorem dThrough_calls (v : Value) (S : List Dl) (w : World) (h : Dls w v S) : Calls Tryd.prog 31 #[v, .func (.func 22) #[] #[]] w fun e w' => ∃ g, e = .returned (.tuple #[HvD g, TvD g]) ∧ ThrD w' g v ∧ w.heap.size ≤ g ∧ Below w.heap.size w w' := by
  obtain ⟨ao, cap, rfl⟩ := h.form
  obtain ⟨n, hn⟩ : ∃ n, S.length = n := ⟨_, rfl⟩
  rw [hn]
  have hmf : ∀ (fn : Fn) (first cap : Array Value) (w : World), (Instr.makeFunc fn first cap).run Tryd.prog w = .ok (.func fn first cap) w := fun _ _ _ _ => rfl
  have b2 := Boxed.new ((w.alloc (.cells #[.slice ao n cap] 23)).alloc (.cells #[.func (.func 22) #[] #[]] 45)) 50 .nilFunc
  rw [World.size_alloc, World.size_alloc] at b2
  have c2 := b2.cell
  have f2 := b2.frozen
  have d0 := ((Boxed.new w 23 (.slice ao n cap)).alloc (.cells #[.func (.func 22) #[] #[]] 45)).alloc (.cells #[HvD w.heap.size] 50)
  have d1 := (Boxed.new (w.alloc (.cells #[.slice ao n cap] 23)) 45 (.func (.func 22) #[] #[])).alloc (.cells #[HvD w.heap.size] 50)
  have d2 := Boxed.new ((w.alloc (.cells #[.slice ao n cap] 23)).alloc (.cells #[.func (.func 22) #[] #[]] 45)) 50 (HvD w.heap.size)
  have hB := below_alloc3 w (.cells #[.slice ao n cap] 23) (.cells #[.func (.func 22) #[] #[]] 45) (.cells #[HvD w.heap.size] 50)
  rw [World.size_alloc] at d1
  rw [World.size_alloc, World.size_alloc] at d2
  have HH := Lib.hid (And.intro d0 (And.intro d1 (And.intro d2 hB)))
  clear h hn b2 d0 d1 d2 hB
  go_enter Tryd.func31, Tryd.ntmps31
  go_wp2_with fail
  exact ret_func2 rfl rfl _ _ _ rfl rfl HH.out.2.2.1.cell (by simp [isAgg, run_underlying Tryd.underlying50]) ⟨_, rfl, ⟨HH.out.1, HH.out.2.1, HH.out.2.2.1⟩, Nat.le_refl _, HH.out.2.2.2⟩

end Go.Proofs.YtogicnciheedoaaDoor

/-
  diff.Then$2: the kind of a path, by what each row has of it.
-/
namespace Go.Proofs.YtogicnciheedoaaDoor
set_option maxRecDepth 100000
open Go.RowKit

theorem then_zero_a {n : Int} (h : 1 ≤ n) : thenN n 0 = n := by unfold thenN; rw [if_neg (by omega), if_pos rfl]
theorem then_zero_b (n : Int) : thenN 0 n = n := by unfold thenN; rw [if_pos rfl]
theorem then_both {m n : Int} (h : 1 ≤ m) (k : 1 ≤ n) : thenN m n = bothN m n := by unfold thenN; rw [if_neg (by omega), if_neg (by omega)]
theorem dKind_b (va vb : Value) (w : World) (y : Dl) (ha : Dls w va []) (hb : Dls w vb [y]) (hy : 1 ≤ y.2 ∧ y.2 ≤ 3) (hk : KiOk w) : Calls Tryd.prog 24 #[va, vb] w fun e w' => e = .returned (.int .i64 y.2) ∧ w = w' := by
  have K1 := Lib.hid (kindOf_none va w ha)
  have K2 := Lib.hid (kindOf_one vb y w hb)
  have K3 := Lib.hid (together_calls 0 y.2 (by omega) (by omega) w hk)
  rw [then_zero_b] at K3
  generalize y.2 = n at *
  clear ha hb hk
  go_enter Tryd.func24, Tryd.ntmps24
  go_wp2_with fail
  refine K1.out.mono ?_
  rintro e w1 ⟨rfl, rfl⟩
  go_wp2_with fail
  refine K2.out.mono ?_
  rintro e w1 ⟨rfl, rfl⟩
  go_wp2_with fail
  refine K3.out.mono ?_
  rintro e w1 ⟨rfl, rfl⟩
  go_wp2_with fail
  go_ret
  exact ⟨rfl, rfl⟩
theorem dKind_a (va vb : Value) (w : World) (x : Dl) (ha : Dls w va [x]) (hb : Dls w vb []) (hx : 1 ≤ x.2 ∧ x.2 ≤ 3) (hk : KiOk w) : Calls Tryd.prog 24 #[va, vb] w fun e w' => e = .returned (.int .i64 x.2) ∧ w = w' := by
  have K1 := Lib.hid (kindOf_one va x w ha)
  have K2 := Lib.hid (kindOf_none vb w hb)
  have K3 := Lib.hid (together_calls x.2 0 (by omega) (by omega) w hk)
  rw [then_zero_a hx.1] at K3
  generalize x.2 = n at *
  clear ha hb hk
  go_enter Tryd.func24, Tryd.ntmps24
  go_wp2_with fail
  refine K1.out.mono ?_
  rintro e w1 ⟨rfl, rfl⟩
  go_wp2_with fail
  refine K2.out.mono ?_
  rintro e w1 ⟨rfl, rfl⟩
  go_wp2_with fail
  refine K3.out.mono ?_
  rintro e w1 ⟨rfl, rfl⟩
  go_wp2_with fail
  go_ret
  exact ⟨rfl, rfl⟩
theorem dKind_both (va vb : Value) (w : World) (x y : Dl) (ha : Dls w va [x]) (hb : Dls w vb [y]) (hx : 1 ≤ x.2 ∧ x.2 ≤ 3) (hy : 1 ≤ y.2 ∧ y.2 ≤ 3) (hk : KiOk w) : Calls Tryd.prog 24 #[va, vb] w fun e w' => e = .returned (.int .i64 (bothN x.2 y.2)) ∧ w = w' := by
  have K1 := Lib.hid (kindOf_one va x w ha)
  have K2 := Lib.hid (kindOf_one vb y w hb)
  have K3 := Lib.hid (together_calls x.2 y.2 (by omega) (by omega) w hk)
  rw [then_both hx.1 hy.1] at K3
  generalize x.2 = m at *
  generalize y.2 = n at *
  generalize bothN m n = z at *
  clear ha hb hk
  go_enter Tryd.func24, Tryd.ntmps24
  go_wp2_with fail
  refine K1.out.mono ?_
  rintro e w1 ⟨rfl, rfl⟩
  go_wp2_with fail
  refine K2.out.mono ?_
  rintro e w1 ⟨rfl, rfl⟩
  go_wp2_with fail
  refine K3.out.mono ?_
  rintro e w1 ⟨rfl, rfl⟩
  go_wp2_with fail
  go_ret
  exact ⟨rfl, rfl⟩

end Go.Proofs.YtogicnciheedoaaDoor

/-
  diff.eachPath over deltas: two rows gone through side by side.
-/
namespace Go.Proofs.YtogicnciheedoaaDoor
set_option maxRecDepth 100000
open Go.RowKit

/-- How much is left of a row, as its box tells. -/
def leftD (w : World) (g : Nat) : Nat := match w.cell? ⟨g, 0, none⟩ with | some (.slice _ n _) => n | _ => 0
theorem leftD_is {w w0 : World} {g : Nat} {v : Value} {S : List Dl} (h : ThrD w g v) (hs : Dls w0 v S) : leftD w g = S.length := by
  obtain ⟨ao, cap, rfl⟩ := hs.form
  unfold leftD
  rw [h.1.cell]
/-- What holds in eachPath's loop. -/
def EaD (w : World) (gA gB bs : Nat) (u vA vB : Value) (O : List Dl) (W : World) : Prop := ThrD W gA vA ∧ ThrD W gB vB ∧ OwnDl W bs u O ∧ Below w.heap.size w W ∧ bs ≤ W.heap.size
/-- The order of the blocks. -/
def OrD (w : World) (gA gB bs : Nat) : Prop := w.heap.size ≤ gA ∧ gA + 2 < gB ∧ gB + 2 < bs
theorem EaD.below {w : World} {gA gB bs : Nat} {u vA vB : Value} {O : List Dl} {W W' : World} (h : EaD w gA gB bs u vA vB O W) (hb : Below W.heap.size W W') : EaD w gA gB bs u vA vB O W' :=
  ⟨h.1.below hb, h.2.1.below hb, h.2.2.1.stays hb, below2 h.2.2.2.1 hb, Nat.le_trans h.2.2.2.2 hb.size⟩
theorem EaD.takeA {w : World} {gA gB bs : Nat} {u vA vA' vB : Value} {O : List Dl} {W W' : World} (h : EaD w gA gB bs u vA vB O W) (ho : OrD w gA gB bs) (hT : ThrD W' gA vA') (hk : Keeps gA W W') : EaD w gA gB bs u vA' vB O W' := by
  obtain ⟨o1, o2, o3⟩ := ho
  exact ⟨hT, h.2.1.keeps hk (by omega), h.2.2.1.kept hk (.inr fun e => by have := (h.2.2.1.lt _ e).1; omega), hk.on h.2.2.2.1 o1 h.2.2.2.1.size, Nat.le_trans h.2.2.2.2 hk.size⟩
theorem EaD.takeB {w : World} {gA gB bs : Nat} {u vA vB vB' : Value} {O : List Dl} {W W' : World} (h : EaD w gA gB bs u vA vB O W) (ho : OrD w gA gB bs) (hT : ThrD W' gB vB') (hk : Keeps gB W W') : EaD w gA gB bs u vA vB' O W' := by
  obtain ⟨o1, o2, o3⟩ := ho
  exact ⟨h.1.keeps hk (by omega), hT, h.2.2.1.kept hk (.inr fun e => by have := (h.2.2.1.lt _ e).1; omega), hk.on h.2.2.2.1 (by omega) h.2.2.2.1.size, Nat.le_trans h.2.2.2.2 hk.size⟩
theorem EaD.put {w : World} {gA gB bs : Nat} {u u' vA vB : Value} {O O' : List Dl} {W W' : World} (h : EaD w gA gB bs u vA vB O W) (ho : OwnDl W' bs u' O') (hb : Below bs W W') (o : OrD w gA gB bs) : EaD w gA gB bs u' vA vB O' W' := by
  obtain ⟨o1, o2, o3⟩ := o
  have hx : ∀ {b t x}, b < bs → Boxed W b t x → Boxed W' b t x := fun hlt hh => (hb.block _ hlt).trans hh
  refine ⟨⟨hx (by omega) h.1.1, hx (by omega) h.1.2.1, hx (by omega) h.1.2.2⟩, ⟨hx (by omega) h.2.1.1, hx (by omega) h.2.1.2.1, hx (by omega) h.2.1.2.2⟩, ho, h.2.2.2.1.trans (hb.mono (by omega)), Nat.le_trans h.2.2.2.2 hb.size⟩

set_option maxHeartbeats 32000000 in
theorem dEach_calls (va vb : Value) (A B : List Dl) (w : World) (ha : Dls w va A) (hb : Dls w vb B) (hla : A.length ≤ 2000) (hlb : B.length ≤ 2000) (hc : KindD A) (hcb : KindD B) (hki : KiOk w) :
    Calls Tryd.prog 23 #[va, vb, .func (.func 22) #[] #[], .func (.func 24) #[] #[]] w fun e w' => ∃ u, e = .returned u ∧ OwnDl w' w.heap.size u (thenL A B) ∧ Below w.heap.size w w' := by
  obtain ⟨ao, ca, rfl⟩ := ha.form
  obtain ⟨bo, cb, rfl⟩ := hb.form
  have KT := Lib.hid (fun (v : Value) (S : List Dl) W (h : Dls W v S) => dThrough_calls v S W h)
  obtain ⟨nA, hnA⟩ : ∃ n, A.length = n := ⟨_, rfl⟩
  obtain ⟨nB, hnB⟩ : ∃ n, B.length = n := ⟨_, rfl⟩
  have HL := Lib.hid (show A.length + B.length ≤ 4000 by omega)
  have HK := Lib.hid hc
  have HKB := Lib.hid hcb
  have HKI := Lib.hid hki
  rw [hnA] at ha ⊢
  rw [hnB] at hb ⊢
  have HA := Lib.hid ha
  have HB := Lib.hid hb
  clear ha hb hla hlb hc hnA hnB hcb hki
  go_enter Tryd.func23, Tryd.ntmps23
  go_wp2_with fail
  refine (KT.out _ _ _ HA.out).mono ?_
  rintro e w1 ⟨gA, rfl, hT1, hg1, hB1⟩
  have H1 := Lib.hid (And.intro hT1 (And.intro hg1 hB1))
  clear hT1 hg1 hB1
  go_wp2_with fail
  refine (KT.out _ _ _ (HB.out.below H1.out.2.2)).mono ?_
  rintro e w2 ⟨gB, rfl, hT2, hg2, hB2⟩
  have HO := Lib.hid (show OrD w gA gB w2.heap.size from ⟨H1.out.2.1, Nat.lt_of_lt_of_le H1.out.1.2.2.lt hg2, hT2.2.2.lt⟩)
  obtain ⟨bs, hbs⟩ : ∃ n, w2.heap.size = n := ⟨_, rfl⟩
  have HE := Lib.hid (show EaD w gA gB w2.heap.size (.slice none 0 0) (.slice ao nA ca) (.slice bo nB cb) [] w2 from ⟨H1.out.1.below hB2, hT2, OwnOf.nil _ _, below2 H1.out.2.2 hB2, Nat.le_refl _⟩)
  rw [hbs] at HE HO
  clear hT2 hg2 hB2 hbs H1
  go_wp2_with fail

  go_loopw [9] (fun u wr => ∃ (A' B' : List Dl) (vA vB : Value) (O : List Dl), EaD w gA gB bs u vA vB O wr ∧ Dls w vA A' ∧ Dls w vB B' ∧ O ++ thenL A' B' = thenL A B ∧ O.length + A'.length + B'.length ≤ 4000 ∧ (KindD A') ∧ (KindD B')) (fun _ wr => leftD wr gA + leftD wr gB)
  case atStart => exact ⟨A, B, _, _, [], HE.out, HA.out, HB.out, rfl, by have := HL.out; simpa using this, HK.out, HKB.out⟩
  case round =>
    obtain ⟨A', B', vA, vB, O, he, ha, hb, hO, hln, hc, hcb⟩ := hrel
    have hlA := leftD_is he.1 ha
    have hlB := leftD_is he.2.1 hb
    obtain ⟨au, cu, rfl⟩ := he.2.2.1.form
    have hsz := Nat.le_trans (show w.heap.size ≤ bs by have := HO.out; unfold OrD at this; omega) he.2.2.2.2
    have hq6 : O.length < 1000000 := by omega
    have HRel := Lib.hid (And.intro he (And.intro ha (And.intro hb (And.intro hO (And.intro hln (And.intro hlA (And.intro hlB hc)))))))
    have HKB' := Lib.hid hcb
    cases A' with
    | nil =>
      cases B' with
      | nil =>
        clear he ha hb hO hln hlA hlB hc hcb
        go_wp2_with fail
        refine (dHere_none HRel.out.1.1 (HRel.out.2.1.below HRel.out.1.2.2.2.1)).mono ?_
        rintro e _ ⟨rfl, rfl⟩
        go_wp2_with fail
        refine (dHere_none HRel.out.1.2.1 (HRel.out.2.2.1.below HRel.out.1.2.2.2.1)).mono ?_
        rintro e _ ⟨rfl, rfl⟩
        go_wp2_with fail
        go_ret
        exact ⟨_, rfl, (by have h := HRel.out.2.2.2.1; have hh : thenL [] [] = [] := merge_nil; rw [hh, List.append_nil] at h; rw [← h]; exact HRel.out.1.2.2.1.weak (show w.heap.size ≤ bs by have := HO.out; unfold OrD at this; omega)), HRel.out.1.2.2.2.1⟩
      | cons y B'' =>
        clear he ha hb hO hln hlA hlB hc hcb
        go_wp2_with fail
        refine (dHere_none HRel.out.1.1 (HRel.out.2.1.below HRel.out.1.2.2.2.1)).mono ?_
        rintro e _ ⟨rfl, rfl⟩
        go_wp2_with fail
        refine (dHere_some HRel.out.1.2.1 (HRel.out.2.2.1.below HRel.out.1.2.2.2.1) (by have := HRel.out.2.2.2.2.1; simp only [List.length_cons] at this; omega)).mono ?_
        rintro e w20 ⟨rfl, hB⟩
        have S1 := Lib.hid (HRel.out.1.below hB)
        clear hB
        go_wp2_with fail
        refine (dTake_none S1.out.1 HRel.out.2.1 S1.out.2.2.2.1 _).mono ?_
        rintro e _ ⟨rfl, rfl⟩
        go_wp2_with fail
        refine (dTake_yes S1.out.2.1 HRel.out.2.2.1 (by have := HRel.out.2.2.2.2.1; simp only [List.length_cons] at this; omega) S1.out.2.2.2.1).mono ?_
        rintro e w21 ⟨r1, r2, rfl, hr1, hr2, hT, hK⟩
        obtain ⟨_, _, rfl⟩ := hr1.form
        have Hr := Lib.hid (And.intro hr1 hr2)
        have S2 := Lib.hid (S1.out.takeB HO.out hT hK)
        clear hT hK hr1 hr2
        go_wp2_with fail
        refine (dKind_b _ _ _ y (show Dls _ (.slice none 0 0) [] from RowOf.nil _) (Hr.out.1.below S2.out.2.2.2.1) (HKB'.out _ (by simp)) (HKI.out.below S2.out.2.2.2.1)).mono ?_
        rintro e _ ⟨rfl, rfl⟩
        have hz1 : (y.2 == 0) = false := by rw [beq_eq_false_iff_ne]; have := HKB'.out _ (List.mem_cons_self (a := y)); omega
        have hszW := S2.out.2.2.2.2
        have hownW := S2.out.2.2.1
        go_wp2_with (at_builtin; refine app_del rfl _ _ rfl bs _ O rfl hownW y.1 (y.2) rfl hq6 hszW ?_; intro a8 c8 w8 ho8 hb8)
        have H8 := Lib.hid (S2.out.put ho8 (hb8 _ (Below.refl _ _)) HO.out)
        clear hszW hownW ho8 hb8
        go_roundw
        case rel => exact ⟨[], B'', vA, r2, O ++ [(y.1, y.2)], H8.out, HRel.out.2.1, Hr.out.2, (by rw [← HRel.out.2.2.2.1, show (thenL [] (y :: B'')) = _ from merge_r _ _]; simp [thenL]), (by have := HRel.out.2.2.2.2.1; rw [List.length_append, show ([(_, _)] : List Dl).length = 1 from rfl]; simp only [List.length_cons] at this ⊢; omega), HRel.out.2.2.2.2.2.2.2, (fun z hz => HKB'.out z (List.mem_cons_of_mem _ hz))⟩
        case measure => exact (by rw [leftD_is H8.out.1 HRel.out.2.1, leftD_is H8.out.2.1 Hr.out.2, HRel.out.2.2.2.2.2.1, HRel.out.2.2.2.2.2.2.1]; simp only [List.length_cons]; omega)
    | cons x A'' =>
      cases B' with
      | nil =>
        clear he ha hb hO hln hlA hlB hc hcb
        go_wp2_with fail
        refine (dHere_some HRel.out.1.1 (HRel.out.2.1.below HRel.out.1.2.2.2.1) (by have := HRel.out.2.2.2.2.1; simp only [List.length_cons] at this; omega)).mono ?_
        rintro e w20 ⟨rfl, hB⟩
        have S1 := Lib.hid (HRel.out.1.below hB)
        clear hB
        go_wp2_with fail
        refine (dHere_none S1.out.2.1 (HRel.out.2.2.1.below S1.out.2.2.2.1)).mono ?_
        rintro e _ ⟨rfl, rfl⟩
        go_wp2_with fail
        refine (dTake_yes S1.out.1 HRel.out.2.1 (by have := HRel.out.2.2.2.2.1; simp only [List.length_cons] at this; omega) S1.out.2.2.2.1).mono ?_
        rintro e w21 ⟨p1, p2, rfl, hp1, hp2, hT, hK⟩
        obtain ⟨_, _, rfl⟩ := hp1.form
        have Hp := Lib.hid (And.intro hp1 hp2)
        have S2 := Lib.hid (S1.out.takeA HO.out hT hK)
        clear hT hK hp1 hp2
        go_wp2_with fail
        refine (dTake_none S2.out.2.1 HRel.out.2.2.1 S2.out.2.2.2.1 _).mono ?_
        rintro e _ ⟨rfl, rfl⟩
        go_wp2_with fail
        refine (dKind_a _ _ _ x (Hp.out.1.below S2.out.2.2.2.1) (show Dls _ (.slice none 0 0) [] from RowOf.nil _) (HRel.out.2.2.2.2.2.2.2 _ (by simp)) (HKI.out.below S2.out.2.2.2.1)).mono ?_
        rintro e _ ⟨rfl, rfl⟩
        have hz1 : (x.2 == 0) = false := by rw [beq_eq_false_iff_ne]; have := HRel.out.2.2.2.2.2.2.2 _ (List.mem_cons_self (a := x)); omega
        have hszW := S2.out.2.2.2.2
        have hownW := S2.out.2.2.1
        go_wp2_with (at_builtin; refine app_del rfl _ _ rfl bs _ O rfl hownW x.1 (x.2) rfl hq6 hszW ?_; intro a8 c8 w8 ho8 hb8)
        have H8 := Lib.hid (S2.out.put ho8 (hb8 _ (Below.refl _ _)) HO.out)
        clear hszW hownW ho8 hb8
        go_roundw
        case rel => exact ⟨A'', [], p2, vB, O ++ [(x.1, x.2)], H8.out, Hp.out.2, HRel.out.2.2.1, (by rw [← HRel.out.2.2.2.1, show (thenL (x :: A'') []) = _ from merge_l _ _]; simp [thenL]), (by have := HRel.out.2.2.2.2.1; rw [List.length_append, show ([(_, _)] : List Dl).length = 1 from rfl]; simp only [List.length_cons] at this ⊢; omega), (fun z hz => HRel.out.2.2.2.2.2.2.2 z (List.mem_cons_of_mem _ hz)), HKB'.out⟩
        case measure => exact (by rw [leftD_is H8.out.1 Hp.out.2, leftD_is H8.out.2.1 HRel.out.2.2.1, HRel.out.2.2.2.2.2.1, HRel.out.2.2.2.2.2.2.1]; simp only [List.length_cons]; omega)
      | cons y B'' =>
        clear he ha hb hO hln hlA hlB hc hcb
        by_cases hlt : Op.bytesLess x.1 y.1 = true
        · have hgt : Op.bytesLess y.1 x.1 = false := less_asymm hlt
          have HLT := Lib.hid hlt
          have HNE := Lib.hid (show y.1 ≠ x.1 from fun e => by rw [e, less_irrefl] at hlt; cases hlt)
          clear hlt
          go_wp2_with fail
          refine (dHere_some HRel.out.1.1 (HRel.out.2.1.below HRel.out.1.2.2.2.1) (by have := HRel.out.2.2.2.2.1; simp only [List.length_cons] at this; omega)).mono ?_
          rintro e w20 ⟨rfl, hB⟩
          have S1 := Lib.hid (HRel.out.1.below hB)
          clear hB
          go_wp2_with fail
          refine (dHere_some S1.out.2.1 (HRel.out.2.2.1.below S1.out.2.2.2.1) (by have := HRel.out.2.2.2.2.1; simp only [List.length_cons] at this; omega)).mono ?_
          rintro e w21 ⟨rfl, hB⟩
          have S2 := Lib.hid (S1.out.below hB)
          clear hB
          go_wp2_with fail
          refine (dTake_yes S2.out.1 HRel.out.2.1 (by have := HRel.out.2.2.2.2.1; simp only [List.length_cons] at this; omega) S2.out.2.2.2.1).mono ?_
          rintro e w22 ⟨p1, p2, rfl, hp1, hp2, hT, hK⟩
          obtain ⟨_, _, rfl⟩ := hp1.form
          have Hp := Lib.hid (And.intro hp1 hp2)
          have S3 := Lib.hid (S2.out.takeA HO.out hT hK)
          clear hT hK hp1 hp2
          go_wp2_with fail
          refine (dTake_no S3.out.2.1 HRel.out.2.2.1 (by have := HRel.out.2.2.2.2.1; simp only [List.length_cons] at this; omega) S3.out.2.2.2.1 _ HNE.out).mono ?_
          rintro e w23 ⟨rfl, hB⟩
          have S4 := Lib.hid (S3.out.below hB)
          clear hB
          go_wp2_with fail
          refine (dKind_a _ _ _ x (Hp.out.1.below S4.out.2.2.2.1) (show Dls _ (.slice none 0 0) [] from RowOf.nil _) (HRel.out.2.2.2.2.2.2.2 _ (by simp)) (HKI.out.below S4.out.2.2.2.1)).mono ?_
          rintro e _ ⟨rfl, rfl⟩
          have hz1 : (x.2 == 0) = false := by rw [beq_eq_false_iff_ne]; have := HRel.out.2.2.2.2.2.2.2 _ (List.mem_cons_self (a := x)); omega
          have hszW := S4.out.2.2.2.2
          have hownW := S4.out.2.2.1
          go_wp2_with (at_builtin; refine app_del rfl _ _ rfl bs _ O rfl hownW x.1 (x.2) rfl hq6 hszW ?_; intro a8 c8 w8 ho8 hb8)
          have H8 := Lib.hid (S4.out.put ho8 (hb8 _ (Below.refl _ _)) HO.out)
          clear hszW hownW ho8 hb8
          go_roundw
          case rel => exact ⟨A'', (y :: B''), p2, vB, O ++ [(x.1, x.2)], H8.out, Hp.out.2, HRel.out.2.2.1, (by rw [← HRel.out.2.2.2.1, show (thenL (x :: A'') (y :: B'')) = _ from merge_lt HLT.out]; simp [thenL]), (by have := HRel.out.2.2.2.2.1; rw [List.length_append, show ([(_, _)] : List Dl).length = 1 from rfl]; simp only [List.length_cons] at this ⊢; omega), (fun z hz => HRel.out.2.2.2.2.2.2.2 z (List.mem_cons_of_mem _ hz)), HKB'.out⟩
          case measure => exact (by rw [leftD_is H8.out.1 Hp.out.2, leftD_is H8.out.2.1 HRel.out.2.2.1, HRel.out.2.2.2.2.2.1, HRel.out.2.2.2.2.2.2.1]; simp only [List.length_cons]; omega)
        · by_cases hgt : Op.bytesLess y.1 x.1 = true
          · have HLT := Lib.hid hgt
            have HNE := Lib.hid (show x.1 ≠ y.1 from fun e => by rw [e, less_irrefl] at hgt; cases hgt)
            clear hlt
            go_wp2_with fail
            refine (dHere_some HRel.out.1.1 (HRel.out.2.1.below HRel.out.1.2.2.2.1) (by have := HRel.out.2.2.2.2.1; simp only [List.length_cons] at this; omega)).mono ?_
            rintro e w20 ⟨rfl, hB⟩
            have S1 := Lib.hid (HRel.out.1.below hB)
            clear hB
            go_wp2_with fail
            refine (dHere_some S1.out.2.1 (HRel.out.2.2.1.below S1.out.2.2.2.1) (by have := HRel.out.2.2.2.2.1; simp only [List.length_cons] at this; omega)).mono ?_
            rintro e w21 ⟨rfl, hB⟩
            have S2 := Lib.hid (S1.out.below hB)
            clear hB
            go_wp2_with fail
            refine (dTake_no S2.out.1 HRel.out.2.1 (by have := HRel.out.2.2.2.2.1; simp only [List.length_cons] at this; omega) S2.out.2.2.2.1 _ HNE.out).mono ?_
            rintro e w22 ⟨rfl, hB⟩
            have S3 := Lib.hid (S2.out.below hB)
            clear hB
            go_wp2_with fail
            refine (dTake_yes S3.out.2.1 HRel.out.2.2.1 (by have := HRel.out.2.2.2.2.1; simp only [List.length_cons] at this; omega) S3.out.2.2.2.1).mono ?_
            rintro e w23 ⟨r1, r2, rfl, hr1, hr2, hT, hK⟩
            obtain ⟨_, _, rfl⟩ := hr1.form
            have Hr := Lib.hid (And.intro hr1 hr2)
            have S4 := Lib.hid (S3.out.takeB HO.out hT hK)
            clear hT hK hr1 hr2
            go_wp2_with fail
            refine (dKind_b _ _ _ y (show Dls _ (.slice none 0 0) [] from RowOf.nil _) (Hr.out.1.below S4.out.2.2.2.1) (HKB'.out _ (by simp)) (HKI.out.below S4.out.2.2.2.1)).mono ?_
            rintro e _ ⟨rfl, rfl⟩
            have hz1 : (y.2 == 0) = false := by rw [beq_eq_false_iff_ne]; have := HKB'.out _ (List.mem_cons_self (a := y)); omega
            have hszW := S4.out.2.2.2.2
            have hownW := S4.out.2.2.1
            go_wp2_with (at_builtin; refine app_del rfl _ _ rfl bs _ O rfl hownW y.1 (y.2) rfl hq6 hszW ?_; intro a8 c8 w8 ho8 hb8)
            have H8 := Lib.hid (S4.out.put ho8 (hb8 _ (Below.refl _ _)) HO.out)
            clear hszW hownW ho8 hb8
            go_roundw
            case rel => exact ⟨(x :: A''), B'', vA, r2, O ++ [(y.1, y.2)], H8.out, HRel.out.2.1, Hr.out.2, (by rw [← HRel.out.2.2.2.1, show (thenL (x :: A'') (y :: B'')) = _ from merge_gt HLT.out]; simp [thenL]), (by have := HRel.out.2.2.2.2.1; rw [List.length_append, show ([(_, _)] : List Dl).length = 1 from rfl]; simp only [List.length_cons] at this ⊢; omega), HRel.out.2.2.2.2.2.2.2, (fun z hz => HKB'.out z (List.mem_cons_of_mem _ hz))⟩
            case measure => exact (by rw [leftD_is H8.out.1 HRel.out.2.1, leftD_is H8.out.2.1 Hr.out.2, HRel.out.2.2.2.2.2.1, HRel.out.2.2.2.2.2.2.1]; simp only [List.length_cons]; omega)
          · have hgt : Op.bytesLess y.1 x.1 = false := by simpa using hgt
            have HEQ2 := Lib.hid (same_key (key := fun z : Dl => z.1) hlt (by rw [hgt]; simp) : x.1 = y.1)
            have HEQ := HEQ2
            clear hlt
            go_wp2_with fail
            refine (dHere_some HRel.out.1.1 (HRel.out.2.1.below HRel.out.1.2.2.2.1) (by have := HRel.out.2.2.2.2.1; simp only [List.length_cons] at this; omega)).mono ?_
            rintro e w20 ⟨rfl, hB⟩
            have S1 := Lib.hid (HRel.out.1.below hB)
            clear hB
            go_wp2_with fail
            refine (dHere_some S1.out.2.1 (HRel.out.2.2.1.below S1.out.2.2.2.1) (by have := HRel.out.2.2.2.2.1; simp only [List.length_cons] at this; omega)).mono ?_
            rintro e w21 ⟨rfl, hB⟩
            have S2 := Lib.hid (S1.out.below hB)
            clear hB
            go_wp2_with fail
            refine (dTake_yes S2.out.1 HRel.out.2.1 (by have := HRel.out.2.2.2.2.1; simp only [List.length_cons] at this; omega) S2.out.2.2.2.1).mono ?_
            rintro e w22 ⟨p1, p2, rfl, hp1, hp2, hT, hK⟩
            obtain ⟨_, _, rfl⟩ := hp1.form
            have Hp := Lib.hid (And.intro hp1 hp2)
            have S3 := Lib.hid (S2.out.takeA HO.out hT hK)
            clear hT hK hp1 hp2
            go_wp2_with fail
            rw [HEQ.out]
            refine (dTake_yes S3.out.2.1 HRel.out.2.2.1 (by have := HRel.out.2.2.2.2.1; simp only [List.length_cons] at this; omega) S3.out.2.2.2.1).mono ?_
            rintro e w23 ⟨r1, r2, rfl, hr1, hr2, hT, hK⟩
            obtain ⟨_, _, rfl⟩ := hr1.form
            have Hr := Lib.hid (And.intro hr1 hr2)
            have S4 := Lib.hid (S3.out.takeB HO.out hT hK)
            clear hT hK hr1 hr2
            go_wp2_with fail
            refine (dKind_both _ _ _ x y (Hp.out.1.below S4.out.2.2.2.1) (Hr.out.1.below S4.out.2.2.2.1) (HRel.out.2.2.2.2.2.2.2 _ (by simp)) (HKB'.out _ (by simp)) (HKI.out.below S4.out.2.2.2.1)).mono ?_
            rintro e _ ⟨rfl, rfl⟩
            obtain ⟨kz, hkz⟩ : ∃ k, (bothN x.2 y.2) = k := ⟨_, rfl⟩
            rw [hkz]
            have HKZ := Lib.hid hkz
            clear hkz
            by_cases hz : kz = 0
            · subst hz
              go_wp2_with fail
              go_roundw
              case rel => exact ⟨A'', B'', p2, r2, O, S4.out, Hp.out.2, Hr.out.2, (by rw [← HRel.out.2.2.2.1, show (thenL (x :: A'') (y :: B'')) = _ from merge_eq HEQ2.out]; rw [show oneD _ ((bothN x.2 y.2)) = [] from if_pos HKZ.out, List.nil_append]; all_goals rfl), (by have := HRel.out.2.2.2.2.1; simp only [List.length_cons] at this ⊢; omega), (fun z hz => HRel.out.2.2.2.2.2.2.2 z (List.mem_cons_of_mem _ hz)), (fun z hz => HKB'.out z (List.mem_cons_of_mem _ hz))⟩
              case measure => exact (by rw [leftD_is S4.out.1 Hp.out.2, leftD_is S4.out.2.1 Hr.out.2, HRel.out.2.2.2.2.2.1, HRel.out.2.2.2.2.2.2.1]; simp only [List.length_cons]; omega)
            · have hz1 : (kz == 0) = false := by rw [beq_eq_false_iff_ne]; exact hz
              have HZ := Lib.hid hz
              clear hz
              have hszW := S4.out.2.2.2.2
              have hownW := S4.out.2.2.1
              go_wp2_with (at_builtin; refine app_del rfl _ _ rfl bs _ O rfl hownW y.1 (kz) rfl hq6 hszW ?_; intro a8 c8 w8 ho8 hb8)
              have H8 := Lib.hid (S4.out.put ho8 (hb8 _ (Below.refl _ _)) HO.out)
              clear hszW hownW ho8 hb8
              go_roundw
              case rel => exact ⟨A'', B'', p2, r2, O ++ [(y.1, kz)], H8.out, Hp.out.2, Hr.out.2, (by rw [← HRel.out.2.2.2.1, show (thenL (x :: A'') (y :: B'')) = _ from merge_eq HEQ2.out]; rw [HEQ2.out, show oneD _ ((bothN x.2 y.2)) = [(_, kz)] from (if_neg (HKZ.out ▸ HZ.out)).trans (by rw [HKZ.out])]; simp [thenL]), (by have := HRel.out.2.2.2.2.1; rw [List.length_append, show ([(_, _)] : List Dl).length = 1 from rfl]; simp only [List.length_cons] at this ⊢; omega), (fun z hz => HRel.out.2.2.2.2.2.2.2 z (List.mem_cons_of_mem _ hz)), (fun z hz => HKB'.out z (List.mem_cons_of_mem _ hz))⟩
              case measure => exact (by rw [leftD_is H8.out.1 Hp.out.2, leftD_is H8.out.2.1 Hr.out.2, HRel.out.2.2.2.2.2.1, HRel.out.2.2.2.2.2.2.1]; simp only [List.length_cons]; omega)

end Go.Proofs.YtogicnciheedoaaDoor

/-
  diff.Entries and diff.Then.
-/
namespace Go.Proofs.YtogicnciheedoaaDoor
set_option maxRecDepth 100000
open Go.RowKit

set_option maxHeartbeats 2000000 in
theorem entries_calls (va vb : Value) (A B : List Ev) (w : World) (ha : Ents w va A) (hb : Ents w vb B) (hla : A.length ≤ 2000) (hlb : B.length ≤ 2000) (hc : ∀ x ∈ A, x.1.2.2.2.2.length ≤ 1000000) :
    Calls Tryd.prog 10 #[va, vb] w fun e w' => ∃ u, e = .returned u ∧ OwnDl w' w.heap.size u (diffE (ens A) (ens B)) ∧ Below w.heap.size w w' := by
  have K := Lib.hid (eEach_calls va vb A B w ha hb hla hlb hc)
  obtain ⟨ao, ca, rfl⟩ := ha.form
  obtain ⟨bo, cb, rfl⟩ := hb.form
  clear ha hb hla hlb hc
  go_enter Tryd.func10, Tryd.ntmps10
  go_wp2_with fail
  refine K.out.mono ?_
  rintro e w1 ⟨u, rfl, ho, hB⟩
  obtain ⟨_, _, rfl⟩ := ho.form
  go_wp2_with fail
  go_ret
  exact ⟨_, rfl, ho, hB⟩
set_option maxHeartbeats 2000000 in
theorem then_calls (va vb : Value) (A B : List Dl) (w : World) (ha : Dls w va A) (hb : Dls w vb B) (hla : A.length ≤ 2000) (hlb : B.length ≤ 2000) (hc : KindD A) (hcb : KindD B) (hki : KiOk w) :
    Calls Tryd.prog 14 #[va, vb] w fun e w' => ∃ u, e = .returned u ∧ OwnDl w' w.heap.size u (thenL A B) ∧ Below w.heap.size w w' := by
  have K := Lib.hid (dEach_calls va vb A B w ha hb hla hlb hc hcb hki)
  obtain ⟨ao, ca, rfl⟩ := ha.form
  obtain ⟨bo, cb, rfl⟩ := hb.form
  clear ha hb hla hlb hc hcb hki
  go_enter Tryd.func14, Tryd.ntmps14
  go_wp2_with fail
  refine K.out.mono ?_
  rintro e w1 ⟨u, rfl, ho, hB⟩
  obtain ⟨_, _, rfl⟩ := ho.form
  go_wp2_with fail
  go_ret
  exact ⟨_, rfl, ho, hB⟩

end Go.Proofs.YtogicnciheedoaaDoor

/-
  diff.Back.
-/
namespace Go.Proofs.YtogicnciheedoaaDoor
set_option maxRecDepth 100000
open Go.RowKit

theorem turned_at {n : Nat} (h : 1 ≤ n ∧ n ≤ 3) : turnedL.getD n 0 = backN (n : Int) := by
  rcases (show n = 1 ∨ n = 2 ∨ n = 3 by omega) with rfl | rfl | rfl <;> decide

set_option maxHeartbeats 8000000 in
theorem back_calls (v : Value) (l : List Dl) (w : World) (h : Dls w v l) (hl : l.length ≤ 100000) (hk : KindD l) (hki : KiOk w) :
    Calls Tryd.prog 12 #[v] w fun e w' => ∃ u, e = .returned u ∧ OwnDl w' w.heap.size u (backL l) ∧ Below w.heap.size w w' := by
  obtain ⟨ao, cap, rfl⟩ := h.form
  have HH := Lib.hid (And.intro h (And.intro hl (And.intro hk hki)))
  clear h hl hk hki
  go_enter Tryd.func12, Tryd.ntmps12
  go_wp2_with fail
  go_loopw [3, 8] (fun u i wr => ∃ k : Nat, i = .int .i64 k ∧ k ≤ l.length ∧ OwnDl wr w.heap.size u (backL (l.take k)) ∧ Below w.heap.size w wr) (fun _ i _ => l.length - (intOf i).toNat)
  case atStart => exact ⟨0, rfl, Nat.zero_le _, OwnOf.nil _ _, Below.refl _ _⟩
  case round =>
    obtain ⟨k, rfl, hk, hown, hB⟩ := hrel
    have hl := HH.out.2.1
    by_cases hlt : k < l.length
    · have hd : decide ((k : Int) < (l.length : Int)) = true := by rw [decide_eq_true_eq]; omega
      have hsn := back_snoc hlt
      have hkd := HH.out.2.2.1 _ (List.getElem_mem hlt)
      have hq6 : (backL (l.take k)).length < 1000000 := by unfold backL; rw [List.length_map, List.length_take]; omega
      have hki := HH.out.2.2.2.below hB
      obtain ⟨b, off, rfl, x0, x1⟩ := dls_at (HH.out.1.below hB) hlt
      obtain ⟨p, hp⟩ : ∃ p, l[k].1 = p := ⟨_, rfl⟩
      obtain ⟨n, hn⟩ : ∃ n, l[k].2 = n := ⟨_, rfl⟩
      rw [hp] at x0 hsn
      rw [hn] at x1 hsn hkd
      obtain ⟨m, rfl⟩ : ∃ m : Nat, n = m := ⟨n.toNat, by omega⟩
      have hc := hki.1 m (by omega)
      rw [turned_at (by omega)] at hc
      obtain ⟨z, hz⟩ : ∃ z, backN (m : Int) = z := ⟨_, rfl⟩
      rw [hz] at hc hsn
      have HSN := Lib.hid hsn
      have hm4 : (m : Int) < 4 := by omega
      have hm0 : (0 : Int) ≤ (m : Int) := by omega
      have hB1 := below_alloc wr (.cells #[.string ⟨p.toArray⟩, .int .i64 (m : Int)] 38)
      have hc1 := look_below hB1 hc
      have KK := Lib.hid (fun W => known_calls (m : Int) W (by omega))
      obtain ⟨aw, cw, rfl⟩ := hown.form
      have HO := Lib.hid (And.intro hown hB)
      clear hsn hkd hki hp hn hz hown
      go_wp2_with fail
      refine (KK.out _).mono ?_
      rintro e w1 ⟨rfl, rfl⟩
      have hown2 := HO.out.1.stays (below_alloc wr (.cells #[.string ⟨p.toArray⟩, .int .i64 z] 38))
      have hsz2 := (HO.out.2.alloc HO.out.2.size (.cells #[.string ⟨p.toArray⟩, .int .i64 z] 38)).size
      go_wp2_with (at_builtin; refine app_delK rfl _ _ rfl w.heap.size _ (backL (l.take k)) rfl hown2 p z _ (World.size_alloc _ _) rfl hq6 hsz2 ?_; intro a8 c8 w8 ho8 hb8)
      go_roundw
      case rel => exact ⟨k + 1, by go_num, by omega, by rw [HSN.out]; exact ho8, hb8 _ (HO.out.2.alloc HO.out.2.size _)⟩
      case measure => simp [intOf]; omega
    · obtain rfl : k = l.length := by omega
      have hd : decide ((l.length : Int) < (l.length : Int)) = false := by simp
      rw [List.take_length] at hown
      go_wp2_with fail
      go_ret
      exact ⟨_, rfl, hown, hB⟩

end Go.Proofs.YtogicnciheedoaaDoor

/-
  The document's own Same and Own of deltas.
-/
namespace Go.Proofs.YtogicnciheedoaaDoor
set_option maxRecDepth 100000
open Go.RowKit

theorem dsame_next {a b : List Dl} {k : Nat} (h : a.take k = b.take k) (ha : k < a.length) (hb : k < b.length) (he : a[k] = b[k]) : a.take (k + 1) = b.take (k + 1) := by
  rw [List.take_succ_eq_append_getElem ha, List.take_succ_eq_append_getElem hb, h, he]
theorem dsame_not {a b : List Dl} {k : Nat} (ha : k < a.length) (hb : k < b.length) (he : a[k] ≠ b[k]) : decide (a = b) = false := by
  rw [decide_eq_false_iff_not]
  intro e
  subst e
  exact he rfl
theorem dl_cases (x y : Dl) : (x = y ∧ (x.1 == y.1) = true ∧ (x.2 == y.2) = true) ∨ (x ≠ y ∧ (x.1 == y.1) = false) ∨ (x ≠ y ∧ (x.1 == y.1) = true ∧ (x.2 == y.2) = false) := by
  obtain ⟨p, n⟩ := x
  obtain ⟨q, m⟩ := y
  by_cases h1 : p = q
  · by_cases h2 : n = m
    · exact .inl ⟨by rw [h1, h2], by simp [h1], by simp [h2]⟩
    · exact .inr (.inr ⟨fun e => h2 (congrArg Prod.snd e), by simp [h1], by simpa using h2⟩)
  · exact .inr (.inl ⟨fun e => h1 (congrArg Prod.fst e), by simpa using h1⟩)

set_option maxHeartbeats 4000000 in
theorem refDsame_calls (va vb : Value) (a b : List Dl) (w : World) (ha : Dls w va a) (hb : Dls w vb b) (hla : a.length ≤ 1000000) :
    Calls Tryd.prog 9 #[va, vb] w fun e w' => e = .returned (.bool (decide (a = b))) ∧ Below w.heap.size w w' := by
  obtain ⟨aa, ca, rfl⟩ := ha.form
  obtain ⟨ab, cb, rfl⟩ := hb.form
  have HA := Lib.hid ha
  have HB := Lib.hid hb
  clear ha hb
  by_cases hl : a.length = b.length
  · have hne : ((a.length : Int) != (b.length : Int)) = false := by rw [bne_eq_false_iff_eq]; omega
    have HL := Lib.hid hl
    go_enter Tryd.func9, Tryd.ntmps9
    clear hl
    go_wp2_with fail
    go_loopw [5] (fun i wr => ∃ k : Nat, k ≤ a.length ∧ i = .int .i64 k ∧ Hid (a.take k = b.take k) ∧ Hid (Below w.heap.size w wr)) (fun i _ => a.length - (intOf i).toNat)
    case atStart => exact ⟨0, Nat.zero_le _, rfl, Lib.hid (by simp), Lib.hid (Below.refl _ _)⟩
    case round =>
      obtain ⟨k, hk, rfl, hf, hB⟩ := hrel
      by_cases hlt : k < a.length
      · have hlt2 : k < b.length := by have := HL.out; omega
        have hd : decide ((k : Int) < (a.length : Int)) = true := by rw [decide_eq_true_eq]; omega
        obtain ⟨ba, oa, rfl, x0, x1⟩ := dls_at (HA.out.below (hB.out.drew)) hlt
        obtain ⟨bb, ob, rfl, y0, y1⟩ := dls_at (HB.out.below (hB.out.drew)) hlt2
        have hn := fun h => dsame_next hf.out hlt hlt2 h
        have hx := fun h => dsame_not hlt hlt2 h
        generalize a[k] = x at *
        generalize b[k] = y at *
        rcases dl_cases x y with ⟨e, e1, e2⟩ | ⟨e, e1⟩ | ⟨e, e1, e2⟩
        · have HN := Lib.hid (hn e)
          clear hn hx e
          go_wp2_with fail
          go_region
          all_goals
            go_wp2_with fail
            go_roundw
            case rel => exact ⟨k + 1, by omega, by go_num, HN, Lib.hid (hB.out.drew)⟩
            case measure => simp [intOf]; omega
        · have HX := Lib.hid (hx e)
          clear hn hx e
          go_wp2_with fail
          go_region
          all_goals
            go_wp2_with fail
            go_ret
            exact ⟨by rw [HX.out]; rfl, hB.out.drew⟩
        · have HX := Lib.hid (hx e)
          clear hn hx e
          go_wp2_with fail
          go_region
          all_goals
            go_wp2_with fail
            go_ret
            exact ⟨by rw [HX.out]; rfl, hB.out.drew⟩
      · obtain rfl : k = a.length := by omega
        have hd : decide ((a.length : Int) < (a.length : Int)) = false := by simp
        have HS := Lib.hid (show decide (a = b) = true by
          have h := hf.out
          rw [List.take_length, HL.out, List.take_length] at h
          rw [decide_eq_true_eq]
          exact h)
        go_wp2_with fail
        go_ret
        exact ⟨by rw [HS.out]; rfl, hB.out⟩
  · have hne : ((a.length : Int) != (b.length : Int)) = true := by rw [bne_iff_ne]; omega
    have HX := Lib.hid (show decide (a = b) = false by rw [decide_eq_false_iff_not]; intro e; exact hl (by rw [e]))
    clear hl
    go_enter Tryd.func9, Tryd.ntmps9
    go_wp2_with fail
    go_ret
    exact ⟨by rw [HX.out]; rfl, Below.refl _ _⟩
theorem refDsame_self (va vb : Value) (l : List Dl) (w : World) (ha : Dls w va l) (hb : Dls w vb l) (hla : l.length ≤ 1000000) :
    Calls Tryd.prog 9 #[va, vb] w fun e w' => e = .returned (.bool true) ∧ Below w.heap.size w w' :=
  (refDsame_calls va vb l l w ha hb hla).mono fun e w' h => ⟨h.1.trans (by rw [decide_eq_true rfl]), h.2⟩

end Go.Proofs.YtogicnciheedoaaDoor

/-
  The law file's diffs: the document's rows.
-/
namespace Go.Proofs.YtogicnciheedoaaDoor
set_option maxRecDepth 100000
open Go.RowKit

def doA : List Ev := [(([97], 0, 1, 0, []), .slice none 0 0), (([98], 0, 0, 0, []), .slice none 0 0)]
def doB : List Ev := [(([97], 0, 2, 0, []), .slice none 0 0), (([99], 0, 0, 0, []), .slice none 0 0)]
def doW : List Dl := [([97], 2), ([98], 3), ([99], 1)]
def doV : List Dl := [([97], 2), ([98], 1), ([99], 3)]
theorem do_diff : diffE (ens doA) (ens doB) = doW := by
  show mergeD (fun x : En => x.1) (fun _ => 3) (fun _ => 1) chgE [([97], 0, 1, 0, []), ([98], 0, 0, 0, [])] [([97], 0, 2, 0, []), ([99], 0, 0, 0, [])] = _
  rw [mergeD, if_neg (by decide), if_neg (by decide), mergeD, if_pos (by decide), merge_r, merge_nil]
  rfl
theorem do_back : backL doW = doV := by decide
theorem do_then : thenL [([97], 1)] [([97], 3)] = [] := by
  show mergeD (fun x : Dl => x.1) (fun x => x.2) (fun y => y.2) (fun x y => bothN x.2 y.2) [([97], 1)] [([97], 3)] = _
  rw [mergeD, if_neg (by decide), if_neg (by decide), merge_nil]
  rfl
theorem do_kinds : KindD doW := by
  intro x hx
  simp [doW] at hx
  rcases hx with rfl | rfl | rfl <;> decide
theorem do_rowA (w : World) : Ents (w.alloc (.cells #[.string ⟨#[97]⟩, .int .i64 0, .int .i64 1, .int .i64 0, .slice none 0 0, .string ⟨#[98]⟩, .int .i64 0, .int .i64 0, .int .i64 0, .slice none 0 0] 36)) (.slice (some ⟨w.heap.size, 0, none⟩) 2 2) doA :=
  ⟨rowOf_lit ecell_k w doA 36, fun x hx => by
    simp [doA] at hx
    rcases hx with rfl | rfl <;> exact Rw.nil _ 1⟩
theorem do_rowB (w : World) : Ents (w.alloc (.cells #[.string ⟨#[97]⟩, .int .i64 0, .int .i64 2, .int .i64 0, .slice none 0 0, .string ⟨#[99]⟩, .int .i64 0, .int .i64 0, .int .i64 0, .slice none 0 0] 36)) (.slice (some ⟨w.heap.size, 0, none⟩) 2 2) doB :=
  ⟨rowOf_lit ecell_k w doB 36, fun x hx => by
    simp [doB] at hx
    rcases hx with rfl | rfl <;> exact Rw.nil _ 1⟩
theorem do_rowW (w : World) : Dls (w.alloc (.cells #[.string ⟨#[97]⟩, .int .i64 2, .string ⟨#[98]⟩, .int .i64 3, .string ⟨#[99]⟩, .int .i64 1] 38)) (.slice (some ⟨w.heap.size, 0, none⟩) 3 3) doW := rowOf_lit dcell_k w doW _
theorem do_rowV (w : World) : Dls (w.alloc (.cells #[.string ⟨#[97]⟩, .int .i64 2, .string ⟨#[98]⟩, .int .i64 1, .string ⟨#[99]⟩, .int .i64 3] 38)) (.slice (some ⟨w.heap.size, 0, none⟩) 3 3) doV := rowOf_lit dcell_k w doV _
theorem do_row1 (w : World) : Dls (w.alloc (.cells #[.string ⟨#[97]⟩, .int .i64 1] 38)) (.slice (some ⟨w.heap.size, 0, none⟩) 1 1) [([97], 1)] := rowOf_lit dcell_k w [([97], 1)] _
theorem do_row3 (w : World) : Dls (w.alloc (.cells #[.string ⟨#[97]⟩, .int .i64 3] 38)) (.slice (some ⟨w.heap.size, 0, none⟩) 1 1) [([97], 3)] := rowOf_lit dcell_k w [([97], 3)] _

set_option maxHeartbeats 16000000 in
theorem diffs_calls (w : World) (hki : KiOk w) : Calls Tryd.prog 7 #[] w fun e w' => e = .returned (.bool true) ∧ Below w.heap.size w w' := by
  obtain ⟨W3, hW3⟩ : ∃ X, X = ((w.alloc (.cells #[.string ⟨#[97]⟩, .int .i64 0, .int .i64 1, .int .i64 0, .slice none 0 0, .string ⟨#[98]⟩, .int .i64 0, .int .i64 0, .int .i64 0, .slice none 0 0] 36)).alloc (.cells #[.string ⟨#[97]⟩, .int .i64 0, .int .i64 2, .int .i64 0, .slice none 0 0, .string ⟨#[99]⟩, .int .i64 0, .int .i64 0, .int .i64 0, .slice none 0 0] 36)).alloc (.cells #[.string ⟨#[97]⟩, .int .i64 2, .string ⟨#[98]⟩, .int .i64 3, .string ⟨#[99]⟩, .int .i64 1] 38) := ⟨_, rfl⟩
  have hB : Below w.heap.size w W3 := by rw [hW3]; exact below_alloc3 w _ _ _
  have hA3 : Ents W3 (.slice (some ⟨w.heap.size, 0, none⟩) 2 2) doA := by rw [hW3]; exact (do_rowA w).below (below_alloc2 _ _ _)
  have hB3 : Ents W3 (.slice (some ⟨w.heap.size + 1, 0, none⟩) 2 2) doB := by
    have h := (do_rowB (w.alloc (.cells #[.string ⟨#[97]⟩, .int .i64 0, .int .i64 1, .int .i64 0, .slice none 0 0, .string ⟨#[98]⟩, .int .i64 0, .int .i64 0, .int .i64 0, .slice none 0 0] 36))).below (below_alloc _ (.cells #[.string ⟨#[97]⟩, .int .i64 2, .string ⟨#[98]⟩, .int .i64 3, .string ⟨#[99]⟩, .int .i64 1] 38))
    rw [World.size_alloc] at h
    rw [hW3]
    exact h
  have hC3 : Dls W3 (.slice (some ⟨w.heap.size + 1 + 1, 0, none⟩) 3 3) doW := by
    have h := do_rowW ((w.alloc (.cells #[.string ⟨#[97]⟩, .int .i64 0, .int .i64 1, .int .i64 0, .slice none 0 0, .string ⟨#[98]⟩, .int .i64 0, .int .i64 0, .int .i64 0, .slice none 0 0] 36)).alloc (.cells #[.string ⟨#[97]⟩, .int .i64 0, .int .i64 2, .int .i64 0, .slice none 0 0, .string ⟨#[99]⟩, .int .i64 0, .int .i64 0, .int .i64 0, .slice none 0 0] 36))
    rw [World.size_alloc, World.size_alloc] at h
    rw [hW3]
    exact h
  have HH := Lib.hid (And.intro hA3 (And.intro hB3 (And.intro hC3 (And.intro hB hki))))
  have HW := Lib.hid hW3
  have KE := Lib.hid (entries_calls _ _ doA doB W3 hA3 hB3 (by decide) (by decide) (by decide))
  rw [do_diff] at KE
  have KS := Lib.hid (fun (va vb : Value) (l : List Dl) W (ha : Dls W va l) (hb : Dls W vb l) (hl : l.length ≤ 1000000) => refDsame_self va vb l W ha hb hl)
  clear hA3 hB3 hC3 hB hki hW3
  go_enter Tryd.func7, Tryd.ntmps7
  go_wp2_with fail
  rw [← HW.out]
  refine KE.out.mono ?_
  rintro e w4 ⟨u, rfl, ho, hB4⟩
  obtain ⟨au, cu, rfl⟩ := ho.form
  have H4 := Lib.hid (And.intro ho.row hB4)
  clear ho hB4
  go_wp2_with fail
  refine (KS.out _ _ doW _ H4.out.1 (HH.out.2.2.1.below H4.out.2) (by decide)).mono ?_
  rintro e w5 ⟨rfl, hB5⟩
  have H5 := Lib.hid (And.intro (H4.out.1.below hB5) (below2 HH.out.2.2.2.1 (below2 H4.out.2 hB5)))
  clear hB5
  go_wp2_with fail
  refine (back_calls _ doW _ H5.out.1 (by decide) do_kinds (HH.out.2.2.2.2.below H5.out.2)).mono ?_
  rw [do_back]
  rintro e w6 ⟨u, rfl, ho, hB6⟩
  obtain ⟨av, cv, rfl⟩ := ho.form
  have H6 := Lib.hid (And.intro ho.row (below2 H5.out.2 hB6))
  clear ho hB6
  go_wp2_with fail
  refine (KS.out _ _ doV _ (H6.out.1.below (below_alloc _ _)) (do_rowV _) (by decide)).mono ?_
  rintro e w7 ⟨rfl, hB7⟩
  have H7 := Lib.hid (below2 H6.out.2 (below2 (below_alloc _ _) hB7))
  clear hB7
  have h1 := (do_row1 w7).below (below_alloc _ (.cells #[.string ⟨#[97]⟩, .int .i64 3] 38))
  have h3 := do_row3 (w7.alloc (.cells #[.string ⟨#[97]⟩, .int .i64 1] 38))
  rw [World.size_alloc] at h3
  have H8 := Lib.hid (And.intro h1 (And.intro h3 (below2 H7.out (below_alloc2 w7 (.cells #[.string ⟨#[97]⟩, .int .i64 1] 38) (.cells #[.string ⟨#[97]⟩, .int .i64 3] 38)))))
  clear h1 h3
  go_wp2_with fail
  refine (then_calls _ _ _ _ _ H8.out.1 H8.out.2.1 (by decide) (by decide) (fun x hx => by rw [List.mem_singleton.1 hx]; decide) (fun x hx => by rw [List.mem_singleton.1 hx]; decide) (HH.out.2.2.2.2.below H8.out.2.2)).mono ?_
  rw [do_then]
  rintro e w9 ⟨u, rfl, ho, hB9⟩
  obtain ⟨az, cz, rfl⟩ := ho.form
  have H9 := Lib.hid (below2 H8.out.2.2 hB9)
  clear ho hB9
  go_wp2_with fail
  go_ret
  exact ⟨rfl, H9.out⟩

end Go.Proofs.YtogicnciheedoaaDoor

/-
  The law file's far: are entries more than are looked at?
-/
namespace Go.Proofs.YtogicnciheedoaaDoor
set_option maxRecDepth 100000
open Go.RowKit

set_option maxHeartbeats 4000000 in
theorem dfar_calls (v : Value) (S : List Ev) (w : World) (h : Ents w v S) :
    Calls Tryd.prog 4 #[v] w fun e w' => ∃ B : Bool, e = .returned (.bool B) ∧ (B = false → S.length ≤ 60 ∧ ∀ x ∈ S, x.1.2.2.2.2.length ≤ 30) ∧ w = w' := by
  obtain ⟨ao, cap, rfl⟩ := h.form
  have HH := Lib.hid h
  clear h
  obtain ⟨n, hn⟩ : ∃ n, S.length = n := ⟨_, rfl⟩
  rw [hn] at HH ⊢
  have HN := Lib.hid hn
  clear hn
  by_cases hs : n ≤ 60
  · have d0 : decide (n ≤ 60) = true := by rw [decide_eq_true_eq]; exact hs
    have d0' : decide ((n : Int) ≤ 60) = true := by rw [decide_eq_true_eq]; omega
    have d1 : decide (60 < n) = false := by rw [decide_eq_false_iff_not]; omega
    have d1' : decide (60 < (n : Int)) = false := by rw [decide_eq_false_iff_not]; omega
    go_enter Tryd.func4, Tryd.ntmps4
    go_wp2_with fail
    go_loopw [3] (fun i wr => ∃ k : Nat, i = .int .i64 k ∧ k ≤ n ∧ n ≤ 60 ∧ Hid (∀ i (hi : i < S.length), i < k → S[i].1.2.2.2.2.length ≤ 30) ∧ w = wr) (fun i _ => n - (intOf i).toNat)
    case atStart => exact ⟨0, rfl, Nat.zero_le _, hs, Lib.hid (fun _ _ h => by omega), rfl⟩
    case round =>
      obtain ⟨k, rfl, hk, hs, hf, rfl⟩ := hrel
      by_cases hlt : k < n
      · have hd : decide ((k : Int) < (n : Int)) = true := by rw [decide_eq_true_eq]; omega
        have hkl : k < S.length := by have := HN.out; omega
        obtain ⟨b, off, rfl, ⟨x0, _, _, _, x4⟩, hi⟩ := HH.out.at hkl
        have hnext := fun (hx : S[k].1.2.2.2.2.length ≤ 30) => (fun i hi hik => by
          by_cases e : i = k
          · subst e; exact hx
          · exact hf.out i hi (by omega) : ∀ i (hi : i < S.length), i < k + 1 → S[i].1.2.2.2.2.length ≤ 30)
        obtain ⟨⟨⟨p, tn, z, d, cs⟩, u⟩, hx⟩ : ∃ x, S[k] = x := ⟨_, rfl⟩
        rw [hx] at x0 x4 hi hnext
        dsimp only at x0 x4 hnext
        replace hi : Ints w u cs := hi
        obtain ⟨au, cu, rfl⟩ := hi.form
        obtain ⟨m, hm⟩ : ∃ m, cs.length = m := ⟨_, rfl⟩
        obtain ⟨q, hq⟩ : ∃ q, p.length = q := ⟨_, rfl⟩
        rw [hm] at x4 hnext
        have HNX := Lib.hid hnext
        clear hx hi hnext hm
        by_cases h1 : 200 < p.length
        · have e1 : decide (200 < p.length) = true := by rw [decide_eq_true_eq]; exact h1
          have e1' : decide (200 < (p.length : Int)) = true := by rw [decide_eq_true_eq]; omega
          clear hq
          go_wp2_with fail
          go_ret
          exact ⟨true, rfl, (fun h => by cases h), rfl⟩
        · have e1 : decide (200 < p.length) = false := by rw [decide_eq_false_iff_not]; exact h1
          have e1' : decide (200 < (p.length : Int)) = false := by rw [decide_eq_false_iff_not]; omega
          by_cases h2 : 30 < m
          · have e2 : decide (30 < m) = true := by rw [decide_eq_true_eq]; exact h2
            have e2' : decide (30 < (m : Int)) = true := by rw [decide_eq_true_eq]; omega
            clear hq h1 h2
            go_wp2_with fail
            go_ret
            exact ⟨true, rfl, (fun h => by cases h), rfl⟩
          · have e2 : decide (30 < m) = false := by rw [decide_eq_false_iff_not]; exact h2
            have e2' : decide (30 < (m : Int)) = false := by rw [decide_eq_false_iff_not]; omega
            have HM := Lib.hid (HNX.out (by omega))
            clear hq h1 h2
            go_wp2_with fail
            go_roundw
            case rel => exact ⟨k + 1, by go_num, by omega, hs, HM, trivial⟩
            case measure => simp [intOf]; omega
      · obtain rfl : k = n := by omega
        have hd : decide ((k : Int) < (k : Int)) = false := by simp
        go_wp2_with fail
        go_ret
        exact ⟨false, rfl, (fun _ => ⟨hs, fun x hx => by
          obtain ⟨i, hi, rfl⟩ := List.getElem_of_mem hx
          exact hf.out i hi (by have := HN.out; omega)⟩), rfl⟩
  · have d0 : decide (n ≤ 60) = false := by rw [decide_eq_false_iff_not]; exact hs
    have d0' : decide ((n : Int) ≤ 60) = false := by rw [decide_eq_false_iff_not]; omega
    have d1 : decide (60 < n) = true := by rw [decide_eq_true_eq]; omega
    have d1' : decide (60 < (n : Int)) = true := by rw [decide_eq_true_eq]; omega
    have d2 : decide (0 < n) = true := by rw [decide_eq_true_eq]; omega
    have d2' : decide (0 < (n : Int)) = true := by rw [decide_eq_true_eq]; omega
    clear hs
    go_enter Tryd.func4, Tryd.ntmps4
    go_wp2_with fail
    go_loopw [3] (fun i wr => i = .int .i64 0 ∧ w = wr) (fun _ _ => 0)
    case atStart => exact ⟨rfl, rfl⟩
    case round =>
      obtain ⟨rfl, rfl⟩ := hrel
      go_wp2_with fail
      go_ret
      exact ⟨true, rfl, (fun h => by cases h), rfl⟩

end Go.Proofs.YtogicnciheedoaaDoor
