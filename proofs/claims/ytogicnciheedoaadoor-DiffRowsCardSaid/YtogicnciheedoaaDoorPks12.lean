/-
  The texts of one folder in one: MeSpec, MeVal, MeRets, MeSame, MeOpen.
-/
import Derived.Test.YtogicnciheedoaaDoorPks01
import Derived.Test.YtogicnciheedoaaDoorPkbase
import Derived.Deep.RegionHeld3
import Derived.Lib.SmallJoins
import Derived.ChangeSame

/-
  What chapter 12 says, as plain functions: a meta is (Size, Mode, Chunks).
-/
namespace Go.Proofs.YtogicnciheedoaaDoor
set_option maxRecDepth 100000

abbrev Mt := Int × Int × List Int
/-- So many numbers that bytes begin with. -/
def getNs : Nat → List UInt8 → Option (List Int × List UInt8)
  | 0, s => some ([], s)
  | k + 1, s => (getN s).bind fun x => (getNs k x.2).map fun y => ((x.1 : Int) :: y.1, y.2)
/-- The meta that bytes begin with, and what stands behind it. -/
def readM (s : List UInt8) : Option (Mt × List UInt8) :=
  (getN s).bind fun x => if 1000000000 < x.1 then none else
  (getN x.2).bind fun y => if 4095 < y.1 then none else
  (getN y.2).bind fun n => if 16 < n.1 then none else
  (getNs n.1 n.2).map fun c => (((x.1 : Int), (y.1 : Int), c.1), c.2)
def getM (s : List UInt8) : Option Mt := (readM s).bind fun x => if x.2 = [] then some x.1 else none
/-- What Get answers: zero values where there is none. -/
def gotM (s : List UInt8) : Mt := (getM s).getD (0, 0, [])
def redG (s : List UInt8) : Bool := s == [0]
/-- What Read answers. -/
def redM (s : List UInt8) : Mt := if s.head? = some 1 then gotM s.tail else (0, 0, [])
def sameM (z d : Int) (cs : List Int) (z' d' : Int) (cs' : List Int) : Bool := (z == z') && ((d == d') && (cs == cs'))

theorem sameM_iff {z d : Int} {cs : List Int} {z' d' : Int} {cs' : List Int} : sameM z d cs z' d' cs' = true ↔ (z, d, cs) = (z', d', cs') := by
  simp [sameM]
end Go.Proofs.YtogicnciheedoaaDoor

/-
  A meta as a value.
-/
namespace Go.Proofs.YtogicnciheedoaaDoor
set_option maxRecDepth 100000
open Go.RowKit

/-- A meta as a value. -/
abbrev MV (z d : Int) (v : Value) : Value := .agg #[.int .i64 z, .int .i64 d, v]
theorem Ints.nil (w : World) : Ints w (.slice none 0 0) [] := Rw.nil w 1

end Go.Proofs.YtogicnciheedoaaDoor

/-
  A meta as a result: alone, with an error's number, with a bool and an error's number.
-/
namespace Go.Proofs.YtogicnciheedoaaDoor
set_option maxRecDepth 100000
open Go.RowKit

end Go.Proofs.YtogicnciheedoaaDoor

/-
  The law file's helpers of metas: Ints, Same.
-/
namespace Go.Proofs.YtogicnciheedoaaDoor
set_option maxRecDepth 100000
open Go.RowKit

/-- The first k ints are the same. -/
theorem intsSame_all {a b : List Int} (hl : a.length = b.length) (h : a.take a.length = b.take a.length) : (a == b) = true := by
  rw [List.take_length, hl, List.take_length] at h
  simpa using h
theorem intsSame_next {a b : List Int} {k : Nat} (h : a.take k = b.take k) (ha : k < a.length) (hb : k < b.length) (he : a[k] = b[k]) : a.take (k + 1) = b.take (k + 1) := by
  rw [List.take_succ_eq_append_getElem ha, List.take_succ_eq_append_getElem hb, h, he]
theorem intsSame_not {a b : List Int} {k : Nat} (ha : k < a.length) (hb : k < b.length) (he : a[k] ≠ b[k]) : (a == b) = false := by
  rw [beq_eq_false_iff_ne]
  intro e
  subst e
  exact he rfl

set_option maxHeartbeats 2000000 in
theorem refInts_calls (va vb : Value) (a b : List Int) (w : World) (ha : Ints w va a) (hb : Ints w vb b) (hla : a.length ≤ 1000000) :
    Calls Tryd.prog 30 #[va, vb] w fun e w' => e = .returned (.bool (a == b)) ∧ Below w.heap.size w w' := by
  obtain ⟨aa, ca, rfl⟩ := ha.form
  obtain ⟨ab, cb, rfl⟩ := hb.form
  have HA := Lib.hid ha
  have HB := Lib.hid hb
  clear ha hb
  by_cases hl : a.length = b.length
  · have hne : ((a.length : Int) != (b.length : Int)) = false := by rw [bne_eq_false_iff_eq]; omega
    have HL := Lib.hid hl
    go_enter Tryd.func30, Tryd.ntmps30
    clear hl
    go_wp2_with fail
    go_loopw [5] (fun i wr => ∃ k : Nat, k ≤ a.length ∧ i = .int .i64 k ∧ Hid (a.take k = b.take k) ∧ Hid (Below w.heap.size w wr)) (fun i _ => a.length - (intOf i).toNat)
    case atStart => exact ⟨0, Nat.zero_le _, rfl, Lib.hid (by simp), Lib.hid (Below.refl _ _)⟩
    case round =>
      obtain ⟨k, hk, rfl, hf, hB⟩ := hrel
      by_cases hlt : k < a.length
      · have hlt2 : k < b.length := by have := HL.out; omega
        obtain ⟨ba, oa, rfl, cella⟩ := (HA.out.below hB.out).at hlt
        obtain ⟨bb, ob, rfl, cellb⟩ := (HB.out.below hB.out).at hlt2
        have ca2 := look_below (drew_below wr) cella
        have cb2 := look_below (drew_below wr) cellb
        have hn := fun h => intsSame_next hf.out hlt hlt2 h
        have hx := fun h => intsSame_not hlt hlt2 h
        generalize a[k] = x at *
        generalize b[k] = y at *
        by_cases hxy : x = y
        · have HN := Lib.hid (hn hxy)
          subst hxy
          clear hn hx cella cellb
          go_wp2_with fail
          go_region
          all_goals
            go_wp2_with fail
            go_roundw
            case rel => exact ⟨k + 1, by omega, by go_num, HN, Lib.hid (hB.out.drew)⟩
            case measure => simp [intOf]; omega
        · have HX := Lib.hid (hx hxy)
          have hd : (x != y) = true := by rw [bne_iff_ne]; exact hxy
          clear hn hx cella cellb hxy
          go_wp2_with fail
          go_region
          all_goals
            go_wp2_with fail
            go_ret
            exact ⟨by rw [HX.out]; rfl, hB.out.drew⟩
      · obtain rfl : k = a.length := by omega
        have HS := Lib.hid (intsSame_all HL.out hf.out)
        go_wp2_with fail
        go_ret
        exact ⟨by rw [HS.out]; rfl, hB.out⟩
  · have hne : ((a.length : Int) != (b.length : Int)) = true := by rw [bne_iff_ne]; omega
    have HX := Lib.hid (show (a == b) = false by rw [beq_eq_false_iff_ne]; intro e; exact hl (by rw [e]))
    clear hl
    go_enter Tryd.func30, Tryd.ntmps30
    go_wp2_with fail
    go_ret
    exact ⟨by rw [HX.out]; rfl, Below.refl _ _⟩

set_option maxHeartbeats 2000000 in
theorem mSame_calls (z d : Int) (v : Value) (cs : List Int) (z' d' : Int) (v' : Value) (cs' : List Int) (w : World) (hv : Ints w v cs) (hv' : Ints w v' cs') (hl : cs.length ≤ 1000000) :
    Calls Tryd.prog 20 #[MV z d v, MV z' d' v'] w fun e w' => e = .returned (.bool (sameM z d cs z' d' cs')) ∧ Below w.heap.size w w' := by
  have hB := below_alloc2 w (.cells #[.int .i64 z, .int .i64 d, v] 34) (.cells #[.int .i64 z', .int .i64 d', v'] 34)
  obtain ⟨ao, ca, rfl⟩ := hv.form
  obtain ⟨ab, cb, rfl⟩ := hv'.form
  have K := Lib.hid (refInts_calls _ _ cs cs' _ (hv.below hB) (hv'.below hB) hl)
  unfold sameM
  clear hv hv' hB
  by_cases hz : z = z'
  · have hz1 : (z == z') = true := by simpa using hz
    by_cases hd : d = d'
    · have hd1 : (d == d') = true := by simpa using hd
      rw [hz1, hd1]
      generalize (cs == cs') = b at *
      clear hz hd
      go_enter Tryd.func20, Tryd.ntmps20
      go_wp2_with (refine K.out.mono ?_; rintro e w1 ⟨rfl, hB1⟩)
      go_ret
      exact ⟨rfl, below2 (below_alloc2 _ _ _) hB1⟩
    · have hd1 : (d == d') = false := by simpa using hd
      rw [hz1, hd1]
      clear hz hd
      go_enter Tryd.func20, Tryd.ntmps20
      go_wp2_with fail
      go_ret
      exact ⟨rfl, below_alloc2 _ _ _⟩
  · have hz1 : (z == z') = false := by simpa using hz
    rw [hz1]
    clear hz
    go_enter Tryd.func20, Tryd.ntmps20
    go_wp2_with fail
    go_ret
    exact ⟨rfl, below_alloc2 _ _ _⟩

end Go.Proofs.YtogicnciheedoaaDoor

/-
  A meta that came in, opened.
-/
namespace Go.Proofs.YtogicnciheedoaaDoor
set_option maxRecDepth 100000
open Go.RowKit Go.Joins Go.ChangeShapes Go.WideShapes

theorem metaCells : Tryd.prog.cellsOf 34 = 3 := by kernel_rfl
end Go.Proofs.YtogicnciheedoaaDoor
