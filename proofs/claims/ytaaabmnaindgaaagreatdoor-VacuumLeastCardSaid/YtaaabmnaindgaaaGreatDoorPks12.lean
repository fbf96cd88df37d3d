/-
  The texts of one folder in one: MeSpec, MeVal, MeIs, MeNext, MeRets, MeRead, MeGet, MeRd, MeNums, MePut, MeValue, MeAllN, MeRefN, MeRefI, MeRefG, MeRefR, MeOpen, MeSame.
-/
import Derived.Test.YtaaabmnaindgaaaGreatDoorPks01
import Derived.Test.YtaaabmnaindgaaaGreatDoorPkbase
import Derived.Deep.RegionLaw
import Derived.Deep.DeepCutAuto
import Derived.Deep.AppendLies
import Derived.Deep.RegionHeld3
import Derived.Tactics
import Derived.Tactics2
import Derived.Defers
import Derived.Recover
import Derived.Laws.Pointers
import Derived.Test.YtaaabmnaindgaaaGreatDoorShelf
import Derived.Lib.SmallJoins
import Derived.ChangeSame

/-
  What chapter 12 says, as plain functions: a meta is (Size, Mode, Chunks).
-/
namespace Go.Proofs.YtaaabmnaindgaaaGreatDoor
set_option maxRecDepth 100000

def upB (n m : Int) : Bool := decide (0 ≤ n) && decide (n ≤ m)
abbrev Mt := Int × Int × List Int
def metaB (z d : Int) (cs : List Int) : Bool := decide (cs.length ≤ 16) && (upB z 1000000000 && (upB d 4095 && cs.all fun c => upB c 4294967295))
/-- The bytes of numbers, one behind the other. -/
def numsB (l : List Int) : List UInt8 := (l.map fun n => numB n.toNat).flatten
def metaT (z d : Int) (cs : List Int) : List UInt8 := numsB [z, d, (cs.length : Int)] ++ numsB cs
def putMe (z d : Int) (cs : List Int) : Int := if metaB z d cs then 0 else 1
def valM (z d : Int) (cs : List Int) (g : Bool) : List UInt8 := if g then [0] else if metaB z d cs then 1 :: metaT z d cs else []
def valMe (z d : Int) (cs : List Int) (g : Bool) : Int := if g then 0 else putMe z d cs

/-- So many numbers that bytes begin with. -/
def getNs : Nat → List UInt8 → Option (List Int × List UInt8)
  | 0, s => some ([], s)
  | k + 1, s => (getN s).bind fun x => (getNs k x.2).map fun y => ((x.1 : Int) :: y.1, y.2)
/-- The meta that bytes begin with, and what stands behind it. -/
def readM (s : List UInt8) : Option (Mt × List UInt8) :=
  (getN s).bind fun x => if 1000000000 < x.1 then none else
  (getN x.2).bind fun y => if 4095 < y.1 then none else
  (getN y.2).bind fun n => if 16 < n.1 then none else
  (getNs n.1 n.2).map fun c => (((x.1 : Int), (y.1 : Int), c.1), c.2)
def getM (s : List UInt8) : Option Mt := (readM s).bind fun x => if x.2 = [] then some x.1 else none
/-- What Get answers: zero values where there is none. -/
def gotM (s : List UInt8) : Mt := (getM s).getD (0, 0, [])
def gotE (s : List UInt8) : Int := if (getM s).isSome then 0 else 30
def redG (s : List UInt8) : Bool := s == [0]
/-- What Read answers. -/
def redM (s : List UInt8) : Mt := if s.head? = some 1 then gotM s.tail else (0, 0, [])
def redE (s : List UInt8) : Int := if s = [0] then 0 else if s.head? = some 1 then gotE s.tail else 30
def sameM (z d : Int) (cs : List Int) (z' d' : Int) (cs' : List Int) : Bool := (z == z') && ((d == d') && (cs == cs'))

theorem upB_iff {n m : Int} : upB n m = true ↔ 0 ≤ n ∧ n ≤ m := by simp [upB]
theorem upB_not {n m : Int} (h : n < 0 ∨ m < n) : upB n m = false := by
  cases hq : upB n m with
  | false => rfl
  | true => have := upB_iff.1 hq; omega
theorem metaB_iff {z d : Int} {cs : List Int} : metaB z d cs = true ↔ cs.length ≤ 16 ∧ (0 ≤ z ∧ z ≤ 1000000000) ∧ (0 ≤ d ∧ d ≤ 4095) ∧ ∀ c ∈ cs, 0 ≤ c ∧ c ≤ 4294967295 := by
  simp [metaB, upB_iff]
theorem numsB_nil : numsB [] = [] := rfl
theorem numsB_cons (n : Int) (l : List Int) : numsB (n :: l) = numB n.toNat ++ numsB l := by simp [numsB]
theorem numsB_app (a b : List Int) : numsB (a ++ b) = numsB a ++ numsB b := by simp [numsB]
theorem numsB_snoc (l : List Int) (n : Int) : numsB (l ++ [n]) = numsB l ++ numB n.toNat := by simp [numsB]
theorem numsB_len : ∀ l : List Int, (numsB l).length ≤ 5 * l.length
  | [] => by simp [numsB]
  | n :: l => by
    have := numsB_len l
    have h := numB_length n.toNat
    have hw := wid_le n.toNat
    rw [numsB_cons, List.length_append, List.length_cons]
    omega
theorem nums_take {l : List Int} {k : Nat} (hk : k < l.length) : numsB (l.take (k + 1)) = numsB (l.take k) ++ numB l[k].toNat := by
  rw [List.take_succ_eq_append_getElem hk, numsB_snoc]

/-- Numbers' bytes are read. -/
theorem getNs_laid : ∀ (l : List Int) (r : List UInt8), (∀ c ∈ l, 0 ≤ c ∧ c ≤ 4294967295) → getNs l.length (numsB l ++ r) = some (l, r)
  | [], r, _ => rfl
  | n :: l, r, h => by
    have h1 := h n (by simp)
    have h2 := getNs_laid l r (fun c hc => h c (by simp [hc]))
    rw [numsB_cons, List.append_assoc, List.length_cons, getNs, laid_getN _ (by omega)]
    simp only [Option.bind_some, h2, Option.map_some]
    rw [Int.toNat_of_nonneg h1.1]
theorem laid_getNs : ∀ (k : Nat) {s r : List UInt8} {l : List Int}, getNs k s = some (l, r) → s = numsB l ++ r ∧ l.length = k ∧ ∀ c ∈ l, 0 ≤ c ∧ c ≤ 4294967295
  | 0, s, r, l, h => by
    simp only [getNs, Option.some.injEq, Prod.mk.injEq] at h
    obtain ⟨rfl, rfl⟩ := h
    simp [numsB]
  | k + 1, s, r, l, h => by
    rw [getNs] at h
    cases hn : getN s with
    | none => rw [hn] at h; cases h
    | some x =>
      obtain ⟨n, r1⟩ := x
      rw [hn, Option.bind_some] at h
      cases hk : getNs k r1 with
      | none => rw [hk] at h; cases h
      | some y =>
        obtain ⟨l1, r2⟩ := y
        rw [hk] at h
        simp only [Option.map_some, Option.some.injEq, Prod.mk.injEq] at h
        obtain ⟨rfl, rfl⟩ := h
        obtain ⟨h1, h2⟩ := getN_laid hn
        obtain ⟨h3, h4, h5⟩ := laid_getNs k hk
        refine ⟨?_, by simp [h4], ?_⟩
        · rw [numsB_cons, List.append_assoc, ← h3, h1]; simp
        · intro c hc
          rcases List.mem_cons.1 hc with rfl | hc
          · omega
          · exact h5 c hc
/-- One number more. -/
theorem getNs_more : ∀ (k : Nat) {s r r2 : List UInt8} {l : List Int} {n : Nat}, getNs k s = some (l, r) → getN r = some (n, r2) → getNs (k + 1) s = some (l ++ [(n : Int)], r2)
  | 0, s, r, r2, l, n, h, hn => by
    simp only [getNs, Option.some.injEq, Prod.mk.injEq] at h
    obtain ⟨rfl, rfl⟩ := h
    simp [getNs, hn]
  | k + 1, s, r, r2, l, n, h, hn => by
    rw [getNs] at h
    cases hx : getN s with
    | none => rw [hx] at h; cases h
    | some x =>
      rw [hx, Option.bind_some] at h
      cases hk : getNs k x.2 with
      | none => rw [hk] at h; cases h
      | some y =>
        obtain ⟨l1, r1⟩ := y
        rw [hk] at h
        simp only [Option.map_some, Option.some.injEq, Prod.mk.injEq] at h
        obtain ⟨rfl, rfl⟩ := h
        have := getNs_more k hk hn
        rw [getNs, hx, Option.bind_some, this]
        rfl
theorem getNs_stop : ∀ (k : Nat) {s r : List UInt8} {l : List Int}, getNs k s = some (l, r) → getN r = none → ∀ m, k < m → getNs m s = none
  | 0, s, r, l, h, hn, m, hm => by
    simp only [getNs, Option.some.injEq, Prod.mk.injEq] at h
    obtain ⟨rfl, rfl⟩ := h
    obtain ⟨m, rfl⟩ : ∃ m', m = m' + 1 := ⟨m - 1, by omega⟩
    simp [getNs, hn]
  | k + 1, s, r, l, h, hn, m, hm => by
    obtain ⟨m, rfl⟩ : ∃ m', m = m' + 1 := ⟨m - 1, by omega⟩
    rw [getNs] at h ⊢
    cases hx : getN s with
    | none => rw [hx] at h; cases h
    | some x =>
      rw [hx, Option.bind_some] at h
      rw [Option.bind_some]
      cases hk : getNs k x.2 with
      | none => rw [hk] at h; cases h
      | some y =>
        obtain ⟨l1, r1⟩ := y
        rw [hk] at h
        simp only [Option.map_some, Option.some.injEq, Prod.mk.injEq] at h
        obtain ⟨rfl, rfl⟩ := h
        rw [getNs_stop k hk hn m (by omega)]
        rfl

theorem metaT_eq (z d : Int) (cs : List Int) (r : List UInt8) : metaT z d cs ++ r = numB z.toNat ++ (numB d.toNat ++ (numB cs.length ++ (numsB cs ++ r))) := by
  simp [metaT, numsB_cons, numsB_nil]
/-- A meta's bytes are read, whatever stands behind. -/
theorem readM_laid {z d : Int} {cs : List Int} (h : metaB z d cs = true) (r : List UInt8) : readM (metaT z d cs ++ r) = some ((z, d, cs), r) := by
  obtain ⟨h1, h2, h3, h4⟩ := metaB_iff.1 h
  rw [metaT_eq, readM, laid_getN _ (by omega), Option.bind_some]
  dsimp only
  rw [if_neg (by omega), laid_getN _ (by omega), Option.bind_some]
  dsimp only
  rw [if_neg (by omega), laid_getN _ (by omega), Option.bind_some]
  dsimp only
  rw [if_neg (by omega), getNs_laid cs r h4, Option.map_some, Int.toNat_of_nonneg h2.1, Int.toNat_of_nonneg h3.1]
theorem laid_readM {s r : List UInt8} {z d : Int} {cs : List Int} (h : readM s = some ((z, d, cs), r)) : s = metaT z d cs ++ r ∧ metaB z d cs = true := by
  rw [readM] at h
  cases hx : getN s with
  | none => rw [hx] at h; cases h
  | some x =>
    obtain ⟨a, r1⟩ := x
    rw [hx, Option.bind_some] at h
    dsimp only at h
    by_cases h1 : 1000000000 < a
    · rw [if_pos h1] at h; cases h
    · rw [if_neg h1] at h
      cases hy : getN r1 with
      | none => rw [hy] at h; cases h
      | some y =>
        obtain ⟨b, r2⟩ := y
        rw [hy, Option.bind_some] at h
        dsimp only at h
        by_cases h2 : 4095 < b
        · rw [if_pos h2] at h; cases h
        · rw [if_neg h2] at h
          cases hn : getN r2 with
          | none => rw [hn] at h; cases h
          | some n =>
            obtain ⟨n, r3⟩ := n
            rw [hn, Option.bind_some] at h
            dsimp only at h
            by_cases h3 : 16 < n
            · rw [if_pos h3] at h; cases h
            · rw [if_neg h3] at h
              cases hk : getNs n r3 with
              | none => rw [hk] at h; cases h
              | some c =>
                obtain ⟨c, r4⟩ := c
                rw [hk] at h
                simp only [Option.map_some, Option.some.injEq, Prod.mk.injEq] at h
                obtain ⟨⟨rfl, rfl, rfl⟩, rfl⟩ := h
                obtain ⟨e1, b1⟩ := getN_laid hx
                obtain ⟨e2, b2⟩ := getN_laid hy
                obtain ⟨e3, b3⟩ := getN_laid hn
                obtain ⟨e4, e5, e6⟩ := laid_getNs n hk
                refine ⟨?_, metaB_iff.2 ⟨by omega, ⟨by omega, by omega⟩, ⟨by omega, by omega⟩, e6⟩⟩
                rw [metaT_eq, e5, ← e4, Int.toNat_natCast, Int.toNat_natCast, ← e3, ← e2, ← e1]
theorem getM_laid {z d : Int} {cs : List Int} (h : metaB z d cs = true) : getM (metaT z d cs) = some (z, d, cs) := by
  have := readM_laid h []
  rw [List.append_nil] at this
  simp [getM, this]
theorem laid_getM {s : List UInt8} {z d : Int} {cs : List Int} (h : getM s = some (z, d, cs)) : s = metaT z d cs ∧ metaB z d cs = true := by
  rw [getM] at h
  cases hr : readM s with
  | none => rw [hr] at h; cases h
  | some x =>
    obtain ⟨⟨a, b, c⟩, r⟩ := x
    rw [hr, Option.bind_some] at h
    dsimp only at h
    by_cases h0 : r = []
    · rw [if_pos h0] at h
      simp only [Option.some.injEq, Prod.mk.injEq] at h
      obtain ⟨rfl, rfl, rfl⟩ := h
      obtain ⟨h1, h2⟩ := laid_readM hr
      rw [h0, List.append_nil] at h1
      exact ⟨h1, h2⟩
    · rw [if_neg h0] at h; cases h
theorem metaT_len (z d : Int) (cs : List Int) : (metaT z d cs).length ≤ 15 + 5 * cs.length := by
  have h1 := numsB_len [z, d, (cs.length : Int)]
  have h2 := numsB_len cs
  simp only [List.length_cons, List.length_nil] at h1
  rw [metaT, List.length_append]
  omega
theorem sameM_iff {z d : Int} {cs : List Int} {z' d' : Int} {cs' : List Int} : sameM z d cs z' d' cs' = true ↔ (z, d, cs) = (z', d', cs') := by
  simp [sameM]
end Go.Proofs.YtaaabmnaindgaaaGreatDoor

/-
  A meta as a value.
-/
namespace Go.Proofs.YtaaabmnaindgaaaGreatDoor
set_option maxRecDepth 100000
open Go.RowKit

/-- A meta as a value. -/
abbrev MV (z d : Int) (v : Value) : Value := .agg #[.int .i64 z, .int .i64 d, v]
theorem Ints.nil (w : World) : Ints w (.slice none 0 0) [] := Rw.nil w 1

end Go.Proofs.YtaaabmnaindgaaaGreatDoor

/-
  meta.upTo, meta.Is.
-/
namespace Go.Proofs.YtaaabmnaindgaaaGreatDoor
set_option maxRecDepth 100000
open Go.RowKit


set_option maxHeartbeats 1000000 in
theorem upTo_calls (n m : Int) (w : World) : Calls Tryz.prog 119 #[.int .i64 n, .int .i64 m] w fun e w' => e = .returned (.bool (upB n m)) ∧ w = w' := by
  unfold upB
  by_cases h : 0 ≤ n
  · go_enter Tryz.func119, Tryz.ntmps119
    go_wp2_with fail
    go_ret
    exact ⟨by simp [h], rfl⟩
  · have h' : n < 0 := by omega
    go_enter Tryz.func119, Tryz.ntmps119
    go_wp2_with fail
    go_ret
    exact ⟨by rw [decide_eq_false (by omega)]; rfl, rfl⟩

/-- The first k chunks may be. -/
theorem chs_more {cs : List Int} {k : Nat} (h : (cs.take k).all (fun c => upB c 4294967295) = true) (hk : k < cs.length) (hc : upB cs[k] 4294967295 = true) : (cs.take (k + 1)).all (fun c => upB c 4294967295) = true := by
  rw [List.take_succ_eq_append_getElem hk, List.all_append, h]
  simp [hc]
theorem chs_not {cs : List Int} {k : Nat} (hk : k < cs.length) (hc : upB cs[k] 4294967295 = false) : cs.all (fun c => upB c 4294967295) = false := by
  rw [List.all_eq_false]
  exact ⟨cs[k], List.getElem_mem hk, by simp [hc]⟩

set_option maxHeartbeats 2000000 in
theorem mIs_calls (z d : Int) (v : Value) (cs : List Int) (w : World) (hv : Ints w v cs) (hl : cs.length ≤ 1000000) :
    Calls Tryz.prog 98 #[MV z d v] w fun e w' => e = .returned (.bool (metaB z d cs)) ∧ Below w.heap.size w w' := by
  obtain ⟨ao, cap, rfl⟩ := hv.form
  have HV := Lib.hid (hv.below (below_alloc w (.cells #[.int .i64 z, .int .i64 d, .slice ao cs.length cap] 51)))
  clear hv
  by_cases h1 : 16 < cs.length
  · have hr : metaB z d cs = false := by unfold metaB; rw [decide_eq_false (by omega)]; rfl
    have HR := Lib.hid hr
    clear hr
    rw [HR.out]
    have hd : decide ((16 : Int) < cs.length) = true := by rw [decide_eq_true_eq]; omega
    go_enter Tryz.func98, Tryz.ntmps98
    go_wp2_with fail
    go_ret
    exact ⟨rfl, below_alloc _ _⟩
  have hd : decide ((16 : Int) < cs.length) = false := by rw [decide_eq_false_iff_not]; omega
  cases hz : upB z 1000000000 with
  | false =>
    have hr : metaB z d cs = false := by unfold metaB; rw [hz]; simp
    have HR := Lib.hid hr
    have HZ := Lib.hid hz
    clear hr hz h1
    rw [HR.out]
    go_enter Tryz.func98, Tryz.ntmps98
    go_wp2_with (go_at_call 119; with_reducible refine (upTo_calls z 1000000000 _).mono ?_; rintro e w1 ⟨rfl, rfl⟩; rw [HZ.out])
    go_ret
    exact ⟨rfl, below_alloc _ _⟩
  | true =>
  cases hm : upB d 4095 with
  | false =>
    have hr : metaB z d cs = false := by unfold metaB; rw [hz, hm]; simp
    have HR := Lib.hid hr
    have HZ := Lib.hid hz
    have HM := Lib.hid hm
    clear hr hz h1 hm
    rw [HR.out]
    go_enter Tryz.func98, Tryz.ntmps98
    go_wp2_with (first | (go_at_call 119; with_reducible refine (upTo_calls z 1000000000 _).mono ?_; rintro e w1 ⟨rfl, rfl⟩; rw [HZ.out]) | (go_at_call 119; with_reducible refine (upTo_calls d 4095 _).mono ?_; rintro e w1 ⟨rfl, rfl⟩; rw [HM.out]))
    go_ret
    exact ⟨rfl, below_alloc _ _⟩
  | true =>
    have hr : metaB z d cs = cs.all fun c => upB c 4294967295 := by unfold metaB; rw [hz, hm, decide_eq_true (by omega)]; simp
    have HR := Lib.hid hr
    have HZ := Lib.hid hz
    have HM := Lib.hid hm
    clear hr hz h1 hm
    rw [HR.out]
    go_enter Tryz.func98, Tryz.ntmps98
    go_wp2_with (first | (go_at_call 119; with_reducible refine (upTo_calls z 1000000000 _).mono ?_; rintro e w1 ⟨rfl, rfl⟩; rw [HZ.out]) | (go_at_call 119; with_reducible refine (upTo_calls d 4095 _).mono ?_; rintro e w1 ⟨rfl, rfl⟩; rw [HM.out]))
    go_loop [24] (fun i => ∃ k : Nat, k ≤ cs.length ∧ i = .int .i64 k ∧ Hid ((cs.take k).all (fun c => upB c 4294967295) = true)) (fun i => cs.length - (intOf i).toNat)
    case atStart => exact ⟨0, Nat.zero_le _, rfl, Lib.hid (by simp)⟩
    case round =>
      obtain ⟨k, hk, rfl, hf⟩ := hrel
      by_cases hlt : k < cs.length
      · obtain ⟨b, off, rfl, hcell⟩ := HV.out.at hlt
        have hm := fun h => chs_more hf.out hlt h
        have hn := chs_not hlt
        generalize cs[k] = c at hcell hm hn
        cases hc : upB c 4294967295 with
        | false =>
          have HN := Lib.hid (hn hc)
          have HC := Lib.hid hc
          clear hm hn hc
          go_wp2_with (go_at_call 119; with_reducible refine (upTo_calls c 4294967295 _).mono ?_; rintro e w1 ⟨rfl, rfl⟩; rw [HC.out])
          go_ret
          exact ⟨by rw [HN.out]; rfl, below_alloc _ _⟩
        | true =>
          have HN := Lib.hid (hm hc)
          have HC := Lib.hid hc
          clear hm hn hc
          go_wp2_with (go_at_call 119; with_reducible refine (upTo_calls c 4294967295 _).mono ?_; rintro e w1 ⟨rfl, rfl⟩; rw [HC.out])
          go_round
          case rel => exact ⟨k + 1, by omega, by go_num, HN⟩
          case measure => simp [intOf]; omega
      · obtain rfl : k = cs.length := by omega
        have hA := Lib.hid (by simpa using hf.out : cs.all (fun c => upB c 4294967295) = true)
        go_wp2_with fail
        go_ret
        exact ⟨by rw [hA.out]; rfl, below_alloc _ _⟩

end Go.Proofs.YtaaabmnaindgaaaGreatDoor

/-
  meta's reader: number, end; readMeta.
-/
namespace Go.Proofs.YtaaabmnaindgaaaGreatDoor
set_option maxRecDepth 100000
open Go.RowKit

/-- What is thrown at what is no meta's. -/
def thrownM : PanicEntry := { v := .iface 28 (.int .i64 30), recovered := false }
/-- The reader's box. -/
abbrev RdBox (w : World) (b : Nat) (s : List UInt8) : Prop := Boxed w b 148 (.string ⟨s.toArray⟩)

theorem panic_out {f : Func} {R : Ending → World → Prop} {ps : List PanicEntry} {a : Act} {w : World} (hd : a.defers = []) (h : R (.panicked ps) w) : bodyPost Tryz.prog f R (.panic ps) a w := by
  simp [bodyPost, hd, h]
theorem rd_below {w w' : World} {b : Nat} {s : List UInt8} (h : RdBox w b s) (hB : Below w.heap.size w w') : RdBox w' b s := (hB.block b h.lt).trans h
theorem grown_row {w w' : World} (h : Below w.heap.size w w') (b : Option Nat) : w.grownBy w' b := ⟨h.os, h.tape, h.output, h.size, fun k hk _ => h.block k hk⟩

set_option maxHeartbeats 2000000 in
theorem rNum_ok (b : Nat) (s : List UInt8) (m : Int) (hs : s.length ≤ 4611686018427387904) {n : Nat} {r : List UInt8} (h : getN s = some (n, r)) (hn : (n : Int) ≤ m) (w : World) (hb : RdBox w b s) :
    Calls Tryz.prog 86 #[.pointer (some ⟨b, 0, none⟩), .int .i64 m] w fun e w' => e = .returned (.int .i64 n) ∧ RdBox w' b r ∧ w.grownBy w' (some b) := by
  have H := Lib.hid h
  have hcell := hb.cell
  have hle : decide (m < (n : Int)) = false := by rw [decide_eq_false_iff_not]; omega
  clear h
  go_enter Tryz.func86, Tryz.ntmps86
  go_wp2_with fail
  refine (GetNumber_some s hs H.out _).mono ?_
  rintro e w1 ⟨rfl, hB1⟩
  have hb1 := rd_below hb hB1
  have hcell1 := hb1.cell
  have hfz := hb1.frozen
  go_wp2_with fail
  go_ret
  exact ⟨rfl, hb1.set _, grown_trans (grown_row hB1 _) (grownBy_setCell' _ _ _)⟩

set_option maxHeartbeats 2000000 in
theorem rNum_no (b : Nat) (s : List UInt8) (m : Int) (hs : s.length ≤ 4611686018427387904) (h : ∀ n r, getN s = some (n, r) → m < (n : Int)) (w : World) (hb : RdBox w b s) :
    Calls Tryz.prog 86 #[.pointer (some ⟨b, 0, none⟩), .int .i64 m] w fun e w' => e = .panicked [thrownM] ∧ w.grownBy w' (some b) := by
  have hcell := hb.cell
  cases hg : getN s with
  | none =>
    have H := Lib.hid hg
    clear hg h
    go_enter Tryz.func86, Tryz.ntmps86
    go_wp2_with fail
    refine (GetNumber_none s hs H.out _).mono ?_
    rintro e w1 ⟨rfl, hB1⟩
    go_wp2_with fail
    exact panic_out rfl ⟨rfl, grown_row hB1 _⟩
  | some x =>
    obtain ⟨n, r⟩ := x
    have hle : decide (m < (n : Int)) = true := by rw [decide_eq_true_eq]; exact h n r hg
    have H := Lib.hid hg
    clear hg h
    go_enter Tryz.func86, Tryz.ntmps86
    go_wp2_with fail
    refine (GetNumber_some s hs H.out _).mono ?_
    rintro e w1 ⟨rfl, hB1⟩
    go_wp2_with fail
    exact panic_out rfl ⟨rfl, grown_row hB1 _⟩

set_option maxHeartbeats 1000000 in
theorem rEnd_ok (b : Nat) (w : World) (hb : RdBox w b []) : Calls Tryz.prog 87 #[.pointer (some ⟨b, 0, none⟩)] w fun e w' => e = .returned (.tuple #[]) ∧ w' = w := by
  have hcell := hb.cell
  go_enter Tryz.func87, Tryz.ntmps87
  go_wp2_with fail
  go_end0
  exact ⟨rfl, rfl⟩
set_option maxHeartbeats 1000000 in
theorem rEnd_no (b : Nat) (s : List UInt8) (h : s ≠ []) (w : World) (hb : RdBox w b s) : Calls Tryz.prog 87 #[.pointer (some ⟨b, 0, none⟩)] w fun e w' => e = .panicked [thrownM] ∧ w' = w := by
  have hcell := hb.cell
  have hne : (s == []) = false := by simpa using h
  go_enter Tryz.func87, Tryz.ntmps87
  go_wp2_with fail
  exact panic_out rfl ⟨rfl, rfl⟩

end Go.Proofs.YtaaabmnaindgaaaGreatDoor

/-
  A meta as a result: alone, with an error's number, with a bool and an error's number.
-/
namespace Go.Proofs.YtaaabmnaindgaaaGreatDoor
set_option maxRecDepth 100000
open Go.RowKit

theorem meta_agg (w : World) : (isAgg 51).run Tryz.prog w = .ok true w := by simp [isAgg, run_underlying Tryz.underlying51]
theorem meta_size : (Tryz.prog.info? 51).map (·.size) = some 3 := by kernel_rfl
theorem load_meta (w : World) (g : Nat) (v0 v1 v2 : Value) (c0 : w.cell? ⟨g, 0, none⟩ = some v0) (c1 : w.cell? ⟨g, 1, none⟩ = some v1) (c2 : w.cell? ⟨g, 2, none⟩ = some v2) :
    (loadVar 51 ⟨g, 0, none⟩).run Tryz.prog w = .ok (.agg #[v0, v1, v2]) w :=
  load_many (cs := [v0, v1, v2]) (meta_agg w) meta_size fun j u hu => by
    match j, hu with
    | 0, hu => simp at hu; subst hu; simpa using c0
    | 1, hu => simp at hu; subst hu; simpa using c1
    | 2, hu => simp at hu; subst hu; simpa using c2
theorem ret_meta {fn : Func} {p : Tmp} {R : Ending → World → Prop} {a : Act} {w : World} (h : fn.results = #[.cell p 51]) (hd : a.defers = []) (g : Nat) (v0 v1 v2 : Value) (hp : a.tmps.getD p undef = .pointer (some ⟨g, 0, none⟩))
    (c0 : w.cell? ⟨g, 0, none⟩ = some v0) (c1 : w.cell? ⟨g, 1, none⟩ = some v1) (c2 : w.cell? ⟨g, 2, none⟩ = some v2) (hR : R (.returned (.agg #[v0, v1, v2])) w) : bodyPost Tryz.prog fn R .ret a w := by
  refine bodyPost_ret (v := .agg #[v0, v1, v2]) ?_ hd hR
  have hp' : a.tmps[p]?.getD undef = .pointer (some ⟨g, 0, none⟩) := by simpa using hp
  simp [results, h, hp', asAddr, load_meta w g v0 v1 v2 c0 c1 c2]
theorem ret_meta2 {fn : Func} {p q : Tmp} {R : Ending → World → Prop} {a : Act} {w : World} (h : fn.results = #[.cell p 51, .tmp q]) (hd : a.defers = []) (g : Nat) (v0 v1 v2 v3 : Value) (hp : a.tmps.getD p undef = .pointer (some ⟨g, 0, none⟩))
    (hq : a.tmps.getD q undef = v3) (c0 : w.cell? ⟨g, 0, none⟩ = some v0) (c1 : w.cell? ⟨g, 1, none⟩ = some v1) (c2 : w.cell? ⟨g, 2, none⟩ = some v2) (hR : R (.returned (.tuple #[.agg #[v0, v1, v2], v3])) w) : bodyPost Tryz.prog fn R .ret a w := by
  refine bodyPost_ret (v := .tuple #[.agg #[v0, v1, v2], v3]) ?_ hd hR
  have hp' : a.tmps[p]?.getD undef = .pointer (some ⟨g, 0, none⟩) := by simpa using hp
  have hq' : a.tmps[q]?.getD undef = v3 := by simpa using hq
  simp [results, h, hp', hq', asAddr, load_meta w g v0 v1 v2 c0 c1 c2]
theorem ret_meta3 {fn : Func} {p q r : Tmp} {R : Ending → World → Prop} {a : Act} {w : World} (h : fn.results = #[.cell p 51, .tmp q, .tmp r]) (hd : a.defers = []) (g : Nat) (v0 v1 v2 v3 v4 : Value) (hp : a.tmps.getD p undef = .pointer (some ⟨g, 0, none⟩))
    (hq : a.tmps.getD q undef = v3) (hr : a.tmps.getD r undef = v4) (c0 : w.cell? ⟨g, 0, none⟩ = some v0) (c1 : w.cell? ⟨g, 1, none⟩ = some v1) (c2 : w.cell? ⟨g, 2, none⟩ = some v2) (hR : R (.returned (.tuple #[.agg #[v0, v1, v2], v3, v4])) w) : bodyPost Tryz.prog fn R .ret a w := by
  refine bodyPost_ret (v := .tuple #[.agg #[v0, v1, v2], v3, v4]) ?_ hd hR
  have hp' : a.tmps[p]?.getD undef = .pointer (some ⟨g, 0, none⟩) := by simpa using hp
  have hq' : a.tmps[q]?.getD undef = v3 := by simpa using hq
  have hr' : a.tmps[r]?.getD undef = v4 := by simpa using hr
  simp [results, h, hp', hq', hr', asAddr, load_meta w g v0 v1 v2 c0 c1 c2]

/-- A box of a meta, written anew. -/
theorem Cx.sets3 {w : World} {b : Nat} {t : TypeId} {v0 v1 v2 : Value} (h : Cx w b t [v0, v1, v2]) (x y z : Value) : Cx (((w.setCell ⟨b, 0, none⟩ x).setCell ⟨b, 1, none⟩ y).setCell ⟨b, 2, none⟩ z) b t [x, y, z] := ((h.set 0 x).set 1 y).set 2 z
theorem below_sets3 {B : Nat} {w w' : World} {b : Nat} (h : Below B w w') (hb : B ≤ b) (x y z : Value) : Below B w (((w'.setCell ⟨b, 0, none⟩ x).setCell ⟨b, 1, none⟩ y).setCell ⟨b, 2, none⟩ z) := ((h.setCell hb _).setCell hb _).setCell hb _

/-- A row of ints of a call's own. -/
abbrev OwnI (w : World) (base : Nat) (v : Value) (cs : List Int) : Prop := w.ownsRow base 3 1 v cs.length (cs.map (Value.int .i64))
theorem ints_own {w : World} {base : Nat} {v : Value} {cs : List Int} (h : OwnI w base v cs) : Ints w v cs := Rw.own h
theorem int_info : (Tryz.prog.info? 3).map (fun i => (i.zero, i.size, i.bytes)) = some (some (.int .i64 0), 1, 8) := by kernel_rfl
theorem news_new (w : World) (u : Value) (t : TypeId) : ∀ j x, [u][j]? = some x → (w.alloc (.cells #[u] t)).cell? ((⟨w.heap.size, 0, none⟩ : Addr).add j) = some x := by
  intro j x hx
  match j, hx with
  | 0, hx => simp at hx; subst hx; simp [Addr.add]
theorem one_int (m : Int) : ∀ u ∈ [Value.int .i64 m], u.oneCell' = true := by
  intro u hu
  simp at hu
  subst hu
  rfl
theorem own_above {W : World} {base g k n : Nat} {e : TypeId} {v : Value} {xs : List Value} (h : W.ownsRow base e k v n xs) (hb : g < base) (j : Nat) (u : Value) : (W.setCell ⟨g, j, none⟩ u).ownsRow base e k v n xs := by
  have hg : W.grownBy (W.setCell ⟨g, j, none⟩ u) (some g) := ⟨rfl, rfl, rfl, by simp [World.setCell], fun k _ hk => Below.heap_setCell _ _ _ _ (fun e => hk (by simp [e]))⟩
  refine h.kept hg (.inr fun e => ?_)
  have := (h.lt _ e).1
  omega
theorem ints_one (l : List Int) : ∀ u ∈ l.map (Value.int .i64), u.oneCell' = true := by
  intro u hu
  obtain ⟨t, _, rfl⟩ := List.mem_map.1 hu
  rfl

end Go.Proofs.YtaaabmnaindgaaaGreatDoor

/-
  meta.readMeta.
-/
namespace Go.Proofs.YtaaabmnaindgaaaGreatDoor
set_option maxRecDepth 100000
open Go.RowKit

/-- The method value 'r.number' of the box b. -/
abbrev nextV (b : Nat) : Value := .func (.func 86) #[.pointer (some ⟨b, 0, none⟩)] #[]
/-- What readMeta leaves. -/
def RMPost (w : World) (b : Nat) (o : Option (Mt × List UInt8)) (e : Ending) (w' : World) : Prop :=
  w.grownBy w' (some b) ∧ match o with
    | none => e = .panicked [thrownM]
    | some x => ∃ v, e = .returned (MV x.1.1 x.1.2.1 v) ∧ w'.ownsRow w.heap.size 3 1 v x.1.2.2.length (x.1.2.2.map (Value.int .i64)) ∧ RdBox w' b x.2

/-- What stands behind the Mode, and behind the Size. -/
def readN (z d : Nat) (s : List UInt8) : Option (Mt × List UInt8) :=
  (getN s).bind fun n => if 16 < n.1 then none else (getNs n.1 n.2).map fun c => (((z : Int), (d : Int), c.1), c.2)
def readD (z : Nat) (s : List UInt8) : Option (Mt × List UInt8) := (getN s).bind fun y => if 4095 < y.1 then none else readN z y.1 y.2
theorem readM_eq (s : List UInt8) : readM s = (getN s).bind fun x => if 1000000000 < x.1 then none else readD x.1 x.2 := rfl
theorem bind_no {α : Type} {s : List UInt8} {m : Nat} {f : Nat × List UInt8 → Option α} (h : ∀ n r, getN s = some (n, r) → (m : Int) < (n : Int)) : ((getN s).bind fun x => if m < x.1 then none else f x) = none := by
  cases hg : getN s with
  | none => rfl
  | some x =>
    have := h x.1 x.2 hg
    rw [Option.bind_some, if_pos (by omega)]
theorem bind_ok {α : Type} {s r : List UInt8} {m n : Nat} {f : Nat × List UInt8 → Option α} (h : getN s = some (n, r)) (hn : (n : Int) ≤ (m : Int)) : ((getN s).bind fun x => if m < x.1 then none else f x) = f (n, r) := by
  rw [h, Option.bind_some, if_neg (by dsimp only; omega)]

/-- What a call of the reader's number tells. -/
theorem rNum_calls (b : Nat) (s : List UInt8) (m : Int) (hs : s.length ≤ 4611686018427387904) (w : World) (hb : RdBox w b s) :
    Calls Tryz.prog 86 #[.pointer (some ⟨b, 0, none⟩), .int .i64 m] w fun e w' => w.grownBy w' (some b) ∧
      ((∃ n r, getN s = some (n, r) ∧ (n : Int) ≤ m ∧ e = .returned (.int .i64 n) ∧ RdBox w' b r) ∨ ((∀ n r, getN s = some (n, r) → m < (n : Int)) ∧ e = .panicked [thrownM])) := by
  by_cases h : ∀ n r, getN s = some (n, r) → m < (n : Int)
  · exact (rNum_no b s m hs h w hb).mono fun e w' he => ⟨he.2, .inr ⟨h, he.1⟩⟩
  · obtain ⟨n, h⟩ := Classical.not_forall.1 h
    obtain ⟨r, h⟩ := Classical.not_forall.1 h
    obtain ⟨h1, h2⟩ := Classical.not_imp.1 h
    exact (rNum_ok b s m hs h1 (by omega) w hb).mono fun e w' he => ⟨he.2.2, .inl ⟨n, r, h1, by omega, he.1, he.2.1⟩⟩

/-- How things stand within readMeta: its result's box, its own meta, the reader. -/
def RSt (w : World) (b : Nat) (z d : Int) (v : Value) (cs : List Int) (r : List UInt8) (W : World) : Prop :=
  w.grownBy W (some b) ∧ Cx W w.heap.size 51 [.int .i64 0, .int .i64 0, .slice none 0 0] ∧ Cx W (w.heap.size + 1) 51 [.int .i64 z, .int .i64 d, v] ∧
  W.ownsRow (w.heap.size + 2) 3 1 v cs.length (cs.map (Value.int .i64)) ∧ RdBox W b r ∧ b < w.heap.size ∧ r.length ≤ 4611686018427387904

theorem Cx.stays {w w' : World} {g b : Nat} {t : TypeId} {cs : List Value} (h : Cx w g t cs) (hg : w.grownBy w' (some b)) (hne : g ≠ b) : Cx w' g t cs :=
  (hg.block g h.lt (fun e => hne (Option.some.inj e))).trans h
theorem RSt.call {w W W' : World} {b : Nat} {z d : Int} {v : Value} {cs : List Int} {r r' : List UInt8} (h : RSt w b z d v cs r W) (hg : W.grownBy W' (some b)) (hb : RdBox W' b r') (hl : r'.length ≤ r.length) : RSt w b z d v cs r' W' := by
  obtain ⟨h1, h2, h3, h4, h5, h6, h7⟩ := h
  refine ⟨grown_trans h1 hg, h2.stays hg (by omega), h3.stays hg (by omega), h4.kept hg (.inr fun e => ?_), hb, h6, by omega⟩
  have := (h4.lt b e).1
  omega
theorem RSt.cells {w W : World} {b : Nat} {z d : Int} {v : Value} {cs : List Int} {r : List UInt8} (h : RSt w b z d v cs r W) :
    W.cell? ⟨w.heap.size + 1, 0, none⟩ = some (.int .i64 z) ∧ W.cell? ⟨w.heap.size + 1, 1, none⟩ = some (.int .i64 d) ∧ W.cell? ⟨w.heap.size + 1, 2, none⟩ = some v ∧
    W.frozen? ⟨w.heap.size + 1, 0, none⟩ = false ∧ W.frozen? ⟨w.heap.size + 1, 1, none⟩ = false ∧ W.frozen? ⟨w.heap.size + 1, 2, none⟩ = false ∧ w.heap.size + 1 < W.heap.size := h.2.2.1.three
theorem RSt.zeros {w W : World} {b : Nat} {z d : Int} {v : Value} {cs : List Int} {r : List UInt8} (h : RSt w b z d v cs r W) :
    W.cell? ⟨w.heap.size, 0, none⟩ = some (.int .i64 0) ∧ W.cell? ⟨w.heap.size, 1, none⟩ = some (.int .i64 0) ∧ W.cell? ⟨w.heap.size, 2, none⟩ = some (.slice none 0 0) ∧
    W.frozen? ⟨w.heap.size, 0, none⟩ = false ∧ W.frozen? ⟨w.heap.size, 1, none⟩ = false ∧ W.frozen? ⟨w.heap.size, 2, none⟩ = false ∧ w.heap.size < W.heap.size := h.2.1.three
/-- A cell of its own meta is written. -/
theorem RSt.store {w W : World} {b : Nat} {z d z' d' : Int} {v v' : Value} {cs cs' : List Int} {r : List UInt8} (h : RSt w b z d v cs r W) (j : Nat) (u : Value) (he : [Value.int .i64 z, .int .i64 d, v].set j u = [.int .i64 z', .int .i64 d', v'])
    (ho : W.ownsRow (w.heap.size + 2) 3 1 v' cs'.length (cs'.map (Value.int .i64))) : RSt w b z' d' v' cs' r (W.setCell ⟨w.heap.size + 1, j, none⟩ u) := by
  obtain ⟨h1, h2, h3, h4, h5, h6, h7⟩ := h
  have hg : W.grownBy (W.setCell ⟨w.heap.size + 1, j, none⟩ u) (some (w.heap.size + 1)) := ⟨rfl, rfl, rfl, by simp [World.setCell], fun k _ hk => Below.heap_setCell _ _ _ _ (fun e => hk (by simp [e]))⟩
  refine ⟨⟨h1.os, h1.tape, h1.output, Nat.le_trans h1.size hg.size, fun k hk hne => (hg.block k (Nat.lt_of_lt_of_le hk h1.size) (by simp; omega)).trans (h1.block k hk hne)⟩, h2.other (by omega) _, he ▸ h3.set j u, ho.kept hg (.inr fun e => ?_), h5.kept hg (by simp; omega), h6, h7⟩
  have := (ho.lt _ e).1
  omega
theorem RSt.new (w : World) (b : Nat) (s : List UInt8) (hb : RdBox w b s) (hs : s.length ≤ 4611686018427387904) : RSt w b 0 0 (.slice none 0 0) [] s ((w.alloc (.cells #[.int .i64 0, .int .i64 0, .slice none 0 0] 51)).alloc (.cells #[.int .i64 0, .int .i64 0, .slice none 0 0] 51)) := by
  have hB := below_alloc2 w (.cells #[.int .i64 0, .int .i64 0, .slice none 0 0] 51) (.cells #[.int .i64 0, .int .i64 0, .slice none 0 0] 51)
  refine ⟨grown_row hB _, (Cx.new w 51 [.int .i64 0, .int .i64 0, .slice none 0 0]).below (below_alloc _ _), ?_, World.ownsRow_nil _ _ _ _, rd_below hb hB, hb.lt, hs⟩
  have := Cx.new (w.alloc (.cells #[.int .i64 0, .int .i64 0, .slice none 0 0] 51)) 51 [.int .i64 0, .int .i64 0, .slice none 0 0]
  rw [World.size_alloc] at this
  exact this
/-- Behind an append of one number. -/
theorem RSt.appended {w W W' : World} {b : Nat} {z d : Int} {v v' : Value} {cs : List Int} {r : List UInt8} {u : Value} {t : TypeId} (h : RSt w b z d v cs r W) (hg : (W.alloc (.cells #[u] t)).grownBy W' v.ownBlock) {n' : Nat} {xs : List Value} (ho : W'.ownsRow (w.heap.size + 2) 3 1 v' n' xs) :
    Cx W' (w.heap.size + 1) 51 [.int .i64 z, .int .i64 d, v] ∧ (∀ cs' : List Int, n' = cs'.length → xs = cs'.map (Value.int .i64) → RSt w b z d v' cs' r (W'.setCell ⟨w.heap.size + 1, 2, none⟩ v')) := by
  obtain ⟨h1, h2, h3, h4, h5, h6, h7⟩ := h
  have hl := h3.lt
  have hs := hg.size
  rw [World.size_alloc] at hs
  have hk : ∀ k, k < w.heap.size + 2 → W'.heap[k]? = W.heap[k]? := by
    intro k hk
    rw [hg.block k (by rw [World.size_alloc]; omega) (fun e => by have := (h4.lt k e.symm).1; omega)]
    exact heap_alloc_old W _ (by omega)
  have h3' : Cx W' (w.heap.size + 1) 51 [.int .i64 z, .int .i64 d, v] := (hk _ (by omega)).trans h3
  refine ⟨h3', fun cs' hn hx => ?_⟩
  subst hn
  subst hx
  have h2' : Cx W' w.heap.size 51 [.int .i64 0, .int .i64 0, .slice none 0 0] := (hk _ (by omega)).trans h2
  have h5' : RdBox W' b r := (hk _ (by omega)).trans h5
  have hS : (W'.setCell ⟨w.heap.size + 1, 2, none⟩ v').heap.size = W'.heap.size := by simp [World.setCell]
  have hG : W'.grownBy (W'.setCell ⟨w.heap.size + 1, 2, none⟩ v') (some (w.heap.size + 1)) := ⟨rfl, rfl, rfl, by omega, fun k _ hk => Below.heap_setCell _ _ _ _ (fun e => hk (by simp [e]))⟩
  refine ⟨⟨hg.os.trans h1.os, hg.tape.trans h1.tape, hg.output.trans h1.output, by have := h1.size; omega, fun k hkk hne => ?_⟩, h2'.other (by omega) _, h3'.set 2 v', ho.kept hG (.inr fun e => ?_), h5'.kept hG (by simp; omega), h6, h7⟩
  · rw [hG.block k (by have := h1.size; omega) (by simp; omega), hk k (by omega)]
    exact h1.block k hkk hne
  · have := (ho.lt _ e).1
    omega
theorem grown_above {w W : World} {row : Option Nat} {g j : Nat} {u : Value} (h : w.grownBy W row) (hb : w.heap.size ≤ g) : w.grownBy (W.setCell ⟨g, j, none⟩ u) row :=
  ⟨h.os, h.tape, h.output, by have := h.size; simp [World.setCell]; exact this, fun k hk hne => (Below.heap_setCell _ _ _ _ (by simp; omega)).trans (h.block k hk hne)⟩
theorem box_far {W : World} {b g : Nat} {s : List UInt8} (h : RdBox W b s) (hne : b ≠ g) (j : Nat) (u : Value) : RdBox (W.setCell ⟨g, j, none⟩ u) b s := (Below.heap_setCell _ _ _ _ (by simpa using hne)).trans h
theorem RSt.drawn {w W : World} {b : Nat} {z d : Int} {v : Value} {cs : List Int} {r : List UInt8} (h : RSt w b z d v cs r W) : RSt w b z d v cs r W.drew :=
  h.call (grown_row (drew_below _) _) (rd_below h.2.2.2.2.1 (drew_below _)) (Nat.le_refl _)

set_option maxHeartbeats 8000000 in
theorem readMeta_calls (b : Nat) (s : List UInt8) (hs : s.length ≤ 4611686018427387904) (w : World) (hb : RdBox w b s) :
    Calls Tryz.prog 85 #[nextV b] w (RMPost w b (readM s)) := by
  have H0 := Lib.hid (RSt.new w b s hb hs)
  have HM := Lib.hid (readM_eq s)
  generalize readM s = o at *
  go_enter Tryz.func85, Tryz.ntmps85
  go_wp2_with fail
  refine (rNum_calls b s 1000000000 hs _ H0.out.2.2.2.2.1).mono ?_
  rintro e w1 ⟨hg1, ⟨z, r1, hz, hz1, rfl, hb1⟩ | ⟨hno, rfl⟩⟩
  · have H1 := Lib.hid (H0.out.call hg1 hb1 (getN_bounds hz).2)
    have HM1 := Lib.hid (HM.out.trans (bind_ok (m := 1000000000) hz hz1))
    obtain ⟨c0, c1, c2, f0, f1, f2, hlt⟩ := H1.out.cells
    clear hg1 hz hz1 hb1
    go_wp2_with fail
    have H2 := Lib.hid (H1.out.store (z' := z) (d' := 0) (v' := .slice none 0 0) (cs' := []) 0 (.int .i64 z) rfl H1.out.2.2.2.1)
    clear c0 c1 c2 f0 f1 f2 hlt
    refine (rNum_calls b r1 4095 H2.out.2.2.2.2.2.2 _ H2.out.2.2.2.2.1).mono ?_
    rintro e w2 ⟨hg2, ⟨d, r2, hd, hd1, rfl, hb2⟩ | ⟨hno, rfl⟩⟩
    · have H3 := Lib.hid (H2.out.call hg2 hb2 (getN_bounds hd).2)
      have HM2 := Lib.hid (HM1.out.trans (bind_ok (m := 4095) hd hd1))
      obtain ⟨c0, c1, c2, f0, f1, f2, hlt⟩ := H3.out.cells
      clear hg2 hd hd1 hb2
      go_wp2_with fail
      have H4 := Lib.hid (H3.out.store (z' := z) (d' := d) (v' := .slice none 0 0) (cs' := []) 1 (.int .i64 d) rfl H3.out.2.2.2.1)
      clear c0 c1 c2 f0 f1 f2 hlt
      refine (rNum_calls b r2 16 H4.out.2.2.2.2.2.2 _ H4.out.2.2.2.2.1).mono ?_
      rintro e w3 ⟨hg3, ⟨n, r3, hn, hn1, rfl, hb3⟩ | ⟨hno, rfl⟩⟩
      · have H5 := Lib.hid (H4.out.call hg3 hb3 (getN_bounds hn).2)
        have HM3 := Lib.hid (HM2.out.trans (bind_ok (m := 16) hn hn1))
        clear hg3 hn hb3
        go_wp2_with fail
        go_loopw [12] (fun i wr => ∃ (k : Nat) (cs : List Int) (r : List UInt8) (v : Value), k ≤ n ∧ i = .int .i64 k ∧ cs.length = k ∧ Hid (getNs k r3 = some (cs, r)) ∧ Hid (RSt w b z d v cs r wr)) (fun i _ => n - (intOf i).toNat)
        case atStart => exact ⟨0, [], r3, _, Nat.zero_le _, rfl, rfl, Lib.hid rfl, H5⟩
        case round =>
          obtain ⟨k, cs, r, v, hk, rfl, hck, hK, hR⟩ := hrel
          by_cases hlt : k < n
          · cases hg : getN r with
            | none =>
              have ho : o = none := by
                rw [HM3.out, getNs_stop k hK.out hg n hlt]
                rfl
              have KN := Lib.hid (fun W (h : RdBox W b r) => rNum_no b r 4294967295 hR.out.2.2.2.2.2.2 (by rw [hg]; intro n r h; cases h) W h)
              obtain ⟨c0, c1, c2, f0, f1, f2, hl2⟩ := hR.out.cells
              have hbd := Lib.hid (rd_below hR.out.2.2.2.2.1 (drew_below wr))
              have HO := Lib.hid ho
              clear ho hg
              go_upto_region 6 with fail
              refine held0 (S := fun W => W.cell? ⟨w.heap.size + 1, 2, none⟩ = some v) (by kernel_rfl) (look_below (drew_below wr) c2) (fun hHeld => ?_)
              iterate 3 (refine heldT (oi := ⟨_, _, _, _, _, _⟩) (v := ?_) hHeld rfl rfl (by kernel_rfl) (by kernel_rfl) (by kernel_rfl) (fun _ _ _ h => h) ?_ ?_; rotate_left; (intro w hSw; (try dsimp only at hSw); go_simp; try with_reducible rfl); try simp only [Act.put, List.setIfInBounds_toArray, List.set_cons_zero, List.set_cons_succ])
              refine wpAnyH_ready (rs := [3]) (by kernel_rfl) (by simp) ?_
              refine AllReadyH.cons (o := ⟨_, _, _, _, _, _⟩) rfl (fun K hK => ?_) AllReadyH.nil
              go_simp
              refine (KN.out _ hbd.out).mono ?_
              rintro e w4 ⟨rfl, hg4⟩
              exact panic_out (f := Tryz.f85) rfl ⟨grown_trans hR.out.drawn.1 hg4, by rw [HO.out]⟩
            | some x =>
              obtain ⟨m, r'⟩ := x
              obtain ⟨hm4, hrl⟩ := getN_bounds hg
              have KM := Lib.hid (fun W (h : RdBox W b r) => rNum_ok b r 4294967295 hR.out.2.2.2.2.2.2 hg (by omega) W h)
              have HK := Lib.hid (getNs_more k hK.out hg)
              obtain ⟨c0, c1, c2, f0, f1, f2, hl2⟩ := hR.out.cells
              have hbd := Lib.hid (rd_below hR.out.2.2.2.2.1 (drew_below wr))
              have HD := Lib.hid hR.out.drawn
              have hL1 : cs.length + 1 ≤ maxLen := by unfold maxLen; omega
              have hL2 : (cs.length + 1) * 8 ≤ 140737488355328 := by omega
              have hL3 : ∀ (W : World) (o : Obj), w.heap.size + 1 < W.heap.size → w.heap.size + 2 ≤ (W.alloc o).heap.size := by intro W o h; rw [World.size_alloc]; omega
              obtain ⟨i0, hi, hz0, hz1, hz2⟩ := info_parts int_info
              clear hg
              go_upto_region 6 with fail
              go_region_law (first
                | (refine step_append_lies _ rfl (.tmp 15) (.tmp 18) 49 rfl (w.heap.size + 2) 3 i0 (.int .i64 0) 1 8 Tryz.underlying49 hi hz0 hz1 hz2 rfl Nat.one_pos v cs.length (cs.map (Value.int .i64)) rfl (HQ.2.2.2.1.alloc _) ⟨w4.heap.size, 0, none⟩ 1 1 [.int .i64 m] rfl rfl (news_new w4 _ _) (one_int m) Nat.one_pos hL1 hL2 (hL3 _ _ hl4) (w4.heap.size + 1) (World.size_alloc _ _) ?_; intro g cap w5 ho5 hg5 hgo hlt5; have H5 := HQ.appended hg5 ho5; obtain ⟨p0, p1, p2, k0, k1, k2, hl5⟩ := H5.1.three)
                | (go_simp; go_at_call 86; refine (KM.out _ hbd.out).mono ?_; rintro e w4 ⟨rfl, hb4, hg4⟩; have HQ := HD.out.call hg4 hb4 hrl; obtain ⟨q0, q1, q2, e0, e1, e2, hl4⟩ := HQ.cells))
              all_goals
                go_wp2_with fail
                go_roundw
                case rel =>
                  have hq := H5.2 (cs ++ [(m : Int)]) (by simp) (by simp)
                  rw [hck] at hq
                  exact ⟨k + 1, cs ++ [(m : Int)], r', _, by omega, by go_num, by simp [hck], HK, Lib.hid hq⟩
                case measure => simp [intOf]; omega
          · obtain rfl : k = n := by omega
            obtain ⟨c0, c1, c2, f0, f1, f2, hl2⟩ := hR.out.cells
            obtain ⟨b0, b1, b2, g0, g1, g2, hl3⟩ := hR.out.zeros
            obtain ⟨ao, nn, cap, rfl⟩ := own_form hR.out.2.2.2.1
            go_wp2_with fail
            have hx := hR.out.2.1.sets3 (.int .i64 z) (.int .i64 d) (.slice ao nn cap)
            obtain ⟨x0, x1, x2, _⟩ := hx.three
            refine ret_meta rfl rfl w.heap.size _ _ _ rfl x0 x1 x2 ?_
            refine ⟨grown_above (grown_above (grown_above hR.out.1 (Nat.le_refl _)) (Nat.le_refl _)) (Nat.le_refl _), ?_⟩
            rw [HM3.out, hK.out]
            have ho := hR.out.2.2.2.1
            have hI := own_weak (b := w.heap.size) ((own_above (own_above (own_above ho (Nat.lt_add_of_pos_right Nat.two_pos) 0 (.int .i64 z)) (Nat.lt_add_of_pos_right Nat.two_pos) 1 (.int .i64 d)) (Nat.lt_add_of_pos_right Nat.two_pos) 2 (.slice ao nn cap))) (Nat.le_add_right _ 2)
            have hne : b ≠ w.heap.size := Nat.ne_of_lt hR.out.2.2.2.2.2.1
            exact ⟨_, rfl, hI, box_far (box_far (box_far hR.out.2.2.2.2.1 hne 0 _) hne 1 _) hne 2 _⟩
      · exact panic_out rfl ⟨grown_trans H4.out.1 hg3, by rw [HM2.out, readN, bind_no hno]⟩
    · exact panic_out rfl ⟨grown_trans H2.out.1 hg2, by rw [HM1.out, readD, bind_no hno]⟩
  · exact panic_out rfl ⟨grown_trans H0.out.1 hg1, by rw [HM.out, bind_no hno]⟩

end Go.Proofs.YtaaabmnaindgaaaGreatDoor

/-
  meta.Get: a panic of its reader is recovered.
-/
namespace Go.Proofs.YtaaabmnaindgaaaGreatDoor
set_option maxRecDepth 100000
open Go.RowKit

abbrev zM : Value := .agg #[.int .i64 0, .int .i64 0, .slice none 0 0]
theorem catchM_panicking (g q : Nat) (z d : Value) (v : Value) (y : Int) (u : TypeId) (pv : Value) (older : List PanicEntry) (w : World) (hc : Cx w g 51 [z, d, v]) (hq : Cx w q 28 [.int .i64 y]) (hne : g ≠ q) :
    CallsD Tryz.prog 84 #[.pointer (some ⟨g, 0, none⟩), .pointer (some ⟨q, 0, none⟩)] (.panicking ({ v := .iface u pv, recovered := false } :: older)) w fun e u' w' =>
      e = .returned (.tuple #[]) ∧ u' = .panicking ({ v := .iface u pv, recovered := true } :: older) ∧ w' = (((w.setCell ⟨g, 0, none⟩ (.int .i64 0)).setCell ⟨g, 1, none⟩ (.int .i64 0)).setCell ⟨g, 2, none⟩ (.slice none 0 0)).setCell ⟨q, 0, none⟩ (.int .i64 30) := by
  obtain ⟨c0, c1, c2, f0, f1, f2, hlt⟩ := hc.three
  have hd := hq.cell (j := 0) rfl
  have hy := hq.frozen 0
  refine callsD_of_wpS Tryz.func84 rfl fun c₀ cs hu => ?_
  apply wpS_seq
  apply wpS_region
  simp [wpOpsS, go_sem, recoverD, hu, Tryz.ntmps84, Exit.thenS]
  refine wpS_cond (t := true) (by simp [Act.eval, Array.replicate]) ?_
  simp only [if_true]
  have hx := (((hq.other hne.symm (j := 0) (.int .i64 0)).other hne.symm (j := 1) (.int .i64 0)).other hne.symm (j := 2) (.slice none 0 0))
  have d2 := hx.cell (j := 0) rfl
  have y2 := hx.frozen 0
  refine wpS_of_wp ?_
  go_wp2_with fail
  simp [bodyPostS, results, Tryz.results84]

theorem catchM_idle (g q : Addr) (w : World) :
    CallsD Tryz.prog 84 #[.pointer (some g), .pointer (some q)] .returning w fun e u' w' => e = .returned (.tuple #[]) ∧ u' = .returning ∧ w' = w := by
  refine callsD_of_wpS Tryz.func84 rfl fun c₀ cs hu => ?_
  apply wpS_seq
  apply wpS_region
  simp [wpOpsS, go_sem, recoverD, hu, Tryz.ntmps84, Exit.thenS]
  refine wpS_cond (t := false) (by simp [Act.eval, Array.replicate]) ?_
  simp only [Bool.false_eq_true, if_false]
  refine wpS_of_wp (wp_skip ?_)
  cases c₀
  simp_all [bodyPostS, results, Tryz.results84]

/-- What Get leaves: its world's boxes. -/
theorem get_boxes (w : World) (s : List UInt8) : ∃ W0, W0 = ((w.alloc (.cells #[.int .i64 0, .int .i64 0, .slice none 0 0] 51)).alloc (.cells #[.int .i64 0] 28)).alloc (.cells #[.string ⟨s.toArray⟩] 148) ∧
    Cx W0 w.heap.size 51 [.int .i64 0, .int .i64 0, .slice none 0 0] ∧ Cx W0 (w.heap.size + 1) 28 [.int .i64 0] ∧ RdBox W0 (w.heap.size + 1 + 1) s ∧ Below w.heap.size w W0 := by
  refine ⟨_, rfl, ?_, ?_, ?_, below_alloc3 _ _ _ _⟩
  · exact ((Cx.new w 51 [.int .i64 0, .int .i64 0, .slice none 0 0]).below (below_alloc _ _)).below (below_alloc _ _)
  · have := (Cx.new (w.alloc (.cells #[.int .i64 0, .int .i64 0, .slice none 0 0] 51)) 28 [.int .i64 0]).below (below_alloc _ (.cells #[.string ⟨s.toArray⟩] 148))
    rw [World.size_alloc] at this
    exact this
  · have := Boxed.new ((w.alloc (.cells #[.int .i64 0, .int .i64 0, .slice none 0 0] 51)).alloc (.cells #[.int .i64 0] 28)) 148 (.string ⟨s.toArray⟩)
    rw [World.size_alloc, World.size_alloc] at this
    exact this

/-- A meta that is caught: the result's boxes behind. -/
theorem caught {w W : World} {z d v : Value} {y : Value} (hB : Below w.heap.size w W) (hg : Cx W w.heap.size 51 [z, d, v]) (hq : Cx W (w.heap.size + 1) 28 [y]) (a b c e : Value) :
    Cx ((((W.setCell ⟨w.heap.size, 0, none⟩ a).setCell ⟨w.heap.size, 1, none⟩ b).setCell ⟨w.heap.size, 2, none⟩ c).setCell ⟨w.heap.size + 1, 0, none⟩ e) w.heap.size 51 [a, b, c] ∧
    Cx ((((W.setCell ⟨w.heap.size, 0, none⟩ a).setCell ⟨w.heap.size, 1, none⟩ b).setCell ⟨w.heap.size, 2, none⟩ c).setCell ⟨w.heap.size + 1, 0, none⟩ e) (w.heap.size + 1) 28 [e] ∧
    Below w.heap.size w ((((W.setCell ⟨w.heap.size, 0, none⟩ a).setCell ⟨w.heap.size, 1, none⟩ b).setCell ⟨w.heap.size, 2, none⟩ c).setCell ⟨w.heap.size + 1, 0, none⟩ e) := by
  have hne : w.heap.size + 1 ≠ w.heap.size := Nat.ne_of_gt (Nat.lt_succ_self _)
  refine ⟨(hg.sets3 a b c).other hne.symm _, ?_, ((((hB.setCell (p := ⟨w.heap.size, 0, none⟩) (Nat.le_refl _) _).setCell (p := ⟨w.heap.size, 1, none⟩) (Nat.le_refl _) _).setCell (p := ⟨w.heap.size, 2, none⟩) (Nat.le_refl _) _).setCell (p := ⟨w.heap.size + 1, 0, none⟩) (Nat.le_succ _) _)⟩
  exact (((hq.other hne (j := 0) a).other hne (j := 1) b).other hne (j := 2) c).set 0 e

set_option maxHeartbeats 4000000 in
theorem mGet_no (s : List UInt8) (hs : s.length ≤ 4611686018427387904) (h : getM s = none) (w : World) :
    Calls Tryz.prog 54 #[.string ⟨s.toArray⟩] w fun e w' => e = .returned (.tuple #[zM, .int .i64 30]) ∧ Below w.heap.size w w' := by
  have hmf : ∀ (fn : Fn) (first cap : Array Value) (w : World), (Instr.makeFunc fn first cap).run Tryz.prog w = .ok (.func fn first cap) w := fun _ _ _ _ => rfl
  obtain ⟨W0, hW, hg, hq, hr, hB⟩ := get_boxes w s
  have HW := Lib.hid hW
  have hne2 : w.heap.size ≠ w.heap.size + 1 + 1 := by omega
  have hne3 : w.heap.size + 1 ≠ w.heap.size + 1 + 1 := by omega
  have hne1 : w.heap.size ≠ w.heap.size + 1 := by omega
  have hle2 : w.heap.size ≤ w.heap.size + 1 + 1 := by omega
  clear hW
  go_enter_defers Tryz.func54, Tryz.ntmps54
  go_wp2_with fail
  rw [← HW.out]
  refine (readMeta_calls (w.heap.size + 1 + 1) s hs W0 hr).mono ?_
  rintro e W1 ⟨hg1, hp⟩
  have hgA := hg.stays hg1 hne2
  have hqA := hq.stays hg1 hne3
  have hBA := hB.grown hg1 hB.size (fun k e => by cases e; exact hle2)
  cases hr : readM s with
  | none =>
    rw [hr] at hp
    subst hp
    have HB := Lib.hid hBA
    have HG := Lib.hid hgA
    have HQ := Lib.hid hqA
    clear hg hq hr hB hg1 hgA hqA hBA
    refine leaves_cons (f := 84) (args := #[.pointer (some ⟨w.heap.size, 0, none⟩), .pointer (some ⟨w.heap.size + 1, 0, none⟩)]) (by simp) (by simp [go_sem]) ?_
    refine (catchM_panicking _ _ _ _ _ 0 28 _ [] _ HG.out HQ.out hne1).mono ?_
    rintro e u' w2 ⟨rfl, rfl, hw2⟩
    obtain ⟨x, y, hb⟩ := caught HB.out HG.out HQ.out (.int .i64 0) (.int .i64 0) (.slice none 0 0) (.int .i64 30)
    rw [← hw2] at x y hb
    clear hw2
    obtain ⟨x0, x1, x2, _⟩ := x.three
    have y0 := y.cell (j := 0) rfl
    simp [Leaves, settle, results, Tryz.results54, go_sem, x0, x1, x2, y0]
    exact hb
  | some x =>
    obtain ⟨⟨z, d, cs⟩, r⟩ := x
    have hr0 : r ≠ [] := by
      intro e
      rw [getM, hr, Option.bind_some, if_pos e] at h
      cases h
    rw [hr] at hp
    dsimp only at hp
    obtain ⟨v, rfl, hI, hb⟩ := hp
    obtain ⟨ao, cap, rfl⟩ := (ints_own hI).form
    obtain ⟨c0, c1, c2, f0, f1, f2, hlt⟩ := hgA.three
    have HB := Lib.hid hBA
    have HG := Lib.hid hgA
    have HQ := Lib.hid hqA
    have HR := Lib.hid hb
    clear hg hq hr hB hg1 hgA hqA hBA hb hI
    go_wp2_with fail
    refine (rEnd_no (w.heap.size + 1 + 1) r hr0 _ (box_far (box_far (box_far HR.out hne2.symm 0 _) hne2.symm 1 _) hne2.symm 2 _)).mono ?_
    rintro e w2 ⟨rfl, hw2⟩
    have HB2 := Lib.hid (((HB.out.setCell (p := ⟨w.heap.size, 0, none⟩) (Nat.le_refl _) (.int .i64 z)).setCell (p := ⟨w.heap.size, 1, none⟩) (Nat.le_refl _) (.int .i64 d)).setCell (p := ⟨w.heap.size, 2, none⟩) (Nat.le_refl _) (.slice ao cs.length cap))
    have HG2 := Lib.hid (HG.out.sets3 (.int .i64 z) (.int .i64 d) (.slice ao cs.length cap))
    have HQ2 := Lib.hid (((HQ.out.other hne1.symm (j := 0) (.int .i64 z)).other hne1.symm (j := 1) (.int .i64 d)).other hne1.symm (j := 2) (.slice ao cs.length cap))
    rw [← hw2] at HB2 HG2 HQ2
    clear hw2
    refine leaves_cons (f := 84) (args := #[.pointer (some ⟨w.heap.size, 0, none⟩), .pointer (some ⟨w.heap.size + 1, 0, none⟩)]) (by simp) (by simp [go_sem]) ?_
    refine (catchM_panicking _ _ _ _ _ 0 28 _ [] _ HG2.out HQ2.out hne1).mono ?_
    rintro e u' w3 ⟨rfl, rfl, hw3⟩
    obtain ⟨x, y, hb⟩ := caught HB2.out HG2.out HQ2.out (.int .i64 0) (.int .i64 0) (.slice none 0 0) (.int .i64 30)
    rw [← hw3] at x y hb
    clear hw3
    obtain ⟨x0, x1, x2, _⟩ := x.three
    have y0 := y.cell (j := 0) rfl
    simp [Leaves, settle, results, Tryz.results54, go_sem, x0, x1, x2, y0]
    exact hb

set_option maxHeartbeats 4000000 in
theorem mGet_ok (s : List UInt8) (hs : s.length ≤ 4611686018427387904) {z d : Int} {cs : List Int} (h : readM s = some ((z, d, cs), [])) (w : World) :
    Calls Tryz.prog 54 #[.string ⟨s.toArray⟩] w fun e w' => ∃ v, e = .returned (.tuple #[MV z d v, .int .i64 0]) ∧ OwnI w' w.heap.size v cs ∧ Below w.heap.size w w' := by
  have hmf : ∀ (fn : Fn) (first cap : Array Value) (w : World), (Instr.makeFunc fn first cap).run Tryz.prog w = .ok (.func fn first cap) w := fun _ _ _ _ => rfl
  obtain ⟨W0, hW, hg, hq, hr, hB⟩ := get_boxes w s
  have HW := Lib.hid hW
  have hne2 : w.heap.size ≠ w.heap.size + 1 + 1 := by omega
  have hne3 : w.heap.size + 1 ≠ w.heap.size + 1 + 1 := by omega
  have hne1 : w.heap.size ≠ w.heap.size + 1 := by omega
  have hle2 : w.heap.size ≤ w.heap.size + 1 + 1 := by omega
  clear hW
  go_enter_defers Tryz.func54, Tryz.ntmps54
  go_wp2_with fail
  rw [← HW.out]
  refine (readMeta_calls (w.heap.size + 1 + 1) s hs W0 hr).mono ?_
  rintro e W1 ⟨hg1, hp⟩
  have hz : w.heap.size < W0.heap.size ∧ w.heap.size + 1 < W0.heap.size := ⟨hg.lt, hq.lt⟩
  have hgA := hg.stays hg1 hne2
  have hqA := hq.stays hg1 hne3
  have hBA := hB.grown hg1 hB.size (fun k e => by cases e; exact hle2)
  rw [h] at hp
  dsimp only at hp
  obtain ⟨v, rfl, hI, hb⟩ := hp
  obtain ⟨ao, cap, rfl⟩ := (ints_own hI).form
  obtain ⟨c0, c1, c2, f0, f1, f2, hlt⟩ := hgA.three
  have HB := Lib.hid hBA
  have HG := Lib.hid hgA
  have HQ := Lib.hid hqA
  have HR := Lib.hid hb
  have HI := Lib.hid hI
  have HZ := Lib.hid hz
  clear hg hq hr hB hg1 hgA hqA hBA hb hI hz
  go_wp2_with fail
  refine (rEnd_ok (w.heap.size + 1 + 1) _ (box_far (box_far (box_far HR.out hne2.symm 0 _) hne2.symm 1 _) hne2.symm 2 _)).mono ?_
  rintro e w2 ⟨rfl, hw2⟩
  have HB2 := Lib.hid (((HB.out.setCell (p := ⟨w.heap.size, 0, none⟩) (Nat.le_refl _) (.int .i64 z)).setCell (p := ⟨w.heap.size, 1, none⟩) (Nat.le_refl _) (.int .i64 d)).setCell (p := ⟨w.heap.size, 2, none⟩) (Nat.le_refl _) (.slice ao cs.length cap))
  have HG2 := Lib.hid (HG.out.sets3 (.int .i64 z) (.int .i64 d) (.slice ao cs.length cap))
  have HQ2 := Lib.hid (((HQ.out.other hne1.symm (j := 0) (.int .i64 z)).other hne1.symm (j := 1) (.int .i64 d)).other hne1.symm (j := 2) (.slice ao cs.length cap))
  have HI2 := Lib.hid (own_above (own_above (own_above HI.out HZ.out.1 0 (.int .i64 z)) HZ.out.1 1 (.int .i64 d)) HZ.out.1 2 (.slice ao cs.length cap))
  rw [← hw2] at HB2 HG2 HQ2 HI2
  clear c0 c1 c2 f0 f1 f2 hlt hw2
  obtain ⟨c0, c1, c2, f0, f1, f2, hlt⟩ := HG2.out.three
  have HQ3 := Lib.hid (((HQ2.out.other hne1.symm (j := 0) (.int .i64 z)).other hne1.symm (j := 1) (.int .i64 d)).other hne1.symm (j := 2) (.slice ao cs.length cap))
  have e0 := HQ3.out.cell (j := 0) rfl
  have g0 := HQ3.out.frozen 0
  go_wp2_with fail
  refine leaves_cons (f := 84) (args := #[.pointer (some ⟨w.heap.size, 0, none⟩), .pointer (some ⟨w.heap.size + 1, 0, none⟩)]) (by simp) (by simp [go_sem]) ?_
  refine (catchM_idle _ _ _).mono ?_
  rintro e u' w3 ⟨rfl, rfl, hw3⟩
  obtain ⟨x, y, hb⟩ := caught HB2.out HG2.out HQ2.out (.int .i64 z) (.int .i64 d) (.slice ao cs.length cap) (.int .i64 0)
  have hI := own_weak (b := w.heap.size) (own_above (own_above (own_above (own_above HI2.out HZ.out.1 0 (.int .i64 z)) HZ.out.1 1 (.int .i64 d)) HZ.out.1 2 (.slice ao cs.length cap)) HZ.out.2 0 (.int .i64 0)) (Nat.le_of_lt HZ.out.1)
  rw [← hw3] at x y hb hI
  clear hw3
  obtain ⟨x0, x1, x2, _⟩ := x.three
  have y0 := y.cell (j := 0) rfl
  simp [Leaves, settle, results, Tryz.results54, go_sem, x0, x1, x2, y0]
  exact ⟨hI, hb⟩

theorem mGet_calls (s : List UInt8) (hs : s.length ≤ 4611686018427387904) (w : World) :
    Calls Tryz.prog 54 #[.string ⟨s.toArray⟩] w fun e w' => ∃ v, e = .returned (.tuple #[MV (gotM s).1 (gotM s).2.1 v, .int .i64 (gotE s)]) ∧ OwnI w' w.heap.size v (gotM s).2.2 ∧ Below w.heap.size w w' := by
  cases h : getM s with
  | none =>
    have h1 : gotM s = (0, 0, []) := by simp [gotM, h]
    have h2 : gotE s = 30 := by simp [gotE, h]
    rw [h1, h2]
    exact (mGet_no s hs h w).mono fun e w' he => ⟨_, he.1, World.ownsRow_nil _ _ _ _, he.2⟩
  | some m =>
    obtain ⟨z, d, cs⟩ := m
    have h1 : gotM s = (z, d, cs) := by simp [gotM, h]
    have h2 : gotE s = 0 := by simp [gotE, h]
    rw [h1, h2]
    obtain ⟨e1, e2⟩ := laid_getM h
    have hr := readM_laid e2 []
    rw [List.append_nil, ← e1] at hr
    exact mGet_ok s hs hr w

end Go.Proofs.YtaaabmnaindgaaaGreatDoor

/-
  meta.Read.
-/
namespace Go.Proofs.YtaaabmnaindgaaaGreatDoor
set_option maxRecDepth 100000
open Go.RowKit

theorem red_gone : redM [0] = (0, 0, []) ∧ redG [0] = true ∧ redE [0] = 0 := ⟨rfl, rfl, rfl⟩
theorem red_none {s : List UInt8} (h0 : s ≠ [0]) (h : s.head? ≠ some 1) : redM s = (0, 0, []) ∧ redG s = false ∧ redE s = 30 := by
  refine ⟨by simp [redM, h], by simpa [redG] using h0, by simp [redE, h0, h]⟩
theorem red_some (r : List UInt8) : redM (1 :: r) = gotM r ∧ redG (1 :: r) = false ∧ redE (1 :: r) = gotE r := by
  refine ⟨by simp [redM], by simp [redG], by simp [redE]⟩
/-- Whether a text begins with a byte 1, and what stands behind. -/
theorem pre_no {s : List UInt8} (h : s.head? ≠ some 1) : Lib.hasPrefix s [1] = false := by
  cases s with
  | nil => rfl
  | cons b r =>
    have : b ≠ 1 := by simpa using h
    have h2 : ((1 : UInt8) == b) = false := by simpa using Ne.symm this
    simp [Lib.hasPrefix, List.isPrefixOf, h2]
theorem pre_yes (r : List UInt8) : Lib.hasPrefix (1 :: r) [1] = true ∧ Lib.trimPrefix (1 :: r) [1] = r := by
  constructor <;> simp [Lib.hasPrefix, Lib.trimPrefix]

theorem cutPre_no {s : List UInt8} (h : s.head? ≠ some 1) (w : World) :
    Calls Tryz.prog 53 #[.string ⟨s.toArray⟩, .string ⟨#[1]⟩] w fun e w' => e = .returned (.tuple #[.string ⟨s.toArray⟩, .bool false]) ∧ w' = w := by
  have h1 := pre_no h
  refine (Tryz.strings_CutPrefix ⟨s.toArray⟩ ⟨#[1]⟩ w).mono fun e w' he => ⟨he.1.trans ?_, he.2⟩
  simp only [Lib.trimPrefix, h1]
  rfl
theorem cutPre_yes (r : List UInt8) (w : World) :
    Calls Tryz.prog 53 #[.string ⟨(1 :: r).toArray⟩, .string ⟨#[1]⟩] w fun e w' => e = .returned (.tuple #[.string ⟨r.toArray⟩, .bool true]) ∧ w' = w := by
  obtain ⟨h1, h2⟩ := pre_yes r
  refine (Tryz.strings_CutPrefix ⟨(1 :: r).toArray⟩ ⟨#[1]⟩ w).mono fun e w' he => ⟨he.1.trans ?_, he.2⟩
  simp only [h1, h2]

set_option maxHeartbeats 2000000 in
theorem mRead_gone (w : World) :
    Calls Tryz.prog 28 #[.string ⟨[0].toArray⟩] w fun e w' => e = .returned (.tuple #[zM, .bool true, .int .i64 0]) ∧ Below w.heap.size w w' := by
  have HX := Lib.hid (Cx.new w 51 [.int .i64 0, .int .i64 0, .slice none 0 0])
  go_enter Tryz.func28, Tryz.ntmps28
  go_wp2_with fail
  obtain ⟨c0, c1, c2, _⟩ := HX.out.three
  exact ret_meta3 rfl rfl w.heap.size _ _ _ _ _ rfl rfl rfl c0 c1 c2 ⟨rfl, below_alloc _ _⟩

set_option maxHeartbeats 2000000 in
theorem mRead_none {s : List UInt8} (h0 : s ≠ [0]) (h : s.head? ≠ some 1) (w : World) :
    Calls Tryz.prog 28 #[.string ⟨s.toArray⟩] w fun e w' => e = .returned (.tuple #[zM, .bool false, .int .i64 30]) ∧ Below w.heap.size w w' := by
  have HX := Lib.hid (Cx.new w 51 [.int .i64 0, .int .i64 0, .slice none 0 0])
  have H := Lib.hid h
  have hne : (s == [0]) = false := by simpa using h0
  clear h h0
  go_enter Tryz.func28, Tryz.ntmps28
  go_wp2_with fail
  refine (cutPre_no H.out _).mono ?_
  rintro e w1 ⟨rfl, rfl⟩
  go_wp2_with fail
  obtain ⟨c0, c1, c2, _⟩ := HX.out.three
  exact ret_meta3 rfl rfl w.heap.size _ _ _ _ _ rfl rfl rfl c0 c1 c2 ⟨rfl, below_alloc _ _⟩

set_option maxHeartbeats 2000000 in
theorem mRead_some (r : List UInt8) (hr : r.length ≤ 4611686018427387904) (w : World) :
    Calls Tryz.prog 28 #[.string ⟨(1 :: r).toArray⟩] w fun e w' => ∃ v, e = .returned (.tuple #[MV (gotM r).1 (gotM r).2.1 v, .bool false, .int .i64 (gotE r)]) ∧ OwnI w' w.heap.size v (gotM r).2.2 ∧ Below w.heap.size w w' := by
  have HX := Lib.hid (Cx.new w 51 [.int .i64 0, .int .i64 0, .slice none 0 0])
  have K := Lib.hid (fun W => mGet_calls r hr W)
  have hne : ((1 :: r) == [0]) = false := by simp
  generalize (gotM r).1 = z at *
  generalize (gotM r).2.1 = d at *
  generalize (gotM r).2.2 = cs at *
  generalize gotE r = y at *
  go_enter Tryz.func28, Tryz.ntmps28
  go_wp2_with fail
  refine (cutPre_yes r _).mono ?_
  rintro e w1 ⟨rfl, rfl⟩
  go_wp2_with fail
  refine (K.out _).mono ?_
  rintro e w1 ⟨v, rfl, hI, hB⟩
  obtain ⟨ao, cap, rfl⟩ := (ints_own hI).form
  have HI := Lib.hid hI
  have HX1 := Lib.hid ((HX.out.below hB).below (below_alloc w1 (.cells #[.int .i64 z, .int .i64 d, .slice ao cs.length cap] 51)))
  clear hI
  obtain ⟨c0, c1, c2, f0, f1, f2, hlt⟩ := HX1.out.three
  go_wp2_with fail
  obtain ⟨x0, x1, x2, _⟩ := (HX1.out.sets3 (.int .i64 z) (.int .i64 d) (.slice ao cs.length cap)).three
  refine ret_meta3 rfl rfl w.heap.size _ _ _ _ _ rfl rfl rfl x0 x1 x2 ⟨_, rfl, ?_, ?_⟩
  · have hl : w.heap.size < (w.alloc (.cells #[.int .i64 0, .int .i64 0, .slice none 0 0] 51)).heap.size := by rw [World.size_alloc]; exact Nat.lt_succ_self _
    exact own_weak (own_above (own_above (own_above (own_stays HI.out (below_alloc _ _)) hl 0 _) hl 1 _) hl 2 _) (Nat.le_of_lt hl)
  · exact below_sets3 (below3 (below_alloc _ _) hB (below_alloc _ _)) (Nat.le_refl _) _ _ _

theorem mRead_calls (s : List UInt8) (hs : s.length ≤ 4611686018427387904) (w : World) :
    Calls Tryz.prog 28 #[.string ⟨s.toArray⟩] w fun e w' => ∃ v, e = .returned (.tuple #[MV (redM s).1 (redM s).2.1 v, .bool (redG s), .int .i64 (redE s)]) ∧ OwnI w' w.heap.size v (redM s).2.2 ∧ Below w.heap.size w w' := by
  by_cases h0 : s = [0]
  · subst h0
    obtain ⟨h1, h2, h3⟩ := red_gone
    rw [h1, h2, h3]
    exact (mRead_gone w).mono fun e w' he => ⟨_, he.1, World.ownsRow_nil _ _ _ _, he.2⟩
  · by_cases h : s.head? = some 1
    · cases s with
      | nil => simp at h
      | cons b r =>
        obtain rfl : b = 1 := by simpa using h
        obtain ⟨h1, h2, h3⟩ := red_some r
        rw [h1, h2, h3]
        exact mRead_some r (by simp at hs; omega) w
    · obtain ⟨h1, h2, h3⟩ := red_none h0 h
      rw [h1, h2, h3]
      exact (mRead_none h0 h w).mono fun e w' he => ⟨_, he.1, World.ownsRow_nil _ _ _ _, he.2⟩

end Go.Proofs.YtaaabmnaindgaaaGreatDoor

/-
  meta.numbers: numbers' bytes, one behind the other.
-/
namespace Go.Proofs.YtaaabmnaindgaaaGreatDoor
set_option maxRecDepth 100000
open Go.RowKit

set_option maxHeartbeats 2000000 in
theorem mNumbers_calls (v : Value) (cs : List Int) (w : World) (hv : Ints w v cs) (hl : cs.length ≤ 1000000) (hc : ∀ c ∈ cs, 0 ≤ c ∧ c ≤ 4294967295) :
    Calls Tryz.prog 99 #[v] w fun e w' => e = .returned (.string ⟨(numsB cs).toArray⟩) ∧ Below w.heap.size w w' := by
  obtain ⟨ao, cap, rfl⟩ := hv.form
  have HV := Lib.hid hv
  have HC := Lib.hid hc
  clear hv hc
  go_enter Tryz.func99, Tryz.ntmps99
  go_wp2_with fail
  go_loopw [10] (fun i wr => ∃ k : Nat, k ≤ cs.length ∧ i = .int .i64 k ∧ Hid (Lib.IsBuilder BT 5 w.heap.size w.heap.size (Lib.byteCells (numsB (cs.take k))) wr) ∧ Hid (Below w.heap.size w wr)) (fun i _ => cs.length - (intOf i).toNat)
  case atStart => exact ⟨0, Nat.zero_le _, rfl, Lib.hid (isBuilder_new w), Lib.hid (below_alloc _ _)⟩
  case round =>
    obtain ⟨k, hk, rfl, hI, hB⟩ := hrel
    have hlen := numsB_len (cs.take k)
    by_cases hlt : k < cs.length
    · obtain ⟨b, off, rfl, hcell⟩ := (HV.out.below hB.out).at hlt
      have hcc := HC.out _ (List.getElem_mem hlt)
      have HS := Lib.hid (nums_take hlt)
      generalize cs[k] = c at hcell hcc HS
      obtain ⟨m, rfl⟩ : ∃ m : Nat, c = (m : Int) := ⟨c.toNat, by omega⟩
      rw [Int.toNat_natCast] at HS
      have hn := numB_length m
      have hwid := wid_le m
      have hz := hB.out.size
      rw [List.length_take] at hlen
      have hm4 : m ≤ 4294967295 := by omega
      have hnl : (numsB (List.take k cs)).length + (numB m).length ≤ 140737488355328 := by omega
      have HN := Lib.hid hnl
      clear hlen hn hwid hnl hcc
      go_wp2_with fail
      refine (number_ok m hm4 _).mono ?_
      rintro e w1 ⟨rfl, hB1⟩
      have hI1 := isBuilder_below hI.out hB1
      have HI := Lib.hid hI1
      have HB := Lib.hid (below2 hB.out hB1)
      have hz1 := HB.out.size
      clear hI hB hI1
      go_wp2_with fail
      refine (writeString_calls w.heap.size w.heap.size _ (numB m) w1 HI.out HN.out hz1).mono ?_
      rintro e w2 ⟨rfl, hI2, hB2⟩
      go_wp2_with fail
      go_roundw
      case rel => exact ⟨k + 1, by omega, by go_num, Lib.hid (by rw [HS.out]; exact hI2), Lib.hid (HB.out.trans hB2)⟩
      case measure => simp [intOf]; omega
    · obtain rfl : k = cs.length := by omega
      rw [List.take_length] at hI
      have hz := hB.out.size
      go_wp2_with fail
      refine (builder_String w.heap.size w.heap.size (numsB cs) wr hI.out hz).mono ?_
      rintro e w1 ⟨rfl, hB1⟩
      go_wp2_with fail
      go_ret
      exact ⟨rfl, hB.out.trans hB1⟩

end Go.Proofs.YtaaabmnaindgaaaGreatDoor

/-
  meta.Put.
-/
namespace Go.Proofs.YtaaabmnaindgaaaGreatDoor
set_option maxRecDepth 100000
open Go.RowKit
attribute [local go_sem] app_mk

/-- Ints laid in a row. -/
theorem ints_three (w : World) (a b c : Int) (t : TypeId) : Ints (w.alloc (.cells #[.int .i64 a, .int .i64 b, .int .i64 c] t)) (.slice (some ⟨w.heap.size, 0, none⟩) 3 3) [a, b, c] := by
  refine ⟨rfl, _, 3, rfl, Nat.le_refl _, .inr ⟨w.heap.size, 0, rfl, fun j hj => ?_⟩⟩
  rw [cell_of_row _ _ _ _ _ _ (heap_alloc_new w _)]
  have : j < 3 := hj
  rcases (by omega : j = 0 ∨ j = 1 ∨ j = 2) with rfl | rfl | rfl <;> rfl
theorem Ints.any {w : World} {v : Value} {zs : List Int} (h : Ints w v zs) : ∃ ao cap, v = .slice ao zs.length cap := h.form

set_option maxHeartbeats 4000000 in
theorem mPut_no (z d : Int) (v : Value) (cs : List Int) (w : World) (hv : Ints w v cs) (hl : cs.length ≤ 1000000) (hm : metaB z d cs = false) :
    Calls Tryz.prog 67 #[MV z d v] w fun e w' => e = .returned (.tuple #[.string ⟨#[]⟩, .int .i64 1]) ∧ Below w.heap.size w w' := by
  obtain ⟨ao, cap, rfl⟩ := hv.form
  have HM := Lib.hid hm
  have HV := Lib.hid (hv.below (below_alloc w (.cells #[.int .i64 z, .int .i64 d, .slice ao cs.length cap] 51)))
  clear hv hm
  go_enter Tryz.func67, Tryz.ntmps67
  go_wp2_with fail
  refine (mIs_calls z d _ cs _ HV.out hl).mono ?_
  rintro e w1 ⟨rfl, hB1⟩
  rw [HM.out]
  go_wp2_with fail
  go_ret2
  exact ⟨rfl, below2 (below_alloc _ _) hB1⟩

set_option maxHeartbeats 4000000 in
theorem mPut_ok (z d : Int) (v : Value) (cs : List Int) (w : World) (hv : Ints w v cs) (hm : metaB z d cs = true) :
    Calls Tryz.prog 67 #[MV z d v] w fun e w' => e = .returned (.tuple #[.string ⟨(metaT z d cs).toArray⟩, .int .i64 0]) ∧ Below w.heap.size w w' := by
  obtain ⟨h1, h2, h3, h4⟩ := metaB_iff.1 hm
  obtain ⟨ao, cap, rfl⟩ := hv.form
  have HM := Lib.hid hm
  have HV := Lib.hid (hv.below (below_alloc w (.cells #[.int .i64 z, .int .i64 d, .slice ao cs.length cap] 51)))
  have hl : cs.length ≤ 1000000 := by omega
  have hX := Cx.new w 51 [.int .i64 z, .int .i64 d, .slice ao cs.length cap]
  have HX := Lib.hid hX
  have ha : ∀ c ∈ [z, d, (cs.length : Int)], 0 ≤ c ∧ c ≤ 4294967295 := by
    intro c hc
    simp only [List.mem_cons, List.not_mem_nil, or_false] at hc
    rcases hc with rfl | rfl | rfl <;> omega
  have KA := Lib.hid (fun v W (h : Ints W v [z, d, (cs.length : Int)]) => mNumbers_calls v [z, d, (cs.length : Int)] W h (by simp) ha)
  have KC := Lib.hid (fun v W (h : Ints W v cs) => mNumbers_calls v cs W h hl h4)
  have hn1 := numsB_len [z, d, (cs.length : Int)]
  have hn2 := numsB_len cs
  simp only [List.length_cons, List.length_nil] at hn1
  have hsum : ¬ 9223372036854775807 < (numsB [z, d, (cs.length : Int)]).length + (numsB cs).length := by omega
  have hE : metaT z d cs = numsB [z, d, (cs.length : Int)] ++ numsB cs := rfl
  have HE := Lib.hid hE
  rw [hE]
  clear hv hm h1 h2 h3 h4 ha hn1 hn2 hX hE
  generalize numsB [z, d, (cs.length : Int)] = A at *
  generalize numsB cs = C at *
  go_enter Tryz.func67, Tryz.ntmps67
  go_wp2_with fail
  refine (mIs_calls z d _ cs _ HV.out hl).mono ?_
  rintro e w1 ⟨rfl, hB1⟩
  rw [HM.out]
  have HV1 := Lib.hid (HV.out.below hB1)
  have HX1 := Lib.hid (HX.out.below hB1)
  have hq0 := drew_below w1
  have hqL : Below w1.heap.size w1 (w1.alloc (.cells #[.int .i64 z, .int .i64 d, .int .i64 cs.length] 3)).drew := (below_alloc _ _).drew
  have HL := Lib.hid (show Ints (w1.alloc (.cells #[.int .i64 z, .int .i64 d, .int .i64 cs.length] 3)).drew (.slice (some ⟨w1.heap.size, 0, none⟩) 3 3) [z, d, (cs.length : Int)] from (ints_three w1 z d cs.length 3).below (drew_below _))
  have HG := Lib.hid (fun W => ints_three W z d cs.length 3)
  have HS : Hid (∀ W, Below w1.heap.size w1 W → W.cell? ⟨w.heap.size, 0, none⟩ = some (.int .i64 z) ∧ W.cell? ⟨w.heap.size, 1, none⟩ = some (.int .i64 d) ∧ W.cell? ⟨w.heap.size, 2, none⟩ = some (.slice ao cs.length cap)) := by
    obtain ⟨b0, b1, b2, _⟩ := HX1.out.three
    exact Lib.hid (fun W hB => ⟨look_below hB b0, look_below hB b1, look_below hB b2⟩)
  go_wp2_with fail
  go_region_held3 (fun W => W.cell? ⟨w.heap.size, 0, none⟩ = some (.int .i64 z) ∧ W.cell? ⟨w.heap.size, 1, none⟩ = some (.int .i64 d) ∧ W.cell? ⟨w.heap.size, 2, none⟩ = some (.slice ao cs.length cap)) (first | exact HS.out _ hq | exact HS.out _ hq0 | exact HS.out _ hqL | exact HS.out _ (hq.alloc hq.size _)) (first
    | ((with_reducible refine (KC.out _ _ (HV1.out.below hq0)).mono ?_); rintro e w2 ⟨rfl, hB2⟩; have hq := below2 hq0 hB2)
    | ((with_reducible refine (KC.out _ _ (HV1.out.below hqL)).mono ?_); rintro e w2 ⟨rfl, hB2⟩; have hq := below2 hqL hB2; have HL2 := Lib.hid (HL.out.below hB2))
    | ((with_reducible refine (KC.out _ _ (HV1.out.below hq)).mono ?_); rintro e w2 ⟨rfl, hB2⟩; have hq := below2 hq hB2)
    | ((with_reducible refine (KA.out _ _ HL.out).mono ?_); rintro e w3 ⟨rfl, hB3⟩; have hq := below2 hqL hB3)
    | ((with_reducible refine (KA.out _ _ HL2.out).mono ?_); rintro e w3 ⟨rfl, hB3⟩; have hq := below2 hq hB3)
    | ((with_reducible refine (KA.out _ _ (HG.out _)).mono ?_); rintro e w3 ⟨rfl, hB3⟩; have hq := below2 (hq.alloc hq.size _) hB3))
  all_goals
    go_wp2_with fail
    go_ret2
    exact ⟨rfl, below3 (below_alloc _ _) hB1 hq⟩

end Go.Proofs.YtaaabmnaindgaaaGreatDoor

/-
  meta.Value.
-/
namespace Go.Proofs.YtaaabmnaindgaaaGreatDoor
set_option maxRecDepth 100000
open Go.RowKit

theorem one_app (t : List UInt8) : ByteArray.mk #[1] ++ ByteArray.mk t.toArray = ⟨(1 :: t).toArray⟩ := by
  apply ByteArray.ext
  simp
attribute [local go_sem] one_app

set_option maxHeartbeats 2000000 in
theorem mValue_gone (z d : Int) (v : Value) (w : World) (n : Int) (ao : Option Addr) (len cap : Nat) (hv : v = .slice ao len cap) (hn : n = 0) :
    Calls Tryz.prog 40 #[MV z d v, .bool true] w fun e w' => e = .returned (.tuple #[.string ⟨[0].toArray⟩, .int .i64 n]) ∧ Below w.heap.size w w' := by
  subst hv
  subst hn
  go_enter Tryz.func40, Tryz.ntmps40
  go_wp2_with fail
  go_ret2
  exact ⟨rfl, below_alloc _ _⟩

set_option maxHeartbeats 2000000 in
theorem mValue_there (z d : Int) (v : Value) (cs : List Int) (w : World) (hv : Ints w v cs) (hl : cs.length ≤ 1000000) :
    Calls Tryz.prog 40 #[MV z d v, .bool false] w fun e w' => e = .returned (.tuple #[.string ⟨(valM z d cs false).toArray⟩, .int .i64 (valMe z d cs false)]) ∧ Below w.heap.size w w' := by
  obtain ⟨ao, cap, rfl⟩ := hv.form
  have HV := Lib.hid (hv.below (below_alloc w (.cells #[.int .i64 z, .int .i64 d, .slice ao cs.length cap] 51)))
  clear hv
  cases hm : metaB z d cs with
  | false =>
    have h1 : valM z d cs false = [] := by simp [valM, hm]
    have h2 : valMe z d cs false = 1 := by simp [valMe, putMe, hm]
    have HM := Lib.hid hm
    rw [h1, h2]
    clear h1 h2 hm
    go_enter Tryz.func40, Tryz.ntmps40
    go_wp2_with fail
    refine (mPut_no z d _ cs _ HV.out hl HM.out).mono ?_
    rintro e w1 ⟨rfl, hB1⟩
    go_wp2_with fail
    go_ret2
    exact ⟨rfl, below2 (below_alloc _ _) hB1⟩
  | true =>
    have h1 : valM z d cs false = 1 :: metaT z d cs := by simp [valM, hm]
    have h2 : valMe z d cs false = 0 := by simp [valMe, putMe, hm]
    have K := mPut_ok z d _ cs _ HV.out hm
    have hlen := metaT_len z d cs
    have hl16 := (metaB_iff.1 hm).1
    have hsum : ¬ 9223372036854775807 < 1 + (metaT z d cs).length := by omega
    rw [h1, h2]
    clear h1 h2 hm hlen hl16 HV
    generalize metaT z d cs = t at *
    have K := Lib.hid K
    go_enter Tryz.func40, Tryz.ntmps40
    go_wp2_with fail
    refine K.out.mono ?_
    rintro e w1 ⟨rfl, hB1⟩
    go_wp2_with fail
    go_ret2
    exact ⟨rfl, below2 (below_alloc _ _) hB1⟩

theorem mValue_calls (z d : Int) (v : Value) (cs : List Int) (g : Bool) (w : World) (hv : Ints w v cs) (hl : cs.length ≤ 1000000) :
    Calls Tryz.prog 40 #[MV z d v, .bool g] w fun e w' => e = .returned (.tuple #[.string ⟨(valM z d cs g).toArray⟩, .int .i64 (valMe z d cs g)]) ∧ Below w.heap.size w w' := by
  cases g with
  | true =>
    obtain ⟨ao, cap, rfl⟩ := hv.form
    exact mValue_gone z d _ w 0 _ _ _ rfl rfl
  | false => exact mValue_there z d v cs w hv hl

end Go.Proofs.YtaaabmnaindgaaaGreatDoor

/-
  All numbers that a text's bytes are.
-/
namespace Go.Proofs.YtaaabmnaindgaaaGreatDoor
set_option maxRecDepth 100000

def OkN (l : List Int) : Prop := ∀ c ∈ l, 0 ≤ c ∧ c ≤ 4294967295
theorem okN_nil : OkN [] := by intro c h; simp at h
theorem okN_snoc {l : List Int} {n : Nat} (h : OkN l) (hn : n ≤ 4294967295) : OkN (l ++ [(n : Int)]) := by
  intro c hc
  rcases List.mem_append.1 hc with hc | hc
  · exact h c hc
  · simp at hc; omega
theorem numsB_more : ∀ (l l' : List Int) (r : List UInt8), OkN l → OkN l' → numsB l ++ r = numsB l' → ∃ l2, l' = l ++ l2 ∧ r = numsB l2
  | [], l', r, _, _, he => ⟨l', rfl, he⟩
  | c :: t, [], r, _, _, he => by
    have := numB_length c.toNat
    have h2 := congrArg List.length he
    simp only [numsB_cons, numsB_nil, List.length_append, List.length_nil] at h2
    omega
  | c :: t, c' :: t', r, h, h', he => by
    have h1 := h c (by simp)
    have h1' := h' c' (by simp)
    rw [numsB_cons, numsB_cons, List.append_assoc] at he
    have e1 := laid_getN c.toNat (by omega) (numsB t ++ r)
    rw [he, laid_getN c'.toNat (by omega)] at e1
    simp only [Option.some.injEq, Prod.mk.injEq] at e1
    obtain ⟨l2, h2, h3⟩ := numsB_more t t' r (fun x hx => h x (by simp [hx])) (fun x hx => h' x (by simp [hx])) e1.2.symm
    refine ⟨l2, ?_, h3⟩
    have : c' = c := by omega
    rw [this, h2]; rfl
theorem numsB_inj {l l' : List Int} (h : OkN l) (h' : OkN l') (he : numsB l = numsB l') : l = l' := by
  obtain ⟨l2, h2, h3⟩ := numsB_more l l' [] h h' (by simpa using he)
  cases l2 with
  | nil => rw [h2]; simp
  | cons c t =>
    have := numB_length c.toNat
    have h4 := congrArg List.length h3
    simp only [numsB_cons, List.length_append, List.length_nil] at h4
    omega
/-- What stands behind some numbers is none. -/
theorem nums_stop {l : List Int} {r : List UInt8} (h : OkN l) (hr : r ≠ []) (hn : getN r = none) : ∀ l', OkN l' → numsB l ++ r ≠ numsB l' := by
  intro l' h' he
  obtain ⟨l2, h2, h3⟩ := numsB_more l l' r h h' he
  cases l2 with
  | nil => exact hr h3
  | cons c t =>
    have h1 := h' c (by rw [h2]; simp)
    rw [h3, numsB_cons, laid_getN _ (by omega)] at hn
    cases hn
theorem nums_count : ∀ l : List Int, l.length ≤ (numsB l).length
  | [] => by simp
  | c :: t => by
    have := nums_count t
    have h := numB_length c.toNat
    rw [numsB_cons, List.length_append, List.length_cons]
    omega
theorem meta_okN {z d : Int} {cs : List Int} (h : metaB z d cs = true) : OkN (z :: d :: (cs.length : Int) :: cs) := by
  obtain ⟨h1, h2, h3, h4⟩ := metaB_iff.1 h
  intro c hc
  simp only [List.mem_cons] at hc
  rcases hc with rfl | rfl | rfl | hc
  · omega
  · omega
  · omega
  · exact h4 c hc
theorem metaT_nums (z d : Int) (cs : List Int) : metaT z d cs = numsB (z :: d :: (cs.length : Int) :: cs) := by
  rw [metaT, ← numsB_app]; rfl
/-- A text that is no row of numbers is no meta's. -/
theorem getM_noNums {s : List UInt8} (h : ∀ l, OkN l → s ≠ numsB l) : getM s = none := by
  cases hg : getM s with
  | none => rfl
  | some m =>
    obtain ⟨z, d, cs⟩ := m
    obtain ⟨h1, h2⟩ := laid_getM hg
    exact absurd (h1.trans (metaT_nums z d cs)) (h _ (meta_okN h2))
theorem getM_nums {l : List Int} (h : OkN l) {m : Mt} (hg : getM (numsB l) = some m) : l = m.1 :: m.2.1 :: (m.2.2.length : Int) :: m.2.2 ∧ metaB m.1 m.2.1 m.2.2 = true := by
  obtain ⟨z, d, cs⟩ := m
  obtain ⟨h1, h2⟩ := laid_getM hg
  exact ⟨numsB_inj h (meta_okN h2) (h1.trans (metaT_nums z d cs)), h2⟩
theorem getM_few {l : List Int} (h : OkN l) (hl : l.length < 3) : getM (numsB l) = none := by
  cases hg : getM (numsB l) with
  | none => rfl
  | some m =>
    have := (getM_nums h hg).1
    exact absurd hl (by rw [this]; simp)
theorem getM_other {z d n : Int} {cs : List Int} (h : OkN (z :: d :: n :: cs)) (hn : n ≠ cs.length) : getM (numsB (z :: d :: n :: cs)) = none := by
  cases hg : getM (numsB (z :: d :: n :: cs)) with
  | none => rfl
  | some m =>
    have := (getM_nums h hg).1
    simp only [List.cons.injEq] at this
    obtain ⟨_, _, h3, h4⟩ := this
    rw [h4] at hn
    exact absurd h3 hn
theorem getM_all {z d : Int} {cs : List Int} (h : OkN (z :: d :: (cs.length : Int) :: cs)) : getM (numsB (z :: d :: (cs.length : Int) :: cs)) = if metaB z d cs then some (z, d, cs) else none := by
  by_cases hm : metaB z d cs = true
  · rw [if_pos hm, ← metaT_nums, getM_laid hm]
  · rw [if_neg hm]
    cases hg : getM (numsB (z :: d :: (cs.length : Int) :: cs)) with
    | none => rfl
    | some m =>
      obtain ⟨h1, h2⟩ := getM_nums h hg
      simp only [List.cons.injEq] at h1
      obtain ⟨h3, h4, _, h5⟩ := h1
      rw [← h3, ← h4, ← h5] at h2
      exact absurd h2 hm

end Go.Proofs.YtaaabmnaindgaaaGreatDoor

/-
  The document's own numbers: all that a text's bytes are.
-/
namespace Go.Proofs.YtaaabmnaindgaaaGreatDoor
set_option maxRecDepth 100000
open Go.RowKit

/-- What numbers answers. -/
def NumsPost (w : World) (s : List UInt8) (e : Ending) (w' : World) : Prop :=
  Below w.heap.size w w' ∧ ((∃ ns v, s = numsB ns ∧ OkN ns ∧ e = .returned (.tuple #[v, .bool true]) ∧ OwnI w' w.heap.size v ns) ∨ ((∀ ns, OkN ns → s ≠ numsB ns) ∧ e = .returned (.tuple #[.slice none 0 0, .bool false])))

set_option maxHeartbeats 4000000 in
theorem rNums_calls (s : List UInt8) (hs : s.length ≤ 1000000) (w : World) :
    Calls Tryz.prog 116 #[.string ⟨s.toArray⟩] w (NumsPost w s) := by
  obtain ⟨i0, hi, hz0, hz1, hz2⟩ := info_parts int_info
  go_enter Tryz.func116, Tryz.ntmps116
  go_wp2_with fail
  go_loopw [0, 4] (fun x l wr => ∃ (ns : List Int) (r : List UInt8), x = .string ⟨r.toArray⟩ ∧ s = numsB ns ++ r ∧ OkN ns ∧ OwnI wr w.heap.size l ns ∧ Below w.heap.size w wr) (fun x _ _ => strLen x)
  case atStart => exact ⟨[], s, rfl, rfl, okN_nil, World.ownsRow_nil _ _ _ _, Below.refl _ _⟩
  case round =>
    obtain ⟨ns, r, rfl, hsr, hok, hown, hB⟩ := hrel
    have hc := nums_count ns
    have hlen := congrArg List.length hsr
    rw [List.length_append] at hlen
    by_cases h0 : r = []
    · subst h0
      have hd : decide ((0 : Int) < ((([] : List UInt8).length : Nat) : Int)) = false := rfl
      go_wp2_with fail
      go_ret2
      exact ⟨hB, .inl ⟨ns, _, by simpa using hsr, hok, rfl, hown⟩⟩
    · have hpos : 0 < r.length := List.length_pos_iff.2 h0
      have hd : decide ((0 : Int) < (r.length : Int)) = true := by rw [decide_eq_true_eq]; omega
      cases hg : getN r with
      | none =>
        have HG := Lib.hid hg
        have HN := Lib.hid (nums_stop hok h0 hg)
        have HS := Lib.hid hsr
        clear hg hsr
        go_wp2_with fail
        refine (refGetNumber_none r (by omega) HG.out _).mono ?_
        rintro e w1 ⟨rfl, hB1⟩
        go_wp2_with fail
        go_ret2
        exact ⟨below2 hB hB1, .inr ⟨fun l hl => by rw [HS.out]; exact HN.out l hl, rfl⟩⟩
      | some x =>
        obtain ⟨n, r'⟩ := x
        obtain ⟨e1, e2⟩ := getN_laid hg
        have hl1 := numB_length n
        have hl2 := congrArg List.length e1
        rw [List.length_append] at hl2
        have HG := Lib.hid hg
        have HS := Lib.hid (show s = numsB (ns ++ [(n : Int)]) ++ r' by rw [numsB_snoc, Int.toNat_natCast, List.append_assoc, ← e1]; exact hsr)
        have HK := Lib.hid (okN_snoc hok e2)
        have hmx : ns.length + 1 ≤ maxLen := by unfold maxLen; omega
        have hby : (ns.length + 1) * 8 ≤ 140737488355328 := by omega
        clear hg hsr e1
        go_wp2_with fail
        refine (refGetNumber_some r (by omega) HG.out _).mono ?_
        rintro e w1 ⟨rfl, hB1⟩
        have hown1 := own_stays hown hB1
        have hz := (below2 hB hB1).size
        have hzz : w.heap.size ≤ (w1.alloc (.cells #[.int .i64 n] 3)).heap.size := by rw [World.size_alloc]; omega
        go_wp2_with (at_builtin; (with_reducible show wpList _ _ _ _ _ _); refine wpList_append_own _ rfl _ _ 49 rfl w.heap.size 3 i0 (.int .i64 0) 1 8 Tryz.underlying49 hi hz0 hz1 hz2 rfl Nat.one_pos _ ns.length _ rfl (hown1.alloc _) ⟨w1.heap.size, 0, none⟩ 1 1 [.int .i64 n] rfl rfl (news_new w1 _ _) (one_int n) hmx hby hzz ?_)
        intro v2 w2 ho2 hg2 _
        have ho3 : OwnI w2 w.heap.size v2 (ns ++ [(n : Int)]) := by
          have e1 : (ns ++ [(n : Int)]).length = ns.length + 1 := by simp
          have e2 : (ns ++ [(n : Int)]).map (Value.int .i64) = ns.map (Value.int .i64) ++ [.int .i64 n] := by simp
          rw [OwnI, e1, e2]
          exact ho2
        have hB2 := below2 hB hB1
        have hB3 := (hB2.alloc hB2.size (.cells #[.int .i64 n] 3)).grown hg2 hzz (fun k hk => (hown1.lt k hk).1)
        go_wp2_with fail
        go_roundw
        case rel => exact ⟨ns ++ [(n : Int)], r', rfl, HS.out, HK.out, ho3, hB3⟩
        case measure => simp [strLen, size_mk]; omega

end Go.Proofs.YtaaabmnaindgaaaGreatDoor

/-
  The document's own Is of metas.
-/
namespace Go.Proofs.YtaaabmnaindgaaaGreatDoor
set_option maxRecDepth 100000
open Go.RowKit

set_option maxHeartbeats 2000000 in
theorem rIs_not (z d : Int) (v : Value) (cs : List Int) (w : World) (hv : Ints w v cs) (hl : cs.length ≤ 1000000) (h : z < 0 ∨ 1000000000 < z ∨ d < 0 ∨ 4095 < d ∨ 16 < cs.length) :
    Calls Tryz.prog 117 #[MV z d v] w fun e w' => e = .returned (.bool false) ∧ Below w.heap.size w w' := by
  obtain ⟨ao, cap, rfl⟩ := hv.form
  clear hv
  by_cases h1 : z < 0
  · clear h
    go_enter Tryz.func117, Tryz.ntmps117
    go_wp2_with fail
    go_ret
    exact ⟨rfl, below_alloc _ _⟩
  have g1 : 0 ≤ z := by omega
  by_cases h2 : 1000000000 < z
  · clear h
    go_enter Tryz.func117, Tryz.ntmps117
    go_wp2_with fail
    go_ret
    exact ⟨rfl, below_alloc _ _⟩
  have g2 : z ≤ 1000000000 := by omega
  by_cases h3 : d < 0
  · clear h
    go_enter Tryz.func117, Tryz.ntmps117
    go_wp2_with fail
    go_ret
    exact ⟨rfl, below_alloc _ _⟩
  have g3 : 0 ≤ d := by omega
  by_cases h4 : 4095 < d
  · clear h
    go_enter Tryz.func117, Tryz.ntmps117
    go_wp2_with fail
    go_ret
    exact ⟨rfl, below_alloc _ _⟩
  have g4 : d ≤ 4095 := by omega
  have h5 : decide ((16 : Int) < cs.length) = true := by rw [decide_eq_true_eq]; omega
  clear h
  go_enter Tryz.func117, Tryz.ntmps117
  go_wp2_with fail
  go_ret
  exact ⟨rfl, below_alloc _ _⟩

set_option maxHeartbeats 2000000 in
theorem rIs_loop (z d : Int) (v : Value) (cs : List Int) (w : World) (hv : Ints w v cs) (g1 : 0 ≤ z) (g2 : z ≤ 1000000000) (g3 : 0 ≤ d) (g4 : d ≤ 4095) (hl : cs.length ≤ 16) :
    Calls Tryz.prog 117 #[MV z d v] w fun e w' => e = .returned (.bool (cs.all fun c => upB c 4294967295)) ∧ Below w.heap.size w w' := by
  obtain ⟨ao, cap, rfl⟩ := hv.form
  have HV := Lib.hid (hv.below (below_alloc w (.cells #[.int .i64 z, .int .i64 d, .slice ao cs.length cap] 51)))
  have h5 : decide ((16 : Int) < cs.length) = false := by rw [decide_eq_false_iff_not]; omega
  clear hv
  go_enter Tryz.func117, Tryz.ntmps117
  go_wp2_with fail
  go_loop [3] (fun i => ∃ k : Nat, k ≤ cs.length ∧ i = .int .i64 k ∧ Hid ((cs.take k).all (fun c => upB c 4294967295) = true)) (fun i => cs.length - (intOf i).toNat)
  case atStart => exact ⟨0, Nat.zero_le _, rfl, Lib.hid (by simp)⟩
  case round =>
    obtain ⟨k, hk, rfl, hf⟩ := hrel
    by_cases hlt : k < cs.length
    · obtain ⟨b, off, rfl, hcell⟩ := HV.out.at hlt
      have hm := fun h => chs_more hf.out hlt h
      have hn := chs_not hlt
      generalize cs[k] = c at hcell hm hn
      by_cases c1 : c < 0
      · have HN := Lib.hid (hn (upB_not (.inl c1)))
        clear hm hn
        go_wp2_with fail
        go_ret
        exact ⟨by rw [HN.out]; rfl, below_alloc _ _⟩
      by_cases c2 : 4294967295 < c
      · have HN := Lib.hid (hn (upB_not (.inr c2)))
        have c3 : 0 ≤ c := by omega
        clear hm hn
        go_wp2_with fail
        go_ret
        exact ⟨by rw [HN.out]; rfl, below_alloc _ _⟩
      · have c3 : 0 ≤ c := by omega
        have c4 : c ≤ 4294967295 := by omega
        have HN := Lib.hid (hm (upB_iff.2 ⟨c3, c4⟩))
        clear hm hn
        go_wp2_with fail
        go_round
        case rel => exact ⟨k + 1, by omega, by go_num, HN⟩
        case measure => simp [intOf]; omega
    · obtain rfl : k = cs.length := by omega
      have hA := Lib.hid (by simpa using hf.out : cs.all (fun c => upB c 4294967295) = true)
      go_wp2_with fail
      go_ret
      exact ⟨by rw [hA.out]; rfl, below_alloc _ _⟩

theorem rIs_calls (z d : Int) (v : Value) (cs : List Int) (w : World) (hv : Ints w v cs) (hl : cs.length ≤ 1000000) :
    Calls Tryz.prog 117 #[MV z d v] w fun e w' => e = .returned (.bool (metaB z d cs)) ∧ Below w.heap.size w w' := by
  by_cases h : z < 0 ∨ 1000000000 < z ∨ d < 0 ∨ 4095 < d ∨ 16 < cs.length
  · have hr : metaB z d cs = false := by
      cases hq : metaB z d cs with
      | false => rfl
      | true => have := metaB_iff.1 hq; omega
    rw [hr]
    exact rIs_not z d v cs w hv hl h
  · have hr : metaB z d cs = cs.all fun c => upB c 4294967295 := by
      unfold metaB
      rw [decide_eq_true (by omega), upB_iff.2 (by omega), upB_iff.2 (by omega)]
      simp
    rw [hr]
    exact rIs_loop z d v cs w hv (by omega) (by omega) (by omega) (by omega) (by omega)

end Go.Proofs.YtaaabmnaindgaaaGreatDoor

/-
  The document's own Get of metas.
-/
namespace Go.Proofs.YtaaabmnaindgaaaGreatDoor
set_option maxRecDepth 100000
open Go.RowKit

set_option maxHeartbeats 4000000 in
theorem rGet_calls (s : List UInt8) (hs : s.length ≤ 1000) (w : World) :
    Calls Tryz.prog 96 #[.string ⟨s.toArray⟩] w fun e w' => ∃ v, e = .returned (.tuple #[MV (gotM s).1 (gotM s).2.1 v, .int .i64 (gotE s)]) ∧ OwnI w' w.heap.size v (gotM s).2.2 ∧ Below w.heap.size w w' := by
  have HX := Lib.hid (Cx.new w 51 [.int .i64 0, .int .i64 0, .slice none 0 0])
  have KN := Lib.hid (fun W => rNums_calls s (by omega) W)
  have HE : ∀ m, getM s = some m → gotM s = m ∧ gotE s = 0 := fun m h => ⟨by simp [gotM, h], by simp [gotE, h]⟩
  have HE0 : getM s = none → gotM s = (0, 0, []) ∧ gotE s = 30 := fun h => ⟨by simp [gotM, h], by simp [gotE, h]⟩
  obtain ⟨gm, hgm⟩ : ∃ x, gotM s = x := ⟨_, rfl⟩
  obtain ⟨ge, hge⟩ : ∃ x, gotE s = x := ⟨_, rfl⟩
  rw [hgm] at HE HE0 ⊢
  rw [hge] at HE HE0 ⊢
  have HE := Lib.hid HE
  have HE0 := Lib.hid HE0
  clear hgm hge
  go_enter Tryz.func96, Tryz.ntmps96
  go_wp2_with fail
  refine (KN.out _).mono ?_
  rintro e w1 ⟨hB1, ⟨ns, v, hsn, hok, rfl, hown⟩ | ⟨hno, rfl⟩⟩
  · have HX1 := Lib.hid (HX.out.below hB1)
    have hcnt := nums_count ns
    rw [← hsn] at hcnt
    have hB := below2 (below_alloc w _) hB1
    obtain ⟨ao, cap, rfl⟩ := (ints_own hown).form
    by_cases h3 : ns.length < 3
    · obtain ⟨h1, h2⟩ := HE0.out (by rw [hsn]; exact getM_few hok h3)
      subst h1
      subst h2
      have hd : decide ((ns.length : Int) < 3) = true := by rw [decide_eq_true_eq]; omega
      have HO := Lib.hid hown
      have HB := Lib.hid hB
      obtain ⟨c0, c1, c2, f0, f1, f2, hlt⟩ := HX1.out.three
      clear hsn hok hown hB hcnt
      go_wp2_with fail
      obtain ⟨x0, x1, x2, _⟩ := (HX1.out.sets3 (.int .i64 0) (.int .i64 0) (.slice none 0 0)).three
      exact ret_meta2 rfl rfl w.heap.size _ _ _ _ rfl rfl x0 x1 x2 ⟨_, rfl, World.ownsRow_nil _ _ _ _, below_sets3 HB.out (Nat.le_refl _) _ _ _⟩
    · have hd : decide ((ns.length : Int) < 3) = false := by rw [decide_eq_false_iff_not]; omega
      match ns, hsn, hok, hown, hcnt, h3, hd with
      | [], _, _, _, _, h3, _ => simp at h3
      | [_], _, _, _, _, h3, _ => simp at h3
      | [_, _], _, _, _, _, h3, _ => simp at h3
      | z :: d :: n :: cs, hsn, hok, hown, hcnt, h3, hd =>
        obtain ⟨k, hk⟩ : ∃ k, (z :: d :: n :: cs).length = k := ⟨_, rfl⟩
        have hkc : k = cs.length + 3 := by rw [← hk]; simp
        obtain ⟨b, off, rfl, hcs⟩ := (ints_own hown).first (by simp)
        obtain ⟨a1, q1, hsl, hI1⟩ := ints_from (ints_own hown) 3 cs.length (by simp) (by simp; omega)
        have d0 := hcs 0 (by simp)
        have d1 := hcs 1 (by simp)
        have d2 := hcs 2 (by simp)
        simp only [List.getElem_cons_zero, List.getElem_cons_succ, Nat.add_zero] at d0 d1 d2
        simp only [List.drop_succ_cons, List.drop_zero] at hI1
        rw [hk] at hsl hd ⊢
        have hsl2 : ∀ W, (Instr.slice 49 (.slice (some ⟨b, off, none⟩) k cap) (some (.int .i64 3)) none none).run Tryz.prog W = .ok (.slice a1 cs.length q1) W := hsl
        clear hsl
        have hk3 : 3 ≤ k := by omega
        have hk1 : k ≤ 1000 := by omega
        obtain ⟨c0, c1, c2, f0, f1, f2, hlt⟩ := HX1.out.three
        have HB := Lib.hid hB
        by_cases hn : n = cs.length
        · subst hn
          have hcmp : ((cs.length : Int) != (k : Int) - 3) = false := by rw [bne_eq_false_iff_eq]; omega
          have HG : Hid (getM s = if metaB z d cs then some (z, d, cs) else none) := Lib.hid (by rw [hsn]; exact getM_all hok)
          have HI1 := Lib.hid hI1
          have hc1 : cs.length ≤ 1000 := by omega
          clear hsn hok hown hB hcnt hkc hk h3 hcs hI1
          have hk0 : 0 < k := by omega
          have hk2 : 1 < k := by omega
          have y0 := look_below ((below_alloc w1 (.cells #[.int .i64 0, .int .i64 0, .slice none 0 0] 51)).drew) d0
          have y1 := look_below ((below_alloc w1 (.cells #[.int .i64 0, .int .i64 0, .slice none 0 0] 51)).drew) d1
          have z0 := look_below (drew_below w1) d0
          have z1 := look_below (drew_below w1) d1
          go_wp2_with fail
          go_region
          clear y0 y1 z0 z1 hk0 hk2
          have hM0 := Cx.new w1 51 [.int .i64 z, .int .i64 d, .slice none 0 0]
          have hBM : Below w1.heap.size w1 (w1.alloc (.cells #[.int .i64 z, .int .i64 d, .slice none 0 0] 51)).drew := (below_alloc _ _).drew
          have hM : Cx (w1.alloc (.cells #[.int .i64 z, .int .i64 d, .slice none 0 0] 51)).drew w1.heap.size 51 [.int .i64 z, .int .i64 d, .slice none 0 0] := hM0.below (drew_below _)
          have hZ : w1.heap.size < (w1.alloc (.cells #[.int .i64 z, .int .i64 d, .slice none 0 0] 51)).drew.heap.size := hM.lt
          have hR := HI1.out.below (hBM.trans ((drew_below _).mono hBM.size))
          generalize (w1.alloc (.cells #[.int .i64 z, .int .i64 d, .slice none 0 0] 51)).drew = W2 at *
          have hB3 := hBM.trans ((drew_below W2).mono hBM.size)
          have hM3 := hM.below (drew_below W2)
          obtain ⟨e0, e1, e2, g0, g1, g2, _⟩ := hM3.three
          have hZ3 : w1.heap.size < W2.drew.heap.size := hZ
          have HR := Lib.hid hR
          have HM3 := Lib.hid hM3
          have HB3 := Lib.hid hB3
          clear hM0 hBM hM hZ hR hB3 hM3
          obtain ⟨i0, hi, hz0, hz1, hz2⟩ := info_parts int_info
          go_wp2_with fail
          go_region_law (first
            | (refine step_append_nil rfl (.tmp 37) (.tmp 39) 49 rfl (w1.heap.size + 1) 3 i0 (.int .i64 0) 1 8 Tryz.underlying49 hi hz0 hz1 hz2 rfl Nat.one_pos rfl a1 cs.length q1 (cs.map (Value.int .i64)) rfl HR.out (ints_one cs) hc1 (by decide) hZ3 ?_; intro a5 c5 w5 ho5 hB5; obtain ⟨r0, r1, r2, s0, s1, s2, _⟩ := (HM3.out.below hB5).three))
          have hb5 : Below w1.heap.size w1 w5 := HB3.out.trans (hB5.mono HB3.out.size)
          have hGlt : w.heap.size < w1.heap.size := HX1.out.lt
          have hX6 := (HX1.out.below hb5).other (Nat.ne_of_lt hGlt) (j := 2) (.slice a5 cs.length c5)
          have ho6 := own_above ho5 (Nat.lt_succ_self w1.heap.size) 2 (.slice a5 cs.length c5)
          have hB6 : Below w.heap.size w (w5.setCell ⟨w1.heap.size, 2, none⟩ (.slice a5 cs.length c5)) := (below2 HB.out hb5).setCell (p := ⟨w1.heap.size, 2, none⟩) (Nat.le_of_lt hGlt) _
          have HX6 := Lib.hid hX6
          have HO6 := Lib.hid ho6
          have HB6 := Lib.hid hB6
          have hM6 := ((HM3.out.below hB5).set 2 (.slice a5 cs.length c5))
          have HM6 := Lib.hid hM6
          have hI6 := ints_own ho6
          have HI6 := Lib.hid hI6
          clear hX6 ho6 hB6 hM6 hI6 hb5 ho5 hB5 e0 e1 e2 g0 g1 g2
          go_wp2_with fail
          refine (rIs_calls z d _ cs _ HI6.out (by omega)).mono ?_
          rintro e w7 ⟨rfl, hB7⟩
          have HX7 := Lib.hid (HX6.out.below hB7)
          have HO7 := Lib.hid (own_stays HO6.out hB7)
          have HB7 := Lib.hid (below2 HB6.out hB7)
          have HM7 := Lib.hid (HM6.out.below hB7)
          clear r0 r1 r2 s0 s1 s2
          obtain ⟨r0, r1, r2, s0, s1, s2, _⟩ := HM7.out.three
          obtain ⟨c0, c1, c2, f0, f1, f2, hlt⟩ := HX7.out.three
          cases hm : metaB z d cs with
          | true =>
            obtain ⟨h1, h2⟩ := HE.out (z, d, cs) (by rw [HG.out, hm]; rfl)
            subst h1
            subst h2
            have HZ := Lib.hid hGlt
            clear hm hGlt
            go_wp2_with fail
            obtain ⟨x0, x1, x2, _⟩ := (HX7.out.sets3 (.int .i64 z) (.int .i64 d) (.slice a5 cs.length c5)).three
            refine ret_meta2 rfl rfl w.heap.size _ _ _ _ rfl rfl x0 x1 x2 ⟨_, rfl, ?_, below_sets3 HB7.out (Nat.le_refl _) _ _ _⟩
            have hl := Nat.lt_trans HZ.out (Nat.lt_succ_self w1.heap.size)
            exact own_weak (own_above (own_above (own_above HO7.out hl 0 _) hl 1 _) hl 2 _) (Nat.le_of_lt hl)
          | false =>
            obtain ⟨h1, h2⟩ := HE0.out (by rw [HG.out, hm]; rfl)
            subst h1
            subst h2
            clear hm hGlt
            go_wp2_with fail
            obtain ⟨x0, x1, x2, _⟩ := (HX7.out.sets3 (.int .i64 0) (.int .i64 0) (.slice none 0 0)).three
            exact ret_meta2 rfl rfl w.heap.size _ _ _ _ rfl rfl x0 x1 x2 ⟨_, rfl, World.ownsRow_nil _ _ _ _, below_sets3 HB7.out (Nat.le_refl _) _ _ _⟩
        · have hcmp : (n != (k : Int) - 3) = true := by rw [bne_iff_ne]; omega
          obtain ⟨h1, h2⟩ := HE0.out (by rw [hsn]; exact getM_other hok hn)
          subst h1
          subst h2
          clear hsn hok hown hB hcnt hkc hk h3 hcs hI1 hn
          go_wp2_with fail
          obtain ⟨x0, x1, x2, _⟩ := (HX1.out.sets3 (.int .i64 0) (.int .i64 0) (.slice none 0 0)).three
          exact ret_meta2 rfl rfl w.heap.size _ _ _ _ rfl rfl x0 x1 x2 ⟨_, rfl, World.ownsRow_nil _ _ _ _, below_sets3 HB.out (Nat.le_refl _) _ _ _⟩
  · obtain ⟨h1, h2⟩ := HE0.out (getM_noNums hno)
    subst h1
    subst h2
    have HX1 := Lib.hid (HX.out.below hB1)
    have HB := Lib.hid (below2 (below_alloc w _) hB1)
    obtain ⟨c0, c1, c2, f0, f1, f2, hlt⟩ := HX1.out.three
    go_wp2_with fail
    obtain ⟨x0, x1, x2, _⟩ := (HX1.out.sets3 (.int .i64 0) (.int .i64 0) (.slice none 0 0)).three
    exact ret_meta2 rfl rfl w.heap.size _ _ _ _ rfl rfl x0 x1 x2 ⟨_, rfl, World.ownsRow_nil _ _ _ _, below_sets3 HB.out (Nat.le_refl _) _ _ _⟩

end Go.Proofs.YtaaabmnaindgaaaGreatDoor

/-
  The document's own Read of values.
-/
namespace Go.Proofs.YtaaabmnaindgaaaGreatDoor
set_option maxRecDepth 100000
open Go.RowKit
attribute [local go_sem] at_str ext_drop

set_option maxHeartbeats 2000000 in
theorem rRead_gone (w : World) :
    Calls Tryz.prog 63 #[.string ⟨[0].toArray⟩] w fun e w' => e = .returned (.tuple #[zM, .bool true, .int .i64 0]) ∧ Below w.heap.size w w' := by
  have HX := Lib.hid (Cx.new w 51 [.int .i64 0, .int .i64 0, .slice none 0 0])
  go_enter Tryz.func63, Tryz.ntmps63
  go_wp2_with fail
  obtain ⟨c0, c1, c2, _⟩ := HX.out.three
  exact ret_meta3 rfl rfl w.heap.size _ _ _ _ _ rfl rfl rfl c0 c1 c2 ⟨rfl, below_alloc _ _⟩

set_option maxHeartbeats 2000000 in
theorem rRead_nil (w : World) :
    Calls Tryz.prog 63 #[.string ⟨#[]⟩] w fun e w' => e = .returned (.tuple #[zM, .bool false, .int .i64 30]) ∧ Below w.heap.size w w' := by
  have HX := Lib.hid (Cx.new w 51 [.int .i64 0, .int .i64 0, .slice none 0 0])
  go_enter Tryz.func63, Tryz.ntmps63
  go_wp2_with fail
  obtain ⟨c0, c1, c2, _⟩ := HX.out.three
  exact ret_meta3 rfl rfl w.heap.size _ _ _ _ _ rfl rfl rfl c0 c1 c2 ⟨rfl, below_alloc _ _⟩

set_option maxHeartbeats 2000000 in
theorem rRead_none (b : UInt8) (r : List UInt8) (h0 : b :: r ≠ [0]) (h : b ≠ 1) (hl : r.length ≤ 1000) (w : World) :
    Calls Tryz.prog 63 #[.string ⟨(b :: r).toArray⟩] w fun e w' => e = .returned (.tuple #[zM, .bool false, .int .i64 30]) ∧ Below w.heap.size w w' := by
  have HX := Lib.hid (Cx.new w 51 [.int .i64 0, .int .i64 0, .slice none 0 0])
  have hne : ((b :: r) == [0]) = false := by simpa using h0
  have hl0 : (((b :: r).length : Int) == 0) = false := by rw [beq_eq_false_iff_ne]; simp; omega
  have hb : ((b.toNat : Int) != 1) = true := by
    rw [bne_iff_ne]
    intro e
    exact h (UInt8.toNat_inj.1 (by show b.toNat = 1; omega))
  obtain ⟨s, hs⟩ : ∃ s, b :: r = s := ⟨_, rfl⟩
  have hpos : 0 < s.length := by rw [← hs]; simp
  have hat : s[0] = b := by subst hs; rfl
  rw [hs] at hne hl0 ⊢
  rw [← hat] at hb
  clear hs h0 h hat
  go_enter Tryz.func63, Tryz.ntmps63
  go_wp2_with fail
  obtain ⟨c0, c1, c2, _⟩ := HX.out.three
  exact ret_meta3 rfl rfl w.heap.size _ _ _ _ _ rfl rfl rfl c0 c1 c2 ⟨rfl, below_alloc _ _⟩

set_option maxHeartbeats 2000000 in
theorem rRead_some (r : List UInt8) (hr : r.length ≤ 1000) (w : World) :
    Calls Tryz.prog 63 #[.string ⟨(1 :: r).toArray⟩] w fun e w' => ∃ v, e = .returned (.tuple #[MV (gotM r).1 (gotM r).2.1 v, .bool false, .int .i64 (gotE r)]) ∧ OwnI w' w.heap.size v (gotM r).2.2 ∧ Below w.heap.size w w' := by
  have HX := Lib.hid (Cx.new w 51 [.int .i64 0, .int .i64 0, .slice none 0 0])
  have K := Lib.hid (fun W => rGet_calls r hr W)
  have hne : ((1 :: r) == [0]) = false := by simp
  have hl0 : (((1 :: r).length : Int) == 0) = false := by rw [beq_eq_false_iff_ne]; simp; omega
  generalize (gotM r).1 = z at *
  generalize (gotM r).2.1 = d at *
  generalize (gotM r).2.2 = cs at *
  generalize gotE r = y at *
  obtain ⟨s, hs⟩ : ∃ s, 1 :: r = s := ⟨_, rfl⟩
  have hpos : 0 < s.length := by rw [← hs]; simp
  have hdr : s.tail = r := by rw [← hs]; rfl
  have hat : ((s[0].toNat : Int) != 1) = false := by subst hs; rfl
  rw [hs] at hne hl0 ⊢
  have HD := Lib.hid hdr
  clear hs hdr
  go_enter Tryz.func63, Tryz.ntmps63
  go_wp2_with fail
  rw [HD.out]
  refine (K.out _).mono ?_
  rintro e w1 ⟨v, rfl, hI, hB⟩
  obtain ⟨ao, cap, rfl⟩ := (ints_own hI).form
  have HI := Lib.hid hI
  have HX1 := Lib.hid ((HX.out.below hB).below (below_alloc w1 (.cells #[.int .i64 z, .int .i64 d, .slice ao cs.length cap] 51)))
  clear hI
  obtain ⟨c0, c1, c2, f0, f1, f2, hlt⟩ := HX1.out.three
  go_wp2_with fail
  obtain ⟨x0, x1, x2, _⟩ := (HX1.out.sets3 (.int .i64 z) (.int .i64 d) (.slice ao cs.length cap)).three
  refine ret_meta3 rfl rfl w.heap.size _ _ _ _ _ rfl rfl rfl x0 x1 x2 ⟨_, rfl, ?_, ?_⟩
  · have hl : w.heap.size < (w.alloc (.cells #[.int .i64 0, .int .i64 0, .slice none 0 0] 51)).heap.size := by rw [World.size_alloc]; exact Nat.lt_succ_self _
    exact own_weak (own_above (own_above (own_above (own_stays HI.out (below_alloc _ _)) hl 0 _) hl 1 _) hl 2 _) (Nat.le_of_lt hl)
  · exact below_sets3 (below3 (below_alloc _ _) hB (below_alloc _ _)) (Nat.le_refl _) _ _ _

theorem rRead_calls (s : List UInt8) (hs : s.length ≤ 1000) (w : World) :
    Calls Tryz.prog 63 #[.string ⟨s.toArray⟩] w fun e w' => ∃ v, e = .returned (.tuple #[MV (redM s).1 (redM s).2.1 v, .bool (redG s), .int .i64 (redE s)]) ∧ OwnI w' w.heap.size v (redM s).2.2 ∧ Below w.heap.size w w' := by
  by_cases h0 : s = [0]
  · subst h0
    obtain ⟨h1, h2, h3⟩ := red_gone
    rw [h1, h2, h3]
    exact (rRead_gone w).mono fun e w' he => ⟨_, he.1, World.ownsRow_nil _ _ _ _, he.2⟩
  · by_cases h : s.head? = some 1
    · cases s with
      | nil => simp at h
      | cons b r =>
        obtain rfl : b = 1 := by simpa using h
        obtain ⟨h1, h2, h3⟩ := red_some r
        rw [h1, h2, h3]
        exact rRead_some r (by simp at hs; omega) w
    · obtain ⟨h1, h2, h3⟩ := red_none h0 h
      rw [h1, h2, h3]
      cases s with
      | nil => exact (rRead_nil w).mono fun e w' he => ⟨_, he.1, World.ownsRow_nil _ _ _ _, he.2⟩
      | cons b r => exact (rRead_none b r h0 (by simpa using h) (by simp at hs; omega) w).mono fun e w' he => ⟨_, he.1, World.ownsRow_nil _ _ _ _, he.2⟩

end Go.Proofs.YtaaabmnaindgaaaGreatDoor

/-
  A meta that came in, opened.
-/
namespace Go.Proofs.YtaaabmnaindgaaaGreatDoor
set_option maxRecDepth 100000
open Go.RowKit Go.Joins Go.ChangeShapes Go.WideShapes

theorem metaCells : Tryz.prog.cellsOf 51 = 3 := by kernel_rfl
end Go.Proofs.YtaaabmnaindgaaaGreatDoor

/-
  The law file's helpers of metas: Ints, Same.
-/
namespace Go.Proofs.YtaaabmnaindgaaaGreatDoor
set_option maxRecDepth 100000
open Go.RowKit

/-- The first k ints are the same. -/
theorem intsSame_all {a b : List Int} (hl : a.length = b.length) (h : a.take a.length = b.take a.length) : (a == b) = true := by
  rw [List.take_length, hl, List.take_length] at h
  simpa using h
theorem intsSame_next {a b : List Int} {k : Nat} (h : a.take k = b.take k) (ha : k < a.length) (hb : k < b.length) (he : a[k] = b[k]) : a.take (k + 1) = b.take (k + 1) := by
  rw [List.take_succ_eq_append_getElem ha, List.take_succ_eq_append_getElem hb, h, he]
theorem intsSame_not {a b : List Int} {k : Nat} (ha : k < a.length) (hb : k < b.length) (he : a[k] ≠ b[k]) : (a == b) = false := by
  rw [beq_eq_false_iff_ne]
  intro e
  subst e
  exact he rfl

set_option maxHeartbeats 2000000 in
theorem refInts_calls (va vb : Value) (a b : List Int) (w : World) (ha : Ints w va a) (hb : Ints w vb b) (hla : a.length ≤ 1000000) :
    Calls Tryz.prog 80 #[va, vb] w fun e w' => e = .returned (.bool (a == b)) ∧ Below w.heap.size w w' := by
  obtain ⟨aa, ca, rfl⟩ := ha.form
  obtain ⟨ab, cb, rfl⟩ := hb.form
  have HA := Lib.hid ha
  have HB := Lib.hid hb
  clear ha hb
  by_cases hl : a.length = b.length
  · have hne : ((a.length : Int) != (b.length : Int)) = false := by rw [bne_eq_false_iff_eq]; omega
    have HL := Lib.hid hl
    go_enter Tryz.func80, Tryz.ntmps80
    clear hl
    go_wp2_with fail
    go_loopw [5] (fun i wr => ∃ k : Nat, k ≤ a.length ∧ i = .int .i64 k ∧ Hid (a.take k = b.take k) ∧ Hid (Below w.heap.size w wr)) (fun i _ => a.length - (intOf i).toNat)
    case atStart => exact ⟨0, Nat.zero_le _, rfl, Lib.hid (by simp), Lib.hid (Below.refl _ _)⟩
    case round =>
      obtain ⟨k, hk, rfl, hf, hB⟩ := hrel
      by_cases hlt : k < a.length
      · have hlt2 : k < b.length := by have := HL.out; omega
        obtain ⟨ba, oa, rfl, cella⟩ := (HA.out.below hB.out).at hlt
        obtain ⟨bb, ob, rfl, cellb⟩ := (HB.out.below hB.out).at hlt2
        have ca2 := look_below (drew_below wr) cella
        have cb2 := look_below (drew_below wr) cellb
        have hn := fun h => intsSame_next hf.out hlt hlt2 h
        have hx := fun h => intsSame_not hlt hlt2 h
        generalize a[k] = x at *
        generalize b[k] = y at *
        by_cases hxy : x = y
        · have HN := Lib.hid (hn hxy)
          subst hxy
          clear hn hx cella cellb
          go_wp2_with fail
          go_region
          all_goals
            go_wp2_with fail
            go_roundw
            case rel => exact ⟨k + 1, by omega, by go_num, HN, Lib.hid (hB.out.drew)⟩
            case measure => simp [intOf]; omega
        · have HX := Lib.hid (hx hxy)
          have hd : (x != y) = true := by rw [bne_iff_ne]; exact hxy
          clear hn hx cella cellb hxy
          go_wp2_with fail
          go_region
          all_goals
            go_wp2_with fail
            go_ret
            exact ⟨by rw [HX.out]; rfl, hB.out.drew⟩
      · obtain rfl : k = a.length := by omega
        have HS := Lib.hid (intsSame_all HL.out hf.out)
        go_wp2_with fail
        go_ret
        exact ⟨by rw [HS.out]; rfl, hB.out⟩
  · have hne : ((a.length : Int) != (b.length : Int)) = true := by rw [bne_iff_ne]; omega
    have HX := Lib.hid (show (a == b) = false by rw [beq_eq_false_iff_ne]; intro e; exact hl (by rw [e]))
    clear hl
    go_enter Tryz.func80, Tryz.ntmps80
    go_wp2_with fail
    go_ret
    exact ⟨by rw [HX.out]; rfl, Below.refl _ _⟩

set_option maxHeartbeats 2000000 in
theorem mSame_calls (z d : Int) (v : Value) (cs : List Int) (z' d' : Int) (v' : Value) (cs' : List Int) (w : World) (hv : Ints w v cs) (hv' : Ints w v' cs') (hl : cs.length ≤ 1000000) :
    Calls Tryz.prog 51 #[MV z d v, MV z' d' v'] w fun e w' => e = .returned (.bool (sameM z d cs z' d' cs')) ∧ Below w.heap.size w w' := by
  have hB := below_alloc2 w (.cells #[.int .i64 z, .int .i64 d, v] 51) (.cells #[.int .i64 z', .int .i64 d', v'] 51)
  obtain ⟨ao, ca, rfl⟩ := hv.form
  obtain ⟨ab, cb, rfl⟩ := hv'.form
  have K := Lib.hid (refInts_calls _ _ cs cs' _ (hv.below hB) (hv'.below hB) hl)
  unfold sameM
  clear hv hv' hB
  by_cases hz : z = z'
  · have hz1 : (z == z') = true := by simpa using hz
    by_cases hd : d = d'
    · have hd1 : (d == d') = true := by simpa using hd
      rw [hz1, hd1]
      generalize (cs == cs') = b at *
      clear hz hd
      go_enter Tryz.func51, Tryz.ntmps51
      go_wp2_with (refine K.out.mono ?_; rintro e w1 ⟨rfl, hB1⟩)
      go_ret
      exact ⟨rfl, below2 (below_alloc2 _ _ _) hB1⟩
    · have hd1 : (d == d') = false := by simpa using hd
      rw [hz1, hd1]
      clear hz hd
      go_enter Tryz.func51, Tryz.ntmps51
      go_wp2_with fail
      go_ret
      exact ⟨rfl, below_alloc2 _ _ _⟩
  · have hz1 : (z == z') = false := by simpa using hz
    rw [hz1]
    clear hz
    go_enter Tryz.func51, Tryz.ntmps51
    go_wp2_with fail
    go_ret
    exact ⟨rfl, below_alloc2 _ _ _⟩

end Go.Proofs.YtaaabmnaindgaaaGreatDoor
