/-
  What chapter 12 says, as plain functions: a meta is (Size, Mode, Chunks).
-/
import Derived.Test.YtinbeapkhmcifaaDoorMath2
namespace Go.Proofs.YtinbeapkhmcifaaDoor
set_option maxRecDepth 100000

def upB (n m : Int) : Bool := decide (0 ≤ n) && decide (n ≤ m)
abbrev Mt := Int × Int × List Int
def metaB (z d : Int) (cs : List Int) : Bool := decide (cs.length ≤ 16) && (upB z 1000000000 && (upB d 4095 && cs.all fun c => upB c 4294967295))
/-- The bytes of numbers, one behind the other. -/
def numsB (l : List Int) : List UInt8 := (l.map fun n => numB n.toNat).flatten
def metaT (z d : Int) (cs : List Int) : List UInt8 := numsB [z, d, (cs.length : Int)] ++ numsB cs
def putM (z d : Int) (cs : List Int) : List UInt8 := if metaB z d cs then metaT z d cs else []
def putMe (z d : Int) (cs : List Int) : Int := if metaB z d cs then 0 else 1
def valM (z d : Int) (cs : List Int) (g : Bool) : List UInt8 := if g then [0] else if metaB z d cs then 1 :: metaT z d cs else []
def valMe (z d : Int) (cs : List Int) (g : Bool) : Int := if g then 0 else putMe z d cs

/-- So many numbers that bytes begin with. -/
def getNs : Nat → List UInt8 → Option (List Int × List UInt8)
  | 0, s => some ([], s)
  | k + 1, s => (getN s).bind fun x => (getNs k x.2).map fun y => ((x.1 : Int) :: y.1, y.2)
/-- The meta that bytes begin with, and what stands behind it. -/
def readM (s : List UInt8) : Option (Mt × List UInt8) :=
  (getN s).bind fun x => if 1000000000 < x.1 then none else
  (getN x.2).bind fun y => if 4095 < y.1 then none else
  (getN y.2).bind fun n => if 16 < n.1 then none else
  (getNs n.1 n.2).map fun c => (((x.1 : Int), (y.1 : Int), c.1), c.2)
def getM (s : List UInt8) : Option Mt := (readM s).bind fun x => if x.2 = [] then some x.1 else none
/-- What Get answers: zero values where there is none. -/
def gotM (s : List UInt8) : Mt := (getM s).getD (0, 0, [])
def gotE (s : List UInt8) : Int := if (getM s).isSome then 0 else 30
def redG (s : List UInt8) : Bool := s == [0]
/-- What Read answers. -/
def redM (s : List UInt8) : Mt := if s.head? = some 1 then gotM s.tail else (0, 0, [])
def redE (s : List UInt8) : Int := if s = [0] then 0 else if s.head? = some 1 then gotE s.tail else 30
def sameM (z d : Int) (cs : List Int) (z' d' : Int) (cs' : List Int) : Bool := (z == z') && ((d == d') && (cs == cs'))

theorem upB_iff {n m : Int} : upB n m = true ↔ 0 ≤ n ∧ n ≤ m := by simp [upB]
theorem upB_not {n m : Int} (h : n < 0 ∨ m < n) : upB n m = false := by
  cases hq : upB n m with
  | false => rfl
  | true => have := upB_iff.1 hq; omega
theorem metaB_iff {z d : Int} {cs : List Int} : metaB z d cs = true ↔ cs.length ≤ 16 ∧ (0 ≤ z ∧ z ≤ 1000000000) ∧ (0 ≤ d ∧ d ≤ 4095) ∧ ∀ c ∈ cs, 0 ≤ c ∧ c ≤ 4294967295 := by
  simp [metaB, upB_iff]
theorem numsB_nil : numsB [] = [] := rfl
theorem numsB_cons (n : Int) (l : List Int) : numsB (n :: l) = numB n.toNat ++ numsB l := by simp [numsB]
theorem numsB_app (a b : List Int) : numsB (a ++ b) = numsB a ++ numsB b := by simp [numsB]
theorem numsB_snoc (l : List Int) (n : Int) : numsB (l ++ [n]) = numsB l ++ numB n.toNat := by simp [numsB]
theorem numsB_len : ∀ l : List Int, (numsB l).length ≤ 5 * l.length
  | [] => by simp [numsB]
  | n :: l => by
    have := numsB_len l
    have h := numB_length n.toNat
    have hw := wid_le n.toNat
    rw [numsB_cons, List.length_append, List.length_cons]
    omega
theorem nums_take {l : List Int} {k : Nat} (hk : k < l.length) : numsB (l.take (k + 1)) = numsB (l.take k) ++ numB l[k].toNat := by
  rw [List.take_succ_eq_append_getElem hk, numsB_snoc]

/-- Numbers' bytes are read. -/
theorem getNs_laid : ∀ (l : List Int) (r : List UInt8), (∀ c ∈ l, 0 ≤ c ∧ c ≤ 4294967295) → getNs l.length (numsB l ++ r) = some (l, r)
  | [], r, _ => rfl
  | n :: l, r, h => by
    have h1 := h n (by simp)
    have h2 := getNs_laid l r (fun c hc => h c (by simp [hc]))
    rw [numsB_cons, List.append_assoc, List.length_cons, getNs, laid_getN _ (by omega)]
    simp only [Option.bind_some, h2, Option.map_some]
    rw [Int.toNat_of_nonneg h1.1]
theorem laid_getNs : ∀ (k : Nat) {s r : List UInt8} {l : List Int}, getNs k s = some (l, r) → s = numsB l ++ r ∧ l.length = k ∧ ∀ c ∈ l, 0 ≤ c ∧ c ≤ 4294967295
  | 0, s, r, l, h => by
    simp only [getNs, Option.some.injEq, Prod.mk.injEq] at h
    obtain ⟨rfl, rfl⟩ := h
    simp [numsB]
  | k + 1, s, r, l, h => by
    rw [getNs] at h
    cases hn : getN s with
    | none => rw [hn] at h; cases h
    | some x =>
      obtain ⟨n, r1⟩ := x
      rw [hn, Option.bind_some] at h
      cases hk : getNs k r1 with
      | none => rw [hk] at h; cases h
      | some y =>
        obtain ⟨l1, r2⟩ := y
        rw [hk] at h
        simp only [Option.map_some, Option.some.injEq, Prod.mk.injEq] at h
        obtain ⟨rfl, rfl⟩ := h
        obtain ⟨h1, h2⟩ := getN_laid hn
        obtain ⟨h3, h4, h5⟩ := laid_getNs k hk
        refine ⟨?_, by simp [h4], ?_⟩
        · rw [numsB_cons, List.append_assoc, ← h3, h1]; simp
        · intro c hc
          rcases List.mem_cons.1 hc with rfl | hc
          · omega
          · exact h5 c hc
/-- One number more. -/
theorem getNs_more : ∀ (k : Nat) {s r r2 : List UInt8} {l : List Int} {n : Nat}, getNs k s = some (l, r) → getN r = some (n, r2) → getNs (k + 1) s = some (l ++ [(n : Int)], r2)
  | 0, s, r, r2, l, n, h, hn => by
    simp only [getNs, Option.some.injEq, Prod.mk.injEq] at h
    obtain ⟨rfl, rfl⟩ := h
    simp [getNs, hn]
  | k + 1, s, r, r2, l, n, h, hn => by
    rw [getNs] at h
    cases hx : getN s with
    | none => rw [hx] at h; cases h
    | some x =>
      rw [hx, Option.bind_some] at h
      cases hk : getNs k x.2 with
      | none => rw [hk] at h; cases h
      | some y =>
        obtain ⟨l1, r1⟩ := y
        rw [hk] at h
        simp only [Option.map_some, Option.some.injEq, Prod.mk.injEq] at h
        obtain ⟨rfl, rfl⟩ := h
        have := getNs_more k hk hn
        rw [getNs, hx, Option.bind_some, this]
        rfl
theorem getNs_stop : ∀ (k : Nat) {s r : List UInt8} {l : List Int}, getNs k s = some (l, r) → getN r = none → ∀ m, k < m → getNs m s = none
  | 0, s, r, l, h, hn, m, hm => by
    simp only [getNs, Option.some.injEq, Prod.mk.injEq] at h
    obtain ⟨rfl, rfl⟩ := h
    obtain ⟨m, rfl⟩ : ∃ m', m = m' + 1 := ⟨m - 1, by omega⟩
    simp [getNs, hn]
  | k + 1, s, r, l, h, hn, m, hm => by
    obtain ⟨m, rfl⟩ : ∃ m', m = m' + 1 := ⟨m - 1, by omega⟩
    rw [getNs] at h ⊢
    cases hx : getN s with
    | none => rw [hx] at h; cases h
    | some x =>
      rw [hx, Option.bind_some] at h
      rw [Option.bind_some]
      cases hk : getNs k x.2 with
      | none => rw [hk] at h; cases h
      | some y =>
        obtain ⟨l1, r1⟩ := y
        rw [hk] at h
        simp only [Option.map_some, Option.some.injEq, Prod.mk.injEq] at h
        obtain ⟨rfl, rfl⟩ := h
        rw [getNs_stop k hk hn m (by omega)]
        rfl

theorem metaT_eq (z d : Int) (cs : List Int) (r : List UInt8) : metaT z d cs ++ r = numB z.toNat ++ (numB d.toNat ++ (numB cs.length ++ (numsB cs ++ r))) := by
  simp [metaT, numsB_cons, numsB_nil]
/-- A meta's bytes are read, whatever stands behind. -/
theorem readM_laid {z d : Int} {cs : List Int} (h : metaB z d cs = true) (r : List UInt8) : readM (metaT z d cs ++ r) = some ((z, d, cs), r) := by
  obtain ⟨h1, h2, h3, h4⟩ := metaB_iff.1 h
  rw [metaT_eq, readM, laid_getN _ (by omega), Option.bind_some]
  dsimp only
  rw [if_neg (by omega), laid_getN _ (by omega), Option.bind_some]
  dsimp only
  rw [if_neg (by omega), laid_getN _ (by omega), Option.bind_some]
  dsimp only
  rw [if_neg (by omega), getNs_laid cs r h4, Option.map_some, Int.toNat_of_nonneg h2.1, Int.toNat_of_nonneg h3.1]
theorem laid_readM {s r : List UInt8} {z d : Int} {cs : List Int} (h : readM s = some ((z, d, cs), r)) : s = metaT z d cs ++ r ∧ metaB z d cs = true := by
  rw [readM] at h
  cases hx : getN s with
  | none => rw [hx] at h; cases h
  | some x =>
    obtain ⟨a, r1⟩ := x
    rw [hx, Option.bind_some] at h
    dsimp only at h
    by_cases h1 : 1000000000 < a
    · rw [if_pos h1] at h; cases h
    · rw [if_neg h1] at h
      cases hy : getN r1 with
      | none => rw [hy] at h; cases h
      | some y =>
        obtain ⟨b, r2⟩ := y
        rw [hy, Option.bind_some] at h
        dsimp only at h
        by_cases h2 : 4095 < b
        · rw [if_pos h2] at h; cases h
        · rw [if_neg h2] at h
          cases hn : getN r2 with
          | none => rw [hn] at h; cases h
          | some n =>
            obtain ⟨n, r3⟩ := n
            rw [hn, Option.bind_some] at h
            dsimp only at h
            by_cases h3 : 16 < n
            · rw [if_pos h3] at h; cases h
            · rw [if_neg h3] at h
              cases hk : getNs n r3 with
              | none => rw [hk] at h; cases h
              | some c =>
                obtain ⟨c, r4⟩ := c
                rw [hk] at h
                simp only [Option.map_some, Option.some.injEq, Prod.mk.injEq] at h
                obtain ⟨⟨rfl, rfl, rfl⟩, rfl⟩ := h
                obtain ⟨e1, b1⟩ := getN_laid hx
                obtain ⟨e2, b2⟩ := getN_laid hy
                obtain ⟨e3, b3⟩ := getN_laid hn
                obtain ⟨e4, e5, e6⟩ := laid_getNs n hk
                refine ⟨?_, metaB_iff.2 ⟨by omega, ⟨by omega, by omega⟩, ⟨by omega, by omega⟩, e6⟩⟩
                rw [metaT_eq, e5, ← e4, Int.toNat_natCast, Int.toNat_natCast, ← e3, ← e2, ← e1]
theorem getM_laid {z d : Int} {cs : List Int} (h : metaB z d cs = true) : getM (metaT z d cs) = some (z, d, cs) := by
  have := readM_laid h []
  rw [List.append_nil] at this
  simp [getM, this]
theorem laid_getM {s : List UInt8} {z d : Int} {cs : List Int} (h : getM s = some (z, d, cs)) : s = metaT z d cs ∧ metaB z d cs = true := by
  rw [getM] at h
  cases hr : readM s with
  | none => rw [hr] at h; cases h
  | some x =>
    obtain ⟨⟨a, b, c⟩, r⟩ := x
    rw [hr, Option.bind_some] at h
    dsimp only at h
    by_cases h0 : r = []
    · rw [if_pos h0] at h
      simp only [Option.some.injEq, Prod.mk.injEq] at h
      obtain ⟨rfl, rfl, rfl⟩ := h
      obtain ⟨h1, h2⟩ := laid_readM hr
      rw [h0, List.append_nil] at h1
      exact ⟨h1, h2⟩
    · rw [if_neg h0] at h; cases h
theorem metaT_len (z d : Int) (cs : List Int) : (metaT z d cs).length ≤ 15 + 5 * cs.length := by
  have h1 := numsB_len [z, d, (cs.length : Int)]
  have h2 := numsB_len cs
  simp only [List.length_cons, List.length_nil] at h1
  rw [metaT, List.length_append]
  omega
theorem sameM_iff {z d : Int} {cs : List Int} {z' d' : Int} {cs' : List Int} : sameM z d cs z' d' cs' = true ↔ (z, d, cs) = (z', d', cs') := by
  simp [sameM]
theorem sameM_self (z d : Int) (cs : List Int) : sameM z d cs z d cs = true := sameM_iff.2 rfl

/-- Of two metas' bytes, whatever stands behind. -/
theorem metaT_inj {z d : Int} {cs : List Int} {z' d' : Int} {cs' : List Int} (h : metaB z d cs = true) (h' : metaB z' d' cs' = true) {r r' : List UInt8} (he : metaT z d cs ++ r = metaT z' d' cs' ++ r') : (z, d, cs) = (z', d', cs') := by
  have h1 := readM_laid h r
  rw [he, readM_laid h' r'] at h1
  simp only [Option.some.injEq, Prod.mk.injEq] at h1
  obtain ⟨⟨rfl, rfl, rfl⟩, _⟩ := h1
  rfl

end Go.Proofs.YtinbeapkhmcifaaDoor
