/-
  Pins in plain words: rows that rise by their sessions. No program is named here.
-/
import Derived.Test.YtbphdajhhnhphaaGround
namespace Go.Proofs.Ytbphdajhhnhphaa
set_option maxRecDepth 100000

/-- A pin: a session, and a time. -/
abbrev Pn := Int × Int
def oneP (p : Pn) : Bool := decide (0 ≤ p.1) && (decide (p.1 ≤ 1000000) && (decide (0 ≤ p.2) && decide (p.2 ≤ 1000000000)))
theorem oneP_iff {p : Pn} : oneP p = true ↔ 0 ≤ p.1 ∧ p.1 ≤ 1000000 ∧ 0 ≤ p.2 ∧ p.2 ≤ 1000000000 := by simp [oneP]
def RiseN (l : List Pn) : Prop := l.Pairwise fun a b => a.1 < b.1
instance (l : List Pn) : Decidable (RiseN l) := inferInstanceAs (Decidable (l.Pairwise fun a b => a.1 < b.1))
def isN (l : List Pn) : Bool := decide (l.length ≤ 50) && (l.all oneP && decide (RiseN l))
theorem isN_iff {l : List Pn} : isN l = true ↔ l.length ≤ 50 ∧ (∀ p ∈ l, oneP p = true) ∧ RiseN l := by simp [isN]
/-- The time of a session's first pin. -/
def ofN (l : List Pn) (s : Int) : Option Int := (l.find? fun p => p.1 == s).map fun p => p.2
def addN (l : List Pn) (p : Pn) : List Pn := l.takeWhile (fun q => decide (q.1 < p.1)) ++ (p :: l.dropWhile fun q => decide (q.1 < p.1))
def addNE (l : List Pn) (p : Pn) : Int := if isN l && oneP p then (if (ofN l p.1).isSome then 170 else if 50 ≤ l.length then 2 else 0) else 1
def dropN (l : List Pn) (s : Int) : List Pn := l.filter fun p => decide (p.1 ≠ s)
def dropNE (l : List Pn) (s : Int) : Int := if isN l then (if (ofN l s).isSome then 0 else 80) else 1
def leastN : List Pn → Option Int
  | [] => none
  | p :: r => some (r.foldl (fun n q => min n q.2) p.2)
def raiseN (w b t : Int) (l : List Pn) : Int := max w (match leastN l with | none => min b t | some n => min (min b t) n)

theorem ofN_cons (p : Pn) (l : List Pn) (s : Int) : ofN (p :: l) s = if p.1 = s then some p.2 else ofN l s := by
  unfold ofN
  rw [List.find?_cons]
  by_cases h : p.1 = s
  · rw [if_pos h, beq_iff_eq.2 h]; rfl
  · rw [if_neg h, beq_eq_false_iff_ne.2 h]
theorem ofN_none {l : List Pn} {s : Int} : ofN l s = none ↔ ∀ p ∈ l, p.1 ≠ s := by
  unfold ofN
  rw [Option.map_eq_none_iff, List.find?_eq_none]
  constructor
  · intro h p hp e
    exact h p hp (beq_iff_eq.2 e)
  · intro h p hp e
    exact h p hp (beq_iff_eq.1 e)
theorem ofN_mem {l : List Pn} {s n : Int} (h : RiseN l) : ofN l s = some n ↔ (s, n) ∈ l := by
  induction l with
  | nil => simp [ofN]
  | cons p r ih =>
    obtain ⟨h1, h2⟩ := List.pairwise_cons.1 h
    rw [ofN_cons]
    by_cases e : p.1 = s
    · rw [if_pos e]
      constructor
      · intro hn
        have : p = (s, n) := Prod.ext e (Option.some.inj hn)
        rw [this]; simp
      · intro hm
        rcases List.mem_cons.1 hm with hm | hm
        · rw [← hm]
        · have := h1 _ hm
          dsimp only at this
          omega
    · rw [if_neg e, ih h2]
      constructor
      · exact List.mem_cons_of_mem _
      · intro hm
        rcases List.mem_cons.1 hm with hm | hm
        · rw [← hm] at e; exact absurd rfl e
        · exact hm
/-- Rows that rise are one, if they hold the same pins. -/
theorem rise_extN : ∀ {a b : List Pn}, RiseN a → RiseN b → (∀ x, x ∈ a ↔ x ∈ b) → a = b
  | [], [], _, _, _ => rfl
  | [], y :: s, _, _, h => absurd ((h y).2 (by simp)) (by simp)
  | x :: r, [], _, _, h => absurd ((h x).1 (by simp)) (by simp)
  | x :: r, y :: s, ha, hb, h => by
    obtain ⟨a1, a2⟩ := List.pairwise_cons.1 ha
    obtain ⟨b1, b2⟩ := List.pairwise_cons.1 hb
    have e : x = y := by
      rcases List.mem_cons.1 ((h x).1 (by simp)) with e | hx
      · exact e
      · rcases List.mem_cons.1 ((h y).2 (by simp)) with e | hy
        · exact e.symm
        · have h1 := a1 y hy
          have h2 := b1 x hx
          omega
    subst e
    refine congrArg (x :: ·) (rise_extN a2 b2 fun z => ⟨fun hz => ?_, fun hz => ?_⟩)
    · rcases List.mem_cons.1 ((h z).1 (List.mem_cons_of_mem _ hz)) with rfl | hz'
      · have := a1 z hz
        omega
      · exact hz'
    · rcases List.mem_cons.1 ((h z).2 (List.mem_cons_of_mem _ hz)) with rfl | hz'
      · have := b1 z hz
        omega
      · exact hz'

/-! ### A pin more -/

theorem mem_addN {l : List Pn} {p x : Pn} : x ∈ addN l p ↔ x = p ∨ x ∈ l := by
  unfold addN
  rw [List.mem_append, List.mem_cons]
  have e : x ∈ l ↔ x ∈ l.takeWhile (fun q => decide (q.1 < p.1)) ∨ x ∈ l.dropWhile (fun q => decide (q.1 < p.1)) := by
    rw [← List.mem_append, List.takeWhile_append_dropWhile]
  rw [e]
  constructor
  · rintro (h | h | h)
    · exact .inr (.inl h)
    · exact .inl h
    · exact .inr (.inr h)
  · rintro (h | h | h)
    · exact .inr (.inl h)
    · exact .inl h
    · exact .inr (.inr h)
theorem addN_length (l : List Pn) (p : Pn) : (addN l p).length = l.length + 1 := by
  unfold addN
  rw [List.length_append, List.length_cons, ← Nat.add_assoc, ← List.length_append, List.takeWhile_append_dropWhile]
theorem rise_addN : ∀ {l : List Pn} {p : Pn}, RiseN l → ofN l p.1 = none → RiseN (addN l p)
  | [], p, _, _ => by simp [addN, RiseN]
  | q :: r, p, h, hn => by
    obtain ⟨h1, h2⟩ := List.pairwise_cons.1 h
    have hq := ofN_none.1 hn q (by simp)
    have hr : ofN r p.1 = none := ofN_none.2 fun x hx => ofN_none.1 hn x (List.mem_cons_of_mem _ hx)
    by_cases hlt : q.1 < p.1
    · have e : addN (q :: r) p = q :: addN r p := by
        unfold addN
        rw [List.takeWhile_cons, List.dropWhile_cons, if_pos (decide_eq_true hlt), if_pos (decide_eq_true hlt), List.cons_append]
      rw [e]
      refine List.pairwise_cons.2 ⟨fun x hx => ?_, rise_addN h2 hr⟩
      rcases mem_addN.1 hx with rfl | hx
      · exact hlt
      · exact h1 x hx
    · have e : addN (q :: r) p = p :: q :: r := by
        unfold addN
        rw [List.takeWhile_cons, List.dropWhile_cons, if_neg (by simpa using hlt), if_neg (by simpa using hlt), List.nil_append]
      rw [e]
      refine List.pairwise_cons.2 ⟨fun x hx => ?_, h⟩
      rcases List.mem_cons.1 hx with rfl | hx
      · omega
      · have := h1 x hx
        omega
theorem addE_zero {l : List Pn} {p : Pn} : addNE l p = 0 ↔ isN l = true ∧ oneP p = true ∧ ofN l p.1 = none ∧ l.length < 50 := by
  unfold addNE
  cases h1 : isN l with
  | false => simp
  | true =>
    cases h2 : oneP p with
    | false => simp
    | true =>
      rw [Bool.and_self, if_pos rfl]
      cases h3 : ofN l p.1 with
      | some n => simp
      | none =>
        by_cases h4 : 50 ≤ l.length
        · simp [h4]
        · simp [h4]; omega
/-- What is added is there; others stay; it is right. -/
theorem add_facts {l : List Pn} {p : Pn} (h : addNE l p = 0) : isN (addN l p) = true ∧ ofN (addN l p) p.1 = some p.2 ∧ ∀ s, s ≠ p.1 → ofN (addN l p) s = ofN l s := by
  obtain ⟨h1, h2, h3, h4⟩ := addE_zero.1 h
  obtain ⟨g1, g2, g3⟩ := isN_iff.1 h1
  have hr := rise_addN g3 h3
  refine ⟨isN_iff.2 ⟨by rw [addN_length]; omega, fun x hx => ?_, hr⟩, (ofN_mem hr).2 (mem_addN.2 (.inl rfl)), fun s hs => ?_⟩
  · rcases mem_addN.1 hx with rfl | hx
    · exact h2
    · exact g2 x hx
  · cases ho : ofN l s with
    | some n => exact (ofN_mem hr).2 (mem_addN.2 (.inr ((ofN_mem g3).1 ho)))
    | none =>
      refine ofN_none.2 fun x hx => ?_
      rcases mem_addN.1 hx with rfl | hx
      · exact fun e => hs e.symm
      · exact ofN_none.1 ho x hx

/-! ### A pin less -/

theorem mem_dropN {l : List Pn} {s : Int} {x : Pn} : x ∈ dropN l s ↔ x ∈ l ∧ x.1 ≠ s := by
  unfold dropN
  rw [List.mem_filter]
  simp
theorem rise_dropN {l : List Pn} (h : RiseN l) (s : Int) : RiseN (dropN l s) := List.Pairwise.filter _ h
theorem dropE_zero {l : List Pn} {s : Int} : dropNE l s = 0 ↔ isN l = true ∧ ofN l s ≠ none := by
  unfold dropNE
  cases isN l with
  | false => simp
  | true =>
    rw [if_pos rfl]
    cases ofN l s <;> simp
theorem drop_facts {l : List Pn} {s : Int} (h : dropNE l s = 0) : isN (dropN l s) = true ∧ ofN (dropN l s) s = none ∧ ∀ t, t ≠ s → ofN (dropN l s) t = ofN l t := by
  obtain ⟨h1, _⟩ := dropE_zero.1 h
  obtain ⟨g1, g2, g3⟩ := isN_iff.1 h1
  have hr := rise_dropN g3 s
  refine ⟨isN_iff.2 ⟨Nat.le_trans (List.length_filter_le _ _) g1, fun x hx => g2 x (mem_dropN.1 hx).1, hr⟩, ofN_none.2 fun x hx => (mem_dropN.1 hx).2, fun t ht => ?_⟩
  cases ho : ofN l t with
  | some n => exact (ofN_mem hr).2 (mem_dropN.2 ⟨(ofN_mem g3).1 ho, ht⟩)
  | none => exact ofN_none.2 fun x hx => ofN_none.1 ho x (mem_dropN.1 hx).1

/-! ### The least one -/

theorem fold_min : ∀ (r : List Pn) (n : Int), r.foldl (fun n q => min n q.2) n ≤ n ∧ (∀ q ∈ r, r.foldl (fun n q => min n q.2) n ≤ q.2) ∧ (r.foldl (fun n q => min n q.2) n = n ∨ ∃ q ∈ r, q.2 = r.foldl (fun n q => min n q.2) n)
  | [], n => ⟨Int.le_refl _, (fun q hq => by cases hq), .inl rfl⟩
  | p :: r, n => by
    obtain ⟨h1, h2, h3⟩ := fold_min r (min n p.2)
    rw [List.foldl_cons]
    refine ⟨by omega, fun q hq => ?_, ?_⟩
    · rcases List.mem_cons.1 hq with rfl | hq
      · omega
      · exact h2 q hq
    · rcases h3 with h3 | ⟨q, hq, h3⟩
      · rw [h3]
        by_cases h : n ≤ p.2
        · exact .inl (by omega)
        · exact .inr ⟨p, by simp, by omega⟩
      · exact .inr ⟨q, List.mem_cons_of_mem _ hq, h3⟩
theorem leastN_iff {l : List Pn} {n : Int} : leastN l = some n ↔ (∃ p ∈ l, p.2 = n) ∧ ∀ p ∈ l, n ≤ p.2 := by
  cases l with
  | nil => simp [leastN]
  | cons p r =>
    obtain ⟨h1, h2, h3⟩ := fold_min r p.2
    constructor
    · intro h
      have e : r.foldl (fun n q => min n q.2) p.2 = n := Option.some.inj h
      rw [e] at h1 h2 h3
      refine ⟨?_, fun q hq => ?_⟩
      · rcases h3 with h3 | ⟨q, hq, h3⟩
        · exact ⟨p, by simp, h3.symm⟩
        · exact ⟨q, List.mem_cons_of_mem _ hq, h3⟩
      · rcases List.mem_cons.1 hq with rfl | hq
        · exact h1
        · exact h2 q hq
    · rintro ⟨⟨q, hq, e⟩, hall⟩
      refine congrArg some ?_
      have g1 : r.foldl (fun n q => min n q.2) p.2 ≤ n := by
        rcases List.mem_cons.1 hq with rfl | hq
        · omega
        · have := h2 q hq
          omega
      have g2 : n ≤ r.foldl (fun n q => min n q.2) p.2 := by
        rcases h3 with h3 | ⟨u, hu, h3⟩
        · rw [h3]
          exact hall p (by simp)
        · rw [← h3]
          exact hall u (List.mem_cons_of_mem _ hu)
      omega
theorem leastN_none {l : List Pn} : leastN l = none ↔ l = [] := by
  cases l <;> simp [leastN]
/-- The least one hangs on what is there alone. -/
theorem least_ext {a b : List Pn} (h : ∀ x, x ∈ a ↔ x ∈ b) : leastN a = leastN b := by
  cases hb : leastN b with
  | none =>
    rw [leastN_none] at hb
    subst hb
    rw [leastN_none]
    exact List.eq_nil_iff_forall_not_mem.2 fun x hx => by have := (h x).1 hx; cases this
  | some n =>
    obtain ⟨⟨p, hp, e⟩, h2⟩ := leastN_iff.1 hb
    exact leastN_iff.2 ⟨⟨p, (h p).2 hp, e⟩, fun q hq => h2 q ((h q).1 hq)⟩
theorem raise_facts (w b t : Int) (l : List Pn) : w ≤ raiseN w b t l ∧ (raiseN w b t l = w ∨ (raiseN w b t l ≤ b ∧ raiseN w b t l ≤ t ∧ ∀ p ∈ l, raiseN w b t l ≤ p.2)) ∧ raiseN (raiseN w b t l) b t l = raiseN w b t l := by
  unfold raiseN
  cases h : leastN l with
  | none =>
    have e := leastN_none.1 h
    subst e
    dsimp only
    refine ⟨by omega, ?_, by omega⟩
    by_cases hw : min b t ≤ w
    · exact .inl (by omega)
    · exact .inr ⟨by omega, by omega, fun p hp => by cases hp⟩
  | some n =>
    obtain ⟨_, h2⟩ := leastN_iff.1 h
    dsimp only
    refine ⟨by omega, ?_, by omega⟩
    by_cases hw : min (min b t) n ≤ w
    · exact .inl (by omega)
    · exact .inr ⟨by omega, by omega, fun p hp => by have := h2 p hp; omega⟩

/-! ### In any order -/

/-- Pins that are added one behind the other. -/
def addsN (l : List Pn) : List Pn := l.foldl addN []
theorem mem_adds : ∀ (l acc : List Pn) (x : Pn), x ∈ l.foldl addN acc ↔ x ∈ acc ∨ x ∈ l
  | [], acc, x => by simp
  | p :: r, acc, x => by
    rw [List.foldl_cons, mem_adds r (addN acc p) x, mem_addN, List.mem_cons]
    constructor
    · rintro ((h | h) | h)
      · exact .inr (.inl h)
      · exact .inl h
      · exact .inr (.inr h)
    · rintro (h | h | h)
      · exact .inl (.inr h)
      · exact .inl (.inl h)
      · exact .inr h
theorem adds_snoc (l : List Pn) (p : Pn) : addsN (l ++ [p]) = addN (addsN l) p := by
  unfold addsN
  rw [List.foldl_append]
  rfl
theorem adds_any {a b : List Pn} (ha : RiseN (addsN a)) (hb : RiseN (addsN b)) (h : ∀ x, x ∈ a ↔ x ∈ b) : addsN a = addsN b :=
  rise_extN ha hb fun x => by
    unfold addsN
    rw [mem_adds, mem_adds, h]
theorem least_adds (a : List Pn) : leastN (addsN a) = leastN a := least_ext fun x => by
  unfold addsN
  rw [mem_adds]
  simp

end Go.Proofs.Ytbphdajhhnhphaa
