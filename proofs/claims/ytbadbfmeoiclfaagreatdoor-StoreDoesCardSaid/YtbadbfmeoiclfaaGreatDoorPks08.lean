/-
  The texts of one folder in one: KyOrd, KySpec, KyRets, KyIs, KyCmp, KyFirst, KyRefI, KyRefL.
-/
import Derived.Lib.Bytealg
import Derived.Lib.Small
import Derived.Test.YtbadbfmeoiclfaaGreatDoorPks02
import Derived.Test.YtbadbfmeoiclfaaGreatDoorPks01
import Derived.Test.YtbadbfmeoiclfaaGreatDoorPkbase
import Derived.Test.YtbadbfmeoiclfaaGreatDoorShelf

/-
  The order of keys, and of bytes. No program is named here.
-/
namespace Go.Proofs.YtbadbfmeoiclfaaGreatDoor
set_option maxRecDepth 100000

/-- A key: its path's bytes, its time. -/
abbrev Ky := List UInt8 × Int
/-- -1, 0, 1: a stands ahead of b, is the same, stands behind. -/
def cmpK (a b : Ky) : Int := if Lib.compareBytes a.1 b.1 = 0 then Lib.compareInt b.2 a.2 else Lib.compareBytes a.1 b.1
def lessK (a b : Ky) : Bool := decide (cmpK a b < 0)
/-- The document's own order. -/
def aheadK (a b : Ky) : Bool := Op.bytesLess a.1 b.1 || (a.1 == b.1) && decide (b.2 < a.2)

/-! ### Bytes -/

theorem less_irrefl : ∀ a : List UInt8, Op.bytesLess a a = false
  | [] => rfl
  | x :: a => by
    have ih := less_irrefl a
    simp [Op.bytesLess, ih]
theorem less_trans : ∀ {a b c : List UInt8}, Op.bytesLess a b = true → Op.bytesLess b c = true → Op.bytesLess a c = true
  | _, _, [], _, h2 => by simp [Op.bytesLess] at h2
  | _, [], _ :: _, h1, _ => by simp [Op.bytesLess] at h1
  | [], _ :: _, _ :: _, _, _ => rfl
  | x :: a, y :: b, z :: c, h1, h2 => by
    have ih := @less_trans a b c
    simp only [Op.bytesLess, Bool.or_eq_true, Bool.and_eq_true, decide_eq_true_eq, beq_iff_eq] at h1 h2 ⊢
    rcases h1 with h1 | ⟨rfl, h1⟩
    · rcases h2 with h2 | ⟨rfl, h2⟩
      · exact .inl (UInt8.lt_trans h1 h2)
      · exact .inl h1
    · rcases h2 with h2 | ⟨rfl, h2⟩
      · exact .inl h2
      · exact .inr ⟨rfl, ih h1 h2⟩
theorem less_asymm {a b : List UInt8} (h : Op.bytesLess a b = true) : Op.bytesLess b a = false := by
  cases h2 : Op.bytesLess b a with
  | false => rfl
  | true =>
    have := less_trans h h2
    rw [less_irrefl] at this
    cases this
theorem less_total : ∀ {a b : List UInt8}, Op.bytesLess a b = false → a ≠ b → Op.bytesLess b a = true
  | [], [], _, h => absurd rfl h
  | [], _ :: _, h, _ => by simp [Op.bytesLess] at h
  | _ :: _, [], _, _ => rfl
  | x :: a, y :: b, h, hne => by
    have ih := @less_total a b
    simp only [Op.bytesLess, Bool.or_eq_false_iff, decide_eq_false_iff_not] at h
    simp only [Op.bytesLess, Bool.or_eq_true, Bool.and_eq_true, decide_eq_true_eq, beq_iff_eq]
    by_cases hxy : x = y
    · subst hxy
      exact .inr ⟨rfl, ih (by simpa using h.2) (fun e => hne (by rw [e]))⟩
    · exact .inl (UInt8.lt_of_le_of_ne (UInt8.not_lt.1 h.1) (Ne.symm hxy))
theorem cmp_less : ∀ a b : List UInt8, Lib.compareBytes a b = if Op.bytesLess a b = true then -1 else if a = b then 0 else 1
  | [], [] => rfl
  | [], _ :: _ => rfl
  | _ :: _, [] => by simp [Lib.compareBytes, Op.bytesLess]
  | x :: a, y :: b => by
    have ih := cmp_less a b
    rw [Lib.compareBytes, Op.bytesLess]
    by_cases hlt : x < y
    · simp [hlt]
    · by_cases hgt : y < x
      · have hne : x ≠ y := fun e => by subst e; exact UInt8.lt_irrefl _ hgt
        simp [hlt, hgt, hne]
      · obtain rfl : x = y := UInt8.le_antisymm (UInt8.not_lt.1 hgt) (UInt8.not_lt.1 hlt)
        rw [ih]
        simp [hlt]
theorem cmp_self (a : List UInt8) : Lib.compareBytes a a = 0 := by rw [cmp_less, less_irrefl]; simp
theorem cmp_zero {a b : List UInt8} (h : Lib.compareBytes a b = 0) : a = b := by
  rw [cmp_less] at h
  split at h
  · cases h
  · split at h
    · assumption
    · cases h
theorem cmp_swap (a b : List UInt8) : Lib.compareBytes b a = - Lib.compareBytes a b := by
  rw [cmp_less, cmp_less]
  cases h : Op.bytesLess a b with
  | true =>
    have h1 := less_asymm h
    have h2 : b ≠ a := by
      rintro rfl
      rw [less_irrefl] at h; cases h
    simp [h1, h2]
  | false =>
    by_cases hab : a = b
    · subst hab; simp [h]
    · have h1 := less_total h hab
      simp [h1, hab]
theorem int_swap (x y : Int) : Lib.compareInt y x = - Lib.compareInt x y := by
  unfold Lib.compareInt
  split <;> split <;> (try split) <;> omega

/-! ### The order of keys -/

theorem cmpK_swap (a b : Ky) : cmpK b a = - cmpK a b := by
  unfold cmpK
  rw [cmp_swap a.1 b.1, int_swap b.2 a.2]
  split <;> split <;> omega
theorem cmpK_self (a : Ky) : cmpK a a = 0 := by
  unfold cmpK
  rw [if_pos (cmp_self _)]
  unfold Lib.compareInt
  simp
theorem cmpK_zero {a b : Ky} (h : cmpK a b = 0) : a = b := by
  unfold cmpK at h
  split at h
  · rename_i h1
    have e1 := cmp_zero h1
    have e2 : a.2 = b.2 := by
      unfold Lib.compareInt at h
      split at h
      · cases h
      · split at h
        · cases h
        · omega
    exact Prod.ext e1 e2
  · rename_i h1
    exact absurd h h1
theorem cmpK_ahead (a b : Ky) : cmpK a b = if aheadK a b = true then -1 else if aheadK b a = true then 1 else 0 := by
  unfold cmpK aheadK
  rw [cmp_less]
  cases h : Op.bytesLess a.1 b.1 with
  | true => simp
  | false =>
    by_cases hab : a.1 = b.1
    · rw [← hab, less_irrefl]
      unfold Lib.compareInt
      simp
    · have h1 := less_total h hab
      simp [h1, hab]
theorem lessK_ahead (a b : Ky) : lessK a b = aheadK a b := by
  unfold lessK
  rw [cmpK_ahead]
  cases h : aheadK a b with
  | true => simp
  | false =>
    cases h2 : aheadK b a with
    | true => simp
    | false => simp
theorem lessK_trans {a b c : Ky} (h1 : lessK a b = true) (h2 : lessK b c = true) : lessK a c = true := by
  rw [lessK_ahead] at h1 h2 ⊢
  unfold aheadK at h1 h2 ⊢
  simp only [Bool.or_eq_true, Bool.and_eq_true, beq_iff_eq, decide_eq_true_eq] at h1 h2 ⊢
  rcases h1 with h1 | ⟨e1, h1⟩
  · rcases h2 with h2 | ⟨e2, h2⟩
    · exact .inl (less_trans h1 h2)
    · exact .inl (e2 ▸ h1)
  · rcases h2 with h2 | ⟨e2, h2⟩
    · exact .inl (e1 ▸ h2)
    · exact .inr ⟨e1.trans e2, by omega⟩
theorem lessK_asymm {a b : Ky} (h : lessK a b = true) : lessK b a = false := by
  unfold lessK at h ⊢
  rw [cmpK_swap a b]
  simp only [decide_eq_true_eq, decide_eq_false_iff_not] at h ⊢
  omega
theorem ahead_app (d : List UInt8) (x : UInt8) : ∀ r, Op.bytesLess d (d ++ x :: r) = true := by
  intro r
  induction d with
  | nil => rfl
  | cons y d ih => simp [Op.bytesLess, ih]

end Go.Proofs.YtbadbfmeoiclfaaGreatDoor

/-
  The plain functions of layer 8 (key): which keys may be, their order, their bytes, and what bytes are. No program is named here.
-/
namespace Go.Proofs.YtbadbfmeoiclfaaGreatDoor
set_option maxRecDepth 100000

/-- May a key be? -/
def keyB (k : Ky) : Bool := decide (0 ≤ k.2) && decide (k.2 ≤ 1000000000) && isP k.1
/-- A key's bytes. -/
def keyT (k : Ky) : List UInt8 := k.1 ++ 0 :: digsTo (4294967295 - k.2).toNat 4
def putT (k : Ky) : List UInt8 := if keyB k = true then keyT k else []
def putE (k : Ky) : Int := if keyB k = true then 0 else 1
/-- What stands ahead of the last five bytes, and the number of the last four. -/
def cutK (s : List UInt8) : Ky := (s.take (s.length - 5), 4294967295 - (valB (s.drop (s.length - 4)) : Int))
def getB (s : List UInt8) : Bool := decide (5 ≤ s.length) && (s[s.length - 5]? == some 0) && keyB (cutK s)
def getK (s : List UInt8) : Ky := if getB s = true then cutK s else ([], 0)
def getE (s : List UInt8) : Int := if getB s = true then 0 else 30
def topK (p : List UInt8) (n : Int) : Ky := (p, min n 1000000000)
def firstK (p : List UInt8) (n : Int) : Ky := if keyB (topK p n) = true then topK p n else ([], 0)
def firstE (p : List UInt8) (n : Int) : Int := if keyB (topK p n) = true then 0 else 1
/-! ### Paths have no byte 0 -/

theorem nm_zero {p : List UInt8} (h : isNm p = true) : (0 : UInt8) ∉ p := by
  simp [isNm] at h
  exact h.2
theorem gl_zero : ∀ {l : List (List UInt8)}, (∀ p ∈ l, (0 : UInt8) ∉ p) → (0 : UInt8) ∉ gl l
  | [], _ => by simp [gl]
  | [x], h => by simpa [gl] using h x (by simp)
  | x :: y :: r, h => by
    have h1 := h x (by simp)
    have ih := gl_zero (l := y :: r) (fun p hp => h p (List.mem_cons_of_mem _ hp))
    simp only [gl]
    intro hm
    rcases List.mem_append.1 hm with hm | hm
    · exact h1 hm
    · rcases List.mem_cons.1 hm with hm | hm
      · cases hm
      · exact ih hm
theorem path_zero {s : List UInt8} (h : isP s = true) : (0 : UInt8) ∉ s ∧ s.length ≤ 100 := by
  obtain ⟨l, hl⟩ := isP_some h
  obtain ⟨hf, hg, hs⟩ := names_fine hl
  exact ⟨hg ▸ gl_zero (fun p hp => nm_zero (hf p hp).1), hs⟩

theorem less_cut : ∀ {p q : List UInt8} (x y : List UInt8), (0 : UInt8) ∉ p → (0 : UInt8) ∉ q → Op.bytesLess (p ++ 0 :: x) (q ++ 0 :: y) = (Op.bytesLess p q || (p == q) && Op.bytesLess x y)
  | [], [], x, y, _, _ => by simp [Op.bytesLess]
  | [], b :: q, x, y, _, hq => by
    have hb : (0 : UInt8) < b := UInt8.lt_of_le_of_ne (UInt8.zero_le) (fun e => hq (by simp [e]))
    simp [Op.bytesLess, hb]
  | a :: p, [], x, y, hp, _ => by
    have ha : a ≠ 0 := fun e => hp (by simp [e])
    simp [Op.bytesLess, ha]
  | a :: p, b :: q, x, y, hp, hq => by
    have ih := less_cut (p := p) (q := q) x y (fun e => hp (by simp [e])) (fun e => hq (by simp [e]))
    simp only [List.cons_append, Op.bytesLess, ih, List.cons_beq_cons]
    cases hab : (a == b) <;> cases hlt : decide (a < b) <;> simp

theorem keyB_facts {k : Ky} (h : keyB k = true) : 0 ≤ k.2 ∧ k.2 ≤ 1000000000 ∧ isP k.1 = true := by
  unfold keyB at h
  simpa [and_assoc] using h

/-- Keys rise just as their bytes do. -/
theorem less_keys {a b : Ky} (ha : keyB a = true) (hb : keyB b = true) : lessK a b = Op.bytesLess (keyT a) (keyT b) := by
  obtain ⟨a1, a2, a3⟩ := keyB_facts ha
  obtain ⟨b1, b2, b3⟩ := keyB_facts hb
  rw [lessK_ahead]
  unfold aheadK keyT
  rw [less_cut _ _ (path_zero a3).1 (path_zero b3).1, digs_less 4 _ _ (by omega) (by omega)]
  congr 2
  rw [decide_eq_decide]
  omega

/-! ### What is put is got, what is got is put -/

theorem keyT_length (k : Ky) : (keyT k).length = k.1.length + 5 := by simp [keyT, digsTo_length]
theorem cutK_keyT {k : Ky} (h : keyB k = true) : cutK (keyT k) = k := by
  obtain ⟨a1, a2, a3⟩ := keyB_facts h
  obtain ⟨p, n⟩ := k
  unfold cutK
  rw [keyT_length]
  have e1 : (keyT (p, n)).take (p.length + 5 - 5) = p := by simp [keyT]
  have e2 : (keyT (p, n)).drop (p.length + 5 - 4) = digsTo (4294967295 - n).toNat 4 := by
    unfold keyT
    rw [show p.length + 5 - 4 = p.length + 1 by omega]
    simp [← List.drop_drop]
  simp only [e1, e2]
  rw [valB_digs 4 _ (by dsimp only at a1 a2; omega)]
  dsimp only at a1 a2
  congr 1
  omega
theorem getB_keyT {k : Ky} (h : keyB k = true) : getB (keyT k) = true := by
  unfold getB
  rw [cutK_keyT h, h, keyT_length]
  simp [keyT]
theorem getK_keyT {k : Ky} (h : keyB k = true) : getK (keyT k) = k ∧ getE (keyT k) = 0 := by
  unfold getK getE
  rw [if_pos (getB_keyT h), if_pos (getB_keyT h)]
  exact ⟨cutK_keyT h, rfl⟩
/-- The bytes of what is read, whatever the time. -/
theorem keyT_cutK {s : List UInt8} (h5 : 5 ≤ s.length) : keyT (cutK s) = s.take (s.length - 5) ++ 0 :: s.drop (s.length - 4) := by
  have hv := valB_small (s.drop (s.length - 4)) (by simp; omega)
  unfold keyT cutK
  have e : (4294967295 - (4294967295 - (valB (s.drop (s.length - 4)) : Int))).toNat = valB (s.drop (s.length - 4)) := by omega
  simp only [e]
  rw [digs_valB 4 _ (by simp; omega)]
theorem take_zero {s : List UInt8} (h5 : 5 ≤ s.length) (h0 : s[s.length - 5]? = some 0) : s.take (s.length - 5) ++ 0 :: s.drop (s.length - 4) = s := by
  have hlt : s.length - 5 < s.length := by omega
  have e : s[s.length - 5] = 0 := by
    rw [List.getElem?_eq_getElem hlt] at h0
    simpa using h0
  have h1 := List.drop_eq_getElem_cons hlt
  rw [e, show s.length - 5 + 1 = s.length - 4 by omega] at h1
  rw [← h1, List.take_append_drop]
theorem getB_facts {s : List UInt8} (h : getB s = true) : 5 ≤ s.length ∧ s[s.length - 5]? = some 0 ∧ keyB (cutK s) = true := by
  unfold getB at h
  simpa [and_assoc] using h
theorem getB_keyT_cut {s : List UInt8} (h : getB s = true) : keyT (cutK s) = s := by
  obtain ⟨h5, h0, _⟩ := getB_facts h
  rw [keyT_cutK h5, take_zero h5 h0]
/-- The document's own way to read: whether the bytes of what is read are these. -/
theorem getB_ref {s : List UInt8} (h5 : 5 ≤ s.length) : getB s = (keyB (cutK s) && (keyT (cutK s) == s)) := by
  cases hk : keyB (cutK s) with
  | false => simp [getB, hk]
  | true =>
    rw [keyT_cutK h5]
    cases h0 : (s[s.length - 5]? == some 0) with
    | true =>
      rw [take_zero h5 (by simpa using h0)]
      simp [getB, hk, h0, h5]
    | false =>
      have hne : s.take (s.length - 5) ++ 0 :: s.drop (s.length - 4) ≠ s := by
        intro e
        have e2 : s[s.length - 5]? = some 0 := by
          have h1 : (s.take (s.length - 5) ++ 0 :: s.drop (s.length - 4))[s.length - 5]? = some 0 := by
            rw [List.getElem?_append_right (by simp)]
            have hl : (s.take (s.length - 5)).length = s.length - 5 := by simp
            rw [hl, Nat.sub_self]
            rfl
          rwa [e] at h1
        rw [e2] at h0
        simp at h0
      simp [getB, hk, h0, hne]
theorem put_get {k : Ky} (h : putE k = 0) : keyB k = true ∧ getE (putT k) = 0 ∧ getK (putT k) = k := by
  unfold putE at h
  split at h
  · rename_i hk
    unfold putT
    rw [if_pos hk]
    exact ⟨hk, (getK_keyT hk).2, (getK_keyT hk).1⟩
  · cases h
theorem get_put {s : List UInt8} (h : getE s = 0) : keyB (getK s) = true ∧ putE (getK s) = 0 ∧ putT (getK s) = s := by
  unfold getE at h
  split at h
  · rename_i hb
    have hk := (getB_facts hb).2.2
    unfold getK putE putT
    rw [if_pos hb, if_pos hk, if_pos hk]
    exact ⟨hk, rfl, getB_keyT_cut hb⟩
  · cases h

/-! ### First -/

theorem first_key {k : Ky} {n : Int} (hk : keyB k = true) (h0 : 0 ≤ n) : keyB (topK k.1 n) = true := by
  obtain ⟨a1, a2, a3⟩ := keyB_facts hk
  unfold keyB topK
  simp only [a3, Bool.and_true, Bool.and_eq_true, decide_eq_true_eq]
  omega
theorem first_less {k : Ky} (n : Int) (hk : keyB k = true) : lessK k (topK k.1 n) = decide (n < k.2) := by
  obtain ⟨a1, a2, a3⟩ := keyB_facts hk
  rw [lessK_ahead]
  unfold aheadK topK
  simp only [less_irrefl, beq_self_eq_true, Bool.true_and, Bool.false_or]
  rw [decide_eq_decide]
  omega
theorem first_neg {p : List UInt8} {n : Int} (h : n < 0) : keyB (topK p n) = false := by
  unfold keyB topK
  have : decide (0 ≤ min n 1000000000) = false := by
    rw [decide_eq_false_iff_not]; omega
  simp only [this, Bool.false_and]
/-- What the document asks of First. -/
theorem first_ref (p : List UInt8) (n : Int) : keyB (topK p n) = (isP p && decide (0 ≤ n)) := by
  by_cases h : 0 ≤ n
  · unfold keyB topK
    have h1 : decide (0 ≤ min n 1000000000) = true := by rw [decide_eq_true_eq]; omega
    have h2 : decide (min n 1000000000 ≤ 1000000000) = true := by rw [decide_eq_true_eq]; omega
    simp only [h1, h2, Bool.true_and, h, decide_true, Bool.and_true]
  · rw [first_neg (by omega)]
    simp [h]

/-! ### A directory stands ahead of what is under it -/

theorem under_ahead {d p : List UInt8} (h : underOf d p = true) (hne : d ≠ p) : Op.bytesLess d p = true := by
  unfold underOf at h
  split at h
  · rename_i a b ha hb
    obtain ⟨r, rfl⟩ := List.isPrefixOf_iff_prefix.1 h
    obtain ⟨hfa, hga, _⟩ := names_fine ha
    obtain ⟨hfb, hgb, _⟩ := names_fine hb
    have hr : r ≠ [] := by
      rintro rfl
      rw [List.append_nil] at hgb
      exact hne (hga.symm.trans hgb)
    rw [← hga, ← hgb]
    cases a with
    | nil =>
      have h1 := gl_ne hfb (by simpa using hr)
      cases hg : gl ([] ++ r) with
      | nil => exact absurd hg h1
      | cons x t => rfl
    | cons x a =>
      obtain ⟨y, r, rfl⟩ := List.exists_cons_of_ne_nil hr
      have e : ∀ (a : List (List UInt8)) (x : List UInt8), gl (x :: a ++ y :: r) = gl (x :: a) ++ 47 :: gl (y :: r) := by
        intro a
        induction a with
        | nil => intro x; simp [gl]
        | cons z a ih =>
          intro x
          have := ih z
          simp only [List.cons_append] at this ⊢
          simp [gl, this]
      rw [e]
      exact ahead_app _ _ _
  · cases h
theorem under_less {d p : List UInt8} (h : underOf d p = true) (hne : d ≠ p) (n m : Int) : lessK (d, n) (p, m) = true ∧ lessK (p, m) (d, n) = false := by
  have h1 : lessK (d, n) (p, m) = true := by
    rw [lessK_ahead]
    unfold aheadK
    simp [under_ahead h hne]
  exact ⟨h1, lessK_asymm h1⟩

end Go.Proofs.YtbadbfmeoiclfaaGreatDoor

/-
  A key and an error's number as results.
-/
namespace Go.Proofs.YtbadbfmeoiclfaaGreatDoor
set_option maxRecDepth 100000
open Go.RowKit

theorem key_size : (Tryz.prog.info? 72).map (·.size) = some 2 := by kernel_rfl
theorem load_key (w : World) (g : Nat) (v0 v1 : Value) (c0 : w.cell? ⟨g, 0, none⟩ = some v0) (c1 : w.cell? ⟨g, 1, none⟩ = some v1) : (loadVar 72 ⟨g, 0, none⟩).run Tryz.prog w = .ok (.agg #[v0, v1]) w :=
  load_two Tryz.underlying72 key_size w g 0 v0 v1 c0 c1
/-- A key and an error's number are what comes out of a call. -/
theorem ret_key2 {fn : Func} {p q : Tmp} {R : Ending → World → Prop} {a : Act} {w : World} (h : fn.results = #[.cell p 72, .tmp q]) (hd : a.defers = []) (g : Nat) (v0 v1 v2 : Value) (hp : a.tmps.getD p undef = .pointer (some ⟨g, 0, none⟩))
    (hq : a.tmps.getD q undef = v2) (c0 : w.cell? ⟨g, 0, none⟩ = some v0) (c1 : w.cell? ⟨g, 1, none⟩ = some v1) (hR : R (.returned (.tuple #[.agg #[v0, v1], v2])) w) : bodyPost Tryz.prog fn R .ret a w := by
  refine bodyPost_ret (v := .tuple #[.agg #[v0, v1], v2]) ?_ hd hR
  have hp' : a.tmps[p]?.getD undef = .pointer (some ⟨g, 0, none⟩) := by simpa using hp
  have hq' : a.tmps[q]?.getD undef = v2 := by simpa using hq
  simp [results, h, hp', hq', asAddr, load_key w g v0 v1 c0 c1]

theorem Cx.two {w : World} {b : Nat} {t : TypeId} {v0 v1 : Value} (h : Cx w b t [v0, v1]) : w.cell? ⟨b, 0, none⟩ = some v0 ∧ w.cell? ⟨b, 1, none⟩ = some v1 ∧ w.frozen? ⟨b, 0, none⟩ = false ∧ w.frozen? ⟨b, 1, none⟩ = false ∧ b < w.heap.size :=
  ⟨h.cell rfl, h.cell rfl, h.frozen _, h.frozen _, h.lt⟩
theorem Cx.sets {w : World} {b : Nat} {t : TypeId} {v0 v1 : Value} (h : Cx w b t [v0, v1]) (x y : Value) : Cx ((w.setCell ⟨b, 0, none⟩ x).setCell ⟨b, 1, none⟩ y) b t [x, y] := (h.set 0 x).set 1 y
theorem below_sets {B : Nat} {w w' : World} {b : Nat} (h : Below B w w') (hb : B ≤ b) (x y : Value) : Below B w ((w'.setCell ⟨b, 0, none⟩ x).setCell ⟨b, 1, none⟩ y) := (h.setCell hb _).setCell hb _

end Go.Proofs.YtbadbfmeoiclfaaGreatDoor

/-
  key.Is.
-/
namespace Go.Proofs.YtbadbfmeoiclfaaGreatDoor
set_option maxRecDepth 100000
open Go.RowKit


set_option maxHeartbeats 1000000 in
theorem kIs_calls (p : List UInt8) (n : Int) (hl : p.length ≤ 9223372036854775807) (w : World) (hm : Ml w) :
    Calls Tryz.prog 96 #[.agg #[.string ⟨p.toArray⟩, .int .i64 n]] w fun e w' => e = .returned (.bool (keyB (p, n))) ∧ Below w.heap.size w w' := by
  have hB0 := below_alloc w (.cells #[.string ⟨p.toArray⟩, .int .i64 n] 72)
  have hm0 := hm.below hB0
  by_cases h1 : 0 ≤ n
  · by_cases h2 : n ≤ 1000000000
    · have H := Lib.hid (show keyB (p, n) = isP p by simp [keyB, h1, h2])
      go_enter Tryz.func96, Tryz.ntmps96
      go_wp2_with fail
      refine (is_calls p hl _ hm0).mono ?_
      rintro e w1 ⟨rfl, hB1⟩
      go_wp2_with fail
      go_ret
      exact ⟨by rw [H.out]; rfl, below2 hB0 hB1⟩
    · have H := Lib.hid (show keyB (p, n) = false by simp [keyB, h2])
      go_enter Tryz.func96, Tryz.ntmps96
      go_wp2_with fail
      go_ret
      exact ⟨by rw [H.out]; rfl, hB0⟩
  · have H := Lib.hid (show keyB (p, n) = false by simp [keyB, h1])
    go_enter Tryz.func96, Tryz.ntmps96
    go_wp2_with fail
    go_ret
    exact ⟨by rw [H.out]; rfl, hB0⟩

end Go.Proofs.YtbadbfmeoiclfaaGreatDoor

/-
  key.Compare, Less: the two steps, and the loop over them.
-/
namespace Go.Proofs.YtbadbfmeoiclfaaGreatDoor
set_option maxRecDepth 100000
open Go.RowKit

set_option maxHeartbeats 1000000 in
theorem byPath_calls (p q : List UInt8) (n m : Int) (w : World) :
    Calls Tryz.prog 133 #[.agg #[.string ⟨p.toArray⟩, .int .i64 n], .agg #[.string ⟨q.toArray⟩, .int .i64 m]] w fun e w' => e = .returned (.int .i64 (Lib.compareBytes p q)) ∧ Below w.heap.size w w' := by
  go_enter Tryz.func133, Tryz.ntmps133
  go_wp2_with (go_at_call 94; refine (Tryz.strings_Compare _ _ _).mono ?_; rintro e w1 ⟨rfl, rfl⟩)
  go_ret
  exact ⟨rfl, below_alloc2 _ _ _⟩

set_option maxHeartbeats 1000000 in
theorem byAt_calls (p q : List UInt8) (n m : Int) (w : World) :
    Calls Tryz.prog 134 #[.agg #[.string ⟨p.toArray⟩, .int .i64 n], .agg #[.string ⟨q.toArray⟩, .int .i64 m]] w fun e w' => e = .returned (.int .i64 (Lib.compareInt m n)) ∧ Below w.heap.size w w' := by
  go_enter Tryz.func134, Tryz.ntmps134
  go_wp2_with (go_at_call 151; refine (Tryz.cmp_Compare_int _ _ _).mono ?_; rintro e w1 ⟨rfl, rfl⟩)
  go_ret
  exact ⟨rfl, below_alloc2 _ _ _⟩

/-- The two steps, in a row of two functions. -/
def Steps2 (w : World) (v : Value) : Prop := ∃ b, v = .slice (some ⟨b, 0, none⟩) 2 2 ∧ w.cell? ⟨b, 0, none⟩ = some (.func (.func 133) #[] #[]) ∧ w.cell? ⟨b, 1, none⟩ = some (.func (.func 134) #[] #[])

theorem steps_new (w : World) (o1 o2 : Obj) : Steps2 (((w.alloc o1).alloc o2).alloc (.cells #[.func (.func 133) #[] #[], .func (.func 134) #[] #[]] 193)) (.slice (some ⟨w.heap.size + 1 + 1, 0, none⟩) 2 2) := by
  have h := heap_alloc_new ((w.alloc o1).alloc o2) (.cells #[.func (.func 133) #[] #[], .func (.func 134) #[] #[]] 193)
  rw [World.size_alloc, World.size_alloc] at h
  exact ⟨_, rfl, cell_of_row _ _ 0 _ _ _ h, cell_of_row _ _ 1 _ _ _ h⟩

set_option maxHeartbeats 2000000 in
theorem compare_calls (p q : List UInt8) (n m : Int) (v : Value) (w : World) (hs : Steps2 w v) :
    Calls Tryz.prog 132 #[.agg #[.string ⟨p.toArray⟩, .int .i64 n], .agg #[.string ⟨q.toArray⟩, .int .i64 m], v] w fun e w' => e = .returned (.int .i64 (cmpK (p, n) (q, m))) ∧ Below w.heap.size w w' := by
  obtain ⟨b, rfl, s0, s1⟩ := hs
  have hW := below_alloc2 w (.cells #[.string ⟨p.toArray⟩, .int .i64 n] 192) (.cells #[.string ⟨q.toArray⟩, .int .i64 m] 192)
  have hS0 := Lib.hid (look_below hW s0)
  have hS1 := Lib.hid (look_below hW s1)
  have hX := Lib.hid ((Cx.new w 192 [.string ⟨p.toArray⟩, .int .i64 n]).below (below_alloc _ (.cells #[.string ⟨q.toArray⟩, .int .i64 m] 192)))
  have hY := Lib.hid (Cx.new (w.alloc (.cells #[.string ⟨p.toArray⟩, .int .i64 n] 192)) 192 [.string ⟨q.toArray⟩, .int .i64 m])
  clear s0 s1
  obtain ⟨cp, hcp⟩ : ∃ c, Lib.compareBytes p q = c := ⟨_, rfl⟩
  obtain ⟨cn, hcn⟩ : ∃ c, Lib.compareInt m n = c := ⟨_, rfl⟩
  have HR := Lib.hid (show cmpK (p, n) (q, m) = if cp = 0 then cn else cp by rw [← hcp, ← hcn]; rfl)
  have HP := Lib.hid hcp
  have HN := Lib.hid hcn
  clear hcp hcn
  go_enter Tryz.func132, Tryz.ntmps132
  go_wp2_with fail
  go_loopw [12] (fun i wr => ∃ k : Nat, k ≤ 2 ∧ i = .int .i64 k ∧ (1 ≤ k → cp = 0) ∧ (2 ≤ k → cn = 0) ∧ Below ((w.alloc (.cells #[.string ⟨p.toArray⟩, .int .i64 n] 192)).alloc (.cells #[.string ⟨q.toArray⟩, .int .i64 m] 192)).heap.size ((w.alloc (.cells #[.string ⟨p.toArray⟩, .int .i64 n] 192)).alloc (.cells #[.string ⟨q.toArray⟩, .int .i64 m] 192)) wr) (fun i _ => 2 - (intOf i).toNat)
  case atStart => exact ⟨0, by omega, rfl, fun h => by omega, fun h => by omega, Below.refl _ _⟩
  case round =>
    obtain ⟨k, hk, rfl, h1, h2, hB⟩ := hrel
    have t0 := look_below hB hS0.out
    have t1 := look_below hB hS1.out
    obtain ⟨c0, c1, _⟩ := (hX.out.below hB).two
    have hYb := hY.out.below hB
    rw [World.size_alloc] at hYb
    obtain ⟨d0, d1, _⟩ := hYb.two
    clear hYb
    rcases (by omega : k = 0 ∨ k = 1 ∨ k = 2) with rfl | rfl | rfl
    · clear h1 h2
      by_cases h0 : cp = 0
      · have H0 := Lib.hid h0
        subst h0
        go_wp2_with fail
        refine (byPath_calls p q n m _).mono ?_
        rintro e w1 ⟨rfl, hB1⟩
        rw [HP.out]
        go_wp2_with fail
        go_roundw
        case rel => exact ⟨1, by omega, rfl, fun _ => by simp, fun h => by omega, below2 hB hB1⟩
        case measure => simp [intOf]
      · have hb : (cp == 0) = false := by simpa using h0
        have H0 := Lib.hid h0
        clear h0
        go_wp2_with fail
        refine (byPath_calls p q n m _).mono ?_
        rintro e w1 ⟨rfl, hB1⟩
        rw [HP.out]
        go_wp2_with fail
        go_ret
        exact ⟨by rw [HR.out, if_neg H0.out]; rfl, below3 hW hB hB1⟩
    · obtain rfl := h1 (by omega)
      clear h1 h2
      by_cases h0 : cn = 0
      · subst h0
        go_wp2_with fail
        refine (byAt_calls p q n m _).mono ?_
        rintro e w1 ⟨rfl, hB1⟩
        rw [HN.out]
        go_wp2_with fail
        go_roundw
        case rel => exact ⟨2, by omega, rfl, fun _ => by simp, fun _ => by simp, below2 hB hB1⟩
        case measure => simp [intOf]
      · have hb : (cn == 0) = false := by simpa using h0
        clear h0
        go_wp2_with fail
        refine (byAt_calls p q n m _).mono ?_
        rintro e w1 ⟨rfl, hB1⟩
        rw [HN.out]
        go_wp2_with fail
        go_ret
        exact ⟨by rw [HR.out]; simp, below3 hW hB hB1⟩
    · obtain rfl := h1 (by omega)
      obtain rfl := h2 (by omega)
      clear h1 h2
      go_wp2_with fail
      go_ret
      exact ⟨by rw [HR.out]; simp, below2 hW hB⟩

set_option maxHeartbeats 1000000 in
theorem kCompare_calls (p q : List UInt8) (n m : Int) (w : World) :
    Calls Tryz.prog 113 #[.agg #[.string ⟨p.toArray⟩, .int .i64 n], .agg #[.string ⟨q.toArray⟩, .int .i64 m]] w fun e w' => e = .returned (.int .i64 (cmpK (p, n) (q, m))) ∧ Below w.heap.size w w' := by
  go_enter Tryz.func113, Tryz.ntmps113
  go_wp2_with fail
  refine (compare_calls p q n m _ _ (steps_new w _ _)).mono ?_
  rintro e w1 ⟨rfl, hB1⟩
  go_wp2_with fail
  go_ret
  exact ⟨rfl, below2 (below_alloc3 _ _ _ _) hB1⟩

set_option maxHeartbeats 1000000 in
theorem kLess_calls (p q : List UInt8) (n m : Int) (w : World) :
    Calls Tryz.prog 89 #[.agg #[.string ⟨p.toArray⟩, .int .i64 n], .agg #[.string ⟨q.toArray⟩, .int .i64 m]] w fun e w' => e = .returned (.bool (lessK (p, n) (q, m))) ∧ Below w.heap.size w w' := by
  go_enter Tryz.func89, Tryz.ntmps89
  go_wp2_with fail
  refine (kCompare_calls p q n m _).mono ?_
  rintro e w1 ⟨rfl, hB1⟩
  go_wp2_with fail
  go_ret
  exact ⟨rfl, below2 (below_alloc2 _ _ _) hB1⟩

end Go.Proofs.YtbadbfmeoiclfaaGreatDoor

/-
  key.First.
-/
namespace Go.Proofs.YtbadbfmeoiclfaaGreatDoor
set_option maxRecDepth 100000
open Go.RowKit

set_option maxHeartbeats 2000000 in
theorem kFirst_calls (p : List UInt8) (n : Int) (hl : p.length ≤ 1000000) (w : World) (hm : Ml w) :
    Calls Tryz.prog 76 #[.string ⟨p.toArray⟩, .int .i64 n] w fun e w' => e = .returned (.tuple #[.agg #[.string ⟨(firstK p n).1.toArray⟩, .int .i64 (firstK p n).2], .int .i64 (firstE p n)]) ∧ Below w.heap.size w w' := by
  obtain ⟨m, hmn⟩ : ∃ m, min n 1000000000 = m := ⟨_, rfl⟩
  have HT := Lib.hid (show topK p n = (p, m) by unfold topK; rw [hmn])
  cases hk : keyB (topK p n) with
  | false =>
    have H1 := Lib.hid (show firstK p n = ([], 0) by simp [firstK, hk])
    have H2 := Lib.hid (show firstE p n = 1 by simp [firstE, hk])
    rw [HT.out] at hk
    have HK := Lib.hid hk
    clear hk
    rw [H1.out, H2.out]
    go_enter Tryz.func76, Tryz.ntmps76
    go_wp2_with fail
    refine (kIs_calls p m (by omega) _ (hm.below (below_alloc2 _ _ _))).mono ?_
    rintro e w1 ⟨rfl, hB1⟩
    obtain ⟨c0, c1, f0, f1, hlt⟩ := (((Cx.new w 72 [.string ⟨#[]⟩, .int .i64 0]).below (below_alloc _ _)).below hB1).two
    have hC := Lib.hid (((Cx.new w 72 [.string ⟨#[]⟩, .int .i64 0]).below (below_alloc _ _)).below hB1)
    rw [HK.out]
    go_wp2_with fail
    obtain ⟨d0, d1, _⟩ := (hC.out.sets (.string ⟨#[]⟩) (.int .i64 0)).two
    exact ret_key2 rfl rfl w.heap.size _ _ _ rfl rfl d0 d1 ⟨rfl, below_sets (below2 (below_alloc2 _ _ _) hB1) (Nat.le_refl _) _ _⟩
  | true =>
    have H1 := Lib.hid (show firstK p n = topK p n by simp [firstK, hk])
    have H2 := Lib.hid (show firstE p n = 0 by simp [firstE, hk])
    rw [HT.out] at hk
    have HK := Lib.hid hk
    clear hk
    rw [H1.out, H2.out, HT.out]
    go_enter Tryz.func76, Tryz.ntmps76
    go_wp2_with fail
    refine (kIs_calls p m (by omega) _ (hm.below (below_alloc2 _ _ _))).mono ?_
    rintro e w1 ⟨rfl, hB1⟩
    obtain ⟨c0, c1, f0, f1, hlt⟩ := (((Cx.new w 72 [.string ⟨#[]⟩, .int .i64 0]).below (below_alloc _ _)).below hB1).two
    have hC := Lib.hid (((Cx.new w 72 [.string ⟨#[]⟩, .int .i64 0]).below (below_alloc _ _)).below hB1)
    have hD := (Cx.new (w.alloc (.cells #[.string ⟨#[]⟩, .int .i64 0] 72)) 72 [.string ⟨p.toArray⟩, .int .i64 m]).below hB1
    rw [World.size_alloc] at hD
    obtain ⟨c2, c3, _⟩ := hD.two
    clear hD
    rw [HK.out]
    go_wp2_with fail
    obtain ⟨d0, d1, _⟩ := (hC.out.sets (.string ⟨p.toArray⟩) (.int .i64 m)).two
    exact ret_key2 rfl rfl w.heap.size _ _ _ rfl rfl d0 d1 ⟨rfl, below_sets (below2 (below_alloc2 _ _ _) hB1) (Nat.le_refl _) _ _⟩

end Go.Proofs.YtbadbfmeoiclfaaGreatDoor

/-
  The document's own Is of a key.
-/
namespace Go.Proofs.YtbadbfmeoiclfaaGreatDoor
set_option maxRecDepth 100000
open Go.RowKit

set_option maxHeartbeats 1000000 in
theorem kRefIs_calls (p : List UInt8) (n : Int) (hl : p.length ≤ 1000000) (w : World) :
    Calls Tryz.prog 56 #[.agg #[.string ⟨p.toArray⟩, .int .i64 n]] w fun e w' => e = .returned (.bool (keyB (p, n))) ∧ Below w.heap.size w w' := by
  have hB0 := below_alloc w (.cells #[.string ⟨p.toArray⟩, .int .i64 n] 72)
  cases hp : isP p with
  | false =>
    have H := Lib.hid (show keyB (p, n) = false by simp [keyB, hp])
    have HP := Lib.hid hp
    clear hp
    go_enter Tryz.func56, Tryz.ntmps56
    go_wp2_with fail
    refine (refPathIs_calls p hl _).mono ?_
    rintro e w1 ⟨rfl, hB1⟩
    rw [HP.out]
    go_wp2_with fail
    go_ret
    exact ⟨by rw [H.out]; rfl, below2 hB0 hB1⟩
  | true =>
    have HP := Lib.hid hp
    have H := Lib.hid (show keyB (p, n) = (decide (0 ≤ n) && decide (n ≤ 1000000000)) by simp [keyB, hp])
    clear hp
    by_cases h1 : 0 ≤ n
    · by_cases h2 : n ≤ 1000000000
      · have H := Lib.hid (show keyB (p, n) = true by rw [H.out]; simp [h1, h2])
        go_enter Tryz.func56, Tryz.ntmps56
        go_wp2_with fail
        refine (refPathIs_calls p hl _).mono ?_
        rintro e w1 ⟨rfl, hB1⟩
        have hc1 := look_below hB1 (W := w.alloc _) (b := w.heap.size) (o := 1) (cell_of_row _ _ 1 _ _ _ (heap_alloc_new w _))
        rw [HP.out]
        go_wp2_with fail
        go_ret
        exact ⟨by rw [H.out]; rfl, below2 hB0 hB1⟩
      · have H := Lib.hid (show keyB (p, n) = decide (n ≤ 1000000000) by rw [H.out]; simp [h1])
        go_enter Tryz.func56, Tryz.ntmps56
        go_wp2_with fail
        refine (refPathIs_calls p hl _).mono ?_
        rintro e w1 ⟨rfl, hB1⟩
        have hc1 := look_below hB1 (W := w.alloc _) (b := w.heap.size) (o := 1) (cell_of_row _ _ 1 _ _ _ (heap_alloc_new w _))
        rw [HP.out]
        go_wp2_with fail
        go_ret
        exact ⟨by rw [H.out]; rfl, below2 hB0 hB1⟩
    · have H := Lib.hid (show keyB (p, n) = false by rw [H.out]; simp [h1])
      go_enter Tryz.func56, Tryz.ntmps56
      go_wp2_with fail
      refine (refPathIs_calls p hl _).mono ?_
      rintro e w1 ⟨rfl, hB1⟩
      have hc1 := look_below hB1 (W := w.alloc _) (b := w.heap.size) (o := 1) (cell_of_row _ _ 1 _ _ _ (heap_alloc_new w _))
      rw [HP.out]
      go_wp2_with fail
      go_ret
      exact ⟨by rw [H.out]; rfl, below2 hB0 hB1⟩

end Go.Proofs.YtbadbfmeoiclfaaGreatDoor

/-
  The document's own Less of keys.
-/
namespace Go.Proofs.YtbadbfmeoiclfaaGreatDoor
set_option maxRecDepth 100000
open Go.RowKit

set_option maxHeartbeats 1000000 in
theorem kRefLess_calls (p q : List UInt8) (n m : Int) (w : World) :
    Calls Tryz.prog 100 #[.agg #[.string ⟨p.toArray⟩, .int .i64 n], .agg #[.string ⟨q.toArray⟩, .int .i64 m]] w fun e w' => e = .returned (.bool (aheadK (p, n) (q, m))) ∧ Below w.heap.size w w' := by
  cases h1 : Op.bytesLess p q with
  | true =>
    have H := Lib.hid (show aheadK (p, n) (q, m) = true by simp [aheadK, h1])
    go_enter Tryz.func100, Tryz.ntmps100
    go_wp2_with fail
    go_ret
    exact ⟨by rw [H.out]; rfl, below_alloc2 _ _ _⟩
  | false =>
    cases h2 : (p == q) with
    | false =>
      have H := Lib.hid (show aheadK (p, n) (q, m) = false by simp [aheadK, h1, h2])
      go_enter Tryz.func100, Tryz.ntmps100
      go_wp2_with fail
      go_ret
      exact ⟨by rw [H.out]; rfl, below_alloc2 _ _ _⟩
    | true =>
      have H := Lib.hid (show aheadK (p, n) (q, m) = decide (m < n) by simp [aheadK, h1, h2])
      go_enter Tryz.func100, Tryz.ntmps100
      go_wp2_with fail
      go_ret
      exact ⟨by rw [H.out]; rfl, below_alloc2 _ _ _⟩

end Go.Proofs.YtbadbfmeoiclfaaGreatDoor
