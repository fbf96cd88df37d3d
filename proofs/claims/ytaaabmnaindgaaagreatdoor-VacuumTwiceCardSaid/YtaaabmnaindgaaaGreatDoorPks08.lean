/-
  The texts of one folder in one: KyOrd, KySpec, KyIs, KyRets, KyCmp, KyRefI, KyFirst.
-/
import Derived.Lib.Bytealg
import Derived.Lib.Small
import Derived.Test.YtaaabmnaindgaaaGreatDoorPks02
import Derived.Test.YtaaabmnaindgaaaGreatDoorPks01
import Derived.Test.YtaaabmnaindgaaaGreatDoorPkbase
import Derived.Test.YtaaabmnaindgaaaGreatDoorShelf

/-
  The order of keys, and of bytes. No program is named here.
-/
namespace Go.Proofs.YtaaabmnaindgaaaGreatDoor
set_option maxRecDepth 100000

/-- A key: its path's bytes, its time. -/
abbrev Ky := List UInt8 × Int
/-- -1, 0, 1: a stands ahead of b, is the same, stands behind. -/
def cmpK (a b : Ky) : Int := if Lib.compareBytes a.1 b.1 = 0 then Lib.compareInt b.2 a.2 else Lib.compareBytes a.1 b.1
def lessK (a b : Ky) : Bool := decide (cmpK a b < 0)
/-- The document's own order. -/
def aheadK (a b : Ky) : Bool := Op.bytesLess a.1 b.1 || (a.1 == b.1) && decide (b.2 < a.2)

/-! ### Bytes -/

theorem less_irrefl : ∀ a : List UInt8, Op.bytesLess a a = false
  | [] => rfl
  | x :: a => by
    have ih := less_irrefl a
    simp [Op.bytesLess, ih]
theorem less_trans : ∀ {a b c : List UInt8}, Op.bytesLess a b = true → Op.bytesLess b c = true → Op.bytesLess a c = true
  | _, _, [], _, h2 => by simp [Op.bytesLess] at h2
  | _, [], _ :: _, h1, _ => by simp [Op.bytesLess] at h1
  | [], _ :: _, _ :: _, _, _ => rfl
  | x :: a, y :: b, z :: c, h1, h2 => by
    have ih := @less_trans a b c
    simp only [Op.bytesLess, Bool.or_eq_true, Bool.and_eq_true, decide_eq_true_eq, beq_iff_eq] at h1 h2 ⊢
    rcases h1 with h1 | ⟨rfl, h1⟩
    · rcases h2 with h2 | ⟨rfl, h2⟩
      · exact .inl (UInt8.lt_trans h1 h2)
      · exact .inl h1
    · rcases h2 with h2 | ⟨rfl, h2⟩
      · exact .inl h2
      · exact .inr ⟨rfl, ih h1 h2⟩
theorem less_asymm {a b : List UInt8} (h : Op.bytesLess a b = true) : Op.bytesLess b a = false := by
  cases h2 : Op.bytesLess b a with
  | false => rfl
  | true =>
    have := less_trans h h2
    rw [less_irrefl] at this
    cases this
theorem less_total : ∀ {a b : List UInt8}, Op.bytesLess a b = false → a ≠ b → Op.bytesLess b a = true
  | [], [], _, h => absurd rfl h
  | [], _ :: _, h, _ => by simp [Op.bytesLess] at h
  | _ :: _, [], _, _ => rfl
  | x :: a, y :: b, h, hne => by
    have ih := @less_total a b
    simp only [Op.bytesLess, Bool.or_eq_false_iff, decide_eq_false_iff_not] at h
    simp only [Op.bytesLess, Bool.or_eq_true, Bool.and_eq_true, decide_eq_true_eq, beq_iff_eq]
    by_cases hxy : x = y
    · subst hxy
      exact .inr ⟨rfl, ih (by simpa using h.2) (fun e => hne (by rw [e]))⟩
    · exact .inl (UInt8.lt_of_le_of_ne (UInt8.not_lt.1 h.1) (Ne.symm hxy))
theorem cmp_less : ∀ a b : List UInt8, Lib.compareBytes a b = if Op.bytesLess a b = true then -1 else if a = b then 0 else 1
  | [], [] => rfl
  | [], _ :: _ => rfl
  | _ :: _, [] => by simp [Lib.compareBytes, Op.bytesLess]
  | x :: a, y :: b => by
    have ih := cmp_less a b
    rw [Lib.compareBytes, Op.bytesLess]
    by_cases hlt : x < y
    · simp [hlt]
    · by_cases hgt : y < x
      · have hne : x ≠ y := fun e => by subst e; exact UInt8.lt_irrefl _ hgt
        simp [hlt, hgt, hne]
      · obtain rfl : x = y := UInt8.le_antisymm (UInt8.not_lt.1 hgt) (UInt8.not_lt.1 hlt)
        rw [ih]
        simp [hlt]
theorem cmp_self (a : List UInt8) : Lib.compareBytes a a = 0 := by rw [cmp_less, less_irrefl]; simp
theorem cmp_zero {a b : List UInt8} (h : Lib.compareBytes a b = 0) : a = b := by
  rw [cmp_less] at h
  split at h
  · cases h
  · split at h
    · assumption
    · cases h
theorem cmp_swap (a b : List UInt8) : Lib.compareBytes b a = - Lib.compareBytes a b := by
  rw [cmp_less, cmp_less]
  cases h : Op.bytesLess a b with
  | true =>
    have h1 := less_asymm h
    have h2 : b ≠ a := by
      rintro rfl
      rw [less_irrefl] at h; cases h
    simp [h1, h2]
  | false =>
    by_cases hab : a = b
    · subst hab; simp [h]
    · have h1 := less_total h hab
      simp [h1, hab]
theorem int_swap (x y : Int) : Lib.compareInt y x = - Lib.compareInt x y := by
  unfold Lib.compareInt
  split <;> split <;> (try split) <;> omega

/-! ### The order of keys -/

theorem cmpK_swap (a b : Ky) : cmpK b a = - cmpK a b := by
  unfold cmpK
  rw [cmp_swap a.1 b.1, int_swap b.2 a.2]
  split <;> split <;> omega
theorem cmpK_self (a : Ky) : cmpK a a = 0 := by
  unfold cmpK
  rw [if_pos (cmp_self _)]
  unfold Lib.compareInt
  simp
theorem cmpK_zero {a b : Ky} (h : cmpK a b = 0) : a = b := by
  unfold cmpK at h
  split at h
  · rename_i h1
    have e1 := cmp_zero h1
    have e2 : a.2 = b.2 := by
      unfold Lib.compareInt at h
      split at h
      · cases h
      · split at h
        · cases h
        · omega
    exact Prod.ext e1 e2
  · rename_i h1
    exact absurd h h1
theorem cmpK_ahead (a b : Ky) : cmpK a b = if aheadK a b = true then -1 else if aheadK b a = true then 1 else 0 := by
  unfold cmpK aheadK
  rw [cmp_less]
  cases h : Op.bytesLess a.1 b.1 with
  | true => simp
  | false =>
    by_cases hab : a.1 = b.1
    · rw [← hab, less_irrefl]
      unfold Lib.compareInt
      simp
    · have h1 := less_total h hab
      simp [h1, hab]
theorem lessK_ahead (a b : Ky) : lessK a b = aheadK a b := by
  unfold lessK
  rw [cmpK_ahead]
  cases h : aheadK a b with
  | true => simp
  | false =>
    cases h2 : aheadK b a with
    | true => simp
    | false => simp
theorem lessK_trans {a b c : Ky} (h1 : lessK a b = true) (h2 : lessK b c = true) : lessK a c = true := by
  rw [lessK_ahead] at h1 h2 ⊢
  unfold aheadK at h1 h2 ⊢
  simp only [Bool.or_eq_true, Bool.and_eq_true, beq_iff_eq, decide_eq_true_eq] at h1 h2 ⊢
  rcases h1 with h1 | ⟨e1, h1⟩
  · rcases h2 with h2 | ⟨e2, h2⟩
    · exact .inl (less_trans h1 h2)
    · exact .inl (e2 ▸ h1)
  · rcases h2 with h2 | ⟨e2, h2⟩
    · exact .inl (e1 ▸ h2)
    · exact .inr ⟨e1.trans e2, by omega⟩
theorem lessK_asymm {a b : Ky} (h : lessK a b = true) : lessK b a = false := by
  unfold lessK at h ⊢
  rw [cmpK_swap a b]
  simp only [decide_eq_true_eq, decide_eq_false_iff_not] at h ⊢
  omega
theorem ahead_app (d : List UInt8) (x : UInt8) : ∀ r, Op.bytesLess d (d ++ x :: r) = true := by
  intro r
  induction d with
  | nil => rfl
  | cons y d ih => simp [Op.bytesLess, ih]

end Go.Proofs.YtaaabmnaindgaaaGreatDoor

/-
  The plain functions of layer 8 (key): which keys may be, their order, their bytes, and what bytes are. No program is named here.
-/
namespace Go.Proofs.YtaaabmnaindgaaaGreatDoor
set_option maxRecDepth 100000

/-- May a key be? -/
def keyB (k : Ky) : Bool := decide (0 ≤ k.2) && decide (k.2 ≤ 1000000000) && isP k.1
def topK (p : List UInt8) (n : Int) : Ky := (p, min n 1000000000)
def firstK (p : List UInt8) (n : Int) : Ky := if keyB (topK p n) = true then topK p n else ([], 0)
def firstE (p : List UInt8) (n : Int) : Int := if keyB (topK p n) = true then 0 else 1
/-! ### Paths have no byte 0 -/

/-! ### What is put is got, what is got is put -/

theorem take_zero {s : List UInt8} (h5 : 5 ≤ s.length) (h0 : s[s.length - 5]? = some 0) : s.take (s.length - 5) ++ 0 :: s.drop (s.length - 4) = s := by
  have hlt : s.length - 5 < s.length := by omega
  have e : s[s.length - 5] = 0 := by
    rw [List.getElem?_eq_getElem hlt] at h0
    simpa using h0
  have h1 := List.drop_eq_getElem_cons hlt
  rw [e, show s.length - 5 + 1 = s.length - 4 by omega] at h1
  rw [← h1, List.take_append_drop]
/-! ### First -/

theorem first_neg {p : List UInt8} {n : Int} (h : n < 0) : keyB (topK p n) = false := by
  unfold keyB topK
  have : decide (0 ≤ min n 1000000000) = false := by
    rw [decide_eq_false_iff_not]; omega
  simp only [this, Bool.false_and]
/-- What the document asks of First. -/
theorem first_ref (p : List UInt8) (n : Int) : keyB (topK p n) = (isP p && decide (0 ≤ n)) := by
  by_cases h : 0 ≤ n
  · unfold keyB topK
    have h1 : decide (0 ≤ min n 1000000000) = true := by rw [decide_eq_true_eq]; omega
    have h2 : decide (min n 1000000000 ≤ 1000000000) = true := by rw [decide_eq_true_eq]; omega
    simp only [h1, h2, Bool.true_and, h, decide_true, Bool.and_true]
  · rw [first_neg (by omega)]
    simp [h]

/-! ### A directory stands ahead of what is under it -/

end Go.Proofs.YtaaabmnaindgaaaGreatDoor

/-
  key.Is.
-/
namespace Go.Proofs.YtaaabmnaindgaaaGreatDoor
set_option maxRecDepth 100000
open Go.RowKit


set_option maxHeartbeats 1000000 in
theorem kIs_calls (p : List UInt8) (n : Int) (hl : p.length ≤ 9223372036854775807) (w : World) (hm : Ml w) :
    Calls Tryz.prog 107 #[.agg #[.string ⟨p.toArray⟩, .int .i64 n]] w fun e w' => e = .returned (.bool (keyB (p, n))) ∧ Below w.heap.size w w' := by
  have hB0 := below_alloc w (.cells #[.string ⟨p.toArray⟩, .int .i64 n] 65)
  have hm0 := hm.below hB0
  by_cases h1 : 0 ≤ n
  · by_cases h2 : n ≤ 1000000000
    · have H := Lib.hid (show keyB (p, n) = isP p by simp [keyB, h1, h2])
      go_enter Tryz.func107, Tryz.ntmps107
      go_wp2_with fail
      refine (is_calls p hl _ hm0).mono ?_
      rintro e w1 ⟨rfl, hB1⟩
      go_wp2_with fail
      go_ret
      exact ⟨by rw [H.out]; rfl, below2 hB0 hB1⟩
    · have H := Lib.hid (show keyB (p, n) = false by simp [keyB, h2])
      go_enter Tryz.func107, Tryz.ntmps107
      go_wp2_with fail
      go_ret
      exact ⟨by rw [H.out]; rfl, hB0⟩
  · have H := Lib.hid (show keyB (p, n) = false by simp [keyB, h1])
    go_enter Tryz.func107, Tryz.ntmps107
    go_wp2_with fail
    go_ret
    exact ⟨by rw [H.out]; rfl, hB0⟩

end Go.Proofs.YtaaabmnaindgaaaGreatDoor

/-
  A key and an error's number as results.
-/
namespace Go.Proofs.YtaaabmnaindgaaaGreatDoor
set_option maxRecDepth 100000
open Go.RowKit

theorem key_size : (Tryz.prog.info? 65).map (·.size) = some 2 := by kernel_rfl
theorem load_key (w : World) (g : Nat) (v0 v1 : Value) (c0 : w.cell? ⟨g, 0, none⟩ = some v0) (c1 : w.cell? ⟨g, 1, none⟩ = some v1) : (loadVar 65 ⟨g, 0, none⟩).run Tryz.prog w = .ok (.agg #[v0, v1]) w :=
  load_two Tryz.underlying65 key_size w g 0 v0 v1 c0 c1
/-- A key and an error's number are what comes out of a call. -/
theorem ret_key2 {fn : Func} {p q : Tmp} {R : Ending → World → Prop} {a : Act} {w : World} (h : fn.results = #[.cell p 65, .tmp q]) (hd : a.defers = []) (g : Nat) (v0 v1 v2 : Value) (hp : a.tmps.getD p undef = .pointer (some ⟨g, 0, none⟩))
    (hq : a.tmps.getD q undef = v2) (c0 : w.cell? ⟨g, 0, none⟩ = some v0) (c1 : w.cell? ⟨g, 1, none⟩ = some v1) (hR : R (.returned (.tuple #[.agg #[v0, v1], v2])) w) : bodyPost Tryz.prog fn R .ret a w := by
  refine bodyPost_ret (v := .tuple #[.agg #[v0, v1], v2]) ?_ hd hR
  have hp' : a.tmps[p]?.getD undef = .pointer (some ⟨g, 0, none⟩) := by simpa using hp
  have hq' : a.tmps[q]?.getD undef = v2 := by simpa using hq
  simp [results, h, hp', hq', asAddr, load_key w g v0 v1 c0 c1]

theorem Cx.two {w : World} {b : Nat} {t : TypeId} {v0 v1 : Value} (h : Cx w b t [v0, v1]) : w.cell? ⟨b, 0, none⟩ = some v0 ∧ w.cell? ⟨b, 1, none⟩ = some v1 ∧ w.frozen? ⟨b, 0, none⟩ = false ∧ w.frozen? ⟨b, 1, none⟩ = false ∧ b < w.heap.size :=
  ⟨h.cell rfl, h.cell rfl, h.frozen _, h.frozen _, h.lt⟩
theorem Cx.sets {w : World} {b : Nat} {t : TypeId} {v0 v1 : Value} (h : Cx w b t [v0, v1]) (x y : Value) : Cx ((w.setCell ⟨b, 0, none⟩ x).setCell ⟨b, 1, none⟩ y) b t [x, y] := (h.set 0 x).set 1 y
theorem below_sets {B : Nat} {w w' : World} {b : Nat} (h : Below B w w') (hb : B ≤ b) (x y : Value) : Below B w ((w'.setCell ⟨b, 0, none⟩ x).setCell ⟨b, 1, none⟩ y) := (h.setCell hb _).setCell hb _

end Go.Proofs.YtaaabmnaindgaaaGreatDoor

/-
  key.Compare, Less: the two steps, and the loop over them.
-/
namespace Go.Proofs.YtaaabmnaindgaaaGreatDoor
set_option maxRecDepth 100000
open Go.RowKit

set_option maxHeartbeats 1000000 in
theorem byPath_calls (p q : List UInt8) (n m : Int) (w : World) :
    Calls Tryz.prog 138 #[.agg #[.string ⟨p.toArray⟩, .int .i64 n], .agg #[.string ⟨q.toArray⟩, .int .i64 m]] w fun e w' => e = .returned (.int .i64 (Lib.compareBytes p q)) ∧ Below w.heap.size w w' := by
  go_enter Tryz.func138, Tryz.ntmps138
  go_wp2_with (go_at_call 124; refine (Tryz.strings_Compare _ _ _).mono ?_; rintro e w1 ⟨rfl, rfl⟩)
  go_ret
  exact ⟨rfl, below_alloc2 _ _ _⟩

set_option maxHeartbeats 1000000 in
theorem byAt_calls (p q : List UInt8) (n m : Int) (w : World) :
    Calls Tryz.prog 139 #[.agg #[.string ⟨p.toArray⟩, .int .i64 n], .agg #[.string ⟨q.toArray⟩, .int .i64 m]] w fun e w' => e = .returned (.int .i64 (Lib.compareInt m n)) ∧ Below w.heap.size w w' := by
  go_enter Tryz.func139, Tryz.ntmps139
  go_wp2_with (go_at_call 155; refine (Tryz.cmp_Compare_int _ _ _).mono ?_; rintro e w1 ⟨rfl, rfl⟩)
  go_ret
  exact ⟨rfl, below_alloc2 _ _ _⟩

/-- The two steps, in a row of two functions. -/
def Steps2 (w : World) (v : Value) : Prop := ∃ b, v = .slice (some ⟨b, 0, none⟩) 2 2 ∧ w.cell? ⟨b, 0, none⟩ = some (.func (.func 138) #[] #[]) ∧ w.cell? ⟨b, 1, none⟩ = some (.func (.func 139) #[] #[])

theorem steps_new (w : World) (o1 o2 : Obj) : Steps2 (((w.alloc o1).alloc o2).alloc (.cells #[.func (.func 138) #[] #[], .func (.func 139) #[] #[]] 206)) (.slice (some ⟨w.heap.size + 1 + 1, 0, none⟩) 2 2) := by
  have h := heap_alloc_new ((w.alloc o1).alloc o2) (.cells #[.func (.func 138) #[] #[], .func (.func 139) #[] #[]] 206)
  rw [World.size_alloc, World.size_alloc] at h
  exact ⟨_, rfl, cell_of_row _ _ 0 _ _ _ h, cell_of_row _ _ 1 _ _ _ h⟩

set_option maxHeartbeats 2000000 in
theorem compare_calls (p q : List UInt8) (n m : Int) (v : Value) (w : World) (hs : Steps2 w v) :
    Calls Tryz.prog 137 #[.agg #[.string ⟨p.toArray⟩, .int .i64 n], .agg #[.string ⟨q.toArray⟩, .int .i64 m], v] w fun e w' => e = .returned (.int .i64 (cmpK (p, n) (q, m))) ∧ Below w.heap.size w w' := by
  obtain ⟨b, rfl, s0, s1⟩ := hs
  have hW := below_alloc2 w (.cells #[.string ⟨p.toArray⟩, .int .i64 n] 205) (.cells #[.string ⟨q.toArray⟩, .int .i64 m] 205)
  have hS0 := Lib.hid (look_below hW s0)
  have hS1 := Lib.hid (look_below hW s1)
  have hX := Lib.hid ((Cx.new w 205 [.string ⟨p.toArray⟩, .int .i64 n]).below (below_alloc _ (.cells #[.string ⟨q.toArray⟩, .int .i64 m] 205)))
  have hY := Lib.hid (Cx.new (w.alloc (.cells #[.string ⟨p.toArray⟩, .int .i64 n] 205)) 205 [.string ⟨q.toArray⟩, .int .i64 m])
  clear s0 s1
  obtain ⟨cp, hcp⟩ : ∃ c, Lib.compareBytes p q = c := ⟨_, rfl⟩
  obtain ⟨cn, hcn⟩ : ∃ c, Lib.compareInt m n = c := ⟨_, rfl⟩
  have HR := Lib.hid (show cmpK (p, n) (q, m) = if cp = 0 then cn else cp by rw [← hcp, ← hcn]; rfl)
  have HP := Lib.hid hcp
  have HN := Lib.hid hcn
  clear hcp hcn
  go_enter Tryz.func137, Tryz.ntmps137
  go_wp2_with fail
  go_loopw [12] (fun i wr => ∃ k : Nat, k ≤ 2 ∧ i = .int .i64 k ∧ (1 ≤ k → cp = 0) ∧ (2 ≤ k → cn = 0) ∧ Below ((w.alloc (.cells #[.string ⟨p.toArray⟩, .int .i64 n] 205)).alloc (.cells #[.string ⟨q.toArray⟩, .int .i64 m] 205)).heap.size ((w.alloc (.cells #[.string ⟨p.toArray⟩, .int .i64 n] 205)).alloc (.cells #[.string ⟨q.toArray⟩, .int .i64 m] 205)) wr) (fun i _ => 2 - (intOf i).toNat)
  case atStart => exact ⟨0, by omega, rfl, fun h => by omega, fun h => by omega, Below.refl _ _⟩
  case round =>
    obtain ⟨k, hk, rfl, h1, h2, hB⟩ := hrel
    have t0 := look_below hB hS0.out
    have t1 := look_below hB hS1.out
    obtain ⟨c0, c1, _⟩ := (hX.out.below hB).two
    have hYb := hY.out.below hB
    rw [World.size_alloc] at hYb
    obtain ⟨d0, d1, _⟩ := hYb.two
    clear hYb
    rcases (by omega : k = 0 ∨ k = 1 ∨ k = 2) with rfl | rfl | rfl
    · clear h1 h2
      by_cases h0 : cp = 0
      · have H0 := Lib.hid h0
        subst h0
        go_wp2_with fail
        refine (byPath_calls p q n m _).mono ?_
        rintro e w1 ⟨rfl, hB1⟩
        rw [HP.out]
        go_wp2_with fail
        go_roundw
        case rel => exact ⟨1, by omega, rfl, fun _ => by simp, fun h => by omega, below2 hB hB1⟩
        case measure => simp [intOf]
      · have hb : (cp == 0) = false := by simpa using h0
        have H0 := Lib.hid h0
        clear h0
        go_wp2_with fail
        refine (byPath_calls p q n m _).mono ?_
        rintro e w1 ⟨rfl, hB1⟩
        rw [HP.out]
        go_wp2_with fail
        go_ret
        exact ⟨by rw [HR.out, if_neg H0.out]; rfl, below3 hW hB hB1⟩
    · obtain rfl := h1 (by omega)
      clear h1 h2
      by_cases h0 : cn = 0
      · subst h0
        go_wp2_with fail
        refine (byAt_calls p q n m _).mono ?_
        rintro e w1 ⟨rfl, hB1⟩
        rw [HN.out]
        go_wp2_with fail
        go_roundw
        case rel => exact ⟨2, by omega, rfl, fun _ => by simp, fun _ => by simp, below2 hB hB1⟩
        case measure => simp [intOf]
      · have hb : (cn == 0) = false := by simpa using h0
        clear h0
        go_wp2_with fail
        refine (byAt_calls p q n m _).mono ?_
        rintro e w1 ⟨rfl, hB1⟩
        rw [HN.out]
        go_wp2_with fail
        go_ret
        exact ⟨by rw [HR.out]; simp, below3 hW hB hB1⟩
    · obtain rfl := h1 (by omega)
      obtain rfl := h2 (by omega)
      clear h1 h2
      go_wp2_with fail
      go_ret
      exact ⟨by rw [HR.out]; simp, below2 hW hB⟩

set_option maxHeartbeats 1000000 in
theorem kCompare_calls (p q : List UInt8) (n m : Int) (w : World) :
    Calls Tryz.prog 115 #[.agg #[.string ⟨p.toArray⟩, .int .i64 n], .agg #[.string ⟨q.toArray⟩, .int .i64 m]] w fun e w' => e = .returned (.int .i64 (cmpK (p, n) (q, m))) ∧ Below w.heap.size w w' := by
  go_enter Tryz.func115, Tryz.ntmps115
  go_wp2_with fail
  refine (compare_calls p q n m _ _ (steps_new w _ _)).mono ?_
  rintro e w1 ⟨rfl, hB1⟩
  go_wp2_with fail
  go_ret
  exact ⟨rfl, below2 (below_alloc3 _ _ _ _) hB1⟩

set_option maxHeartbeats 1000000 in
theorem kLess_calls (p q : List UInt8) (n m : Int) (w : World) :
    Calls Tryz.prog 93 #[.agg #[.string ⟨p.toArray⟩, .int .i64 n], .agg #[.string ⟨q.toArray⟩, .int .i64 m]] w fun e w' => e = .returned (.bool (lessK (p, n) (q, m))) ∧ Below w.heap.size w w' := by
  go_enter Tryz.func93, Tryz.ntmps93
  go_wp2_with fail
  refine (kCompare_calls p q n m _).mono ?_
  rintro e w1 ⟨rfl, hB1⟩
  go_wp2_with fail
  go_ret
  exact ⟨rfl, below2 (below_alloc2 _ _ _) hB1⟩

end Go.Proofs.YtaaabmnaindgaaaGreatDoor

/-
  The document's own Is of a key.
-/
namespace Go.Proofs.YtaaabmnaindgaaaGreatDoor
set_option maxRecDepth 100000
open Go.RowKit

set_option maxHeartbeats 1000000 in
theorem kRefIs_calls (p : List UInt8) (n : Int) (hl : p.length ≤ 1000000) (w : World) :
    Calls Tryz.prog 64 #[.agg #[.string ⟨p.toArray⟩, .int .i64 n]] w fun e w' => e = .returned (.bool (keyB (p, n))) ∧ Below w.heap.size w w' := by
  have hB0 := below_alloc w (.cells #[.string ⟨p.toArray⟩, .int .i64 n] 65)
  cases hp : isP p with
  | false =>
    have H := Lib.hid (show keyB (p, n) = false by simp [keyB, hp])
    have HP := Lib.hid hp
    clear hp
    go_enter Tryz.func64, Tryz.ntmps64
    go_wp2_with fail
    refine (refPathIs_calls p hl _).mono ?_
    rintro e w1 ⟨rfl, hB1⟩
    rw [HP.out]
    go_wp2_with fail
    go_ret
    exact ⟨by rw [H.out]; rfl, below2 hB0 hB1⟩
  | true =>
    have HP := Lib.hid hp
    have H := Lib.hid (show keyB (p, n) = (decide (0 ≤ n) && decide (n ≤ 1000000000)) by simp [keyB, hp])
    clear hp
    by_cases h1 : 0 ≤ n
    · by_cases h2 : n ≤ 1000000000
      · have H := Lib.hid (show keyB (p, n) = true by rw [H.out]; simp [h1, h2])
        go_enter Tryz.func64, Tryz.ntmps64
        go_wp2_with fail
        refine (refPathIs_calls p hl _).mono ?_
        rintro e w1 ⟨rfl, hB1⟩
        have hc1 := look_below hB1 (W := w.alloc _) (b := w.heap.size) (o := 1) (cell_of_row _ _ 1 _ _ _ (heap_alloc_new w _))
        rw [HP.out]
        go_wp2_with fail
        go_ret
        exact ⟨by rw [H.out]; rfl, below2 hB0 hB1⟩
      · have H := Lib.hid (show keyB (p, n) = decide (n ≤ 1000000000) by rw [H.out]; simp [h1])
        go_enter Tryz.func64, Tryz.ntmps64
        go_wp2_with fail
        refine (refPathIs_calls p hl _).mono ?_
        rintro e w1 ⟨rfl, hB1⟩
        have hc1 := look_below hB1 (W := w.alloc _) (b := w.heap.size) (o := 1) (cell_of_row _ _ 1 _ _ _ (heap_alloc_new w _))
        rw [HP.out]
        go_wp2_with fail
        go_ret
        exact ⟨by rw [H.out]; rfl, below2 hB0 hB1⟩
    · have H := Lib.hid (show keyB (p, n) = false by rw [H.out]; simp [h1])
      go_enter Tryz.func64, Tryz.ntmps64
      go_wp2_with fail
      refine (refPathIs_calls p hl _).mono ?_
      rintro e w1 ⟨rfl, hB1⟩
      have hc1 := look_below hB1 (W := w.alloc _) (b := w.heap.size) (o := 1) (cell_of_row _ _ 1 _ _ _ (heap_alloc_new w _))
      rw [HP.out]
      go_wp2_with fail
      go_ret
      exact ⟨by rw [H.out]; rfl, below2 hB0 hB1⟩

end Go.Proofs.YtaaabmnaindgaaaGreatDoor

/-
  key.First.
-/
namespace Go.Proofs.YtaaabmnaindgaaaGreatDoor
set_option maxRecDepth 100000
open Go.RowKit

set_option maxHeartbeats 2000000 in
theorem kFirst_calls (p : List UInt8) (n : Int) (hl : p.length ≤ 1000000) (w : World) (hm : Ml w) :
    Calls Tryz.prog 77 #[.string ⟨p.toArray⟩, .int .i64 n] w fun e w' => e = .returned (.tuple #[.agg #[.string ⟨(firstK p n).1.toArray⟩, .int .i64 (firstK p n).2], .int .i64 (firstE p n)]) ∧ Below w.heap.size w w' := by
  obtain ⟨m, hmn⟩ : ∃ m, min n 1000000000 = m := ⟨_, rfl⟩
  have HT := Lib.hid (show topK p n = (p, m) by unfold topK; rw [hmn])
  cases hk : keyB (topK p n) with
  | false =>
    have H1 := Lib.hid (show firstK p n = ([], 0) by simp [firstK, hk])
    have H2 := Lib.hid (show firstE p n = 1 by simp [firstE, hk])
    rw [HT.out] at hk
    have HK := Lib.hid hk
    clear hk
    rw [H1.out, H2.out]
    go_enter Tryz.func77, Tryz.ntmps77
    go_wp2_with fail
    refine (kIs_calls p m (by omega) _ (hm.below (below_alloc2 _ _ _))).mono ?_
    rintro e w1 ⟨rfl, hB1⟩
    obtain ⟨c0, c1, f0, f1, hlt⟩ := (((Cx.new w 65 [.string ⟨#[]⟩, .int .i64 0]).below (below_alloc _ _)).below hB1).two
    have hC := Lib.hid (((Cx.new w 65 [.string ⟨#[]⟩, .int .i64 0]).below (below_alloc _ _)).below hB1)
    rw [HK.out]
    go_wp2_with fail
    obtain ⟨d0, d1, _⟩ := (hC.out.sets (.string ⟨#[]⟩) (.int .i64 0)).two
    exact ret_key2 rfl rfl w.heap.size _ _ _ rfl rfl d0 d1 ⟨rfl, below_sets (below2 (below_alloc2 _ _ _) hB1) (Nat.le_refl _) _ _⟩
  | true =>
    have H1 := Lib.hid (show firstK p n = topK p n by simp [firstK, hk])
    have H2 := Lib.hid (show firstE p n = 0 by simp [firstE, hk])
    rw [HT.out] at hk
    have HK := Lib.hid hk
    clear hk
    rw [H1.out, H2.out, HT.out]
    go_enter Tryz.func77, Tryz.ntmps77
    go_wp2_with fail
    refine (kIs_calls p m (by omega) _ (hm.below (below_alloc2 _ _ _))).mono ?_
    rintro e w1 ⟨rfl, hB1⟩
    obtain ⟨c0, c1, f0, f1, hlt⟩ := (((Cx.new w 65 [.string ⟨#[]⟩, .int .i64 0]).below (below_alloc _ _)).below hB1).two
    have hC := Lib.hid (((Cx.new w 65 [.string ⟨#[]⟩, .int .i64 0]).below (below_alloc _ _)).below hB1)
    have hD := (Cx.new (w.alloc (.cells #[.string ⟨#[]⟩, .int .i64 0] 65)) 65 [.string ⟨p.toArray⟩, .int .i64 m]).below hB1
    rw [World.size_alloc] at hD
    obtain ⟨c2, c3, _⟩ := hD.two
    clear hD
    rw [HK.out]
    go_wp2_with fail
    obtain ⟨d0, d1, _⟩ := (hC.out.sets (.string ⟨p.toArray⟩) (.int .i64 m)).two
    exact ret_key2 rfl rfl w.heap.size _ _ _ rfl rfl d0 d1 ⟨rfl, below_sets (below2 (below_alloc2 _ _ _) hB1) (Nat.le_refl _) _ _⟩

end Go.Proofs.YtaaabmnaindgaaaGreatDoor
