/-
  The texts of one folder in one: KyOrd, KyRets, KyCmp, KyRefL, KyOpens.
-/
import Derived.Lib.Bytealg
import Derived.Lib.Small
import Derived.Test.YthngeponcdeneaaGreatDoorPkbase
import Derived.Test.YthngeponcdeneaaGreatDoorShelf
import Derived.Lib.SmallJoins

/-
  The order of keys, and of bytes. No program is named here.
-/
namespace Go.Proofs.YthngeponcdeneaaGreatDoor

/-- A key: its path's bytes, its time. -/
abbrev Ky := List UInt8 × Int
/-- -1, 0, 1: a stands ahead of b, is the same, stands behind. -/
def cmpK (a b : Ky) : Int := if Lib.compareBytes a.1 b.1 = 0 then Lib.compareInt b.2 a.2 else Lib.compareBytes a.1 b.1
def lessK (a b : Ky) : Bool := decide (cmpK a b < 0)
/-- The document's own order. -/
def aheadK (a b : Ky) : Bool := Op.bytesLess a.1 b.1 || (a.1 == b.1) && decide (b.2 < a.2)

/-! ### Bytes -/

theorem less_irrefl : ∀ a : List UInt8, Op.bytesLess a a = false
  | [] => rfl
  | x :: a => by
    have ih := less_irrefl a
    simp [Op.bytesLess, ih]
theorem less_trans : ∀ {a b c : List UInt8}, Op.bytesLess a b = true → Op.bytesLess b c = true → Op.bytesLess a c = true
  | _, _, [], _, h2 => by simp [Op.bytesLess] at h2
  | _, [], _ :: _, h1, _ => by simp [Op.bytesLess] at h1
  | [], _ :: _, _ :: _, _, _ => rfl
  | x :: a, y :: b, z :: c, h1, h2 => by
    have ih := @less_trans a b c
    simp only [Op.bytesLess, Bool.or_eq_true, Bool.and_eq_true, decide_eq_true_eq, beq_iff_eq] at h1 h2 ⊢
    rcases h1 with h1 | ⟨rfl, h1⟩
    · rcases h2 with h2 | ⟨rfl, h2⟩
      · exact .inl (UInt8.lt_trans h1 h2)
      · exact .inl h1
    · rcases h2 with h2 | ⟨rfl, h2⟩
      · exact .inl h2
      · exact .inr ⟨rfl, ih h1 h2⟩
theorem less_asymm {a b : List UInt8} (h : Op.bytesLess a b = true) : Op.bytesLess b a = false := by
  cases h2 : Op.bytesLess b a with
  | false => rfl
  | true =>
    have := less_trans h h2
    rw [less_irrefl] at this
    cases this
theorem less_total : ∀ {a b : List UInt8}, Op.bytesLess a b = false → a ≠ b → Op.bytesLess b a = true
  | [], [], _, h => absurd rfl h
  | [], _ :: _, h, _ => by simp [Op.bytesLess] at h
  | _ :: _, [], _, _ => rfl
  | x :: a, y :: b, h, hne => by
    have ih := @less_total a b
    simp only [Op.bytesLess, Bool.or_eq_false_iff, decide_eq_false_iff_not] at h
    simp only [Op.bytesLess, Bool.or_eq_true, Bool.and_eq_true, decide_eq_true_eq, beq_iff_eq]
    by_cases hxy : x = y
    · subst hxy
      exact .inr ⟨rfl, ih (by simpa using h.2) (fun e => hne (by rw [e]))⟩
    · exact .inl (UInt8.lt_of_le_of_ne (UInt8.not_lt.1 h.1) (Ne.symm hxy))
theorem cmp_less : ∀ a b : List UInt8, Lib.compareBytes a b = if Op.bytesLess a b = true then -1 else if a = b then 0 else 1
  | [], [] => rfl
  | [], _ :: _ => rfl
  | _ :: _, [] => by simp [Lib.compareBytes, Op.bytesLess]
  | x :: a, y :: b => by
    have ih := cmp_less a b
    rw [Lib.compareBytes, Op.bytesLess]
    by_cases hlt : x < y
    · simp [hlt]
    · by_cases hgt : y < x
      · have hne : x ≠ y := fun e => by subst e; exact UInt8.lt_irrefl _ hgt
        simp [hlt, hgt, hne]
      · obtain rfl : x = y := UInt8.le_antisymm (UInt8.not_lt.1 hgt) (UInt8.not_lt.1 hlt)
        rw [ih]
        simp [hlt]
theorem cmp_self (a : List UInt8) : Lib.compareBytes a a = 0 := by rw [cmp_less, less_irrefl]; simp
theorem cmp_zero {a b : List UInt8} (h : Lib.compareBytes a b = 0) : a = b := by
  rw [cmp_less] at h
  split at h
  · cases h
  · split at h
    · assumption
    · cases h
theorem cmp_swap (a b : List UInt8) : Lib.compareBytes b a = - Lib.compareBytes a b := by
  rw [cmp_less, cmp_less]
  cases h : Op.bytesLess a b with
  | true =>
    have h1 := less_asymm h
    have h2 : b ≠ a := by
      rintro rfl
      rw [less_irrefl] at h; cases h
    simp [h1, h2]
  | false =>
    by_cases hab : a = b
    · subst hab; simp [h]
    · have h1 := less_total h hab
      simp [h1, hab]
theorem int_swap (x y : Int) : Lib.compareInt y x = - Lib.compareInt x y := by
  unfold Lib.compareInt
  split <;> split <;> (try split) <;> omega

/-! ### The order of keys -/

theorem cmpK_swap (a b : Ky) : cmpK b a = - cmpK a b := by
  unfold cmpK
  rw [cmp_swap a.1 b.1, int_swap b.2 a.2]
  split <;> split <;> omega
theorem cmpK_self (a : Ky) : cmpK a a = 0 := by
  unfold cmpK
  rw [if_pos (cmp_self _)]
  unfold Lib.compareInt
  simp
theorem cmpK_zero {a b : Ky} (h : cmpK a b = 0) : a = b := by
  unfold cmpK at h
  split at h
  · rename_i h1
    have e1 := cmp_zero h1
    have e2 : a.2 = b.2 := by
      unfold Lib.compareInt at h
      split at h
      · cases h
      · split at h
        · cases h
        · omega
    exact Prod.ext e1 e2
  · rename_i h1
    exact absurd h h1
theorem cmpK_ahead (a b : Ky) : cmpK a b = if aheadK a b = true then -1 else if aheadK b a = true then 1 else 0 := by
  unfold cmpK aheadK
  rw [cmp_less]
  cases h : Op.bytesLess a.1 b.1 with
  | true => simp
  | false =>
    by_cases hab : a.1 = b.1
    · rw [← hab, less_irrefl]
      unfold Lib.compareInt
      simp
    · have h1 := less_total h hab
      simp [h1, hab]
theorem lessK_ahead (a b : Ky) : lessK a b = aheadK a b := by
  unfold lessK
  rw [cmpK_ahead]
  cases h : aheadK a b with
  | true => simp
  | false =>
    cases h2 : aheadK b a with
    | true => simp
    | false => simp
theorem lessK_trans {a b c : Ky} (h1 : lessK a b = true) (h2 : lessK b c = true) : lessK a c = true := by
  rw [lessK_ahead] at h1 h2 ⊢
  unfold aheadK at h1 h2 ⊢
  simp only [Bool.or_eq_true, Bool.and_eq_true, beq_iff_eq, decide_eq_true_eq] at h1 h2 ⊢
  rcases h1 with h1 | ⟨e1, h1⟩
  · rcases h2 with h2 | ⟨e2, h2⟩
    · exact .inl (less_trans h1 h2)
    · exact .inl (e2 ▸ h1)
  · rcases h2 with h2 | ⟨e2, h2⟩
    · exact .inl (e1 ▸ h2)
    · exact .inr ⟨e1.trans e2, by omega⟩
theorem lessK_asymm {a b : Ky} (h : lessK a b = true) : lessK b a = false := by
  unfold lessK at h ⊢
  rw [cmpK_swap a b]
  simp only [decide_eq_true_eq, decide_eq_false_iff_not] at h ⊢
  omega
theorem ahead_app (d : List UInt8) (x : UInt8) : ∀ r, Op.bytesLess d (d ++ x :: r) = true := by
  intro r
  induction d with
  | nil => rfl
  | cons y d ih => simp [Op.bytesLess, ih]

end Go.Proofs.YthngeponcdeneaaGreatDoor

/-
  A key and an error's number as results.
-/
namespace Go.Proofs.YthngeponcdeneaaGreatDoor
open Go.RowKit

theorem key_size : (Tryz.prog.info? 39).map (·.size) = some 2 := by kernel_rfl
theorem load_key (w : World) (g : Nat) (v0 v1 : Value) (c0 : w.cell? ⟨g, 0, none⟩ = some v0) (c1 : w.cell? ⟨g, 1, none⟩ = some v1) : (loadVar 39 ⟨g, 0, none⟩).run Tryz.prog w = .ok (.agg #[v0, v1]) w :=
  load_two Tryz.underlying39 key_size w g 0 v0 v1 c0 c1
/-- A key and an error's number are what comes out of a call. -/
theorem ret_key2 {fn : Func} {p q : Tmp} {R : Ending → World → Prop} {a : Act} {w : World} (h : fn.results = #[.cell p 39, .tmp q]) (hd : a.defers = []) (g : Nat) (v0 v1 v2 : Value) (hp : a.tmps.getD p undef = .pointer (some ⟨g, 0, none⟩))
    (hq : a.tmps.getD q undef = v2) (c0 : w.cell? ⟨g, 0, none⟩ = some v0) (c1 : w.cell? ⟨g, 1, none⟩ = some v1) (hR : R (.returned (.tuple #[.agg #[v0, v1], v2])) w) : bodyPost Tryz.prog fn R .ret a w := by
  refine bodyPost_ret (v := .tuple #[.agg #[v0, v1], v2]) ?_ hd hR
  have hp' : a.tmps[p]?.getD undef = .pointer (some ⟨g, 0, none⟩) := by simpa using hp
  have hq' : a.tmps[q]?.getD undef = v2 := by simpa using hq
  simp [results, h, hp', hq', asAddr, load_key w g v0 v1 c0 c1]

theorem Cx.two {w : World} {b : Nat} {t : TypeId} {v0 v1 : Value} (h : Cx w b t [v0, v1]) : w.cell? ⟨b, 0, none⟩ = some v0 ∧ w.cell? ⟨b, 1, none⟩ = some v1 ∧ w.frozen? ⟨b, 0, none⟩ = false ∧ w.frozen? ⟨b, 1, none⟩ = false ∧ b < w.heap.size :=
  ⟨h.cell rfl, h.cell rfl, h.frozen _, h.frozen _, h.lt⟩
theorem Cx.sets {w : World} {b : Nat} {t : TypeId} {v0 v1 : Value} (h : Cx w b t [v0, v1]) (x y : Value) : Cx ((w.setCell ⟨b, 0, none⟩ x).setCell ⟨b, 1, none⟩ y) b t [x, y] := (h.set 0 x).set 1 y
theorem below_sets {B : Nat} {w w' : World} {b : Nat} (h : Below B w w') (hb : B ≤ b) (x y : Value) : Below B w ((w'.setCell ⟨b, 0, none⟩ x).setCell ⟨b, 1, none⟩ y) := (h.setCell hb _).setCell hb _

end Go.Proofs.YthngeponcdeneaaGreatDoor

/-
  key.Compare, Less: the two steps, and the loop over them.
-/
namespace Go.Proofs.YthngeponcdeneaaGreatDoor
open Go.RowKit

set_option maxHeartbeats 1000000 in
theorem byPath_calls (p q : List UInt8) (n m : Int) (w : World) :
    Calls Tryz.prog 85 #[.agg #[.string ⟨p.toArray⟩, .int .i64 n], .agg #[.string ⟨q.toArray⟩, .int .i64 m]] w fun e w' => e = .returned (.int .i64 (Lib.compareBytes p q)) ∧ Below w.heap.size w w' := by
  go_enter Tryz.func85, Tryz.ntmps85
  go_wp2_with (go_at_call 97; refine (Tryz.strings_Compare _ _ _).mono ?_; rintro e w1 ⟨rfl, rfl⟩)
  go_ret
  exact ⟨rfl, below_alloc2 _ _ _⟩

set_option maxHeartbeats 1000000 in
theorem byAt_calls (p q : List UInt8) (n m : Int) (w : World) :
    Calls Tryz.prog 86 #[.agg #[.string ⟨p.toArray⟩, .int .i64 n], .agg #[.string ⟨q.toArray⟩, .int .i64 m]] w fun e w' => e = .returned (.int .i64 (Lib.compareInt m n)) ∧ Below w.heap.size w w' := by
  go_enter Tryz.func86, Tryz.ntmps86
  go_wp2_with (go_at_call 98; refine (Tryz.cmp_Compare_int _ _ _).mono ?_; rintro e w1 ⟨rfl, rfl⟩)
  go_ret
  exact ⟨rfl, below_alloc2 _ _ _⟩

/-- The two steps, in a row of two functions. -/
def Steps2 (w : World) (v : Value) : Prop := ∃ b, v = .slice (some ⟨b, 0, none⟩) 2 2 ∧ w.cell? ⟨b, 0, none⟩ = some (.func (.func 85) #[] #[]) ∧ w.cell? ⟨b, 1, none⟩ = some (.func (.func 86) #[] #[])

theorem steps_new (w : World) (o1 o2 : Obj) : Steps2 (((w.alloc o1).alloc o2).alloc (.cells #[.func (.func 85) #[] #[], .func (.func 86) #[] #[]] 135)) (.slice (some ⟨w.heap.size + 1 + 1, 0, none⟩) 2 2) := by
  have h := heap_alloc_new ((w.alloc o1).alloc o2) (.cells #[.func (.func 85) #[] #[], .func (.func 86) #[] #[]] 135)
  rw [World.size_alloc, World.size_alloc] at h
  exact ⟨_, rfl, cell_of_row _ _ 0 _ _ _ h, cell_of_row _ _ 1 _ _ _ h⟩

set_option maxHeartbeats 2000000 in
theorem compare_calls (p q : List UInt8) (n m : Int) (v : Value) (w : World) (hs : Steps2 w v) :
    Calls Tryz.prog 84 #[.agg #[.string ⟨p.toArray⟩, .int .i64 n], .agg #[.string ⟨q.toArray⟩, .int .i64 m], v] w fun e w' => e = .returned (.int .i64 (cmpK (p, n) (q, m))) ∧ Below w.heap.size w w' := by
  obtain ⟨b, rfl, s0, s1⟩ := hs
  have hW := below_alloc2 w (.cells #[.string ⟨p.toArray⟩, .int .i64 n] 134) (.cells #[.string ⟨q.toArray⟩, .int .i64 m] 134)
  have hS0 := Lib.hid (look_below hW s0)
  have hS1 := Lib.hid (look_below hW s1)
  have hX := Lib.hid ((Cx.new w 134 [.string ⟨p.toArray⟩, .int .i64 n]).below (below_alloc _ (.cells #[.string ⟨q.toArray⟩, .int .i64 m] 134)))
  have hY := Lib.hid (Cx.new (w.alloc (.cells #[.string ⟨p.toArray⟩, .int .i64 n] 134)) 134 [.string ⟨q.toArray⟩, .int .i64 m])
  clear s0 s1
  obtain ⟨cp, hcp⟩ : ∃ c, Lib.compareBytes p q = c := ⟨_, rfl⟩
  obtain ⟨cn, hcn⟩ : ∃ c, Lib.compareInt m n = c := ⟨_, rfl⟩
  have HR := Lib.hid (show cmpK (p, n) (q, m) = if cp = 0 then cn else cp by rw [← hcp, ← hcn]; rfl)
  have HP := Lib.hid hcp
  have HN := Lib.hid hcn
  clear hcp hcn
  go_enter Tryz.func84, Tryz.ntmps84
  go_wp2_with fail
  go_loopw [12] (fun i wr => ∃ k : Nat, k ≤ 2 ∧ i = .int .i64 k ∧ (1 ≤ k → cp = 0) ∧ (2 ≤ k → cn = 0) ∧ Below ((w.alloc (.cells #[.string ⟨p.toArray⟩, .int .i64 n] 134)).alloc (.cells #[.string ⟨q.toArray⟩, .int .i64 m] 134)).heap.size ((w.alloc (.cells #[.string ⟨p.toArray⟩, .int .i64 n] 134)).alloc (.cells #[.string ⟨q.toArray⟩, .int .i64 m] 134)) wr) (fun i _ => 2 - (intOf i).toNat)
  case atStart => exact ⟨0, by omega, rfl, fun h => by omega, fun h => by omega, Below.refl _ _⟩
  case round =>
    obtain ⟨k, hk, rfl, h1, h2, hB⟩ := hrel
    have t0 := look_below hB hS0.out
    have t1 := look_below hB hS1.out
    obtain ⟨c0, c1, _⟩ := (hX.out.below hB).two
    have hYb := hY.out.below hB
    rw [World.size_alloc] at hYb
    obtain ⟨d0, d1, _⟩ := hYb.two
    clear hYb
    rcases (by omega : k = 0 ∨ k = 1 ∨ k = 2) with rfl | rfl | rfl
    · clear h1 h2
      by_cases h0 : cp = 0
      · have H0 := Lib.hid h0
        subst h0
        go_wp2_with fail
        refine (byPath_calls p q n m _).mono ?_
        rintro e w1 ⟨rfl, hB1⟩
        rw [HP.out]
        go_wp2_with fail
        go_roundw
        case rel => exact ⟨1, by omega, rfl, fun _ => by simp, fun h => by omega, below2 hB hB1⟩
        case measure => simp [intOf]
      · have hb : (cp == 0) = false := by simpa using h0
        have H0 := Lib.hid h0
        clear h0
        go_wp2_with fail
        refine (byPath_calls p q n m _).mono ?_
        rintro e w1 ⟨rfl, hB1⟩
        rw [HP.out]
        go_wp2_with fail
        go_ret
        exact ⟨by rw [HR.out, if_neg H0.out]; rfl, below3 hW hB hB1⟩
    · obtain rfl := h1 (by omega)
      clear h1 h2
      by_cases h0 : cn = 0
      · subst h0
        go_wp2_with fail
        refine (byAt_calls p q n m _).mono ?_
        rintro e w1 ⟨rfl, hB1⟩
        rw [HN.out]
        go_wp2_with fail
        go_roundw
        case rel => exact ⟨2, by omega, rfl, fun _ => by simp, fun _ => by simp, below2 hB hB1⟩
        case measure => simp [intOf]
      · have hb : (cn == 0) = false := by simpa using h0
        clear h0
        go_wp2_with fail
        refine (byAt_calls p q n m _).mono ?_
        rintro e w1 ⟨rfl, hB1⟩
        rw [HN.out]
        go_wp2_with fail
        go_ret
        exact ⟨by rw [HR.out]; simp, below3 hW hB hB1⟩
    · obtain rfl := h1 (by omega)
      obtain rfl := h2 (by omega)
      clear h1 h2
      go_wp2_with fail
      go_ret
      exact ⟨by rw [HR.out]; simp, below2 hW hB⟩

set_option maxHeartbeats 1000000 in
theorem kCompare_calls (p q : List UInt8) (n m : Int) (w : World) :
    Calls Tryz.prog 72 #[.agg #[.string ⟨p.toArray⟩, .int .i64 n], .agg #[.string ⟨q.toArray⟩, .int .i64 m]] w fun e w' => e = .returned (.int .i64 (cmpK (p, n) (q, m))) ∧ Below w.heap.size w w' := by
  go_enter Tryz.func72, Tryz.ntmps72
  go_wp2_with fail
  refine (compare_calls p q n m _ _ (steps_new w _ _)).mono ?_
  rintro e w1 ⟨rfl, hB1⟩
  go_wp2_with fail
  go_ret
  exact ⟨rfl, below2 (below_alloc3 _ _ _ _) hB1⟩

set_option maxHeartbeats 1000000 in
theorem kLess_calls (p q : List UInt8) (n m : Int) (w : World) :
    Calls Tryz.prog 54 #[.agg #[.string ⟨p.toArray⟩, .int .i64 n], .agg #[.string ⟨q.toArray⟩, .int .i64 m]] w fun e w' => e = .returned (.bool (lessK (p, n) (q, m))) ∧ Below w.heap.size w w' := by
  go_enter Tryz.func54, Tryz.ntmps54
  go_wp2_with fail
  refine (kCompare_calls p q n m _).mono ?_
  rintro e w1 ⟨rfl, hB1⟩
  go_wp2_with fail
  go_ret
  exact ⟨rfl, below2 (below_alloc2 _ _ _) hB1⟩

end Go.Proofs.YthngeponcdeneaaGreatDoor

/-
  The document's own Less of keys.
-/
namespace Go.Proofs.YthngeponcdeneaaGreatDoor
open Go.RowKit

set_option maxHeartbeats 1000000 in
theorem kRefLess_calls (p q : List UInt8) (n m : Int) (w : World) :
    Calls Tryz.prog 42 #[.agg #[.string ⟨p.toArray⟩, .int .i64 n], .agg #[.string ⟨q.toArray⟩, .int .i64 m]] w fun e w' => e = .returned (.bool (aheadK (p, n) (q, m))) ∧ Below w.heap.size w w' := by
  cases h1 : Op.bytesLess p q with
  | true =>
    have H := Lib.hid (show aheadK (p, n) (q, m) = true by simp [aheadK, h1])
    go_enter Tryz.func42, Tryz.ntmps42
    go_wp2_with fail
    go_ret
    exact ⟨by rw [H.out]; rfl, below_alloc2 _ _ _⟩
  | false =>
    cases h2 : (p == q) with
    | false =>
      have H := Lib.hid (show aheadK (p, n) (q, m) = false by simp [aheadK, h1, h2])
      go_enter Tryz.func42, Tryz.ntmps42
      go_wp2_with fail
      go_ret
      exact ⟨by rw [H.out]; rfl, below_alloc2 _ _ _⟩
    | true =>
      have H := Lib.hid (show aheadK (p, n) (q, m) = decide (m < n) by simp [aheadK, h1, h2])
      go_enter Tryz.func42, Tryz.ntmps42
      go_wp2_with fail
      go_ret
      exact ⟨by rw [H.out]; rfl, below_alloc2 _ _ _⟩

end Go.Proofs.YthngeponcdeneaaGreatDoor

/-
  A key that came in, opened.
-/
namespace Go.Proofs.YthngeponcdeneaaGreatDoor
set_option maxRecDepth 100000
open Go.RowKit Go.Joins Go.ChangeShapes Go.WideShapes

theorem keyCells : Tryz.prog.cellsOf 39 = 2 := by kernel_rfl
set_option maxRecDepth 100000 in
/-- A key that came in. -/
theorem key_open {W : World} {base : Nat} {v : Value} {H : Type} {enc : TypeId × Value → H} {d : DataW H} {p : List MemPlace} (hv : Value.okWide Tryz.prog W .any base 39 v)
    (h : DataW.Trod enc Tryz.prog W 0 (fun _ => true) true 39 v d p) : ∃ (l : List UInt8) (z : Int), v = .agg #[.string ⟨l.toArray⟩, .int .i64 z] ∧ (Lit.int .i64 z).wf = true := by
  obtain ⟨c0, c1, y0, y1, n, rfl, _, _, t0, t1⟩ := open_agg2 Tryz.underlying39 (by kernel_rfl) keyCells hv h
  obtain ⟨s, e0, _, _⟩ := DataW.trod_string Tryz.underlying9 t0
  obtain ⟨z, e1, _, w1⟩ := DataW.trod_int Tryz.underlying3 t1
  simp at e0 e1
  subst e0
  subst e1
  obtain ⟨l, rfl⟩ := bytes_list s
  exact ⟨l, z, rfl, w1⟩

end Go.Proofs.YthngeponcdeneaaGreatDoor
