/-
  The walk of KeyOrder.
-/
import Derived.Test.YtaoiiocgnnjnnaaDoorKeyed
import Derived.Test.YtaoiiocgnnjnnaaDoorShort
namespace Go.Proofs.YtaoiiocgnnjnnaaDoor
open Go.RowKit

theorem order_three (a b : Ky) : (a = b ∧ cmpK a b = 0 ∧ cmpK b a = 0 ∧ lessK a b = false) ∨ (a ≠ b ∧ cmpK a b = -1 ∧ cmpK b a = 1 ∧ lessK a b = true) ∨ (a ≠ b ∧ cmpK a b = 1 ∧ cmpK b a = -1 ∧ lessK a b = false) := by
  rw [cmpK_swap a b]
  unfold lessK
  have hz := @cmpK_zero a b
  have hs := cmpK_self a
  rw [cmpK_ahead] at hz ⊢
  split
  · refine .inr (.inl ⟨?_, rfl, rfl, rfl⟩)
    rintro rfl
    rw [cmpK_ahead] at hs
    simp_all
  · split
    · refine .inr (.inr ⟨?_, rfl, rfl, rfl⟩)
      rintro rfl
      simp_all
    · refine .inl ⟨hz ?_, rfl, rfl, rfl⟩
      rw [if_neg (by assumption), if_neg (by assumption)]

theorem below_alloc4 (w : World) (o1 o2 o3 o4 : Obj) : Below w.heap.size w ((((w.alloc o1).alloc o2).alloc o3).alloc o4) := (below_alloc3 w o1 o2 o3).alloc (by simp; omega) o4
theorem ky_ne {p q : List UInt8} {n m : Int} (h : ((p, n) : Ky) ≠ (q, m)) : (p == q) = false ∨ (p == q) = true ∧ (n == m) = false := by
  cases h1 : (p == q) with
  | false => exact .inl rfl
  | true =>
    cases h2 : (n == m) with
    | false => exact .inr ⟨rfl, rfl⟩
    | true => exact absurd (Prod.ext (by simpa using h1) (by simpa using h2)) h

set_option maxRecDepth 100000 in
set_option maxHeartbeats 16000000 in
theorem keyOrder_first (p q r : List UInt8) (n m k : Int) (w : World) (hm : Ml w) (h1 : p.length ≤ 300) (h2 : q.length ≤ 300)
    (C0 : Hid (Calls Tryd.prog 8 #[.slice (some ⟨w.heap.size + 1 + 1 + 1, 0, none⟩) [p, q, r].length [p, q, r].length] ((((w.alloc (.cells #[.string ⟨p.toArray⟩, .int .i64 n] 23)).alloc (.cells #[.string ⟨q.toArray⟩, .int .i64 m] 23)).alloc (.cells #[.string ⟨r.toArray⟩, .int .i64 k] 23)).alloc (.cells ([p, q, r].map SV).toArray 9)) fun e w' => e = .returned (.bool true) ∧ ((((w.alloc (.cells #[.string ⟨p.toArray⟩, .int .i64 n] 23)).alloc (.cells #[.string ⟨q.toArray⟩, .int .i64 m] 23)).alloc (.cells #[.string ⟨r.toArray⟩, .int .i64 k] 23)).alloc (.cells ([p, q, r].map SV).toArray 9)) = w'))
    (e1 : putE (p, n) = 1) :
    Calls Tryd.prog 5 #[.agg #[.string ⟨p.toArray⟩, .int .i64 n], .agg #[.string ⟨q.toArray⟩, .int .i64 m], .agg #[.string ⟨r.toArray⟩, .int .i64 k]] w fun e w' => e = .returned (.bool true) ∧ Below w.heap.size w w' := by
  have hB0 := below_alloc4 w (.cells #[.string ⟨p.toArray⟩, .int .i64 n] 23) (.cells #[.string ⟨q.toArray⟩, .int .i64 m] 23) (.cells #[.string ⟨r.toArray⟩, .int .i64 k] 23) (.cells ([p, q, r].map SV).toArray 9)
  have hm0 := hm.below hB0
  have hA := Lib.hid ((Cx.new w 23 [.string ⟨p.toArray⟩, .int .i64 n]).below (below_alloc3 _ (.cells #[.string ⟨q.toArray⟩, .int .i64 m] 23) (.cells #[.string ⟨r.toArray⟩, .int .i64 k] 23) (.cells ([p, q, r].map SV).toArray 9)))
  have hBq := (Cx.new (w.alloc (.cells #[.string ⟨p.toArray⟩, .int .i64 n] 23)) 23 [.string ⟨q.toArray⟩, .int .i64 m]).below (below_alloc2 _ (.cells #[.string ⟨r.toArray⟩, .int .i64 k] 23) (.cells ([p, q, r].map SV).toArray 9))
  have hCr := (Cx.new ((w.alloc (.cells #[.string ⟨p.toArray⟩, .int .i64 n] 23)).alloc (.cells #[.string ⟨q.toArray⟩, .int .i64 m] 23)) 23 [.string ⟨r.toArray⟩, .int .i64 k]).below (below_alloc _ (.cells ([p, q, r].map SV).toArray 9))
  simp only [World.size_alloc] at hBq hCr
  have hB := Lib.hid hBq
  have hC := Lib.hid hCr
  clear hBq hCr
  have HA := Lib.hid e1
  obtain ⟨ta, hta⟩ : ∃ t, putT (p, n) = t := ⟨_, rfl⟩
  obtain ⟨tb, htb⟩ : ∃ t, putT (q, m) = t := ⟨_, rfl⟩
  have TA := Lib.hid hta
  have TB := Lib.hid htb
  clear hta htb e1
  rcases order_three (p, n) (q, m) with ⟨he, x1, x2, x3⟩ | ⟨he, x1, x2, x3⟩ | ⟨he, x1, x2, x3⟩
  · have X1 := Lib.hid x1
    have X2 := Lib.hid x2
    have X3 := Lib.hid x3
    clear x1 x2
    obtain ⟨rfl, rfl⟩ := Prod.mk.inj he
    clear x3
    go_enter Tryd.func5, Tryd.ntmps5
    go_wp2_with fail
    refine C0.out.mono ?_
    rintro e w0 ⟨rfl, rfl⟩
    go_wp2_with fail
    refine (kPut_calls p n (by omega) _ hm0).mono ?_
    rintro e w1 ⟨rfl, hB1⟩
    rw [TA.out]
    rw [HA.out]
    have hW1 := hB1
    obtain ⟨a0, a1, _⟩ := (hA.out.below hW1).two
    obtain ⟨b0, b1, _⟩ := (hB.out.below hW1).two
    obtain ⟨c0, c1, _⟩ := (hC.out.below hW1).two
    go_wp2_with fail
    refine (kPut_calls p n (by omega) _ (hm0.below hW1)).mono ?_
    rintro e w2 ⟨rfl, hB2⟩
    rw [TB.out]
    have hW2 := below2 hW1 hB2
    replace a0 := look_below hB2 a0
    replace a1 := look_below hB2 a1
    replace b0 := look_below hB2 b0
    replace b1 := look_below hB2 b1
    replace c0 := look_below hB2 c0
    replace c1 := look_below hB2 c1
    go_wp2_with fail
    refine (kLess_calls p p n n _).mono ?_
    rintro e w3 ⟨rfl, hB3⟩
    rw [X3.out]
    have hW3 := below2 hW2 hB3
    replace a0 := look_below hB3 a0
    replace a1 := look_below hB3 a1
    replace b0 := look_below hB3 b0
    replace b1 := look_below hB3 b1
    replace c0 := look_below hB3 c0
    replace c1 := look_below hB3 c1
    go_wp2_with fail
    refine (kCompare_calls p p n n _).mono ?_
    rintro e w4 ⟨rfl, hB4⟩
    rw [X1.out]
    have hW4 := below2 hW3 hB4
    replace a0 := look_below hB4 a0
    replace a1 := look_below hB4 a1
    replace b0 := look_below hB4 b0
    replace b1 := look_below hB4 b1
    replace c0 := look_below hB4 c0
    replace c1 := look_below hB4 c1
    go_wp2_with fail
    refine (keyed_calls _ (hm0.below hW4)).mono ?_
    rintro e w5 ⟨rfl, hB5⟩
    have hW5 := below2 hW4 hB5
    replace a0 := look_below hB5 a0
    replace a1 := look_below hB5 a1
    replace b0 := look_below hB5 b0
    replace b1 := look_below hB5 b1
    replace c0 := look_below hB5 c0
    replace c1 := look_below hB5 c1
    go_wp2_with fail
    refine (kCompare_calls p p n n _).mono ?_
    rintro e w6 ⟨rfl, hB6⟩
    rw [X2.out]
    have hW6 := below2 hW5 hB6
    replace a0 := look_below hB6 a0
    replace a1 := look_below hB6 a1
    replace b0 := look_below hB6 b0
    replace b1 := look_below hB6 b1
    replace c0 := look_below hB6 c0
    replace c1 := look_below hB6 c1
    go_wp2_with fail
    refine (kLess_calls p p n n _).mono ?_
    rintro e w7 ⟨rfl, hB7⟩
    rw [X3.out]
    have hW7 := below2 hW6 hB7
    replace a0 := look_below hB7 a0
    replace a1 := look_below hB7 a1
    replace b0 := look_below hB7 b0
    replace b1 := look_below hB7 b1
    replace c0 := look_below hB7 c0
    replace c1 := look_below hB7 c1
    go_wp2_with fail
    go_ret
    exact ⟨rfl, below2 hB0 hW7⟩
  · have X1 := Lib.hid x1
    have X2 := Lib.hid x2
    have X3 := Lib.hid x3
    clear x1 x2
    rcases ky_ne he with hE | ⟨hE, hE2⟩
    · clear he
      cases hbc : lessK (q, m) (r, k) with
      | false =>
        have L2 := Lib.hid hbc
        clear hbc x3
        go_enter Tryd.func5, Tryd.ntmps5
        go_wp2_with fail
        refine C0.out.mono ?_
        rintro e w0 ⟨rfl, rfl⟩
        go_wp2_with fail
        refine (kPut_calls p n (by omega) _ hm0).mono ?_
        rintro e w1 ⟨rfl, hB1⟩
        rw [TA.out]
        rw [HA.out]
        have hW1 := hB1
        obtain ⟨a0, a1, _⟩ := (hA.out.below hW1).two
        obtain ⟨b0, b1, _⟩ := (hB.out.below hW1).two
        obtain ⟨c0, c1, _⟩ := (hC.out.below hW1).two
        go_wp2_with fail
        refine (kPut_calls q m (by omega) _ (hm0.below hW1)).mono ?_
        rintro e w2 ⟨rfl, hB2⟩
        rw [TB.out]
        have hW2 := below2 hW1 hB2
        replace a0 := look_below hB2 a0
        replace a1 := look_below hB2 a1
        replace b0 := look_below hB2 b0
        replace b1 := look_below hB2 b1
        replace c0 := look_below hB2 c0
        replace c1 := look_below hB2 c1
        go_wp2_with fail
        refine (kLess_calls p q n m _).mono ?_
        rintro e w3 ⟨rfl, hB3⟩
        rw [X3.out]
        have hW3 := below2 hW2 hB3
        replace a0 := look_below hB3 a0
        replace a1 := look_below hB3 a1
        replace b0 := look_below hB3 b0
        replace b1 := look_below hB3 b1
        replace c0 := look_below hB3 c0
        replace c1 := look_below hB3 c1
        go_wp2_with fail
        refine (kLess_calls q r m k _).mono ?_
        rintro e w4 ⟨rfl, hB4⟩
        rw [L2.out]
        have hW4 := below2 hW3 hB4
        replace a0 := look_below hB4 a0
        replace a1 := look_below hB4 a1
        replace b0 := look_below hB4 b0
        replace b1 := look_below hB4 b1
        replace c0 := look_below hB4 c0
        replace c1 := look_below hB4 c1
        go_wp2_with fail
        refine (kCompare_calls p q n m _).mono ?_
        rintro e w5 ⟨rfl, hB5⟩
        rw [X1.out]
        have hW5 := below2 hW4 hB5
        replace a0 := look_below hB5 a0
        replace a1 := look_below hB5 a1
        replace b0 := look_below hB5 b0
        replace b1 := look_below hB5 b1
        replace c0 := look_below hB5 c0
        replace c1 := look_below hB5 c1
        go_wp2_with fail
        refine (keyed_calls _ (hm0.below hW5)).mono ?_
        rintro e w6 ⟨rfl, hB6⟩
        have hW6 := below2 hW5 hB6
        replace a0 := look_below hB6 a0
        replace a1 := look_below hB6 a1
        replace b0 := look_below hB6 b0
        replace b1 := look_below hB6 b1
        replace c0 := look_below hB6 c0
        replace c1 := look_below hB6 c1
        go_wp2_with fail
        refine (kCompare_calls q p m n _).mono ?_
        rintro e w7 ⟨rfl, hB7⟩
        rw [X2.out]
        have hW7 := below2 hW6 hB7
        replace a0 := look_below hB7 a0
        replace a1 := look_below hB7 a1
        replace b0 := look_below hB7 b0
        replace b1 := look_below hB7 b1
        replace c0 := look_below hB7 c0
        replace c1 := look_below hB7 c1
        go_wp2_with fail
        refine (kLess_calls p q n m _).mono ?_
        rintro e w8 ⟨rfl, hB8⟩
        rw [X3.out]
        have hW8 := below2 hW7 hB8
        replace a0 := look_below hB8 a0
        replace a1 := look_below hB8 a1
        replace b0 := look_below hB8 b0
        replace b1 := look_below hB8 b1
        replace c0 := look_below hB8 c0
        replace c1 := look_below hB8 c1
        go_wp2_with fail
        go_ret
        exact ⟨rfl, below2 hB0 hW8⟩
      | true =>
        have L2 := Lib.hid hbc
        have L3 := Lib.hid (lessK_trans x3 hbc)
        clear hbc x3
        go_enter Tryd.func5, Tryd.ntmps5
        go_wp2_with fail
        refine C0.out.mono ?_
        rintro e w0 ⟨rfl, rfl⟩
        go_wp2_with fail
        refine (kPut_calls p n (by omega) _ hm0).mono ?_
        rintro e w1 ⟨rfl, hB1⟩
        rw [TA.out]
        rw [HA.out]
        have hW1 := hB1
        obtain ⟨a0, a1, _⟩ := (hA.out.below hW1).two
        obtain ⟨b0, b1, _⟩ := (hB.out.below hW1).two
        obtain ⟨c0, c1, _⟩ := (hC.out.below hW1).two
        go_wp2_with fail
        refine (kPut_calls q m (by omega) _ (hm0.below hW1)).mono ?_
        rintro e w2 ⟨rfl, hB2⟩
        rw [TB.out]
        have hW2 := below2 hW1 hB2
        replace a0 := look_below hB2 a0
        replace a1 := look_below hB2 a1
        replace b0 := look_below hB2 b0
        replace b1 := look_below hB2 b1
        replace c0 := look_below hB2 c0
        replace c1 := look_below hB2 c1
        go_wp2_with fail
        refine (kLess_calls p q n m _).mono ?_
        rintro e w3 ⟨rfl, hB3⟩
        rw [X3.out]
        have hW3 := below2 hW2 hB3
        replace a0 := look_below hB3 a0
        replace a1 := look_below hB3 a1
        replace b0 := look_below hB3 b0
        replace b1 := look_below hB3 b1
        replace c0 := look_below hB3 c0
        replace c1 := look_below hB3 c1
        go_wp2_with fail
        refine (kLess_calls q r m k _).mono ?_
        rintro e w4 ⟨rfl, hB4⟩
        rw [L2.out]
        have hW4 := below2 hW3 hB4
        replace a0 := look_below hB4 a0
        replace a1 := look_below hB4 a1
        replace b0 := look_below hB4 b0
        replace b1 := look_below hB4 b1
        replace c0 := look_below hB4 c0
        replace c1 := look_below hB4 c1
        go_wp2_with fail
        refine (kLess_calls p r n k _).mono ?_
        rintro e w5 ⟨rfl, hB5⟩
        rw [L3.out]
        have hW5 := below2 hW4 hB5
        replace a0 := look_below hB5 a0
        replace a1 := look_below hB5 a1
        replace b0 := look_below hB5 b0
        replace b1 := look_below hB5 b1
        replace c0 := look_below hB5 c0
        replace c1 := look_below hB5 c1
        go_wp2_with fail
        refine (kCompare_calls p q n m _).mono ?_
        rintro e w6 ⟨rfl, hB6⟩
        rw [X1.out]
        have hW6 := below2 hW5 hB6
        replace a0 := look_below hB6 a0
        replace a1 := look_below hB6 a1
        replace b0 := look_below hB6 b0
        replace b1 := look_below hB6 b1
        replace c0 := look_below hB6 c0
        replace c1 := look_below hB6 c1
        go_wp2_with fail
        refine (keyed_calls _ (hm0.below hW6)).mono ?_
        rintro e w7 ⟨rfl, hB7⟩
        have hW7 := below2 hW6 hB7
        replace a0 := look_below hB7 a0
        replace a1 := look_below hB7 a1
        replace b0 := look_below hB7 b0
        replace b1 := look_below hB7 b1
        replace c0 := look_below hB7 c0
        replace c1 := look_below hB7 c1
        go_wp2_with fail
        refine (kCompare_calls q p m n _).mono ?_
        rintro e w8 ⟨rfl, hB8⟩
        rw [X2.out]
        have hW8 := below2 hW7 hB8
        replace a0 := look_below hB8 a0
        replace a1 := look_below hB8 a1
        replace b0 := look_below hB8 b0
        replace b1 := look_below hB8 b1
        replace c0 := look_below hB8 c0
        replace c1 := look_below hB8 c1
        go_wp2_with fail
        refine (kLess_calls p q n m _).mono ?_
        rintro e w9 ⟨rfl, hB9⟩
        rw [X3.out]
        have hW9 := below2 hW8 hB9
        replace a0 := look_below hB9 a0
        replace a1 := look_below hB9 a1
        replace b0 := look_below hB9 b0
        replace b1 := look_below hB9 b1
        replace c0 := look_below hB9 c0
        replace c1 := look_below hB9 c1
        go_wp2_with fail
        go_ret
        exact ⟨rfl, below2 hB0 hW9⟩
    · clear he
      cases hbc : lessK (q, m) (r, k) with
      | false =>
        have L2 := Lib.hid hbc
        clear hbc x3
        go_enter Tryd.func5, Tryd.ntmps5
        go_wp2_with fail
        refine C0.out.mono ?_
        rintro e w0 ⟨rfl, rfl⟩
        go_wp2_with fail
        refine (kPut_calls p n (by omega) _ hm0).mono ?_
        rintro e w1 ⟨rfl, hB1⟩
        rw [TA.out]
        rw [HA.out]
        have hW1 := hB1
        obtain ⟨a0, a1, _⟩ := (hA.out.below hW1).two
        obtain ⟨b0, b1, _⟩ := (hB.out.below hW1).two
        obtain ⟨c0, c1, _⟩ := (hC.out.below hW1).two
        go_wp2_with fail
        refine (kPut_calls q m (by omega) _ (hm0.below hW1)).mono ?_
        rintro e w2 ⟨rfl, hB2⟩
        rw [TB.out]
        have hW2 := below2 hW1 hB2
        replace a0 := look_below hB2 a0
        replace a1 := look_below hB2 a1
        replace b0 := look_below hB2 b0
        replace b1 := look_below hB2 b1
        replace c0 := look_below hB2 c0
        replace c1 := look_below hB2 c1
        go_wp2_with fail
        refine (kLess_calls p q n m _).mono ?_
        rintro e w3 ⟨rfl, hB3⟩
        rw [X3.out]
        have hW3 := below2 hW2 hB3
        replace a0 := look_below hB3 a0
        replace a1 := look_below hB3 a1
        replace b0 := look_below hB3 b0
        replace b1 := look_below hB3 b1
        replace c0 := look_below hB3 c0
        replace c1 := look_below hB3 c1
        go_wp2_with fail
        refine (kLess_calls q r m k _).mono ?_
        rintro e w4 ⟨rfl, hB4⟩
        rw [L2.out]
        have hW4 := below2 hW3 hB4
        replace a0 := look_below hB4 a0
        replace a1 := look_below hB4 a1
        replace b0 := look_below hB4 b0
        replace b1 := look_below hB4 b1
        replace c0 := look_below hB4 c0
        replace c1 := look_below hB4 c1
        go_wp2_with fail
        refine (kCompare_calls p q n m _).mono ?_
        rintro e w5 ⟨rfl, hB5⟩
        rw [X1.out]
        have hW5 := below2 hW4 hB5
        replace a0 := look_below hB5 a0
        replace a1 := look_below hB5 a1
        replace b0 := look_below hB5 b0
        replace b1 := look_below hB5 b1
        replace c0 := look_below hB5 c0
        replace c1 := look_below hB5 c1
        go_wp2_with fail
        refine (keyed_calls _ (hm0.below hW5)).mono ?_
        rintro e w6 ⟨rfl, hB6⟩
        have hW6 := below2 hW5 hB6
        replace a0 := look_below hB6 a0
        replace a1 := look_below hB6 a1
        replace b0 := look_below hB6 b0
        replace b1 := look_below hB6 b1
        replace c0 := look_below hB6 c0
        replace c1 := look_below hB6 c1
        go_wp2_with fail
        refine (kCompare_calls q p m n _).mono ?_
        rintro e w7 ⟨rfl, hB7⟩
        rw [X2.out]
        have hW7 := below2 hW6 hB7
        replace a0 := look_below hB7 a0
        replace a1 := look_below hB7 a1
        replace b0 := look_below hB7 b0
        replace b1 := look_below hB7 b1
        replace c0 := look_below hB7 c0
        replace c1 := look_below hB7 c1
        go_wp2_with fail
        refine (kLess_calls p q n m _).mono ?_
        rintro e w8 ⟨rfl, hB8⟩
        rw [X3.out]
        have hW8 := below2 hW7 hB8
        replace a0 := look_below hB8 a0
        replace a1 := look_below hB8 a1
        replace b0 := look_below hB8 b0
        replace b1 := look_below hB8 b1
        replace c0 := look_below hB8 c0
        replace c1 := look_below hB8 c1
        go_wp2_with fail
        go_ret
        exact ⟨rfl, below2 hB0 hW8⟩
      | true =>
        have L2 := Lib.hid hbc
        have L3 := Lib.hid (lessK_trans x3 hbc)
        clear hbc x3
        go_enter Tryd.func5, Tryd.ntmps5
        go_wp2_with fail
        refine C0.out.mono ?_
        rintro e w0 ⟨rfl, rfl⟩
        go_wp2_with fail
        refine (kPut_calls p n (by omega) _ hm0).mono ?_
        rintro e w1 ⟨rfl, hB1⟩
        rw [TA.out]
        rw [HA.out]
        have hW1 := hB1
        obtain ⟨a0, a1, _⟩ := (hA.out.below hW1).two
        obtain ⟨b0, b1, _⟩ := (hB.out.below hW1).two
        obtain ⟨c0, c1, _⟩ := (hC.out.below hW1).two
        go_wp2_with fail
        refine (kPut_calls q m (by omega) _ (hm0.below hW1)).mono ?_
        rintro e w2 ⟨rfl, hB2⟩
        rw [TB.out]
        have hW2 := below2 hW1 hB2
        replace a0 := look_below hB2 a0
        replace a1 := look_below hB2 a1
        replace b0 := look_below hB2 b0
        replace b1 := look_below hB2 b1
        replace c0 := look_below hB2 c0
        replace c1 := look_below hB2 c1
        go_wp2_with fail
        refine (kLess_calls p q n m _).mono ?_
        rintro e w3 ⟨rfl, hB3⟩
        rw [X3.out]
        have hW3 := below2 hW2 hB3
        replace a0 := look_below hB3 a0
        replace a1 := look_below hB3 a1
        replace b0 := look_below hB3 b0
        replace b1 := look_below hB3 b1
        replace c0 := look_below hB3 c0
        replace c1 := look_below hB3 c1
        go_wp2_with fail
        refine (kLess_calls q r m k _).mono ?_
        rintro e w4 ⟨rfl, hB4⟩
        rw [L2.out]
        have hW4 := below2 hW3 hB4
        replace a0 := look_below hB4 a0
        replace a1 := look_below hB4 a1
        replace b0 := look_below hB4 b0
        replace b1 := look_below hB4 b1
        replace c0 := look_below hB4 c0
        replace c1 := look_below hB4 c1
        go_wp2_with fail
        refine (kLess_calls p r n k _).mono ?_
        rintro e w5 ⟨rfl, hB5⟩
        rw [L3.out]
        have hW5 := below2 hW4 hB5
        replace a0 := look_below hB5 a0
        replace a1 := look_below hB5 a1
        replace b0 := look_below hB5 b0
        replace b1 := look_below hB5 b1
        replace c0 := look_below hB5 c0
        replace c1 := look_below hB5 c1
        go_wp2_with fail
        refine (kCompare_calls p q n m _).mono ?_
        rintro e w6 ⟨rfl, hB6⟩
        rw [X1.out]
        have hW6 := below2 hW5 hB6
        replace a0 := look_below hB6 a0
        replace a1 := look_below hB6 a1
        replace b0 := look_below hB6 b0
        replace b1 := look_below hB6 b1
        replace c0 := look_below hB6 c0
        replace c1 := look_below hB6 c1
        go_wp2_with fail
        refine (keyed_calls _ (hm0.below hW6)).mono ?_
        rintro e w7 ⟨rfl, hB7⟩
        have hW7 := below2 hW6 hB7
        replace a0 := look_below hB7 a0
        replace a1 := look_below hB7 a1
        replace b0 := look_below hB7 b0
        replace b1 := look_below hB7 b1
        replace c0 := look_below hB7 c0
        replace c1 := look_below hB7 c1
        go_wp2_with fail
        refine (kCompare_calls q p m n _).mono ?_
        rintro e w8 ⟨rfl, hB8⟩
        rw [X2.out]
        have hW8 := below2 hW7 hB8
        replace a0 := look_below hB8 a0
        replace a1 := look_below hB8 a1
        replace b0 := look_below hB8 b0
        replace b1 := look_below hB8 b1
        replace c0 := look_below hB8 c0
        replace c1 := look_below hB8 c1
        go_wp2_with fail
        refine (kLess_calls p q n m _).mono ?_
        rintro e w9 ⟨rfl, hB9⟩
        rw [X3.out]
        have hW9 := below2 hW8 hB9
        replace a0 := look_below hB9 a0
        replace a1 := look_below hB9 a1
        replace b0 := look_below hB9 b0
        replace b1 := look_below hB9 b1
        replace c0 := look_below hB9 c0
        replace c1 := look_below hB9 c1
        go_wp2_with fail
        go_ret
        exact ⟨rfl, below2 hB0 hW9⟩
  · have X1 := Lib.hid x1
    have X2 := Lib.hid x2
    have X3 := Lib.hid x3
    clear x1 x2
    rcases ky_ne he with hE | ⟨hE, hE2⟩
    · clear he
      clear x3
      go_enter Tryd.func5, Tryd.ntmps5
      go_wp2_with fail
      refine C0.out.mono ?_
      rintro e w0 ⟨rfl, rfl⟩
      go_wp2_with fail
      refine (kPut_calls p n (by omega) _ hm0).mono ?_
      rintro e w1 ⟨rfl, hB1⟩
      rw [TA.out]
      rw [HA.out]
      have hW1 := hB1
      obtain ⟨a0, a1, _⟩ := (hA.out.below hW1).two
      obtain ⟨b0, b1, _⟩ := (hB.out.below hW1).two
      obtain ⟨c0, c1, _⟩ := (hC.out.below hW1).two
      go_wp2_with fail
      refine (kPut_calls q m (by omega) _ (hm0.below hW1)).mono ?_
      rintro e w2 ⟨rfl, hB2⟩
      rw [TB.out]
      have hW2 := below2 hW1 hB2
      replace a0 := look_below hB2 a0
      replace a1 := look_below hB2 a1
      replace b0 := look_below hB2 b0
      replace b1 := look_below hB2 b1
      replace c0 := look_below hB2 c0
      replace c1 := look_below hB2 c1
      go_wp2_with fail
      refine (kLess_calls p q n m _).mono ?_
      rintro e w3 ⟨rfl, hB3⟩
      rw [X3.out]
      have hW3 := below2 hW2 hB3
      replace a0 := look_below hB3 a0
      replace a1 := look_below hB3 a1
      replace b0 := look_below hB3 b0
      replace b1 := look_below hB3 b1
      replace c0 := look_below hB3 c0
      replace c1 := look_below hB3 c1
      go_wp2_with fail
      refine (kCompare_calls p q n m _).mono ?_
      rintro e w4 ⟨rfl, hB4⟩
      rw [X1.out]
      have hW4 := below2 hW3 hB4
      replace a0 := look_below hB4 a0
      replace a1 := look_below hB4 a1
      replace b0 := look_below hB4 b0
      replace b1 := look_below hB4 b1
      replace c0 := look_below hB4 c0
      replace c1 := look_below hB4 c1
      go_wp2_with fail
      refine (keyed_calls _ (hm0.below hW4)).mono ?_
      rintro e w5 ⟨rfl, hB5⟩
      have hW5 := below2 hW4 hB5
      replace a0 := look_below hB5 a0
      replace a1 := look_below hB5 a1
      replace b0 := look_below hB5 b0
      replace b1 := look_below hB5 b1
      replace c0 := look_below hB5 c0
      replace c1 := look_below hB5 c1
      go_wp2_with fail
      refine (kCompare_calls q p m n _).mono ?_
      rintro e w6 ⟨rfl, hB6⟩
      rw [X2.out]
      have hW6 := below2 hW5 hB6
      replace a0 := look_below hB6 a0
      replace a1 := look_below hB6 a1
      replace b0 := look_below hB6 b0
      replace b1 := look_below hB6 b1
      replace c0 := look_below hB6 c0
      replace c1 := look_below hB6 c1
      go_wp2_with fail
      refine (kLess_calls p q n m _).mono ?_
      rintro e w7 ⟨rfl, hB7⟩
      rw [X3.out]
      have hW7 := below2 hW6 hB7
      replace a0 := look_below hB7 a0
      replace a1 := look_below hB7 a1
      replace b0 := look_below hB7 b0
      replace b1 := look_below hB7 b1
      replace c0 := look_below hB7 c0
      replace c1 := look_below hB7 c1
      go_wp2_with fail
      go_ret
      exact ⟨rfl, below2 hB0 hW7⟩
    · clear he
      clear x3
      go_enter Tryd.func5, Tryd.ntmps5
      go_wp2_with fail
      refine C0.out.mono ?_
      rintro e w0 ⟨rfl, rfl⟩
      go_wp2_with fail
      refine (kPut_calls p n (by omega) _ hm0).mono ?_
      rintro e w1 ⟨rfl, hB1⟩
      rw [TA.out]
      rw [HA.out]
      have hW1 := hB1
      obtain ⟨a0, a1, _⟩ := (hA.out.below hW1).two
      obtain ⟨b0, b1, _⟩ := (hB.out.below hW1).two
      obtain ⟨c0, c1, _⟩ := (hC.out.below hW1).two
      go_wp2_with fail
      refine (kPut_calls q m (by omega) _ (hm0.below hW1)).mono ?_
      rintro e w2 ⟨rfl, hB2⟩
      rw [TB.out]
      have hW2 := below2 hW1 hB2
      replace a0 := look_below hB2 a0
      replace a1 := look_below hB2 a1
      replace b0 := look_below hB2 b0
      replace b1 := look_below hB2 b1
      replace c0 := look_below hB2 c0
      replace c1 := look_below hB2 c1
      go_wp2_with fail
      refine (kLess_calls p q n m _).mono ?_
      rintro e w3 ⟨rfl, hB3⟩
      rw [X3.out]
      have hW3 := below2 hW2 hB3
      replace a0 := look_below hB3 a0
      replace a1 := look_below hB3 a1
      replace b0 := look_below hB3 b0
      replace b1 := look_below hB3 b1
      replace c0 := look_below hB3 c0
      replace c1 := look_below hB3 c1
      go_wp2_with fail
      refine (kCompare_calls p q n m _).mono ?_
      rintro e w4 ⟨rfl, hB4⟩
      rw [X1.out]
      have hW4 := below2 hW3 hB4
      replace a0 := look_below hB4 a0
      replace a1 := look_below hB4 a1
      replace b0 := look_below hB4 b0
      replace b1 := look_below hB4 b1
      replace c0 := look_below hB4 c0
      replace c1 := look_below hB4 c1
      go_wp2_with fail
      refine (keyed_calls _ (hm0.below hW4)).mono ?_
      rintro e w5 ⟨rfl, hB5⟩
      have hW5 := below2 hW4 hB5
      replace a0 := look_below hB5 a0
      replace a1 := look_below hB5 a1
      replace b0 := look_below hB5 b0
      replace b1 := look_below hB5 b1
      replace c0 := look_below hB5 c0
      replace c1 := look_below hB5 c1
      go_wp2_with fail
      refine (kCompare_calls q p m n _).mono ?_
      rintro e w6 ⟨rfl, hB6⟩
      rw [X2.out]
      have hW6 := below2 hW5 hB6
      replace a0 := look_below hB6 a0
      replace a1 := look_below hB6 a1
      replace b0 := look_below hB6 b0
      replace b1 := look_below hB6 b1
      replace c0 := look_below hB6 c0
      replace c1 := look_below hB6 c1
      go_wp2_with fail
      refine (kLess_calls p q n m _).mono ?_
      rintro e w7 ⟨rfl, hB7⟩
      rw [X3.out]
      have hW7 := below2 hW6 hB7
      replace a0 := look_below hB7 a0
      replace a1 := look_below hB7 a1
      replace b0 := look_below hB7 b0
      replace b1 := look_below hB7 b1
      replace c0 := look_below hB7 c0
      replace c1 := look_below hB7 c1
      go_wp2_with fail
      go_ret
      exact ⟨rfl, below2 hB0 hW7⟩

set_option maxRecDepth 100000 in
set_option maxHeartbeats 16000000 in
theorem keyOrder_second (p q r : List UInt8) (n m k : Int) (w : World) (hm : Ml w) (h1 : p.length ≤ 300) (h2 : q.length ≤ 300)
    (C0 : Hid (Calls Tryd.prog 8 #[.slice (some ⟨w.heap.size + 1 + 1 + 1, 0, none⟩) [p, q, r].length [p, q, r].length] ((((w.alloc (.cells #[.string ⟨p.toArray⟩, .int .i64 n] 23)).alloc (.cells #[.string ⟨q.toArray⟩, .int .i64 m] 23)).alloc (.cells #[.string ⟨r.toArray⟩, .int .i64 k] 23)).alloc (.cells ([p, q, r].map SV).toArray 9)) fun e w' => e = .returned (.bool true) ∧ ((((w.alloc (.cells #[.string ⟨p.toArray⟩, .int .i64 n] 23)).alloc (.cells #[.string ⟨q.toArray⟩, .int .i64 m] 23)).alloc (.cells #[.string ⟨r.toArray⟩, .int .i64 k] 23)).alloc (.cells ([p, q, r].map SV).toArray 9)) = w'))
    (e1 : putE (p, n) = 0) (e2 : putE (q, m) = 1) :
    Calls Tryd.prog 5 #[.agg #[.string ⟨p.toArray⟩, .int .i64 n], .agg #[.string ⟨q.toArray⟩, .int .i64 m], .agg #[.string ⟨r.toArray⟩, .int .i64 k]] w fun e w' => e = .returned (.bool true) ∧ Below w.heap.size w w' := by
  have hB0 := below_alloc4 w (.cells #[.string ⟨p.toArray⟩, .int .i64 n] 23) (.cells #[.string ⟨q.toArray⟩, .int .i64 m] 23) (.cells #[.string ⟨r.toArray⟩, .int .i64 k] 23) (.cells ([p, q, r].map SV).toArray 9)
  have hm0 := hm.below hB0
  have hA := Lib.hid ((Cx.new w 23 [.string ⟨p.toArray⟩, .int .i64 n]).below (below_alloc3 _ (.cells #[.string ⟨q.toArray⟩, .int .i64 m] 23) (.cells #[.string ⟨r.toArray⟩, .int .i64 k] 23) (.cells ([p, q, r].map SV).toArray 9)))
  have hBq := (Cx.new (w.alloc (.cells #[.string ⟨p.toArray⟩, .int .i64 n] 23)) 23 [.string ⟨q.toArray⟩, .int .i64 m]).below (below_alloc2 _ (.cells #[.string ⟨r.toArray⟩, .int .i64 k] 23) (.cells ([p, q, r].map SV).toArray 9))
  have hCr := (Cx.new ((w.alloc (.cells #[.string ⟨p.toArray⟩, .int .i64 n] 23)).alloc (.cells #[.string ⟨q.toArray⟩, .int .i64 m] 23)) 23 [.string ⟨r.toArray⟩, .int .i64 k]).below (below_alloc _ (.cells ([p, q, r].map SV).toArray 9))
  simp only [World.size_alloc] at hBq hCr
  have hB := Lib.hid hBq
  have hC := Lib.hid hCr
  clear hBq hCr
  have HA := Lib.hid e1
  have HE := Lib.hid e2
  obtain ⟨ta, hta⟩ : ∃ t, putT (p, n) = t := ⟨_, rfl⟩
  obtain ⟨tb, htb⟩ : ∃ t, putT (q, m) = t := ⟨_, rfl⟩
  have TA := Lib.hid hta
  have TB := Lib.hid htb
  clear hta htb e1 e2
  rcases order_three (p, n) (q, m) with ⟨he, x1, x2, x3⟩ | ⟨he, x1, x2, x3⟩ | ⟨he, x1, x2, x3⟩
  · have X1 := Lib.hid x1
    have X2 := Lib.hid x2
    have X3 := Lib.hid x3
    clear x1 x2
    obtain ⟨rfl, rfl⟩ := Prod.mk.inj he
    clear x3
    go_enter Tryd.func5, Tryd.ntmps5
    go_wp2_with fail
    refine C0.out.mono ?_
    rintro e w0 ⟨rfl, rfl⟩
    go_wp2_with fail
    refine (kPut_calls p n (by omega) _ hm0).mono ?_
    rintro e w1 ⟨rfl, hB1⟩
    rw [TA.out]
    rw [HA.out]
    have hW1 := hB1
    obtain ⟨a0, a1, _⟩ := (hA.out.below hW1).two
    obtain ⟨b0, b1, _⟩ := (hB.out.below hW1).two
    obtain ⟨c0, c1, _⟩ := (hC.out.below hW1).two
    go_wp2_with fail
    refine (kPut_calls p n (by omega) _ (hm0.below hW1)).mono ?_
    rintro e w2 ⟨rfl, hB2⟩
    rw [TB.out]
    rw [HE.out]
    have hW2 := below2 hW1 hB2
    replace a0 := look_below hB2 a0
    replace a1 := look_below hB2 a1
    replace b0 := look_below hB2 b0
    replace b1 := look_below hB2 b1
    replace c0 := look_below hB2 c0
    replace c1 := look_below hB2 c1
    go_wp2_with fail
    refine (kLess_calls p p n n _).mono ?_
    rintro e w3 ⟨rfl, hB3⟩
    rw [X3.out]
    have hW3 := below2 hW2 hB3
    replace a0 := look_below hB3 a0
    replace a1 := look_below hB3 a1
    replace b0 := look_below hB3 b0
    replace b1 := look_below hB3 b1
    replace c0 := look_below hB3 c0
    replace c1 := look_below hB3 c1
    go_wp2_with fail
    refine (kCompare_calls p p n n _).mono ?_
    rintro e w4 ⟨rfl, hB4⟩
    rw [X1.out]
    have hW4 := below2 hW3 hB4
    replace a0 := look_below hB4 a0
    replace a1 := look_below hB4 a1
    replace b0 := look_below hB4 b0
    replace b1 := look_below hB4 b1
    replace c0 := look_below hB4 c0
    replace c1 := look_below hB4 c1
    go_wp2_with fail
    refine (keyed_calls _ (hm0.below hW4)).mono ?_
    rintro e w5 ⟨rfl, hB5⟩
    have hW5 := below2 hW4 hB5
    replace a0 := look_below hB5 a0
    replace a1 := look_below hB5 a1
    replace b0 := look_below hB5 b0
    replace b1 := look_below hB5 b1
    replace c0 := look_below hB5 c0
    replace c1 := look_below hB5 c1
    go_wp2_with fail
    refine (kCompare_calls p p n n _).mono ?_
    rintro e w6 ⟨rfl, hB6⟩
    rw [X2.out]
    have hW6 := below2 hW5 hB6
    replace a0 := look_below hB6 a0
    replace a1 := look_below hB6 a1
    replace b0 := look_below hB6 b0
    replace b1 := look_below hB6 b1
    replace c0 := look_below hB6 c0
    replace c1 := look_below hB6 c1
    go_wp2_with fail
    refine (kLess_calls p p n n _).mono ?_
    rintro e w7 ⟨rfl, hB7⟩
    rw [X3.out]
    have hW7 := below2 hW6 hB7
    replace a0 := look_below hB7 a0
    replace a1 := look_below hB7 a1
    replace b0 := look_below hB7 b0
    replace b1 := look_below hB7 b1
    replace c0 := look_below hB7 c0
    replace c1 := look_below hB7 c1
    go_wp2_with fail
    go_ret
    exact ⟨rfl, below2 hB0 hW7⟩
  · have X1 := Lib.hid x1
    have X2 := Lib.hid x2
    have X3 := Lib.hid x3
    clear x1 x2
    rcases ky_ne he with hE | ⟨hE, hE2⟩
    · clear he
      cases hbc : lessK (q, m) (r, k) with
      | false =>
        have L2 := Lib.hid hbc
        clear hbc x3
        go_enter Tryd.func5, Tryd.ntmps5
        go_wp2_with fail
        refine C0.out.mono ?_
        rintro e w0 ⟨rfl, rfl⟩
        go_wp2_with fail
        refine (kPut_calls p n (by omega) _ hm0).mono ?_
        rintro e w1 ⟨rfl, hB1⟩
        rw [TA.out]
        rw [HA.out]
        have hW1 := hB1
        obtain ⟨a0, a1, _⟩ := (hA.out.below hW1).two
        obtain ⟨b0, b1, _⟩ := (hB.out.below hW1).two
        obtain ⟨c0, c1, _⟩ := (hC.out.below hW1).two
        go_wp2_with fail
        refine (kPut_calls q m (by omega) _ (hm0.below hW1)).mono ?_
        rintro e w2 ⟨rfl, hB2⟩
        rw [TB.out]
        rw [HE.out]
        have hW2 := below2 hW1 hB2
        replace a0 := look_below hB2 a0
        replace a1 := look_below hB2 a1
        replace b0 := look_below hB2 b0
        replace b1 := look_below hB2 b1
        replace c0 := look_below hB2 c0
        replace c1 := look_below hB2 c1
        go_wp2_with fail
        refine (kLess_calls p q n m _).mono ?_
        rintro e w3 ⟨rfl, hB3⟩
        rw [X3.out]
        have hW3 := below2 hW2 hB3
        replace a0 := look_below hB3 a0
        replace a1 := look_below hB3 a1
        replace b0 := look_below hB3 b0
        replace b1 := look_below hB3 b1
        replace c0 := look_below hB3 c0
        replace c1 := look_below hB3 c1
        go_wp2_with fail
        refine (kLess_calls q r m k _).mono ?_
        rintro e w4 ⟨rfl, hB4⟩
        rw [L2.out]
        have hW4 := below2 hW3 hB4
        replace a0 := look_below hB4 a0
        replace a1 := look_below hB4 a1
        replace b0 := look_below hB4 b0
        replace b1 := look_below hB4 b1
        replace c0 := look_below hB4 c0
        replace c1 := look_below hB4 c1
        go_wp2_with fail
        refine (kCompare_calls p q n m _).mono ?_
        rintro e w5 ⟨rfl, hB5⟩
        rw [X1.out]
        have hW5 := below2 hW4 hB5
        replace a0 := look_below hB5 a0
        replace a1 := look_below hB5 a1
        replace b0 := look_below hB5 b0
        replace b1 := look_below hB5 b1
        replace c0 := look_below hB5 c0
        replace c1 := look_below hB5 c1
        go_wp2_with fail
        refine (keyed_calls _ (hm0.below hW5)).mono ?_
        rintro e w6 ⟨rfl, hB6⟩
        have hW6 := below2 hW5 hB6
        replace a0 := look_below hB6 a0
        replace a1 := look_below hB6 a1
        replace b0 := look_below hB6 b0
        replace b1 := look_below hB6 b1
        replace c0 := look_below hB6 c0
        replace c1 := look_below hB6 c1
        go_wp2_with fail
        refine (kCompare_calls q p m n _).mono ?_
        rintro e w7 ⟨rfl, hB7⟩
        rw [X2.out]
        have hW7 := below2 hW6 hB7
        replace a0 := look_below hB7 a0
        replace a1 := look_below hB7 a1
        replace b0 := look_below hB7 b0
        replace b1 := look_below hB7 b1
        replace c0 := look_below hB7 c0
        replace c1 := look_below hB7 c1
        go_wp2_with fail
        refine (kLess_calls p q n m _).mono ?_
        rintro e w8 ⟨rfl, hB8⟩
        rw [X3.out]
        have hW8 := below2 hW7 hB8
        replace a0 := look_below hB8 a0
        replace a1 := look_below hB8 a1
        replace b0 := look_below hB8 b0
        replace b1 := look_below hB8 b1
        replace c0 := look_below hB8 c0
        replace c1 := look_below hB8 c1
        go_wp2_with fail
        go_ret
        exact ⟨rfl, below2 hB0 hW8⟩
      | true =>
        have L2 := Lib.hid hbc
        have L3 := Lib.hid (lessK_trans x3 hbc)
        clear hbc x3
        go_enter Tryd.func5, Tryd.ntmps5
        go_wp2_with fail
        refine C0.out.mono ?_
        rintro e w0 ⟨rfl, rfl⟩
        go_wp2_with fail
        refine (kPut_calls p n (by omega) _ hm0).mono ?_
        rintro e w1 ⟨rfl, hB1⟩
        rw [TA.out]
        rw [HA.out]
        have hW1 := hB1
        obtain ⟨a0, a1, _⟩ := (hA.out.below hW1).two
        obtain ⟨b0, b1, _⟩ := (hB.out.below hW1).two
        obtain ⟨c0, c1, _⟩ := (hC.out.below hW1).two
        go_wp2_with fail
        refine (kPut_calls q m (by omega) _ (hm0.below hW1)).mono ?_
        rintro e w2 ⟨rfl, hB2⟩
        rw [TB.out]
        rw [HE.out]
        have hW2 := below2 hW1 hB2
        replace a0 := look_below hB2 a0
        replace a1 := look_below hB2 a1
        replace b0 := look_below hB2 b0
        replace b1 := look_below hB2 b1
        replace c0 := look_below hB2 c0
        replace c1 := look_below hB2 c1
        go_wp2_with fail
        refine (kLess_calls p q n m _).mono ?_
        rintro e w3 ⟨rfl, hB3⟩
        rw [X3.out]
        have hW3 := below2 hW2 hB3
        replace a0 := look_below hB3 a0
        replace a1 := look_below hB3 a1
        replace b0 := look_below hB3 b0
        replace b1 := look_below hB3 b1
        replace c0 := look_below hB3 c0
        replace c1 := look_below hB3 c1
        go_wp2_with fail
        refine (kLess_calls q r m k _).mono ?_
        rintro e w4 ⟨rfl, hB4⟩
        rw [L2.out]
        have hW4 := below2 hW3 hB4
        replace a0 := look_below hB4 a0
        replace a1 := look_below hB4 a1
        replace b0 := look_below hB4 b0
        replace b1 := look_below hB4 b1
        replace c0 := look_below hB4 c0
        replace c1 := look_below hB4 c1
        go_wp2_with fail
        refine (kLess_calls p r n k _).mono ?_
        rintro e w5 ⟨rfl, hB5⟩
        rw [L3.out]
        have hW5 := below2 hW4 hB5
        replace a0 := look_below hB5 a0
        replace a1 := look_below hB5 a1
        replace b0 := look_below hB5 b0
        replace b1 := look_below hB5 b1
        replace c0 := look_below hB5 c0
        replace c1 := look_below hB5 c1
        go_wp2_with fail
        refine (kCompare_calls p q n m _).mono ?_
        rintro e w6 ⟨rfl, hB6⟩
        rw [X1.out]
        have hW6 := below2 hW5 hB6
        replace a0 := look_below hB6 a0
        replace a1 := look_below hB6 a1
        replace b0 := look_below hB6 b0
        replace b1 := look_below hB6 b1
        replace c0 := look_below hB6 c0
        replace c1 := look_below hB6 c1
        go_wp2_with fail
        refine (keyed_calls _ (hm0.below hW6)).mono ?_
        rintro e w7 ⟨rfl, hB7⟩
        have hW7 := below2 hW6 hB7
        replace a0 := look_below hB7 a0
        replace a1 := look_below hB7 a1
        replace b0 := look_below hB7 b0
        replace b1 := look_below hB7 b1
        replace c0 := look_below hB7 c0
        replace c1 := look_below hB7 c1
        go_wp2_with fail
        refine (kCompare_calls q p m n _).mono ?_
        rintro e w8 ⟨rfl, hB8⟩
        rw [X2.out]
        have hW8 := below2 hW7 hB8
        replace a0 := look_below hB8 a0
        replace a1 := look_below hB8 a1
        replace b0 := look_below hB8 b0
        replace b1 := look_below hB8 b1
        replace c0 := look_below hB8 c0
        replace c1 := look_below hB8 c1
        go_wp2_with fail
        refine (kLess_calls p q n m _).mono ?_
        rintro e w9 ⟨rfl, hB9⟩
        rw [X3.out]
        have hW9 := below2 hW8 hB9
        replace a0 := look_below hB9 a0
        replace a1 := look_below hB9 a1
        replace b0 := look_below hB9 b0
        replace b1 := look_below hB9 b1
        replace c0 := look_below hB9 c0
        replace c1 := look_below hB9 c1
        go_wp2_with fail
        go_ret
        exact ⟨rfl, below2 hB0 hW9⟩
    · clear he
      cases hbc : lessK (q, m) (r, k) with
      | false =>
        have L2 := Lib.hid hbc
        clear hbc x3
        go_enter Tryd.func5, Tryd.ntmps5
        go_wp2_with fail
        refine C0.out.mono ?_
        rintro e w0 ⟨rfl, rfl⟩
        go_wp2_with fail
        refine (kPut_calls p n (by omega) _ hm0).mono ?_
        rintro e w1 ⟨rfl, hB1⟩
        rw [TA.out]
        rw [HA.out]
        have hW1 := hB1
        obtain ⟨a0, a1, _⟩ := (hA.out.below hW1).two
        obtain ⟨b0, b1, _⟩ := (hB.out.below hW1).two
        obtain ⟨c0, c1, _⟩ := (hC.out.below hW1).two
        go_wp2_with fail
        refine (kPut_calls q m (by omega) _ (hm0.below hW1)).mono ?_
        rintro e w2 ⟨rfl, hB2⟩
        rw [TB.out]
        rw [HE.out]
        have hW2 := below2 hW1 hB2
        replace a0 := look_below hB2 a0
        replace a1 := look_below hB2 a1
        replace b0 := look_below hB2 b0
        replace b1 := look_below hB2 b1
        replace c0 := look_below hB2 c0
        replace c1 := look_below hB2 c1
        go_wp2_with fail
        refine (kLess_calls p q n m _).mono ?_
        rintro e w3 ⟨rfl, hB3⟩
        rw [X3.out]
        have hW3 := below2 hW2 hB3
        replace a0 := look_below hB3 a0
        replace a1 := look_below hB3 a1
        replace b0 := look_below hB3 b0
        replace b1 := look_below hB3 b1
        replace c0 := look_below hB3 c0
        replace c1 := look_below hB3 c1
        go_wp2_with fail
        refine (kLess_calls q r m k _).mono ?_
        rintro e w4 ⟨rfl, hB4⟩
        rw [L2.out]
        have hW4 := below2 hW3 hB4
        replace a0 := look_below hB4 a0
        replace a1 := look_below hB4 a1
        replace b0 := look_below hB4 b0
        replace b1 := look_below hB4 b1
        replace c0 := look_below hB4 c0
        replace c1 := look_below hB4 c1
        go_wp2_with fail
        refine (kCompare_calls p q n m _).mono ?_
        rintro e w5 ⟨rfl, hB5⟩
        rw [X1.out]
        have hW5 := below2 hW4 hB5
        replace a0 := look_below hB5 a0
        replace a1 := look_below hB5 a1
        replace b0 := look_below hB5 b0
        replace b1 := look_below hB5 b1
        replace c0 := look_below hB5 c0
        replace c1 := look_below hB5 c1
        go_wp2_with fail
        refine (keyed_calls _ (hm0.below hW5)).mono ?_
        rintro e w6 ⟨rfl, hB6⟩
        have hW6 := below2 hW5 hB6
        replace a0 := look_below hB6 a0
        replace a1 := look_below hB6 a1
        replace b0 := look_below hB6 b0
        replace b1 := look_below hB6 b1
        replace c0 := look_below hB6 c0
        replace c1 := look_below hB6 c1
        go_wp2_with fail
        refine (kCompare_calls q p m n _).mono ?_
        rintro e w7 ⟨rfl, hB7⟩
        rw [X2.out]
        have hW7 := below2 hW6 hB7
        replace a0 := look_below hB7 a0
        replace a1 := look_below hB7 a1
        replace b0 := look_below hB7 b0
        replace b1 := look_below hB7 b1
        replace c0 := look_below hB7 c0
        replace c1 := look_below hB7 c1
        go_wp2_with fail
        refine (kLess_calls p q n m _).mono ?_
        rintro e w8 ⟨rfl, hB8⟩
        rw [X3.out]
        have hW8 := below2 hW7 hB8
        replace a0 := look_below hB8 a0
        replace a1 := look_below hB8 a1
        replace b0 := look_below hB8 b0
        replace b1 := look_below hB8 b1
        replace c0 := look_below hB8 c0
        replace c1 := look_below hB8 c1
        go_wp2_with fail
        go_ret
        exact ⟨rfl, below2 hB0 hW8⟩
      | true =>
        have L2 := Lib.hid hbc
        have L3 := Lib.hid (lessK_trans x3 hbc)
        clear hbc x3
        go_enter Tryd.func5, Tryd.ntmps5
        go_wp2_with fail
        refine C0.out.mono ?_
        rintro e w0 ⟨rfl, rfl⟩
        go_wp2_with fail
        refine (kPut_calls p n (by omega) _ hm0).mono ?_
        rintro e w1 ⟨rfl, hB1⟩
        rw [TA.out]
        rw [HA.out]
        have hW1 := hB1
        obtain ⟨a0, a1, _⟩ := (hA.out.below hW1).two
        obtain ⟨b0, b1, _⟩ := (hB.out.below hW1).two
        obtain ⟨c0, c1, _⟩ := (hC.out.below hW1).two
        go_wp2_with fail
        refine (kPut_calls q m (by omega) _ (hm0.below hW1)).mono ?_
        rintro e w2 ⟨rfl, hB2⟩
        rw [TB.out]
        rw [HE.out]
        have hW2 := below2 hW1 hB2
        replace a0 := look_below hB2 a0
        replace a1 := look_below hB2 a1
        replace b0 := look_below hB2 b0
        replace b1 := look_below hB2 b1
        replace c0 := look_below hB2 c0
        replace c1 := look_below hB2 c1
        go_wp2_with fail
        refine (kLess_calls p q n m _).mono ?_
        rintro e w3 ⟨rfl, hB3⟩
        rw [X3.out]
        have hW3 := below2 hW2 hB3
        replace a0 := look_below hB3 a0
        replace a1 := look_below hB3 a1
        replace b0 := look_below hB3 b0
        replace b1 := look_below hB3 b1
        replace c0 := look_below hB3 c0
        replace c1 := look_below hB3 c1
        go_wp2_with fail
        refine (kLess_calls q r m k _).mono ?_
        rintro e w4 ⟨rfl, hB4⟩
        rw [L2.out]
        have hW4 := below2 hW3 hB4
        replace a0 := look_below hB4 a0
        replace a1 := look_below hB4 a1
        replace b0 := look_below hB4 b0
        replace b1 := look_below hB4 b1
        replace c0 := look_below hB4 c0
        replace c1 := look_below hB4 c1
        go_wp2_with fail
        refine (kLess_calls p r n k _).mono ?_
        rintro e w5 ⟨rfl, hB5⟩
        rw [L3.out]
        have hW5 := below2 hW4 hB5
        replace a0 := look_below hB5 a0
        replace a1 := look_below hB5 a1
        replace b0 := look_below hB5 b0
        replace b1 := look_below hB5 b1
        replace c0 := look_below hB5 c0
        replace c1 := look_below hB5 c1
        go_wp2_with fail
        refine (kCompare_calls p q n m _).mono ?_
        rintro e w6 ⟨rfl, hB6⟩
        rw [X1.out]
        have hW6 := below2 hW5 hB6
        replace a0 := look_below hB6 a0
        replace a1 := look_below hB6 a1
        replace b0 := look_below hB6 b0
        replace b1 := look_below hB6 b1
        replace c0 := look_below hB6 c0
        replace c1 := look_below hB6 c1
        go_wp2_with fail
        refine (keyed_calls _ (hm0.below hW6)).mono ?_
        rintro e w7 ⟨rfl, hB7⟩
        have hW7 := below2 hW6 hB7
        replace a0 := look_below hB7 a0
        replace a1 := look_below hB7 a1
        replace b0 := look_below hB7 b0
        replace b1 := look_below hB7 b1
        replace c0 := look_below hB7 c0
        replace c1 := look_below hB7 c1
        go_wp2_with fail
        refine (kCompare_calls q p m n _).mono ?_
        rintro e w8 ⟨rfl, hB8⟩
        rw [X2.out]
        have hW8 := below2 hW7 hB8
        replace a0 := look_below hB8 a0
        replace a1 := look_below hB8 a1
        replace b0 := look_below hB8 b0
        replace b1 := look_below hB8 b1
        replace c0 := look_below hB8 c0
        replace c1 := look_below hB8 c1
        go_wp2_with fail
        refine (kLess_calls p q n m _).mono ?_
        rintro e w9 ⟨rfl, hB9⟩
        rw [X3.out]
        have hW9 := below2 hW8 hB9
        replace a0 := look_below hB9 a0
        replace a1 := look_below hB9 a1
        replace b0 := look_below hB9 b0
        replace b1 := look_below hB9 b1
        replace c0 := look_below hB9 c0
        replace c1 := look_below hB9 c1
        go_wp2_with fail
        go_ret
        exact ⟨rfl, below2 hB0 hW9⟩
  · have X1 := Lib.hid x1
    have X2 := Lib.hid x2
    have X3 := Lib.hid x3
    clear x1 x2
    rcases ky_ne he with hE | ⟨hE, hE2⟩
    · clear he
      clear x3
      go_enter Tryd.func5, Tryd.ntmps5
      go_wp2_with fail
      refine C0.out.mono ?_
      rintro e w0 ⟨rfl, rfl⟩
      go_wp2_with fail
      refine (kPut_calls p n (by omega) _ hm0).mono ?_
      rintro e w1 ⟨rfl, hB1⟩
      rw [TA.out]
      rw [HA.out]
      have hW1 := hB1
      obtain ⟨a0, a1, _⟩ := (hA.out.below hW1).two
      obtain ⟨b0, b1, _⟩ := (hB.out.below hW1).two
      obtain ⟨c0, c1, _⟩ := (hC.out.below hW1).two
      go_wp2_with fail
      refine (kPut_calls q m (by omega) _ (hm0.below hW1)).mono ?_
      rintro e w2 ⟨rfl, hB2⟩
      rw [TB.out]
      rw [HE.out]
      have hW2 := below2 hW1 hB2
      replace a0 := look_below hB2 a0
      replace a1 := look_below hB2 a1
      replace b0 := look_below hB2 b0
      replace b1 := look_below hB2 b1
      replace c0 := look_below hB2 c0
      replace c1 := look_below hB2 c1
      go_wp2_with fail
      refine (kLess_calls p q n m _).mono ?_
      rintro e w3 ⟨rfl, hB3⟩
      rw [X3.out]
      have hW3 := below2 hW2 hB3
      replace a0 := look_below hB3 a0
      replace a1 := look_below hB3 a1
      replace b0 := look_below hB3 b0
      replace b1 := look_below hB3 b1
      replace c0 := look_below hB3 c0
      replace c1 := look_below hB3 c1
      go_wp2_with fail
      refine (kCompare_calls p q n m _).mono ?_
      rintro e w4 ⟨rfl, hB4⟩
      rw [X1.out]
      have hW4 := below2 hW3 hB4
      replace a0 := look_below hB4 a0
      replace a1 := look_below hB4 a1
      replace b0 := look_below hB4 b0
      replace b1 := look_below hB4 b1
      replace c0 := look_below hB4 c0
      replace c1 := look_below hB4 c1
      go_wp2_with fail
      refine (keyed_calls _ (hm0.below hW4)).mono ?_
      rintro e w5 ⟨rfl, hB5⟩
      have hW5 := below2 hW4 hB5
      replace a0 := look_below hB5 a0
      replace a1 := look_below hB5 a1
      replace b0 := look_below hB5 b0
      replace b1 := look_below hB5 b1
      replace c0 := look_below hB5 c0
      replace c1 := look_below hB5 c1
      go_wp2_with fail
      refine (kCompare_calls q p m n _).mono ?_
      rintro e w6 ⟨rfl, hB6⟩
      rw [X2.out]
      have hW6 := below2 hW5 hB6
      replace a0 := look_below hB6 a0
      replace a1 := look_below hB6 a1
      replace b0 := look_below hB6 b0
      replace b1 := look_below hB6 b1
      replace c0 := look_below hB6 c0
      replace c1 := look_below hB6 c1
      go_wp2_with fail
      refine (kLess_calls p q n m _).mono ?_
      rintro e w7 ⟨rfl, hB7⟩
      rw [X3.out]
      have hW7 := below2 hW6 hB7
      replace a0 := look_below hB7 a0
      replace a1 := look_below hB7 a1
      replace b0 := look_below hB7 b0
      replace b1 := look_below hB7 b1
      replace c0 := look_below hB7 c0
      replace c1 := look_below hB7 c1
      go_wp2_with fail
      go_ret
      exact ⟨rfl, below2 hB0 hW7⟩
    · clear he
      clear x3
      go_enter Tryd.func5, Tryd.ntmps5
      go_wp2_with fail
      refine C0.out.mono ?_
      rintro e w0 ⟨rfl, rfl⟩
      go_wp2_with fail
      refine (kPut_calls p n (by omega) _ hm0).mono ?_
      rintro e w1 ⟨rfl, hB1⟩
      rw [TA.out]
      rw [HA.out]
      have hW1 := hB1
      obtain ⟨a0, a1, _⟩ := (hA.out.below hW1).two
      obtain ⟨b0, b1, _⟩ := (hB.out.below hW1).two
      obtain ⟨c0, c1, _⟩ := (hC.out.below hW1).two
      go_wp2_with fail
      refine (kPut_calls q m (by omega) _ (hm0.below hW1)).mono ?_
      rintro e w2 ⟨rfl, hB2⟩
      rw [TB.out]
      rw [HE.out]
      have hW2 := below2 hW1 hB2
      replace a0 := look_below hB2 a0
      replace a1 := look_below hB2 a1
      replace b0 := look_below hB2 b0
      replace b1 := look_below hB2 b1
      replace c0 := look_below hB2 c0
      replace c1 := look_below hB2 c1
      go_wp2_with fail
      refine (kLess_calls p q n m _).mono ?_
      rintro e w3 ⟨rfl, hB3⟩
      rw [X3.out]
      have hW3 := below2 hW2 hB3
      replace a0 := look_below hB3 a0
      replace a1 := look_below hB3 a1
      replace b0 := look_below hB3 b0
      replace b1 := look_below hB3 b1
      replace c0 := look_below hB3 c0
      replace c1 := look_below hB3 c1
      go_wp2_with fail
      refine (kCompare_calls p q n m _).mono ?_
      rintro e w4 ⟨rfl, hB4⟩
      rw [X1.out]
      have hW4 := below2 hW3 hB4
      replace a0 := look_below hB4 a0
      replace a1 := look_below hB4 a1
      replace b0 := look_below hB4 b0
      replace b1 := look_below hB4 b1
      replace c0 := look_below hB4 c0
      replace c1 := look_below hB4 c1
      go_wp2_with fail
      refine (keyed_calls _ (hm0.below hW4)).mono ?_
      rintro e w5 ⟨rfl, hB5⟩
      have hW5 := below2 hW4 hB5
      replace a0 := look_below hB5 a0
      replace a1 := look_below hB5 a1
      replace b0 := look_below hB5 b0
      replace b1 := look_below hB5 b1
      replace c0 := look_below hB5 c0
      replace c1 := look_below hB5 c1
      go_wp2_with fail
      refine (kCompare_calls q p m n _).mono ?_
      rintro e w6 ⟨rfl, hB6⟩
      rw [X2.out]
      have hW6 := below2 hW5 hB6
      replace a0 := look_below hB6 a0
      replace a1 := look_below hB6 a1
      replace b0 := look_below hB6 b0
      replace b1 := look_below hB6 b1
      replace c0 := look_below hB6 c0
      replace c1 := look_below hB6 c1
      go_wp2_with fail
      refine (kLess_calls p q n m _).mono ?_
      rintro e w7 ⟨rfl, hB7⟩
      rw [X3.out]
      have hW7 := below2 hW6 hB7
      replace a0 := look_below hB7 a0
      replace a1 := look_below hB7 a1
      replace b0 := look_below hB7 b0
      replace b1 := look_below hB7 b1
      replace c0 := look_below hB7 c0
      replace c1 := look_below hB7 c1
      go_wp2_with fail
      go_ret
      exact ⟨rfl, below2 hB0 hW7⟩

set_option maxRecDepth 100000 in
set_option maxHeartbeats 16000000 in
theorem keyOrder_both (p q r : List UInt8) (n m k : Int) (w : World) (hm : Ml w) (h1 : p.length ≤ 300) (h2 : q.length ≤ 300)
    (C0 : Hid (Calls Tryd.prog 8 #[.slice (some ⟨w.heap.size + 1 + 1 + 1, 0, none⟩) [p, q, r].length [p, q, r].length] ((((w.alloc (.cells #[.string ⟨p.toArray⟩, .int .i64 n] 23)).alloc (.cells #[.string ⟨q.toArray⟩, .int .i64 m] 23)).alloc (.cells #[.string ⟨r.toArray⟩, .int .i64 k] 23)).alloc (.cells ([p, q, r].map SV).toArray 9)) fun e w' => e = .returned (.bool true) ∧ ((((w.alloc (.cells #[.string ⟨p.toArray⟩, .int .i64 n] 23)).alloc (.cells #[.string ⟨q.toArray⟩, .int .i64 m] 23)).alloc (.cells #[.string ⟨r.toArray⟩, .int .i64 k] 23)).alloc (.cells ([p, q, r].map SV).toArray 9)) = w'))
    (e1 : putE (p, n) = 0) (e2 : putE (q, m) = 0) (hbl : Op.bytesLess (putT (p, n)) (putT (q, m)) = lessK (p, n) (q, m)) :
    Calls Tryd.prog 5 #[.agg #[.string ⟨p.toArray⟩, .int .i64 n], .agg #[.string ⟨q.toArray⟩, .int .i64 m], .agg #[.string ⟨r.toArray⟩, .int .i64 k]] w fun e w' => e = .returned (.bool true) ∧ Below w.heap.size w w' := by
  have hB0 := below_alloc4 w (.cells #[.string ⟨p.toArray⟩, .int .i64 n] 23) (.cells #[.string ⟨q.toArray⟩, .int .i64 m] 23) (.cells #[.string ⟨r.toArray⟩, .int .i64 k] 23) (.cells ([p, q, r].map SV).toArray 9)
  have hm0 := hm.below hB0
  have hA := Lib.hid ((Cx.new w 23 [.string ⟨p.toArray⟩, .int .i64 n]).below (below_alloc3 _ (.cells #[.string ⟨q.toArray⟩, .int .i64 m] 23) (.cells #[.string ⟨r.toArray⟩, .int .i64 k] 23) (.cells ([p, q, r].map SV).toArray 9)))
  have hBq := (Cx.new (w.alloc (.cells #[.string ⟨p.toArray⟩, .int .i64 n] 23)) 23 [.string ⟨q.toArray⟩, .int .i64 m]).below (below_alloc2 _ (.cells #[.string ⟨r.toArray⟩, .int .i64 k] 23) (.cells ([p, q, r].map SV).toArray 9))
  have hCr := (Cx.new ((w.alloc (.cells #[.string ⟨p.toArray⟩, .int .i64 n] 23)).alloc (.cells #[.string ⟨q.toArray⟩, .int .i64 m] 23)) 23 [.string ⟨r.toArray⟩, .int .i64 k]).below (below_alloc _ (.cells ([p, q, r].map SV).toArray 9))
  simp only [World.size_alloc] at hBq hCr
  have hB := Lib.hid hBq
  have hC := Lib.hid hCr
  clear hBq hCr
  have HA := Lib.hid e1
  have HE := Lib.hid e2
  obtain ⟨ta, hta⟩ : ∃ t, putT (p, n) = t := ⟨_, rfl⟩
  obtain ⟨tb, htb⟩ : ∃ t, putT (q, m) = t := ⟨_, rfl⟩
  rw [hta, htb] at hbl
  have TA := Lib.hid hta
  have TB := Lib.hid htb
  clear hta htb e1 e2
  rcases order_three (p, n) (q, m) with ⟨he, x1, x2, x3⟩ | ⟨he, x1, x2, x3⟩ | ⟨he, x1, x2, x3⟩
  · have X1 := Lib.hid x1
    have X2 := Lib.hid x2
    have X3 := Lib.hid x3
    rw [x3] at hbl
    clear x1 x2
    obtain ⟨rfl, rfl⟩ := Prod.mk.inj he
    clear x3
    go_enter Tryd.func5, Tryd.ntmps5
    go_wp2_with fail
    refine C0.out.mono ?_
    rintro e w0 ⟨rfl, rfl⟩
    go_wp2_with fail
    refine (kPut_calls p n (by omega) _ hm0).mono ?_
    rintro e w1 ⟨rfl, hB1⟩
    rw [TA.out]
    rw [HA.out]
    have hW1 := hB1
    obtain ⟨a0, a1, _⟩ := (hA.out.below hW1).two
    obtain ⟨b0, b1, _⟩ := (hB.out.below hW1).two
    obtain ⟨c0, c1, _⟩ := (hC.out.below hW1).two
    go_wp2_with fail
    refine (kPut_calls p n (by omega) _ (hm0.below hW1)).mono ?_
    rintro e w2 ⟨rfl, hB2⟩
    rw [TB.out]
    rw [HE.out]
    have hW2 := below2 hW1 hB2
    replace a0 := look_below hB2 a0
    replace a1 := look_below hB2 a1
    replace b0 := look_below hB2 b0
    replace b1 := look_below hB2 b1
    replace c0 := look_below hB2 c0
    replace c1 := look_below hB2 c1
    go_wp2_with fail
    refine (kLess_calls p p n n _).mono ?_
    rintro e w3 ⟨rfl, hB3⟩
    rw [X3.out]
    have hW3 := below2 hW2 hB3
    replace a0 := look_below hB3 a0
    replace a1 := look_below hB3 a1
    replace b0 := look_below hB3 b0
    replace b1 := look_below hB3 b1
    replace c0 := look_below hB3 c0
    replace c1 := look_below hB3 c1
    go_wp2_with fail
    refine (kLess_calls p p n n _).mono ?_
    rintro e w4 ⟨rfl, hB4⟩
    rw [X3.out]
    have hW4 := below2 hW3 hB4
    replace a0 := look_below hB4 a0
    replace a1 := look_below hB4 a1
    replace b0 := look_below hB4 b0
    replace b1 := look_below hB4 b1
    replace c0 := look_below hB4 c0
    replace c1 := look_below hB4 c1
    go_wp2_with fail
    refine (kCompare_calls p p n n _).mono ?_
    rintro e w5 ⟨rfl, hB5⟩
    rw [X1.out]
    have hW5 := below2 hW4 hB5
    replace a0 := look_below hB5 a0
    replace a1 := look_below hB5 a1
    replace b0 := look_below hB5 b0
    replace b1 := look_below hB5 b1
    replace c0 := look_below hB5 c0
    replace c1 := look_below hB5 c1
    go_wp2_with fail
    refine (keyed_calls _ (hm0.below hW5)).mono ?_
    rintro e w6 ⟨rfl, hB6⟩
    have hW6 := below2 hW5 hB6
    replace a0 := look_below hB6 a0
    replace a1 := look_below hB6 a1
    replace b0 := look_below hB6 b0
    replace b1 := look_below hB6 b1
    replace c0 := look_below hB6 c0
    replace c1 := look_below hB6 c1
    go_wp2_with fail
    refine (kCompare_calls p p n n _).mono ?_
    rintro e w7 ⟨rfl, hB7⟩
    rw [X2.out]
    have hW7 := below2 hW6 hB7
    replace a0 := look_below hB7 a0
    replace a1 := look_below hB7 a1
    replace b0 := look_below hB7 b0
    replace b1 := look_below hB7 b1
    replace c0 := look_below hB7 c0
    replace c1 := look_below hB7 c1
    go_wp2_with fail
    refine (kLess_calls p p n n _).mono ?_
    rintro e w8 ⟨rfl, hB8⟩
    rw [X3.out]
    have hW8 := below2 hW7 hB8
    replace a0 := look_below hB8 a0
    replace a1 := look_below hB8 a1
    replace b0 := look_below hB8 b0
    replace b1 := look_below hB8 b1
    replace c0 := look_below hB8 c0
    replace c1 := look_below hB8 c1
    go_wp2_with fail
    go_ret
    exact ⟨rfl, below2 hB0 hW8⟩
  · have X1 := Lib.hid x1
    have X2 := Lib.hid x2
    have X3 := Lib.hid x3
    rw [x3] at hbl
    clear x1 x2
    rcases ky_ne he with hE | ⟨hE, hE2⟩
    · clear he
      cases hbc : lessK (q, m) (r, k) with
      | false =>
        have L2 := Lib.hid hbc
        clear hbc x3
        go_enter Tryd.func5, Tryd.ntmps5
        go_wp2_with fail
        refine C0.out.mono ?_
        rintro e w0 ⟨rfl, rfl⟩
        go_wp2_with fail
        refine (kPut_calls p n (by omega) _ hm0).mono ?_
        rintro e w1 ⟨rfl, hB1⟩
        rw [TA.out]
        rw [HA.out]
        have hW1 := hB1
        obtain ⟨a0, a1, _⟩ := (hA.out.below hW1).two
        obtain ⟨b0, b1, _⟩ := (hB.out.below hW1).two
        obtain ⟨c0, c1, _⟩ := (hC.out.below hW1).two
        go_wp2_with fail
        refine (kPut_calls q m (by omega) _ (hm0.below hW1)).mono ?_
        rintro e w2 ⟨rfl, hB2⟩
        rw [TB.out]
        rw [HE.out]
        have hW2 := below2 hW1 hB2
        replace a0 := look_below hB2 a0
        replace a1 := look_below hB2 a1
        replace b0 := look_below hB2 b0
        replace b1 := look_below hB2 b1
        replace c0 := look_below hB2 c0
        replace c1 := look_below hB2 c1
        go_wp2_with fail
        refine (kLess_calls p q n m _).mono ?_
        rintro e w3 ⟨rfl, hB3⟩
        rw [X3.out]
        have hW3 := below2 hW2 hB3
        replace a0 := look_below hB3 a0
        replace a1 := look_below hB3 a1
        replace b0 := look_below hB3 b0
        replace b1 := look_below hB3 b1
        replace c0 := look_below hB3 c0
        replace c1 := look_below hB3 c1
        go_wp2_with fail
        refine (kLess_calls p q n m _).mono ?_
        rintro e w4 ⟨rfl, hB4⟩
        rw [X3.out]
        have hW4 := below2 hW3 hB4
        replace a0 := look_below hB4 a0
        replace a1 := look_below hB4 a1
        replace b0 := look_below hB4 b0
        replace b1 := look_below hB4 b1
        replace c0 := look_below hB4 c0
        replace c1 := look_below hB4 c1
        go_wp2_with fail
        refine (kLess_calls q r m k _).mono ?_
        rintro e w5 ⟨rfl, hB5⟩
        rw [L2.out]
        have hW5 := below2 hW4 hB5
        replace a0 := look_below hB5 a0
        replace a1 := look_below hB5 a1
        replace b0 := look_below hB5 b0
        replace b1 := look_below hB5 b1
        replace c0 := look_below hB5 c0
        replace c1 := look_below hB5 c1
        go_wp2_with fail
        refine (kCompare_calls p q n m _).mono ?_
        rintro e w6 ⟨rfl, hB6⟩
        rw [X1.out]
        have hW6 := below2 hW5 hB6
        replace a0 := look_below hB6 a0
        replace a1 := look_below hB6 a1
        replace b0 := look_below hB6 b0
        replace b1 := look_below hB6 b1
        replace c0 := look_below hB6 c0
        replace c1 := look_below hB6 c1
        go_wp2_with fail
        refine (keyed_calls _ (hm0.below hW6)).mono ?_
        rintro e w7 ⟨rfl, hB7⟩
        have hW7 := below2 hW6 hB7
        replace a0 := look_below hB7 a0
        replace a1 := look_below hB7 a1
        replace b0 := look_below hB7 b0
        replace b1 := look_below hB7 b1
        replace c0 := look_below hB7 c0
        replace c1 := look_below hB7 c1
        go_wp2_with fail
        refine (kCompare_calls q p m n _).mono ?_
        rintro e w8 ⟨rfl, hB8⟩
        rw [X2.out]
        have hW8 := below2 hW7 hB8
        replace a0 := look_below hB8 a0
        replace a1 := look_below hB8 a1
        replace b0 := look_below hB8 b0
        replace b1 := look_below hB8 b1
        replace c0 := look_below hB8 c0
        replace c1 := look_below hB8 c1
        go_wp2_with fail
        refine (kLess_calls p q n m _).mono ?_
        rintro e w9 ⟨rfl, hB9⟩
        rw [X3.out]
        have hW9 := below2 hW8 hB9
        replace a0 := look_below hB9 a0
        replace a1 := look_below hB9 a1
        replace b0 := look_below hB9 b0
        replace b1 := look_below hB9 b1
        replace c0 := look_below hB9 c0
        replace c1 := look_below hB9 c1
        go_wp2_with fail
        go_ret
        exact ⟨rfl, below2 hB0 hW9⟩
      | true =>
        have L2 := Lib.hid hbc
        have L3 := Lib.hid (lessK_trans x3 hbc)
        clear hbc x3
        go_enter Tryd.func5, Tryd.ntmps5
        go_wp2_with fail
        refine C0.out.mono ?_
        rintro e w0 ⟨rfl, rfl⟩
        go_wp2_with fail
        refine (kPut_calls p n (by omega) _ hm0).mono ?_
        rintro e w1 ⟨rfl, hB1⟩
        rw [TA.out]
        rw [HA.out]
        have hW1 := hB1
        obtain ⟨a0, a1, _⟩ := (hA.out.below hW1).two
        obtain ⟨b0, b1, _⟩ := (hB.out.below hW1).two
        obtain ⟨c0, c1, _⟩ := (hC.out.below hW1).two
        go_wp2_with fail
        refine (kPut_calls q m (by omega) _ (hm0.below hW1)).mono ?_
        rintro e w2 ⟨rfl, hB2⟩
        rw [TB.out]
        rw [HE.out]
        have hW2 := below2 hW1 hB2
        replace a0 := look_below hB2 a0
        replace a1 := look_below hB2 a1
        replace b0 := look_below hB2 b0
        replace b1 := look_below hB2 b1
        replace c0 := look_below hB2 c0
        replace c1 := look_below hB2 c1
        go_wp2_with fail
        refine (kLess_calls p q n m _).mono ?_
        rintro e w3 ⟨rfl, hB3⟩
        rw [X3.out]
        have hW3 := below2 hW2 hB3
        replace a0 := look_below hB3 a0
        replace a1 := look_below hB3 a1
        replace b0 := look_below hB3 b0
        replace b1 := look_below hB3 b1
        replace c0 := look_below hB3 c0
        replace c1 := look_below hB3 c1
        go_wp2_with fail
        refine (kLess_calls p q n m _).mono ?_
        rintro e w4 ⟨rfl, hB4⟩
        rw [X3.out]
        have hW4 := below2 hW3 hB4
        replace a0 := look_below hB4 a0
        replace a1 := look_below hB4 a1
        replace b0 := look_below hB4 b0
        replace b1 := look_below hB4 b1
        replace c0 := look_below hB4 c0
        replace c1 := look_below hB4 c1
        go_wp2_with fail
        refine (kLess_calls q r m k _).mono ?_
        rintro e w5 ⟨rfl, hB5⟩
        rw [L2.out]
        have hW5 := below2 hW4 hB5
        replace a0 := look_below hB5 a0
        replace a1 := look_below hB5 a1
        replace b0 := look_below hB5 b0
        replace b1 := look_below hB5 b1
        replace c0 := look_below hB5 c0
        replace c1 := look_below hB5 c1
        go_wp2_with fail
        refine (kLess_calls p r n k _).mono ?_
        rintro e w6 ⟨rfl, hB6⟩
        rw [L3.out]
        have hW6 := below2 hW5 hB6
        replace a0 := look_below hB6 a0
        replace a1 := look_below hB6 a1
        replace b0 := look_below hB6 b0
        replace b1 := look_below hB6 b1
        replace c0 := look_below hB6 c0
        replace c1 := look_below hB6 c1
        go_wp2_with fail
        refine (kCompare_calls p q n m _).mono ?_
        rintro e w7 ⟨rfl, hB7⟩
        rw [X1.out]
        have hW7 := below2 hW6 hB7
        replace a0 := look_below hB7 a0
        replace a1 := look_below hB7 a1
        replace b0 := look_below hB7 b0
        replace b1 := look_below hB7 b1
        replace c0 := look_below hB7 c0
        replace c1 := look_below hB7 c1
        go_wp2_with fail
        refine (keyed_calls _ (hm0.below hW7)).mono ?_
        rintro e w8 ⟨rfl, hB8⟩
        have hW8 := below2 hW7 hB8
        replace a0 := look_below hB8 a0
        replace a1 := look_below hB8 a1
        replace b0 := look_below hB8 b0
        replace b1 := look_below hB8 b1
        replace c0 := look_below hB8 c0
        replace c1 := look_below hB8 c1
        go_wp2_with fail
        refine (kCompare_calls q p m n _).mono ?_
        rintro e w9 ⟨rfl, hB9⟩
        rw [X2.out]
        have hW9 := below2 hW8 hB9
        replace a0 := look_below hB9 a0
        replace a1 := look_below hB9 a1
        replace b0 := look_below hB9 b0
        replace b1 := look_below hB9 b1
        replace c0 := look_below hB9 c0
        replace c1 := look_below hB9 c1
        go_wp2_with fail
        refine (kLess_calls p q n m _).mono ?_
        rintro e w10 ⟨rfl, hB10⟩
        rw [X3.out]
        have hW10 := below2 hW9 hB10
        replace a0 := look_below hB10 a0
        replace a1 := look_below hB10 a1
        replace b0 := look_below hB10 b0
        replace b1 := look_below hB10 b1
        replace c0 := look_below hB10 c0
        replace c1 := look_below hB10 c1
        go_wp2_with fail
        go_ret
        exact ⟨rfl, below2 hB0 hW10⟩
    · clear he
      cases hbc : lessK (q, m) (r, k) with
      | false =>
        have L2 := Lib.hid hbc
        clear hbc x3
        go_enter Tryd.func5, Tryd.ntmps5
        go_wp2_with fail
        refine C0.out.mono ?_
        rintro e w0 ⟨rfl, rfl⟩
        go_wp2_with fail
        refine (kPut_calls p n (by omega) _ hm0).mono ?_
        rintro e w1 ⟨rfl, hB1⟩
        rw [TA.out]
        rw [HA.out]
        have hW1 := hB1
        obtain ⟨a0, a1, _⟩ := (hA.out.below hW1).two
        obtain ⟨b0, b1, _⟩ := (hB.out.below hW1).two
        obtain ⟨c0, c1, _⟩ := (hC.out.below hW1).two
        go_wp2_with fail
        refine (kPut_calls q m (by omega) _ (hm0.below hW1)).mono ?_
        rintro e w2 ⟨rfl, hB2⟩
        rw [TB.out]
        rw [HE.out]
        have hW2 := below2 hW1 hB2
        replace a0 := look_below hB2 a0
        replace a1 := look_below hB2 a1
        replace b0 := look_below hB2 b0
        replace b1 := look_below hB2 b1
        replace c0 := look_below hB2 c0
        replace c1 := look_below hB2 c1
        go_wp2_with fail
        refine (kLess_calls p q n m _).mono ?_
        rintro e w3 ⟨rfl, hB3⟩
        rw [X3.out]
        have hW3 := below2 hW2 hB3
        replace a0 := look_below hB3 a0
        replace a1 := look_below hB3 a1
        replace b0 := look_below hB3 b0
        replace b1 := look_below hB3 b1
        replace c0 := look_below hB3 c0
        replace c1 := look_below hB3 c1
        go_wp2_with fail
        refine (kLess_calls p q n m _).mono ?_
        rintro e w4 ⟨rfl, hB4⟩
        rw [X3.out]
        have hW4 := below2 hW3 hB4
        replace a0 := look_below hB4 a0
        replace a1 := look_below hB4 a1
        replace b0 := look_below hB4 b0
        replace b1 := look_below hB4 b1
        replace c0 := look_below hB4 c0
        replace c1 := look_below hB4 c1
        go_wp2_with fail
        refine (kLess_calls q r m k _).mono ?_
        rintro e w5 ⟨rfl, hB5⟩
        rw [L2.out]
        have hW5 := below2 hW4 hB5
        replace a0 := look_below hB5 a0
        replace a1 := look_below hB5 a1
        replace b0 := look_below hB5 b0
        replace b1 := look_below hB5 b1
        replace c0 := look_below hB5 c0
        replace c1 := look_below hB5 c1
        go_wp2_with fail
        refine (kCompare_calls p q n m _).mono ?_
        rintro e w6 ⟨rfl, hB6⟩
        rw [X1.out]
        have hW6 := below2 hW5 hB6
        replace a0 := look_below hB6 a0
        replace a1 := look_below hB6 a1
        replace b0 := look_below hB6 b0
        replace b1 := look_below hB6 b1
        replace c0 := look_below hB6 c0
        replace c1 := look_below hB6 c1
        go_wp2_with fail
        refine (keyed_calls _ (hm0.below hW6)).mono ?_
        rintro e w7 ⟨rfl, hB7⟩
        have hW7 := below2 hW6 hB7
        replace a0 := look_below hB7 a0
        replace a1 := look_below hB7 a1
        replace b0 := look_below hB7 b0
        replace b1 := look_below hB7 b1
        replace c0 := look_below hB7 c0
        replace c1 := look_below hB7 c1
        go_wp2_with fail
        refine (kCompare_calls q p m n _).mono ?_
        rintro e w8 ⟨rfl, hB8⟩
        rw [X2.out]
        have hW8 := below2 hW7 hB8
        replace a0 := look_below hB8 a0
        replace a1 := look_below hB8 a1
        replace b0 := look_below hB8 b0
        replace b1 := look_below hB8 b1
        replace c0 := look_below hB8 c0
        replace c1 := look_below hB8 c1
        go_wp2_with fail
        refine (kLess_calls p q n m _).mono ?_
        rintro e w9 ⟨rfl, hB9⟩
        rw [X3.out]
        have hW9 := below2 hW8 hB9
        replace a0 := look_below hB9 a0
        replace a1 := look_below hB9 a1
        replace b0 := look_below hB9 b0
        replace b1 := look_below hB9 b1
        replace c0 := look_below hB9 c0
        replace c1 := look_below hB9 c1
        go_wp2_with fail
        go_ret
        exact ⟨rfl, below2 hB0 hW9⟩
      | true =>
        have L2 := Lib.hid hbc
        have L3 := Lib.hid (lessK_trans x3 hbc)
        clear hbc x3
        go_enter Tryd.func5, Tryd.ntmps5
        go_wp2_with fail
        refine C0.out.mono ?_
        rintro e w0 ⟨rfl, rfl⟩
        go_wp2_with fail
        refine (kPut_calls p n (by omega) _ hm0).mono ?_
        rintro e w1 ⟨rfl, hB1⟩
        rw [TA.out]
        rw [HA.out]
        have hW1 := hB1
        obtain ⟨a0, a1, _⟩ := (hA.out.below hW1).two
        obtain ⟨b0, b1, _⟩ := (hB.out.below hW1).two
        obtain ⟨c0, c1, _⟩ := (hC.out.below hW1).two
        go_wp2_with fail
        refine (kPut_calls q m (by omega) _ (hm0.below hW1)).mono ?_
        rintro e w2 ⟨rfl, hB2⟩
        rw [TB.out]
        rw [HE.out]
        have hW2 := below2 hW1 hB2
        replace a0 := look_below hB2 a0
        replace a1 := look_below hB2 a1
        replace b0 := look_below hB2 b0
        replace b1 := look_below hB2 b1
        replace c0 := look_below hB2 c0
        replace c1 := look_below hB2 c1
        go_wp2_with fail
        refine (kLess_calls p q n m _).mono ?_
        rintro e w3 ⟨rfl, hB3⟩
        rw [X3.out]
        have hW3 := below2 hW2 hB3
        replace a0 := look_below hB3 a0
        replace a1 := look_below hB3 a1
        replace b0 := look_below hB3 b0
        replace b1 := look_below hB3 b1
        replace c0 := look_below hB3 c0
        replace c1 := look_below hB3 c1
        go_wp2_with fail
        refine (kLess_calls p q n m _).mono ?_
        rintro e w4 ⟨rfl, hB4⟩
        rw [X3.out]
        have hW4 := below2 hW3 hB4
        replace a0 := look_below hB4 a0
        replace a1 := look_below hB4 a1
        replace b0 := look_below hB4 b0
        replace b1 := look_below hB4 b1
        replace c0 := look_below hB4 c0
        replace c1 := look_below hB4 c1
        go_wp2_with fail
        refine (kLess_calls q r m k _).mono ?_
        rintro e w5 ⟨rfl, hB5⟩
        rw [L2.out]
        have hW5 := below2 hW4 hB5
        replace a0 := look_below hB5 a0
        replace a1 := look_below hB5 a1
        replace b0 := look_below hB5 b0
        replace b1 := look_below hB5 b1
        replace c0 := look_below hB5 c0
        replace c1 := look_below hB5 c1
        go_wp2_with fail
        refine (kLess_calls p r n k _).mono ?_
        rintro e w6 ⟨rfl, hB6⟩
        rw [L3.out]
        have hW6 := below2 hW5 hB6
        replace a0 := look_below hB6 a0
        replace a1 := look_below hB6 a1
        replace b0 := look_below hB6 b0
        replace b1 := look_below hB6 b1
        replace c0 := look_below hB6 c0
        replace c1 := look_below hB6 c1
        go_wp2_with fail
        refine (kCompare_calls p q n m _).mono ?_
        rintro e w7 ⟨rfl, hB7⟩
        rw [X1.out]
        have hW7 := below2 hW6 hB7
        replace a0 := look_below hB7 a0
        replace a1 := look_below hB7 a1
        replace b0 := look_below hB7 b0
        replace b1 := look_below hB7 b1
        replace c0 := look_below hB7 c0
        replace c1 := look_below hB7 c1
        go_wp2_with fail
        refine (keyed_calls _ (hm0.below hW7)).mono ?_
        rintro e w8 ⟨rfl, hB8⟩
        have hW8 := below2 hW7 hB8
        replace a0 := look_below hB8 a0
        replace a1 := look_below hB8 a1
        replace b0 := look_below hB8 b0
        replace b1 := look_below hB8 b1
        replace c0 := look_below hB8 c0
        replace c1 := look_below hB8 c1
        go_wp2_with fail
        refine (kCompare_calls q p m n _).mono ?_
        rintro e w9 ⟨rfl, hB9⟩
        rw [X2.out]
        have hW9 := below2 hW8 hB9
        replace a0 := look_below hB9 a0
        replace a1 := look_below hB9 a1
        replace b0 := look_below hB9 b0
        replace b1 := look_below hB9 b1
        replace c0 := look_below hB9 c0
        replace c1 := look_below hB9 c1
        go_wp2_with fail
        refine (kLess_calls p q n m _).mono ?_
        rintro e w10 ⟨rfl, hB10⟩
        rw [X3.out]
        have hW10 := below2 hW9 hB10
        replace a0 := look_below hB10 a0
        replace a1 := look_below hB10 a1
        replace b0 := look_below hB10 b0
        replace b1 := look_below hB10 b1
        replace c0 := look_below hB10 c0
        replace c1 := look_below hB10 c1
        go_wp2_with fail
        go_ret
        exact ⟨rfl, below2 hB0 hW10⟩
  · have X1 := Lib.hid x1
    have X2 := Lib.hid x2
    have X3 := Lib.hid x3
    rw [x3] at hbl
    clear x1 x2
    rcases ky_ne he with hE | ⟨hE, hE2⟩
    · clear he
      clear x3
      go_enter Tryd.func5, Tryd.ntmps5
      go_wp2_with fail
      refine C0.out.mono ?_
      rintro e w0 ⟨rfl, rfl⟩
      go_wp2_with fail
      refine (kPut_calls p n (by omega) _ hm0).mono ?_
      rintro e w1 ⟨rfl, hB1⟩
      rw [TA.out]
      rw [HA.out]
      have hW1 := hB1
      obtain ⟨a0, a1, _⟩ := (hA.out.below hW1).two
      obtain ⟨b0, b1, _⟩ := (hB.out.below hW1).two
      obtain ⟨c0, c1, _⟩ := (hC.out.below hW1).two
      go_wp2_with fail
      refine (kPut_calls q m (by omega) _ (hm0.below hW1)).mono ?_
      rintro e w2 ⟨rfl, hB2⟩
      rw [TB.out]
      rw [HE.out]
      have hW2 := below2 hW1 hB2
      replace a0 := look_below hB2 a0
      replace a1 := look_below hB2 a1
      replace b0 := look_below hB2 b0
      replace b1 := look_below hB2 b1
      replace c0 := look_below hB2 c0
      replace c1 := look_below hB2 c1
      go_wp2_with fail
      refine (kLess_calls p q n m _).mono ?_
      rintro e w3 ⟨rfl, hB3⟩
      rw [X3.out]
      have hW3 := below2 hW2 hB3
      replace a0 := look_below hB3 a0
      replace a1 := look_below hB3 a1
      replace b0 := look_below hB3 b0
      replace b1 := look_below hB3 b1
      replace c0 := look_below hB3 c0
      replace c1 := look_below hB3 c1
      go_wp2_with fail
      refine (kLess_calls p q n m _).mono ?_
      rintro e w4 ⟨rfl, hB4⟩
      rw [X3.out]
      have hW4 := below2 hW3 hB4
      replace a0 := look_below hB4 a0
      replace a1 := look_below hB4 a1
      replace b0 := look_below hB4 b0
      replace b1 := look_below hB4 b1
      replace c0 := look_below hB4 c0
      replace c1 := look_below hB4 c1
      go_wp2_with fail
      refine (kCompare_calls p q n m _).mono ?_
      rintro e w5 ⟨rfl, hB5⟩
      rw [X1.out]
      have hW5 := below2 hW4 hB5
      replace a0 := look_below hB5 a0
      replace a1 := look_below hB5 a1
      replace b0 := look_below hB5 b0
      replace b1 := look_below hB5 b1
      replace c0 := look_below hB5 c0
      replace c1 := look_below hB5 c1
      go_wp2_with fail
      refine (keyed_calls _ (hm0.below hW5)).mono ?_
      rintro e w6 ⟨rfl, hB6⟩
      have hW6 := below2 hW5 hB6
      replace a0 := look_below hB6 a0
      replace a1 := look_below hB6 a1
      replace b0 := look_below hB6 b0
      replace b1 := look_below hB6 b1
      replace c0 := look_below hB6 c0
      replace c1 := look_below hB6 c1
      go_wp2_with fail
      refine (kCompare_calls q p m n _).mono ?_
      rintro e w7 ⟨rfl, hB7⟩
      rw [X2.out]
      have hW7 := below2 hW6 hB7
      replace a0 := look_below hB7 a0
      replace a1 := look_below hB7 a1
      replace b0 := look_below hB7 b0
      replace b1 := look_below hB7 b1
      replace c0 := look_below hB7 c0
      replace c1 := look_below hB7 c1
      go_wp2_with fail
      refine (kLess_calls p q n m _).mono ?_
      rintro e w8 ⟨rfl, hB8⟩
      rw [X3.out]
      have hW8 := below2 hW7 hB8
      replace a0 := look_below hB8 a0
      replace a1 := look_below hB8 a1
      replace b0 := look_below hB8 b0
      replace b1 := look_below hB8 b1
      replace c0 := look_below hB8 c0
      replace c1 := look_below hB8 c1
      go_wp2_with fail
      go_ret
      exact ⟨rfl, below2 hB0 hW8⟩
    · clear he
      clear x3
      go_enter Tryd.func5, Tryd.ntmps5
      go_wp2_with fail
      refine C0.out.mono ?_
      rintro e w0 ⟨rfl, rfl⟩
      go_wp2_with fail
      refine (kPut_calls p n (by omega) _ hm0).mono ?_
      rintro e w1 ⟨rfl, hB1⟩
      rw [TA.out]
      rw [HA.out]
      have hW1 := hB1
      obtain ⟨a0, a1, _⟩ := (hA.out.below hW1).two
      obtain ⟨b0, b1, _⟩ := (hB.out.below hW1).two
      obtain ⟨c0, c1, _⟩ := (hC.out.below hW1).two
      go_wp2_with fail
      refine (kPut_calls q m (by omega) _ (hm0.below hW1)).mono ?_
      rintro e w2 ⟨rfl, hB2⟩
      rw [TB.out]
      rw [HE.out]
      have hW2 := below2 hW1 hB2
      replace a0 := look_below hB2 a0
      replace a1 := look_below hB2 a1
      replace b0 := look_below hB2 b0
      replace b1 := look_below hB2 b1
      replace c0 := look_below hB2 c0
      replace c1 := look_below hB2 c1
      go_wp2_with fail
      refine (kLess_calls p q n m _).mono ?_
      rintro e w3 ⟨rfl, hB3⟩
      rw [X3.out]
      have hW3 := below2 hW2 hB3
      replace a0 := look_below hB3 a0
      replace a1 := look_below hB3 a1
      replace b0 := look_below hB3 b0
      replace b1 := look_below hB3 b1
      replace c0 := look_below hB3 c0
      replace c1 := look_below hB3 c1
      go_wp2_with fail
      refine (kLess_calls p q n m _).mono ?_
      rintro e w4 ⟨rfl, hB4⟩
      rw [X3.out]
      have hW4 := below2 hW3 hB4
      replace a0 := look_below hB4 a0
      replace a1 := look_below hB4 a1
      replace b0 := look_below hB4 b0
      replace b1 := look_below hB4 b1
      replace c0 := look_below hB4 c0
      replace c1 := look_below hB4 c1
      go_wp2_with fail
      refine (kCompare_calls p q n m _).mono ?_
      rintro e w5 ⟨rfl, hB5⟩
      rw [X1.out]
      have hW5 := below2 hW4 hB5
      replace a0 := look_below hB5 a0
      replace a1 := look_below hB5 a1
      replace b0 := look_below hB5 b0
      replace b1 := look_below hB5 b1
      replace c0 := look_below hB5 c0
      replace c1 := look_below hB5 c1
      go_wp2_with fail
      refine (keyed_calls _ (hm0.below hW5)).mono ?_
      rintro e w6 ⟨rfl, hB6⟩
      have hW6 := below2 hW5 hB6
      replace a0 := look_below hB6 a0
      replace a1 := look_below hB6 a1
      replace b0 := look_below hB6 b0
      replace b1 := look_below hB6 b1
      replace c0 := look_below hB6 c0
      replace c1 := look_below hB6 c1
      go_wp2_with fail
      refine (kCompare_calls q p m n _).mono ?_
      rintro e w7 ⟨rfl, hB7⟩
      rw [X2.out]
      have hW7 := below2 hW6 hB7
      replace a0 := look_below hB7 a0
      replace a1 := look_below hB7 a1
      replace b0 := look_below hB7 b0
      replace b1 := look_below hB7 b1
      replace c0 := look_below hB7 c0
      replace c1 := look_below hB7 c1
      go_wp2_with fail
      refine (kLess_calls p q n m _).mono ?_
      rintro e w8 ⟨rfl, hB8⟩
      rw [X3.out]
      have hW8 := below2 hW7 hB8
      replace a0 := look_below hB8 a0
      replace a1 := look_below hB8 a1
      replace b0 := look_below hB8 b0
      replace b1 := look_below hB8 b1
      replace c0 := look_below hB8 c0
      replace c1 := look_below hB8 c1
      go_wp2_with fail
      go_ret
      exact ⟨rfl, below2 hB0 hW8⟩

set_option maxRecDepth 100000 in
set_option maxHeartbeats 4000000 in
theorem keyOrder_walk (p q r : List UInt8) (n m k : Int) (w : World) (hm : Ml w) :
    Calls Tryd.prog 5 #[.agg #[.string ⟨p.toArray⟩, .int .i64 n], .agg #[.string ⟨q.toArray⟩, .int .i64 m], .agg #[.string ⟨r.toArray⟩, .int .i64 k]] w fun e w' => e = .returned (.bool true) ∧ Below w.heap.size w w' := by
  have CS := short_calls _ [p, q, r] _ (strs_new (((w.alloc (.cells #[.string ⟨p.toArray⟩, .int .i64 n] 23)).alloc (.cells #[.string ⟨q.toArray⟩, .int .i64 m] 23)).alloc (.cells #[.string ⟨r.toArray⟩, .int .i64 k] 23)) [p, q, r] 9) (by simp)
  rw [World.size_alloc, World.size_alloc, World.size_alloc] at CS
  cases hs : shortB [p, q, r] with
  | false =>
    rw [hs] at CS
    have hB0 := below_alloc4 w (.cells #[.string ⟨p.toArray⟩, .int .i64 n] 23) (.cells #[.string ⟨q.toArray⟩, .int .i64 m] 23) (.cells #[.string ⟨r.toArray⟩, .int .i64 k] 23) (.cells ([p, q, r].map SV).toArray 9)
    go_enter Tryd.func5, Tryd.ntmps5
    go_wp2_with fail
    refine CS.mono ?_
    rintro e w1 ⟨rfl, rfl⟩
    go_wp2_with fail
    go_ret
    exact ⟨rfl, hB0⟩
  | true =>
    rw [hs] at CS
    have hl3 : p.length ≤ 300 ∧ q.length ≤ 300 ∧ r.length ≤ 300 := by simpa [shortB] using hs
    obtain ⟨h1, h2, _⟩ := hl3
    cases ha : keyB (p, n) with
    | false => exact keyOrder_first p q r n m k w hm h1 h2 (Lib.hid CS) (by simp [putE, ha])
    | true =>
      cases hb : keyB (q, m) with
      | false => exact keyOrder_second p q r n m k w hm h1 h2 (Lib.hid CS) (by simp [putE, ha]) (by simp [putE, hb])
      | true => exact keyOrder_both p q r n m k w hm h1 h2 (Lib.hid CS) (by simp [putE, ha]) (by simp [putE, hb]) (by rw [less_keys ha hb]; simp [putT, ha, hb])

end Go.Proofs.YtaoiiocgnnjnnaaDoor
