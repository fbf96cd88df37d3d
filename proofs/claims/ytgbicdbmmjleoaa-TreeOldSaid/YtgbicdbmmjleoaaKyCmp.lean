/-
  key.Compare, Less: the two steps, and the loop over them.
-/
import Derived.Test.YtgbicdbmmjleoaaKyOrd
import Derived.Test.YtgbicdbmmjleoaaKyRets
import Derived.Test.YtgbicdbmmjleoaaShelf
namespace Go.Proofs.Ytgbicdbmmjleoaa
open Go.RowKit

set_option maxHeartbeats 1000000 in
theorem byPath_calls (p q : List UInt8) (n m : Int) (w : World) :
    Calls Try.prog 57 #[.agg #[.string ⟨p.toArray⟩, .int .i64 n], .agg #[.string ⟨q.toArray⟩, .int .i64 m]] w fun e w' => e = .returned (.int .i64 (Lib.compareBytes p q)) ∧ Below w.heap.size w w' := by
  go_enter Try.func57, Try.ntmps57
  go_wp2_with (go_at_call 61; refine (Try.strings_Compare _ _ _).mono ?_; rintro e w1 ⟨rfl, rfl⟩)
  go_ret
  exact ⟨rfl, below_alloc2 _ _ _⟩

set_option maxHeartbeats 1000000 in
theorem byAt_calls (p q : List UInt8) (n m : Int) (w : World) :
    Calls Try.prog 58 #[.agg #[.string ⟨p.toArray⟩, .int .i64 n], .agg #[.string ⟨q.toArray⟩, .int .i64 m]] w fun e w' => e = .returned (.int .i64 (Lib.compareInt m n)) ∧ Below w.heap.size w w' := by
  go_enter Try.func58, Try.ntmps58
  go_wp2_with (go_at_call 62; refine (Try.cmp_Compare_int _ _ _).mono ?_; rintro e w1 ⟨rfl, rfl⟩)
  go_ret
  exact ⟨rfl, below_alloc2 _ _ _⟩

/-- The two steps, in a row of two functions. -/
def Steps2 (w : World) (v : Value) : Prop := ∃ b, v = .slice (some ⟨b, 0, none⟩) 2 2 ∧ w.cell? ⟨b, 0, none⟩ = some (.func (.func 57) #[] #[]) ∧ w.cell? ⟨b, 1, none⟩ = some (.func (.func 58) #[] #[])

theorem steps_new (w : World) (o1 o2 : Obj) : Steps2 (((w.alloc o1).alloc o2).alloc (.cells #[.func (.func 57) #[] #[], .func (.func 58) #[] #[]] 91)) (.slice (some ⟨w.heap.size + 1 + 1, 0, none⟩) 2 2) := by
  have h := heap_alloc_new ((w.alloc o1).alloc o2) (.cells #[.func (.func 57) #[] #[], .func (.func 58) #[] #[]] 91)
  rw [World.size_alloc, World.size_alloc] at h
  exact ⟨_, rfl, cell_of_row _ _ 0 _ _ _ h, cell_of_row _ _ 1 _ _ _ h⟩

set_option maxHeartbeats 2000000 in
theorem compare_calls (p q : List UInt8) (n m : Int) (v : Value) (w : World) (hs : Steps2 w v) :
    Calls Try.prog 56 #[.agg #[.string ⟨p.toArray⟩, .int .i64 n], .agg #[.string ⟨q.toArray⟩, .int .i64 m], v] w fun e w' => e = .returned (.int .i64 (cmpK (p, n) (q, m))) ∧ Below w.heap.size w w' := by
  obtain ⟨b, rfl, s0, s1⟩ := hs
  have hW := below_alloc2 w (.cells #[.string ⟨p.toArray⟩, .int .i64 n] 90) (.cells #[.string ⟨q.toArray⟩, .int .i64 m] 90)
  have hS0 := Lib.hid (look_below hW s0)
  have hS1 := Lib.hid (look_below hW s1)
  have hX := Lib.hid ((Cx.new w 90 [.string ⟨p.toArray⟩, .int .i64 n]).below (below_alloc _ (.cells #[.string ⟨q.toArray⟩, .int .i64 m] 90)))
  have hY := Lib.hid (Cx.new (w.alloc (.cells #[.string ⟨p.toArray⟩, .int .i64 n] 90)) 90 [.string ⟨q.toArray⟩, .int .i64 m])
  clear s0 s1
  obtain ⟨cp, hcp⟩ : ∃ c, Lib.compareBytes p q = c := ⟨_, rfl⟩
  obtain ⟨cn, hcn⟩ : ∃ c, Lib.compareInt m n = c := ⟨_, rfl⟩
  have HR := Lib.hid (show cmpK (p, n) (q, m) = if cp = 0 then cn else cp by rw [← hcp, ← hcn]; rfl)
  have HP := Lib.hid hcp
  have HN := Lib.hid hcn
  clear hcp hcn
  go_enter Try.func56, Try.ntmps56
  go_wp2_with fail
  go_loopw [12] (fun i wr => ∃ k : Nat, k ≤ 2 ∧ i = .int .i64 k ∧ (1 ≤ k → cp = 0) ∧ (2 ≤ k → cn = 0) ∧ Below ((w.alloc (.cells #[.string ⟨p.toArray⟩, .int .i64 n] 90)).alloc (.cells #[.string ⟨q.toArray⟩, .int .i64 m] 90)).heap.size ((w.alloc (.cells #[.string ⟨p.toArray⟩, .int .i64 n] 90)).alloc (.cells #[.string ⟨q.toArray⟩, .int .i64 m] 90)) wr) (fun i _ => 2 - (intOf i).toNat)
  case atStart => exact ⟨0, by omega, rfl, fun h => by omega, fun h => by omega, Below.refl _ _⟩
  case round =>
    obtain ⟨k, hk, rfl, h1, h2, hB⟩ := hrel
    have t0 := look_below hB hS0.out
    have t1 := look_below hB hS1.out
    obtain ⟨c0, c1, _⟩ := (hX.out.below hB).two
    have hYb := hY.out.below hB
    rw [World.size_alloc] at hYb
    obtain ⟨d0, d1, _⟩ := hYb.two
    clear hYb
    rcases (by omega : k = 0 ∨ k = 1 ∨ k = 2) with rfl | rfl | rfl
    · clear h1 h2
      by_cases h0 : cp = 0
      · have H0 := Lib.hid h0
        subst h0
        go_wp2_with fail
        refine (byPath_calls p q n m _).mono ?_
        rintro e w1 ⟨rfl, hB1⟩
        rw [HP.out]
        go_wp2_with fail
        go_roundw
        case rel => exact ⟨1, by omega, rfl, fun _ => by simp, fun h => by omega, below2 hB hB1⟩
        case measure => simp [intOf]
      · have hb : (cp == 0) = false := by simpa using h0
        have H0 := Lib.hid h0
        clear h0
        go_wp2_with fail
        refine (byPath_calls p q n m _).mono ?_
        rintro e w1 ⟨rfl, hB1⟩
        rw [HP.out]
        go_wp2_with fail
        go_ret
        exact ⟨by rw [HR.out, if_neg H0.out]; rfl, below3 hW hB hB1⟩
    · obtain rfl := h1 (by omega)
      clear h1 h2
      by_cases h0 : cn = 0
      · subst h0
        go_wp2_with fail
        refine (byAt_calls p q n m _).mono ?_
        rintro e w1 ⟨rfl, hB1⟩
        rw [HN.out]
        go_wp2_with fail
        go_roundw
        case rel => exact ⟨2, by omega, rfl, fun _ => by simp, fun _ => by simp, below2 hB hB1⟩
        case measure => simp [intOf]
      · have hb : (cn == 0) = false := by simpa using h0
        clear h0
        go_wp2_with fail
        refine (byAt_calls p q n m _).mono ?_
        rintro e w1 ⟨rfl, hB1⟩
        rw [HN.out]
        go_wp2_with fail
        go_ret
        exact ⟨by rw [HR.out]; simp, below3 hW hB hB1⟩
    · obtain rfl := h1 (by omega)
      obtain rfl := h2 (by omega)
      clear h1 h2
      go_wp2_with fail
      go_ret
      exact ⟨by rw [HR.out]; simp, below2 hW hB⟩

set_option maxHeartbeats 1000000 in
theorem kCompare_calls (p q : List UInt8) (n m : Int) (w : World) :
    Calls Try.prog 51 #[.agg #[.string ⟨p.toArray⟩, .int .i64 n], .agg #[.string ⟨q.toArray⟩, .int .i64 m]] w fun e w' => e = .returned (.int .i64 (cmpK (p, n) (q, m))) ∧ Below w.heap.size w w' := by
  go_enter Try.func51, Try.ntmps51
  go_wp2_with fail
  refine (compare_calls p q n m _ _ (steps_new w _ _)).mono ?_
  rintro e w1 ⟨rfl, hB1⟩
  go_wp2_with fail
  go_ret
  exact ⟨rfl, below2 (below_alloc3 _ _ _ _) hB1⟩

set_option maxHeartbeats 1000000 in
theorem kLess_calls (p q : List UInt8) (n m : Int) (w : World) :
    Calls Try.prog 44 #[.agg #[.string ⟨p.toArray⟩, .int .i64 n], .agg #[.string ⟨q.toArray⟩, .int .i64 m]] w fun e w' => e = .returned (.bool (lessK (p, n) (q, m))) ∧ Below w.heap.size w w' := by
  go_enter Try.func44, Try.ntmps44
  go_wp2_with fail
  refine (kCompare_calls p q n m _).mono ?_
  rintro e w1 ⟨rfl, hB1⟩
  go_wp2_with fail
  go_ret
  exact ⟨rfl, below2 (below_alloc2 _ _ _) hB1⟩

end Go.Proofs.Ytgbicdbmmjleoaa
