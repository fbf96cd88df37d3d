/-
  meta.Read.
-/
import Derived.Test.YtijhbnkfkjfcfaaMeGet
import Derived.Test.YtijhbnkfkjfcfaaShelf
namespace Go.Proofs.Ytijhbnkfkjfcfaa
set_option maxRecDepth 100000
open Go.RowKit

theorem red_gone : redM [0] = (0, 0, []) ∧ redG [0] = true ∧ redE [0] = 0 := ⟨rfl, rfl, rfl⟩
theorem red_none {s : List UInt8} (h0 : s ≠ [0]) (h : s.head? ≠ some 1) : redM s = (0, 0, []) ∧ redG s = false ∧ redE s = 30 := by
  refine ⟨by simp [redM, h], by simpa [redG] using h0, by simp [redE, h0, h]⟩
theorem red_some (r : List UInt8) : redM (1 :: r) = gotM r ∧ redG (1 :: r) = false ∧ redE (1 :: r) = gotE r := by
  refine ⟨by simp [redM], by simp [redG], by simp [redE]⟩
/-- Whether a text begins with a byte 1, and what stands behind. -/
theorem pre_no {s : List UInt8} (h : s.head? ≠ some 1) : Lib.hasPrefix s [1] = false := by
  cases s with
  | nil => rfl
  | cons b r =>
    have : b ≠ 1 := by simpa using h
    have h2 : ((1 : UInt8) == b) = false := by simpa using Ne.symm this
    simp [Lib.hasPrefix, List.isPrefixOf, h2]
theorem pre_yes (r : List UInt8) : Lib.hasPrefix (1 :: r) [1] = true ∧ Lib.trimPrefix (1 :: r) [1] = r := by
  constructor <;> simp [Lib.hasPrefix, Lib.trimPrefix]

theorem cutPre_no {s : List UInt8} (h : s.head? ≠ some 1) (w : World) :
    Calls Try.prog 28 #[.string ⟨s.toArray⟩, .string ⟨#[1]⟩] w fun e w' => e = .returned (.tuple #[.string ⟨s.toArray⟩, .bool false]) ∧ w' = w := by
  have h1 := pre_no h
  refine (Try.strings_CutPrefix ⟨s.toArray⟩ ⟨#[1]⟩ w).mono fun e w' he => ⟨he.1.trans ?_, he.2⟩
  simp only [Lib.trimPrefix, h1]
  rfl
theorem cutPre_yes (r : List UInt8) (w : World) :
    Calls Try.prog 28 #[.string ⟨(1 :: r).toArray⟩, .string ⟨#[1]⟩] w fun e w' => e = .returned (.tuple #[.string ⟨r.toArray⟩, .bool true]) ∧ w' = w := by
  obtain ⟨h1, h2⟩ := pre_yes r
  refine (Try.strings_CutPrefix ⟨(1 :: r).toArray⟩ ⟨#[1]⟩ w).mono fun e w' he => ⟨he.1.trans ?_, he.2⟩
  simp only [h1, h2]

set_option maxHeartbeats 2000000 in
theorem mRead_gone (w : World) :
    Calls Try.prog 15 #[.string ⟨[0].toArray⟩] w fun e w' => e = .returned (.tuple #[zM, .bool true, .int .i64 0]) ∧ Below w.heap.size w w' := by
  have HX := Lib.hid (Cx.new w 24 [.int .i64 0, .int .i64 0, .slice none 0 0])
  go_enter Try.func15, Try.ntmps15
  go_wp2_with fail
  obtain ⟨c0, c1, c2, _⟩ := HX.out.three
  exact ret_meta3 rfl rfl w.heap.size _ _ _ _ _ rfl rfl rfl c0 c1 c2 ⟨rfl, below_alloc _ _⟩

set_option maxHeartbeats 2000000 in
theorem mRead_none {s : List UInt8} (h0 : s ≠ [0]) (h : s.head? ≠ some 1) (w : World) :
    Calls Try.prog 15 #[.string ⟨s.toArray⟩] w fun e w' => e = .returned (.tuple #[zM, .bool false, .int .i64 30]) ∧ Below w.heap.size w w' := by
  have HX := Lib.hid (Cx.new w 24 [.int .i64 0, .int .i64 0, .slice none 0 0])
  have H := Lib.hid h
  have hne : (s == [0]) = false := by simpa using h0
  clear h h0
  go_enter Try.func15, Try.ntmps15
  go_wp2_with fail
  refine (cutPre_no H.out _).mono ?_
  rintro e w1 ⟨rfl, rfl⟩
  go_wp2_with fail
  obtain ⟨c0, c1, c2, _⟩ := HX.out.three
  exact ret_meta3 rfl rfl w.heap.size _ _ _ _ _ rfl rfl rfl c0 c1 c2 ⟨rfl, below_alloc _ _⟩

set_option maxHeartbeats 2000000 in
theorem mRead_some (r : List UInt8) (hr : r.length ≤ 4611686018427387904) (w : World) :
    Calls Try.prog 15 #[.string ⟨(1 :: r).toArray⟩] w fun e w' => ∃ v, e = .returned (.tuple #[MV (gotM r).1 (gotM r).2.1 v, .bool false, .int .i64 (gotE r)]) ∧ OwnI w' w.heap.size v (gotM r).2.2 ∧ Below w.heap.size w w' := by
  have HX := Lib.hid (Cx.new w 24 [.int .i64 0, .int .i64 0, .slice none 0 0])
  have K := Lib.hid (fun W => mGet_calls r hr W)
  have hne : ((1 :: r) == [0]) = false := by simp
  generalize (gotM r).1 = z at *
  generalize (gotM r).2.1 = d at *
  generalize (gotM r).2.2 = cs at *
  generalize gotE r = y at *
  go_enter Try.func15, Try.ntmps15
  go_wp2_with fail
  refine (cutPre_yes r _).mono ?_
  rintro e w1 ⟨rfl, rfl⟩
  go_wp2_with fail
  refine (K.out _).mono ?_
  rintro e w1 ⟨v, rfl, hI, hB⟩
  obtain ⟨ao, cap, rfl⟩ := (ints_own hI).form
  have HI := Lib.hid hI
  have HX1 := Lib.hid ((HX.out.below hB).below (below_alloc w1 (.cells #[.int .i64 z, .int .i64 d, .slice ao cs.length cap] 24)))
  clear hI
  obtain ⟨c0, c1, c2, f0, f1, f2, hlt⟩ := HX1.out.three
  go_wp2_with fail
  obtain ⟨x0, x1, x2, _⟩ := (HX1.out.sets3 (.int .i64 z) (.int .i64 d) (.slice ao cs.length cap)).three
  refine ret_meta3 rfl rfl w.heap.size _ _ _ _ _ rfl rfl rfl x0 x1 x2 ⟨_, rfl, ?_, ?_⟩
  · have hl : w.heap.size < (w.alloc (.cells #[.int .i64 0, .int .i64 0, .slice none 0 0] 24)).heap.size := by rw [World.size_alloc]; exact Nat.lt_succ_self _
    exact own_weak (own_above (own_above (own_above (own_stays HI.out (below_alloc _ _)) hl 0 _) hl 1 _) hl 2 _) (Nat.le_of_lt hl)
  · exact below_sets3 (below3 (below_alloc _ _) hB (below_alloc _ _)) (Nat.le_refl _) _ _ _

theorem mRead_calls (s : List UInt8) (hs : s.length ≤ 4611686018427387904) (w : World) :
    Calls Try.prog 15 #[.string ⟨s.toArray⟩] w fun e w' => ∃ v, e = .returned (.tuple #[MV (redM s).1 (redM s).2.1 v, .bool (redG s), .int .i64 (redE s)]) ∧ OwnI w' w.heap.size v (redM s).2.2 ∧ Below w.heap.size w w' := by
  by_cases h0 : s = [0]
  · subst h0
    obtain ⟨h1, h2, h3⟩ := red_gone
    rw [h1, h2, h3]
    exact (mRead_gone w).mono fun e w' he => ⟨_, he.1, World.ownsRow_nil _ _ _ _, he.2⟩
  · by_cases h : s.head? = some 1
    · cases s with
      | nil => simp at h
      | cons b r =>
        obtain rfl : b = 1 := by simpa using h
        obtain ⟨h1, h2, h3⟩ := red_some r
        rw [h1, h2, h3]
        exact mRead_some r (by simp at hs; omega) w
    · obtain ⟨h1, h2, h3⟩ := red_none h0 h
      rw [h1, h2, h3]
      exact (mRead_none h0 h w).mono fun e w' he => ⟨_, he.1, World.ownsRow_nil _ _ _ _, he.2⟩

end Go.Proofs.Ytijhbnkfkjfcfaa
