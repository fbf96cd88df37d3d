/-
  The document's own Read of values.
-/
import Derived.Test.YtijhbnkfkjfcfaaMeRefG
import Derived.Test.YtijhbnkfkjfcfaaMeRd
namespace Go.Proofs.Ytijhbnkfkjfcfaa
set_option maxRecDepth 100000
open Go.RowKit
attribute [local go_sem] at_str ext_drop

theorem tail_ext (r : List UInt8) : (ByteArray.mk (1 :: r).toArray).extract 1 (1 :: r).length = ⟨r.toArray⟩ := by
  rw [ext_drop]; rfl

set_option maxHeartbeats 2000000 in
theorem rRead_gone (w : World) :
    Calls Try.prog 16 #[.string ⟨[0].toArray⟩] w fun e w' => e = .returned (.tuple #[zM, .bool true, .int .i64 0]) ∧ Below w.heap.size w w' := by
  have HX := Lib.hid (Cx.new w 24 [.int .i64 0, .int .i64 0, .slice none 0 0])
  go_enter Try.func16, Try.ntmps16
  go_wp2_with fail
  obtain ⟨c0, c1, c2, _⟩ := HX.out.three
  exact ret_meta3 rfl rfl w.heap.size _ _ _ _ _ rfl rfl rfl c0 c1 c2 ⟨rfl, below_alloc _ _⟩

set_option maxHeartbeats 2000000 in
theorem rRead_nil (w : World) :
    Calls Try.prog 16 #[.string ⟨#[]⟩] w fun e w' => e = .returned (.tuple #[zM, .bool false, .int .i64 30]) ∧ Below w.heap.size w w' := by
  have HX := Lib.hid (Cx.new w 24 [.int .i64 0, .int .i64 0, .slice none 0 0])
  go_enter Try.func16, Try.ntmps16
  go_wp2_with fail
  obtain ⟨c0, c1, c2, _⟩ := HX.out.three
  exact ret_meta3 rfl rfl w.heap.size _ _ _ _ _ rfl rfl rfl c0 c1 c2 ⟨rfl, below_alloc _ _⟩

set_option maxHeartbeats 2000000 in
theorem rRead_none (b : UInt8) (r : List UInt8) (h0 : b :: r ≠ [0]) (h : b ≠ 1) (hl : r.length ≤ 1000) (w : World) :
    Calls Try.prog 16 #[.string ⟨(b :: r).toArray⟩] w fun e w' => e = .returned (.tuple #[zM, .bool false, .int .i64 30]) ∧ Below w.heap.size w w' := by
  have HX := Lib.hid (Cx.new w 24 [.int .i64 0, .int .i64 0, .slice none 0 0])
  have hne : ((b :: r) == [0]) = false := by simpa using h0
  have hl0 : (((b :: r).length : Int) == 0) = false := by rw [beq_eq_false_iff_ne]; simp; omega
  have hb : ((b.toNat : Int) != 1) = true := by
    rw [bne_iff_ne]
    intro e
    exact h (UInt8.toNat_inj.1 (by show b.toNat = 1; omega))
  obtain ⟨s, hs⟩ : ∃ s, b :: r = s := ⟨_, rfl⟩
  have hpos : 0 < s.length := by rw [← hs]; simp
  have hat : s[0] = b := by subst hs; rfl
  rw [hs] at hne hl0 ⊢
  rw [← hat] at hb
  clear hs h0 h hat
  go_enter Try.func16, Try.ntmps16
  go_wp2_with fail
  obtain ⟨c0, c1, c2, _⟩ := HX.out.three
  exact ret_meta3 rfl rfl w.heap.size _ _ _ _ _ rfl rfl rfl c0 c1 c2 ⟨rfl, below_alloc _ _⟩

set_option maxHeartbeats 2000000 in
theorem rRead_some (r : List UInt8) (hr : r.length ≤ 1000) (w : World) :
    Calls Try.prog 16 #[.string ⟨(1 :: r).toArray⟩] w fun e w' => ∃ v, e = .returned (.tuple #[MV (gotM r).1 (gotM r).2.1 v, .bool false, .int .i64 (gotE r)]) ∧ OwnI w' w.heap.size v (gotM r).2.2 ∧ Below w.heap.size w w' := by
  have HX := Lib.hid (Cx.new w 24 [.int .i64 0, .int .i64 0, .slice none 0 0])
  have K := Lib.hid (fun W => rGet_calls r hr W)
  have hne : ((1 :: r) == [0]) = false := by simp
  have hl0 : (((1 :: r).length : Int) == 0) = false := by rw [beq_eq_false_iff_ne]; simp; omega
  generalize (gotM r).1 = z at *
  generalize (gotM r).2.1 = d at *
  generalize (gotM r).2.2 = cs at *
  generalize gotE r = y at *
  obtain ⟨s, hs⟩ : ∃ s, 1 :: r = s := ⟨_, rfl⟩
  have hpos : 0 < s.length := by rw [← hs]; simp
  have hdr : s.tail = r := by rw [← hs]; rfl
  have hat : ((s[0].toNat : Int) != 1) = false := by subst hs; rfl
  rw [hs] at hne hl0 ⊢
  have HD := Lib.hid hdr
  clear hs hdr
  go_enter Try.func16, Try.ntmps16
  go_wp2_with fail
  rw [HD.out]
  refine (K.out _).mono ?_
  rintro e w1 ⟨v, rfl, hI, hB⟩
  obtain ⟨ao, cap, rfl⟩ := (ints_own hI).form
  have HI := Lib.hid hI
  have HX1 := Lib.hid ((HX.out.below hB).below (below_alloc w1 (.cells #[.int .i64 z, .int .i64 d, .slice ao cs.length cap] 24)))
  clear hI
  obtain ⟨c0, c1, c2, f0, f1, f2, hlt⟩ := HX1.out.three
  go_wp2_with fail
  obtain ⟨x0, x1, x2, _⟩ := (HX1.out.sets3 (.int .i64 z) (.int .i64 d) (.slice ao cs.length cap)).three
  refine ret_meta3 rfl rfl w.heap.size _ _ _ _ _ rfl rfl rfl x0 x1 x2 ⟨_, rfl, ?_, ?_⟩
  · have hl : w.heap.size < (w.alloc (.cells #[.int .i64 0, .int .i64 0, .slice none 0 0] 24)).heap.size := by rw [World.size_alloc]; exact Nat.lt_succ_self _
    exact own_weak (own_above (own_above (own_above (own_stays HI.out (below_alloc _ _)) hl 0 _) hl 1 _) hl 2 _) (Nat.le_of_lt hl)
  · exact below_sets3 (below3 (below_alloc _ _) hB (below_alloc _ _)) (Nat.le_refl _) _ _ _

theorem rRead_calls (s : List UInt8) (hs : s.length ≤ 1000) (w : World) :
    Calls Try.prog 16 #[.string ⟨s.toArray⟩] w fun e w' => ∃ v, e = .returned (.tuple #[MV (redM s).1 (redM s).2.1 v, .bool (redG s), .int .i64 (redE s)]) ∧ OwnI w' w.heap.size v (redM s).2.2 ∧ Below w.heap.size w w' := by
  by_cases h0 : s = [0]
  · subst h0
    obtain ⟨h1, h2, h3⟩ := red_gone
    rw [h1, h2, h3]
    exact (rRead_gone w).mono fun e w' he => ⟨_, he.1, World.ownsRow_nil _ _ _ _, he.2⟩
  · by_cases h : s.head? = some 1
    · cases s with
      | nil => simp at h
      | cons b r =>
        obtain rfl : b = 1 := by simpa using h
        obtain ⟨h1, h2, h3⟩ := red_some r
        rw [h1, h2, h3]
        exact rRead_some r (by simp at hs; omega) w
    · obtain ⟨h1, h2, h3⟩ := red_none h0 h
      rw [h1, h2, h3]
      cases s with
      | nil => exact (rRead_nil w).mono fun e w' he => ⟨_, he.1, World.ownsRow_nil _ _ _ _, he.2⟩
      | cons b r => exact (rRead_none b r h0 (by simpa using h) (by simp at hs; omega) w).mono fun e w' he => ⟨_, he.1, World.ownsRow_nil _ _ _ _, he.2⟩

end Go.Proofs.Ytijhbnkfkjfcfaa
