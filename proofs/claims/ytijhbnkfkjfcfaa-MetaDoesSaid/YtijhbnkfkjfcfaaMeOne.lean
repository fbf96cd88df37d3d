/-
  One meta that came in: its box; what its bytes say, read again.
-/
import Derived.Test.YtijhbnkfkjfcfaaMeRd
import Derived.Test.YtijhbnkfkjfcfaaMeTwo
import Derived.Test.YtijhbnkfkjfcfaaShort
namespace Go.Proofs.Ytijhbnkfkjfcfaa
set_option maxRecDepth 100000
open Go.RowKit

/-- How things stand within a law of one meta. -/
def MSt (z m : Int) (v : Value) (cs : List Int) (w W : World) : Prop := Below w.heap.size w W ∧ Ints W v cs ∧ Cx W w.heap.size 24 [.int .i64 z, .int .i64 m, v]
theorem MSt.below {z m : Int} {v : Value} {cs : List Int} {w W W' : World} (h : MSt z m v cs w W) (hB : Below W.heap.size W W') : MSt z m v cs w W' := ⟨below2 h.1 hB, h.2.1.below hB, h.2.2.below hB⟩
theorem MSt.new (z m : Int) {v : Value} {cs : List Int} {w : World} (h : Ints w v cs) : MSt z m v cs w (w.alloc (.cells #[.int .i64 z, .int .i64 m, v] 24)) :=
  ⟨below_alloc _ _, h.below (below_alloc _ _), Cx.new w 24 [.int .i64 z, .int .i64 m, v]⟩

/-- Short of one text, laid in a row of its own. -/
theorem short_at (s : List UInt8) (W : World) (n : Nat) (hn : W.heap.size = n) :
    Calls Try.prog 7 #[.slice (some ⟨n, 0, none⟩) 1 1] (W.alloc (.cells #[.string ⟨s.toArray⟩] 9)) fun e w' => e = .returned (.bool (shortB [s])) ∧ W.alloc (.cells #[.string ⟨s.toArray⟩] 9) = w' := by
  subst hn
  exact short_calls (.slice (some ⟨W.heap.size, 0, none⟩) 1 1) [s] _ (strs_new W [s] 9) (by simp)
theorem putM_len (z m : Int) (cs : List Int) (hl : cs.length ≤ 40) : (putM z m cs).length ≤ 1000000 := by
  unfold putM
  split
  · have := metaT_len z m cs; omega
  · simp
theorem valM_len (z m : Int) (cs : List Int) (g : Bool) (hl : cs.length ≤ 40) : (valM z m cs g).length ≤ 1000000 := by
  unfold valM
  split
  · simp
  · split
    · have := metaT_len z m cs; simp; omega
    · simp
theorem gotM_len (s : List UInt8) : (gotM s).2.2.length ≤ 16 := by
  unfold gotM
  cases hg : getM s with
  | none => simp
  | some x =>
    obtain ⟨z, m, cs⟩ := x
    exact (metaB_iff.1 (laid_getM hg).2).1
theorem redM_len (s : List UInt8) : (redM s).2.2.length ≤ 16 := by
  unfold redM
  split
  · exact gotM_len _
  · simp
/-- A meta that may be: its bytes are read as it. -/
theorem put_facts {z m : Int} {cs : List Int} (hm : metaB z m cs = true) : putMe z m cs = 0 ∧ gotM (putM z m cs) = (z, m, cs) ∧ gotE (putM z m cs) = 0 ∧ putM z m cs = metaT z m cs := by
  have h1 : putM z m cs = metaT z m cs := by simp [putM, hm]
  refine ⟨by simp [putMe, hm], ?_, ?_, h1⟩
  · rw [h1, gotM, getM_laid hm]; rfl
  · rw [h1, gotE, getM_laid hm]; rfl
theorem val_facts {z m : Int} {cs : List Int} (hm : metaB z m cs = true) : valMe z m cs false = 0 ∧ redM (valM z m cs false) = (z, m, cs) ∧ redG (valM z m cs false) = false ∧ redE (valM z m cs false) = 0 := by
  have h1 : valM z m cs false = 1 :: metaT z m cs := by simp [valM, hm]
  obtain ⟨q1, q2, q3, q4⟩ := put_facts hm
  rw [q4] at q2 q3
  obtain ⟨r1, r2, r3⟩ := red_some (metaT z m cs)
  refine ⟨by simp [valMe, putMe, hm], ?_, ?_, ?_⟩
  · rw [h1, r1, q2]
  · rw [h1, r2]
  · rw [h1, r3, q3]
/-- What is read as a value is laid as it was. -/
theorem red_back {s : List UInt8} (h : redE s = 0) : valMe (redM s).1 (redM s).2.1 (redM s).2.2 (redG s) = 0 ∧ (valM (redM s).1 (redM s).2.1 (redM s).2.2 (redG s) == s) = true := by
  by_cases h0 : s = [0]
  · subst h0
    exact ⟨rfl, rfl⟩
  · by_cases h1 : s.head? = some 1
    · cases s with
      | nil => simp at h1
      | cons b r =>
        obtain rfl : b = 1 := by simpa using h1
        obtain ⟨r1, r2, r3⟩ := red_some r
        rw [r3] at h
        rw [r1, r2]
        cases hg : getM r with
        | none => simp [gotE, hg] at h
        | some x =>
          obtain ⟨z, m, cs⟩ := x
          obtain ⟨e1, e2⟩ := laid_getM hg
          have e3 : gotM r = (z, m, cs) := by simp [gotM, hg]
          rw [e3]
          refine ⟨by simp [valMe, putMe, e2], ?_⟩
          simp [valM, e2, e1]
    · obtain ⟨_, _, r3⟩ := red_none h0 h1
      rw [r3] at h
      cases h

end Go.Proofs.Ytijhbnkfkjfcfaa
