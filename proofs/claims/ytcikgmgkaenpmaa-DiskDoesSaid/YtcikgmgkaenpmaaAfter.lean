/-
  disk: after: a copy of a disk to which the writes are done.
-/
import Derived.Test.YtcikgmgkaenpmaaDoes
namespace Go.Proofs.Ytcikgmgkaenpmaa
open Go.RowKit

/-- The writes become their blocks' texts, in their order. -/
def layL (bs : List (List UInt8)) (xs : List Wr) : List (List UInt8) := xs.foldl (fun b x => b.set x.1.toNat x.2) bs
theorem layL_len (bs : List (List UInt8)) (xs : List Wr) : (layL bs xs).length = bs.length := by
  unfold layL
  induction xs generalizing bs with
  | nil => rfl
  | cons x r ih => simp only [List.foldl_cons]; rw [ih]; simp
theorem layL_snoc (bs : List (List UInt8)) (xs : List Wr) (x : Wr) : layL bs (xs ++ [x]) = (layL bs xs).set x.1.toNat x.2 := by simp [layL]
theorem layL_append (bs : List (List UInt8)) (xs ys : List Wr) : layL bs (xs ++ ys) = layL (layL bs xs) ys := by simp [layL]

/-- The disk behind k writes that are laid. -/
def LayAt (w w1 wr : World) (base : Nat) (bs : List (List UInt8)) (ws xs : List Wr) (k : Nat) : Prop :=
  ∃ vb vw, Bx wr w1.heap.size vb vw ∧ OwnD wr base vb (layL bs (xs.take k)) vw ws ∧ Bx wr (w.heap.size + 1) (.slice none 0 0) (.slice none 0 0) ∧ Below w.heap.size w wr
/-- The disk behind k writes that wait. -/
def WaitAt (w w1 wr : World) (base : Nat) (bs : List (List UInt8)) (ws xs : List Wr) (k : Nat) : Prop :=
  ∃ vb vw, Bx wr w1.heap.size vb vw ∧ OwnD wr base vb bs vw (ws ++ xs.take k) ∧ Bx wr (w.heap.size + 1) (.slice none 0 0) (.slice none 0 0) ∧ Below w.heap.size w wr

set_option maxRecDepth 100000 in
set_option maxHeartbeats 4000000 in
theorem after_lay_calls (vb vw v : Value) (bs : List (List UInt8)) (ws xs : List Wr) (w : World) (hb : Txts w vb bs) (hw : Wrs w vw ws) (hx : Wrs w v xs) (hbl : bs.length ≤ 1000) (hwl : ws.length ≤ 400) (hxl : xs.length ≤ 400) (hok : ∀ y ∈ xs, hasB bs.length y.1 = true) :
    Calls Try.prog 28 #[.agg #[vb, vw], .func (.func 33) #[] #[], v] w fun e w' => ∃ vb' vw', e = .returned (.agg #[vb', vw']) ∧ OwnD w' w.heap.size vb' (layL bs xs) vw' (ws) ∧ Below w.heap.size w w' := by
  obtain ⟨ab, cb, rfl⟩ := hb.strs.form
  obtain ⟨aw, cw, rfl⟩ := hw.form
  obtain ⟨ax, cx, rfl⟩ := hx.form
  have HX := Lib.hid hx
  have hB0 := below_alloc2 w (.cells #[.slice ab bs.length cb, .slice aw ws.length cw] 25) (.cells #[.slice none 0 0, .slice none 0 0] 25)
  have CC := copied_calls _ _ bs ws _ (hb.below hB0) (hw.below hB0) (by omega) (by omega)
  have hr0 : Bx ((w.alloc (.cells #[.slice ab bs.length cb, .slice aw ws.length cw] 25)).alloc (.cells #[.slice none 0 0, .slice none 0 0] 25)) (w.heap.size + 1) (.slice none 0 0) (.slice none 0 0) := by
    have h := Bx.new (w.alloc (.cells #[.slice ab bs.length cb, .slice aw ws.length cw] 25)) (.slice none 0 0) (.slice none 0 0)
    rw [World.size_alloc] at h
    exact h
  have HR := Lib.hid hr0
  clear hb hw hx hr0
  go_enter Try.func28, Try.ntmps28
  go_wp2_with fail
  refine CC.mono ?_
  rintro e w1 ⟨vb1, vw1, rfl, ho1, hB1⟩
  have hr1 := Lib.hid (HR.out.below hB1)
  have hB2 := below2 hB0 hB1
  have hsz : w.heap.size + 1 + 1 ≤ w1.heap.size := by have := hB1.size; simp at this; omega
  obtain ⟨aw1, cw1, rfl⟩ := (Wrs.own ho1.2).form
  obtain ⟨ab1, cb1, rfl⟩ := (Txts.own ho1.1).strs.form
  have HO1 := Lib.hid ho1
  clear CC HR ho1 hB1
  go_wp2_with fail
  go_loopw [14] (fun i wr => ∃ k : Nat, k ≤ xs.length ∧ i = .int .i64 k ∧ LayAt w w1 wr (w.heap.size + 1 + 1) bs ws xs k) (fun i _ => xs.length - (intOf i).toNat)
  case atStart =>
    have hB3 := below_alloc w1 (.cells #[.slice ab1 bs.length cb1, .slice aw1 ws.length cw1] 25)
    refine ⟨0, Nat.zero_le _, rfl, _, _, Bx.new w1 _ _, ?_, hr1.out.below hB3, below2 hB2 hB3⟩
    have h := HO1.out
    simp only [World.size_alloc] at h
    exact ⟨own_stays (by simpa [layL] using h.1) hB3, own_stays (by simpa using h.2) hB3⟩
  case round =>
    obtain ⟨k, hk, rfl, hat⟩ := hrel
    obtain ⟨vb2, vw2, hx2, ho2, hr2, hB3⟩ := hat
    obtain ⟨hc0, hc1, hf0, hf1, hlt⟩ := hx2.cells
    obtain ⟨hd0, hd1, hg0, hg1, hlt2⟩ := hr2.cells
    by_cases hkl : k < xs.length
    · obtain ⟨b, off, rfl, he0, he1⟩ := (HX.out.below hB3).at hkl
      obtain ⟨⟨a, s⟩, hxk⟩ : ∃ y, xs[k] = y := ⟨_, rfl⟩
      rw [hxk] at he0 he1
      have hxs := Lib.hid (show xs.take (k + 1) = xs.take k ++ [(a, s)] by rw [List.take_succ_eq_append_getElem hkl, hxk])
      have hBa := below_alloc wr (.cells #[.int .i64 a, .string ⟨s.toArray⟩] 40)
      have DC := lay_calls _ (w.heap.size + 1 + 1) w1.heap.size vb2 vw2 _ ws (a, s) (hx2.below hBa) ⟨own_stays ho2.1 hBa, own_stays ho2.2 hBa⟩ (by simp; omega) (by rw [layL_len]; exact hok _ (hxk ▸ List.getElem_mem hkl))
      have HR2 := Lib.hid (hr2.below hBa)
      have HB3 := Lib.hid (below2 hB3 hBa)
      clear hx2 ho2 hr2 hxk hBa hB3
      go_wp2_with fail
      refine DC.mono ?_
      rintro e w4 ⟨rfl, hx4, ho4, hB4⟩
      go_wp2_with fail
      go_roundw
      case rel =>
        refine ⟨k + 1, by omega, by go_num, _, _, hx4, by rw [hxs.out]; rw [layL_snoc]; exact ho4, ?_, ?_⟩
        · have h := HR2.out
          unfold Bx at h ⊢
          rw [hB4.block _ (by omega)]
          exact h
        · exact HB3.out.trans (hB4.mono (by omega))
      case measure => simp [intOf]; omega
    · obtain rfl : k = xs.length := by omega
      have ho3 : OwnD wr (w.heap.size + 1 + 1) vb2 (layL bs xs) vw2 (ws) := by simpa using ho2
      obtain ⟨aw3, cw3, hv3⟩ := (Wrs.own ho3.2).form
      obtain ⟨ab3, cb3, hv4⟩ := (Txts.own ho3.1).strs.form
      subst hv3 hv4
      have HO3 := Lib.hid ho3
      clear ho2 ho3 hx2 hr2
      go_wp2_with fail
      refine ret_disk (p := 6) (by kernel_rfl) rfl (w.heap.size + 1) (.slice ab3 (layL bs xs).length cb3) (.slice aw3 (ws).length cw3) rfl (by go_simp) (by go_simp) ?_
      exact ⟨_, _, rfl, ⟨own_weak (ownsRow_setCell_below (ownsRow_setCell_below HO3.out.1 (by simp) _) (by simp) _) (by omega), own_weak (ownsRow_setCell_below (ownsRow_setCell_below HO3.out.2 (by simp) _) (by simp) _) (by omega)⟩, (hB3.setCell (by simp) _).setCell (by simp) _⟩

set_option maxRecDepth 100000 in
set_option maxHeartbeats 4000000 in
theorem after_wait_calls (vb vw v : Value) (bs : List (List UInt8)) (ws xs : List Wr) (w : World) (hb : Txts w vb bs) (hw : Wrs w vw ws) (hx : Wrs w v xs) (hbl : bs.length ≤ 1000) (hwl : ws.length ≤ 400) (hxl : xs.length ≤ 400) :
    Calls Try.prog 28 #[.agg #[vb, vw], .func (.func 29) #[] #[], v] w fun e w' => ∃ vb' vw', e = .returned (.agg #[vb', vw']) ∧ OwnD w' w.heap.size vb' (bs) vw' (ws ++ xs) ∧ Below w.heap.size w w' := by
  obtain ⟨ab, cb, rfl⟩ := hb.strs.form
  obtain ⟨aw, cw, rfl⟩ := hw.form
  obtain ⟨ax, cx, rfl⟩ := hx.form
  have HX := Lib.hid hx
  have hB0 := below_alloc2 w (.cells #[.slice ab bs.length cb, .slice aw ws.length cw] 25) (.cells #[.slice none 0 0, .slice none 0 0] 25)
  have CC := copied_calls _ _ bs ws _ (hb.below hB0) (hw.below hB0) (by omega) (by omega)
  have hr0 : Bx ((w.alloc (.cells #[.slice ab bs.length cb, .slice aw ws.length cw] 25)).alloc (.cells #[.slice none 0 0, .slice none 0 0] 25)) (w.heap.size + 1) (.slice none 0 0) (.slice none 0 0) := by
    have h := Bx.new (w.alloc (.cells #[.slice ab bs.length cb, .slice aw ws.length cw] 25)) (.slice none 0 0) (.slice none 0 0)
    rw [World.size_alloc] at h
    exact h
  have HR := Lib.hid hr0
  clear hb hw hx hr0
  go_enter Try.func28, Try.ntmps28
  go_wp2_with fail
  refine CC.mono ?_
  rintro e w1 ⟨vb1, vw1, rfl, ho1, hB1⟩
  have hr1 := Lib.hid (HR.out.below hB1)
  have hB2 := below2 hB0 hB1
  have hsz : w.heap.size + 1 + 1 ≤ w1.heap.size := by have := hB1.size; simp at this; omega
  obtain ⟨aw1, cw1, rfl⟩ := (Wrs.own ho1.2).form
  obtain ⟨ab1, cb1, rfl⟩ := (Txts.own ho1.1).strs.form
  have HO1 := Lib.hid ho1
  clear CC HR ho1 hB1
  go_wp2_with fail
  go_loopw [14] (fun i wr => ∃ k : Nat, k ≤ xs.length ∧ i = .int .i64 k ∧ WaitAt w w1 wr (w.heap.size + 1 + 1) bs ws xs k) (fun i _ => xs.length - (intOf i).toNat)
  case atStart =>
    have hB3 := below_alloc w1 (.cells #[.slice ab1 bs.length cb1, .slice aw1 ws.length cw1] 25)
    refine ⟨0, Nat.zero_le _, rfl, _, _, Bx.new w1 _ _, ?_, hr1.out.below hB3, below2 hB2 hB3⟩
    have h := HO1.out
    simp only [World.size_alloc] at h
    exact ⟨own_stays (by simpa [layL] using h.1) hB3, own_stays (by simpa using h.2) hB3⟩
  case round =>
    obtain ⟨k, hk, rfl, hat⟩ := hrel
    obtain ⟨vb2, vw2, hx2, ho2, hr2, hB3⟩ := hat
    obtain ⟨hc0, hc1, hf0, hf1, hlt⟩ := hx2.cells
    obtain ⟨hd0, hd1, hg0, hg1, hlt2⟩ := hr2.cells
    by_cases hkl : k < xs.length
    · obtain ⟨b, off, rfl, he0, he1⟩ := (HX.out.below hB3).at hkl
      obtain ⟨⟨a, s⟩, hxk⟩ : ∃ y, xs[k] = y := ⟨_, rfl⟩
      rw [hxk] at he0 he1
      have hxs := Lib.hid (show xs.take (k + 1) = xs.take k ++ [(a, s)] by rw [List.take_succ_eq_append_getElem hkl, hxk])
      have hBa := below_alloc wr (.cells #[.int .i64 a, .string ⟨s.toArray⟩] 40)
      have DC := wait_calls _ (w.heap.size + 1 + 1) w1.heap.size vb2 vw2 bs _ (a, s) (hx2.below hBa) ⟨own_stays ho2.1 hBa, own_stays ho2.2 hBa⟩ (by simp; omega) hsz (by simp; omega)
      have HR2 := Lib.hid (hr2.below hBa)
      have HB3 := Lib.hid (below2 hB3 hBa)
      clear hx2 ho2 hr2 hxk hBa hB3
      go_wp2_with fail
      refine DC.mono ?_
      rintro e w4 ⟨vw4, rfl, hx4, ho4, hB4⟩
      go_wp2_with fail
      go_roundw
      case rel =>
        refine ⟨k + 1, by omega, by go_num, _, _, hx4, by rw [hxs.out]; simpa using ho4, ?_, ?_⟩
        · have h := HR2.out
          unfold Bx at h ⊢
          rw [hB4.block _ (by omega)]
          exact h
        · exact HB3.out.trans (hB4.mono (by omega))
      case measure => simp [intOf]; omega
    · obtain rfl : k = xs.length := by omega
      have ho3 : OwnD wr (w.heap.size + 1 + 1) vb2 (bs) vw2 (ws ++ xs) := by simpa using ho2
      obtain ⟨aw3, cw3, hv3⟩ := (Wrs.own ho3.2).form
      obtain ⟨ab3, cb3, hv4⟩ := (Txts.own ho3.1).strs.form
      subst hv3 hv4
      have HO3 := Lib.hid ho3
      clear ho2 ho3 hx2 hr2
      go_wp2_with fail
      refine ret_disk (p := 6) (by kernel_rfl) rfl (w.heap.size + 1) (.slice ab3 (bs).length cb3) (.slice aw3 (ws ++ xs).length cw3) rfl (by go_simp) (by go_simp) ?_
      exact ⟨_, _, rfl, ⟨own_weak (ownsRow_setCell_below (ownsRow_setCell_below HO3.out.1 (by simp) _) (by simp) _) (by omega), own_weak (ownsRow_setCell_below (ownsRow_setCell_below HO3.out.2 (by simp) _) (by simp) _) (by omega)⟩, (hB3.setCell (by simp) _).setCell (by simp) _⟩

end Go.Proofs.Ytcikgmgkaenpmaa
