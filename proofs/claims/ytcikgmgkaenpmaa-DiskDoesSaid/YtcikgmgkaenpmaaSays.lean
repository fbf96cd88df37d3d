/-
  The document's own says and Read.
-/
import Derived.Test.YtcikgmgkaenpmaaDRefC
import Derived.Test.YtcikgmgkaenpmaaRead
namespace Go.Proofs.Ytcikgmgkaenpmaa
open Go.RowKit

/-- What block i says behind k of the writes. -/
def saysTo (bs : List (List UInt8)) (ws : List Wr) (i : Int) (k : Nat) : List UInt8 := saysL bs (ws.take k) i

set_option maxRecDepth 100000 in
set_option maxHeartbeats 4000000 in
theorem says_calls (vb vw : Value) (bs : List (List UInt8)) (ws : List Wr) (i : Int) (w : World) (hb : Txts w vb bs) (hw : Wrs w vw ws) (hwl : ws.length ≤ 1000) (h0 : hasB bs.length i = true) (hok : ∀ y ∈ ws, hasB bs.length y.1 = true) :
    Calls Try.prog 31 #[.agg #[vb, vw], .int .i64 i] w fun e w' => e = .returned (.string ⟨(saysL bs ws i).toArray⟩) ∧ Below w.heap.size w w' := by
  obtain ⟨ab, cb, rfl⟩ := hb.strs.form
  obtain ⟨aw, cw, rfl⟩ := hw.form
  have hij : 0 ≤ i ∧ i < bs.length := by simpa [hasB] using h0
  obtain ⟨q, rfl⟩ : ∃ q : Nat, i = (q : Int) := ⟨i.toNat, by omega⟩
  have hq : q < bs.length := by omega
  obtain ⟨b1, o1, rfl, e1⟩ := hb.strs.at hq
  have hb1 := World.block_lt_of_cell? w _ e1
  have HS0 := Lib.hid (show saysTo bs ws q 0 = bs[q] by simp [saysTo, saysL, layL, List.getD, List.getElem?_eq_getElem hq])
  have HW := Lib.hid hw
  have HH := Lib.hid (fun (k : Nat) (hk : k < ws.length) (x : Wr) (hx : ws[k] = x) => And.intro (fun h : x.1 = (q : Int) => show saysTo bs ws q (k + 1) = x.2 by
      rw [saysTo, List.take_succ_eq_append_getElem hk, hx]; exact says_cons_hit bs _ x q h h0)
    (fun h : x.1 ≠ (q : Int) => show saysTo bs ws q (k + 1) = saysTo bs ws q k by
      rw [saysTo, List.take_succ_eq_append_getElem hk, hx]; exact says_cons_miss bs _ x q h (hok x (hx ▸ List.getElem_mem hk)) h0))
  generalize bs[q] = s0 at e1 HS0
  have hB0 := below_alloc w (.cells #[.slice (some ⟨b1, o1, none⟩) bs.length cb, .slice aw ws.length cw] 25)
  clear hb hw h0 hok hij
  go_enter Try.func31, Try.ntmps31
  go_wp2_with fail
  go_loop [5, 6] (fun t i => ∃ k : Nat, k ≤ ws.length ∧ i = .int .i64 k ∧ t = .string ⟨(saysTo bs ws q k).toArray⟩) (fun _ i => ws.length - (intOf i).toNat)
  case atStart => exact ⟨0, Nat.zero_le _, rfl, by rw [HS0.out]⟩
  case round =>
    obtain ⟨k, hk, rfl, rfl⟩ := hrel
    by_cases hlt : k < ws.length
    · obtain ⟨b, off, rfl, c0, c1⟩ := HW.out.at hlt
      have hbl := World.block_lt_of_cell? w _ c0
      obtain ⟨⟨a, s⟩, hx⟩ : ∃ y, ws[k] = y := ⟨_, rfl⟩
      rw [hx] at c0 c1
      have H2 := Lib.hid (HH.out k hlt _ hx)
      clear hx
      generalize saysTo bs ws q k = t at H2
      by_cases ha : a = (q : Int)
      · have ha1 : (a == (q : Int)) = true := by simp [ha]
        have H3 := Lib.hid (H2.out.1 ha)
        clear ha
        go_wp2_with fail
        go_round
        case rel => exact ⟨k + 1, by omega, by go_num, by rw [H3.out]⟩
        case measure => simp [intOf]; omega
      · have ha1 : (a == (q : Int)) = false := by simp [ha]
        have H3 := Lib.hid (H2.out.2 ha)
        clear ha
        go_wp2_with fail
        go_round
        case rel => exact ⟨k + 1, by omega, by go_num, by rw [H3.out]⟩
        case measure => simp [intOf]; omega
    · obtain rfl : k = ws.length := by omega
      have HE := Lib.hid (show saysTo bs ws q ws.length = saysL bs ws q by rw [saysTo, List.take_length])
      go_wp2_with fail
      go_ret
      exact ⟨by rw [← HE.out]; rfl, hB0⟩

set_option maxRecDepth 100000 in
set_option maxHeartbeats 4000000 in
theorem refRead_calls (vb vw : Value) (bs : List (List UInt8)) (ws : List Wr) (i : Int) (w : World) (hb : Txts w vb bs) (hw : Wrs w vw ws) :
    Calls Try.prog 13 #[.agg #[vb, vw], .int .i64 i] w fun e w' => e = .returned (.tuple #[.string ⟨(readT bs ws i).toArray⟩, .int .i64 (readE bs ws i)]) ∧ Below w.heap.size w w' := by
  obtain ⟨ab, cb, rfl⟩ := hb.strs.form
  obtain ⟨aw, cw, rfl⟩ := hw.form
  have hB0 := below_alloc w (.cells #[.slice ab bs.length cb, .slice aw ws.length cw] 25)
  have hx0 := Bx.new w (.slice ab bs.length cb) (.slice aw ws.length cw)
  have C1 := refCheck_calls _ _ bs ws _ (hb.below hB0) (hw.below hB0)
  cases hR : rightB bs ws with
  | false =>
    have E1 := Lib.hid (show readE bs ws i = 1 by simp [readE, hR])
    have E2 := Lib.hid (show readT bs ws i = [] by simp [readT, E1.out])
    rw [hR] at C1
    have K1 := Lib.hid C1
    clear C1 hR
    go_enter Try.func13, Try.ntmps13
    go_wp2_with fail
    refine K1.out.mono ?_
    rintro e w1 ⟨rfl, hB1⟩
    go_wp2_with fail
    go_ret2
    exact ⟨by rw [E1.out, E2.out]; rfl, below2 hB0 hB1⟩
  | true =>
    rw [hR] at C1
    have K1 := Lib.hid C1
    clear C1
    obtain ⟨hl1, hl2, hl3, hl4, hl5⟩ := right_parts hR
    have HL5 := Lib.hid (fun x hx => (hl5 x hx).1)
    cases hH : hasB bs.length i with
    | false =>
      have E1 := Lib.hid (show readE bs ws i = 40 by simp [readE, hR, hH])
      have E2 := Lib.hid (show readT bs ws i = [] by simp [readT, E1.out])
      have hc : i < 0 ∨ (0 ≤ i ∧ bs.length ≤ i) := by
        have := hH
        simp [hasB] at this
        omega
      clear hH hR hl4 hl5
      rcases hc with h | ⟨h, h'⟩
      all_goals
        go_enter Try.func13, Try.ntmps13
        go_wp2_with fail
        refine K1.out.mono ?_
        rintro e w1 ⟨rfl, hB1⟩
        obtain ⟨p0, p1, _⟩ := (hx0.below hB1).cells
        go_wp2_with fail
        go_ret2
        exact ⟨by rw [E1.out, E2.out]; rfl, below2 hB0 hB1⟩
    | true =>
      have E1 := Lib.hid (show readE bs ws i = 0 by simp [readE, hR, hH])
      have E2 := Lib.hid (show readT bs ws i = saysL bs ws i by simp [readT, E1.out])
      have hij : 0 ≤ i ∧ i < bs.length := by simpa [hasB] using hH
      obtain ⟨hi0, hi1⟩ := hij
      have HH := Lib.hid hH
      clear hH hR hl4 hl5
      go_enter Try.func13, Try.ntmps13
      go_wp2_with fail
      refine K1.out.mono ?_
      rintro e w1 ⟨rfl, hB1⟩
      obtain ⟨p0, p1, _⟩ := (hx0.below hB1).cells
      have hBB1 := below2 hB0 hB1
      go_wp2_with fail
      refine (says_calls _ _ bs ws i _ (hb.below hBB1) (hw.below hBB1) (by omega) HH.out HL5.out).mono ?_
      rintro e w2 ⟨rfl, hB2⟩
      go_wp2_with fail
      go_ret2
      exact ⟨by rw [E1.out, E2.out]; rfl, below2 hBB1 hB2⟩

end Go.Proofs.Ytcikgmgkaenpmaa
