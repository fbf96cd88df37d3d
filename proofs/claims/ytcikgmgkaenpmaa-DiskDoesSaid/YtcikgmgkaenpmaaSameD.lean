/-
  The document's own Same: are two disks the same?
-/
import Derived.Test.YtcikgmgkaenpmaaWrs
import Derived.Test.YtcikgmgkaenpmaaTexts
namespace Go.Proofs.Ytcikgmgkaenpmaa
open Go.RowKit

/-- The first k writes are the same. -/
def sameW (a b : List Wr) (k : Nat) : Prop := a.take k = b.take k
theorem sameW_succ {a b : List Wr} {k : Nat} (h : sameW a b k) (ha : k < a.length) (hb : k < b.length) (he : a[k] = b[k]) : sameW a b (k + 1) := by
  unfold sameW at h ⊢
  rw [List.take_succ_eq_append_getElem ha, List.take_succ_eq_append_getElem hb, h, he]
def sameD (bs cs : List (List UInt8)) (ws xs : List Wr) : Bool := decide (bs = cs) && decide (ws = xs)
theorem sameD_texts {bs cs : List (List UInt8)} (ws xs : List Wr) (h : decide (bs = cs) = false) : sameD bs cs ws xs = false := by simp only [sameD, h, Bool.false_and]
theorem sameD_writes (bs cs : List (List UInt8)) {ws xs : List Wr} (h : ws ≠ xs) : sameD bs cs ws xs = false := by simp [sameD, h]
theorem sameD_refl (bs : List (List UInt8)) (ws : List Wr) : sameD bs bs ws ws = true := by simp [sameD]
theorem sameD_all {bs cs : List (List UInt8)} {ws xs : List Wr} (h : decide (bs = cs) = true) (hl : ws.length = xs.length) (hs : sameW ws xs ws.length) : sameD bs cs ws xs = true := by
  unfold sameW at hs
  rw [List.take_length, hl, List.take_length] at hs
  rw [sameD, h]
  simp [hs]

set_option maxRecDepth 100000 in
set_option maxHeartbeats 4000000 in
theorem same_calls (va vw vc vx : Value) (bs cs : List (List UInt8)) (ws xs : List Wr) (w : World) (hb : Txts w va bs) (hw : Wrs w vw ws) (hc : Txts w vc cs) (hx : Wrs w vx xs) (hbl : bs.length ≤ 9223372036854775807) (hwl : ws.length ≤ 1000000) :
    Calls Try.prog 20 #[.agg #[va, vw], .agg #[vc, vx]] w fun e w' => e = .returned (.bool (sameD bs cs ws xs)) ∧ Below w.heap.size w w' := by
  obtain ⟨ab, cb, rfl⟩ := hb.strs.form
  obtain ⟨aw, cw, rfl⟩ := hw.form
  obtain ⟨ac, cc, rfl⟩ := hc.strs.form
  obtain ⟨ax, cx, rfl⟩ := hx.form
  have hB0 := below_alloc2 w (.cells #[.slice ab bs.length cb, .slice aw ws.length cw] 25) (.cells #[.slice ac cs.length cc, .slice ax xs.length cx] 25)
  have CT := texts_calls _ _ bs cs _ (hb.below hB0).strs (hc.below hB0).strs hbl
  have HW := Lib.hid hw
  have HX := Lib.hid hx
  clear hb hc hw hx
  cases hT : decide (bs = cs) with
  | false =>
    have hr := Lib.hid (sameD_texts ws xs hT)
    rw [hT] at CT
    have K := Lib.hid CT
    clear CT hT
    go_enter Try.func20, Try.ntmps20
    go_wp2_with fail
    refine K.out.mono ?_
    rintro e w1 ⟨rfl, hB1⟩
    go_wp2_with fail
    go_ret
    exact ⟨by rw [hr.out]; rfl, below2 hB0 hB1⟩
  | true =>
    have HT := Lib.hid hT
    rw [hT] at CT
    have K := Lib.hid CT
    clear CT hT
    by_cases hl : ws.length = xs.length
    · have hne : ((ws.length : Int) != (xs.length : Int)) = false := by simp [hl]
      have HL := Lib.hid hl
      have hle1 : ws.length ≤ xs.length := by omega
      have hle2 : xs.length ≤ ws.length := by omega
      clear hl
      go_enter Try.func20, Try.ntmps20
      go_wp2_with fail
      refine K.out.mono ?_
      rintro e w1 ⟨rfl, hB1⟩
      have a0 := look_below hB1 (b := w.heap.size) (o := 1) (v := .slice aw ws.length cw) (by go_simp)
      have a1 := look_below hB1 (b := w.heap.size + 1) (o := 1) (v := .slice ax xs.length cx) (by go_simp)
      have hBB1 := below2 hB0 hB1
      go_wp2_with fail
      go_loopw [5] (fun i wr => ∃ k : Nat, k ≤ ws.length ∧ i = .int .i64 k ∧ sameW ws xs k ∧ wr.cell? ⟨w.heap.size, 1, none⟩ = some (.slice aw ws.length cw) ∧ wr.cell? ⟨w.heap.size + 1, 1, none⟩ = some (.slice ax xs.length cx) ∧ Below w.heap.size w wr) (fun i _ => ws.length - (intOf i).toNat)
      case atStart => exact ⟨0, Nat.zero_le _, rfl, by simp [sameW], a0, a1, hBB1⟩
      case round =>
        obtain ⟨k, hk, rfl, hf, c0, c1, hB⟩ := hrel
        clear a0 a1
        by_cases hlt : k < ws.length
        · have hlt2 : k < xs.length := by omega
          obtain ⟨b1, o1, rfl, e0, e1⟩ := (HW.out.below hB).at hlt
          obtain ⟨b2, o2, rfl, f0, f1⟩ := (HX.out.below hB).at hlt2
          obtain ⟨⟨a, s⟩, hx1⟩ : ∃ y, ws[k] = y := ⟨_, rfl⟩
          obtain ⟨⟨b, t⟩, hx2⟩ : ∃ y, xs[k] = y := ⟨_, rfl⟩
          rw [hx1] at e0 e1
          rw [hx2] at f0 f1
          have HX1 := Lib.hid hx1
          have HX2 := Lib.hid hx2
          clear hx1 hx2
          by_cases hs : a = b ∧ s = t
          · obtain ⟨rfl, rfl⟩ := hs
            go_wp2_with fail
            go_quiet (fail)
            go_wp2_with fail
            go_roundw
            case rel => exact ⟨k + 1, by omega, by go_num, sameW_succ hf hlt hlt2 (by rw [HX1.out, HX2.out]), c0, c1, below_drewN hB _⟩
            case measure => simp [intOf]; omega
          · have hr := Lib.hid (sameD_writes bs cs (ws := ws) (xs := xs) (fun e => by
              have h : ws[k] = xs[k] := by subst e; rfl
              rw [HX1.out, HX2.out] at h
              exact hs (Prod.mk.injEq .. ▸ h)))
            have hc : (a == b) = false ∨ ((a == b) = true ∧ (s == t) = false) := by
              by_cases h : a = b
              · right
                exact ⟨by simp [h], by simpa using fun e => hs ⟨h, e⟩⟩
              · left; simp [h]
            have hc := Lib.hid hc
            clear hs
            rcases hc.out with h1 | ⟨h1, h2⟩
            · go_wp2_with fail
              go_quiet (fail)
              go_wp2_with fail
              go_ret
              exact ⟨by rw [hr.out]; rfl, below_drewN hB _⟩
            · go_wp2_with fail
              go_quiet (fail)
              go_wp2_with fail
              go_ret
              exact ⟨by rw [hr.out]; rfl, below_drewN hB _⟩
        · obtain rfl : k = ws.length := by omega
          have hr := Lib.hid (sameD_all HT.out HL.out hf)
          go_wp2_with fail
          go_ret
          exact ⟨by rw [hr.out]; rfl, hB⟩
    · have hne : ((ws.length : Int) != (xs.length : Int)) = true := by simp; omega
      have hr := Lib.hid (sameD_writes bs cs (ws := ws) (xs := xs) (fun e => hl (by rw [e])))
      clear hl
      go_enter Try.func20, Try.ntmps20
      go_wp2_with fail
      refine K.out.mono ?_
      rintro e w1 ⟨rfl, hB1⟩
      have a0 := look_below hB1 (b := w.heap.size) (o := 1) (v := .slice aw ws.length cw) (by go_simp)
      have a1 := look_below hB1 (b := w.heap.size + 1) (o := 1) (v := .slice ax xs.length cx) (by go_simp)
      go_wp2_with fail
      go_ret
      exact ⟨by rw [hr.out]; rfl, below2 hB0 hB1⟩

end Go.Proofs.Ytcikgmgkaenpmaa
