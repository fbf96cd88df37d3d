/-
  disk: Check.
-/
import Derived.Test.YtcikgmgkaenpmaaDSmall
import Derived.WalkMore
namespace Go.Proofs.Ytcikgmgkaenpmaa
open Go.RowKit

def blockB (s : List UInt8) : Bool := decide (s.length ≤ 256)
def writeB (n : Nat) (x : Wr) : Bool := hasB n x.1 && blockB x.2
/-- Is a disk right? -/
def rightB (bs : List (List UInt8)) (ws : List Wr) : Bool :=
  decide (1 ≤ bs.length) && decide (bs.length ≤ 200) && decide (ws.length ≤ 100) && bs.all blockB && ws.all (writeB bs.length)

/-- The first k are all so. -/
def allTo {α : Type} (p : α → Bool) (l : List α) (k : Nat) : Prop := (l.take k).all p = true
theorem allTo_zero {α : Type} (p : α → Bool) (l : List α) : allTo p l 0 := by simp [allTo]
theorem allTo_succ {α : Type} {p : α → Bool} {l : List α} {k : Nat} (h : allTo p l k) (hk : k < l.length) (h1 : p l[k] = true) : allTo p l (k + 1) := by
  unfold allTo at h ⊢
  rw [List.take_succ_eq_append_getElem hk, List.all_append, h]
  simpa using h1
theorem allTo_all {α : Type} {p : α → Bool} {l : List α} (h : allTo p l l.length) : l.all p = true := by
  unfold allTo at h
  rwa [List.take_length] at h
theorem all_not {α : Type} {p : α → Bool} {l : List α} {k : Nat} (hk : k < l.length) (h1 : p l[k] = false) : l.all p = false := by
  rw [Bool.eq_false_iff]
  intro h
  have := List.all_eq_true.1 h _ (List.getElem_mem hk)
  rw [h1] at this
  cases this

theorem right_size {bs : List (List UInt8)} {ws : List Wr} (h : ¬ (1 ≤ bs.length ∧ bs.length ≤ 200 ∧ ws.length ≤ 100)) : rightB bs ws = false := by
  rw [Bool.eq_false_iff]
  intro h1
  apply h
  simp only [rightB, Bool.and_eq_true, decide_eq_true_eq] at h1
  exact ⟨h1.1.1.1.1, h1.1.1.1.2, h1.1.1.2⟩
theorem right_blocks {bs : List (List UInt8)} {ws : List Wr} (h : bs.all blockB = false) : rightB bs ws = false := by simp [rightB, h]
theorem right_writes {bs : List (List UInt8)} {ws : List Wr} (h : ws.all (writeB bs.length) = false) : rightB bs ws = false := by simp [rightB, h]
theorem right_mk {bs : List (List UInt8)} {ws : List Wr} (h1 : 1 ≤ bs.length) (h2 : bs.length ≤ 200) (h3 : ws.length ≤ 100) (h4 : bs.all blockB = true) (h5 : ws.all (writeB bs.length) = true) : rightB bs ws = true := by
  simp [rightB, h1, h2, h3, h4, h5]

set_option maxHeartbeats 4000000 in
theorem check_calls (vb vw : Value) (bs : List (List UInt8)) (ws : List Wr) (w : World) (hb : Txts w vb bs) (hw : Wrs w vw ws) :
    Calls Try.prog 21 #[.agg #[vb, vw]] w fun e w' => e = .returned (.bool (rightB bs ws)) ∧ Below w.heap.size w w' := by
  obtain ⟨ab, cb, rfl⟩ := hb.strs.form
  obtain ⟨aw, cw, rfl⟩ := hw.form
  have HB := Lib.hid hb
  have HW := Lib.hid hw
  clear hb hw
  by_cases hsz : 1 ≤ bs.length ∧ bs.length ≤ 200 ∧ ws.length ≤ 100
  · obtain ⟨h1, h2, h3⟩ := hsz
    have hB0 := below_alloc w (.cells #[.slice ab bs.length cb, .slice aw ws.length cw] 25)
    have d1 : decide ((bs.length : Int) < 1) = false := by simp; omega
    have d2 : decide ((200 : Int) < bs.length) = false := by simp; omega
    have d3 : decide ((100 : Int) < ws.length) = false := by simp; omega
    go_enter Try.func21, Try.ntmps21
    go_wp2_with fail
    go_loop [26] (fun i => ∃ k : Nat, k ≤ bs.length ∧ i = .int .i64 k ∧ allTo blockB bs k) (fun i => bs.length - (intOf i).toNat)
    case atStart => exact ⟨0, Nat.zero_le _, rfl, allTo_zero _ _⟩
    case round =>
      obtain ⟨k, hk, rfl, hf⟩ := hrel
      by_cases hlt : k < bs.length
      · obtain ⟨b, off, rfl, hcell⟩ := HB.out.strs.at hlt
        have hbl := World.block_lt_of_cell? w _ hcell
        generalize hs : bs[k] = s at hcell
        have HS := Lib.hid hs
        clear hs
        by_cases h4 : s.length ≤ 256
        · have d4 : decide ((s.length : Int) ≤ 256) = true := by simp; omega
          go_wp2_with (go_at_call 27; refine (fits_calls s _).mono ?_; rintro e w1 ⟨rfl, rfl⟩)
          go_round
          case rel => exact ⟨k + 1, by omega, by go_num, allTo_succ hf hlt (by rw [HS.out]; simpa [blockB] using h4)⟩
          case measure => simp [intOf]; omega
        · have d4 : decide ((s.length : Int) ≤ 256) = false := by simp; omega
          have hr := Lib.hid (right_blocks (ws := ws) (all_not hlt (by rw [HS.out]; simpa [blockB] using h4)))
          go_wp2_with (go_at_call 27; refine (fits_calls s _).mono ?_; rintro e w1 ⟨rfl, rfl⟩)
          go_ret
          exact ⟨by rw [hr.out]; rfl, hB0⟩
      · obtain rfl : k = bs.length := by omega
        have hbb := Lib.hid (allTo_all hf)
        clear hf
        go_wp2_with fail
        go_loopw [37] (fun i wr => ∃ k : Nat, k ≤ ws.length ∧ i = .int .i64 k ∧ allTo (writeB bs.length) ws k ∧ Below w.heap.size w wr ∧ wr.cell? ⟨w.heap.size, 0, none⟩ = some (.slice ab bs.length cb)
           ∧ wr.cell? ⟨w.heap.size, 1, none⟩ = some (.slice aw ws.length cw)) (fun i _ => ws.length - (intOf i).toNat)
        case atStart => exact ⟨0, Nat.zero_le _, rfl, allTo_zero _ _, hB0, by go_simp, by go_simp⟩
        case round =>
          obtain ⟨k, hk, rfl, hf, hB, hx0, hx1⟩ := hrel
          by_cases hlt : k < ws.length
          · obtain ⟨b, off, rfl, hc0, hc1⟩ := (HW.out.below hB).at hlt
            obtain ⟨i, hi⟩ : ∃ i, ws[k].1 = i := ⟨_, rfl⟩
            obtain ⟨s, hs⟩ : ∃ i, ws[k].2 = i := ⟨_, rfl⟩
            rw [hi] at hc0
            rw [hs] at hc1
            have HS := Lib.hid hs
            have HI := Lib.hid hi
            clear hs hi
            have hz : w.heap.size < wr.heap.size := World.block_lt_of_cell? wr _ hx0
            cases hq : hasB bs.length i with
            | false =>
              have hr := Lib.hid (right_writes (bs := bs) (all_not (p := writeB bs.length) hlt (by simp [writeB, HI.out, hq])))
              have HQ := Lib.hid hq
              clear hq
              go_wp2_with fail
              refine (has_calls _ _ _ _ _ _).mono ?_
              rintro e w1 ⟨rfl, hB1⟩
              rw [HQ.out]
              go_wp2_with fail
              go_ret
              exact ⟨by rw [hr.out]; rfl, below2 (hB.alloc (by omega) _) hB1⟩
            | true =>
              have HQ := Lib.hid hq
              clear hq
              go_wp2_with fail
              refine (has_calls _ _ _ _ _ _).mono ?_
              rintro e w1 ⟨rfl, hB1⟩
              rw [HQ.out]
              have hy1 := look_below hB1 (b := wr.heap.size) (o := 1) (v := .string ⟨s.toArray⟩) (by go_simp)
              have hy2 := look_below hB1 (b := w.heap.size) (o := 0) (v := .slice ab bs.length cb) (by go_simp)
              have hy3 := look_below hB1 (b := w.heap.size) (o := 1) (v := .slice (some ⟨b, off, none⟩) ws.length cw) (by go_simp)
              have hB2 := below2 (hB.alloc (by omega) _) hB1
              by_cases h4 : s.length ≤ 256
              · have d4 : decide ((s.length : Int) ≤ 256) = true := by simp; omega
                go_wp2_with (go_at_call 27; refine (fits_calls s _).mono ?_; rintro e w2 ⟨rfl, rfl⟩)
                go_roundw
                case rel => exact ⟨k + 1, by omega, by go_num, allTo_succ hf hlt (by simp [writeB, HI.out, HS.out, HQ.out, blockB, h4]), hB2, hy2, hy3⟩
                case measure => simp [intOf]; omega
              · have d4 : decide ((s.length : Int) ≤ 256) = false := by simp; omega
                have hr := Lib.hid (right_writes (bs := bs) (all_not (p := writeB bs.length) hlt (by simp [writeB, HS.out, blockB, h4])))
                go_wp2_with (go_at_call 27; refine (fits_calls s _).mono ?_; rintro e w2 ⟨rfl, rfl⟩)
                go_ret
                exact ⟨by rw [hr.out]; rfl, hB2⟩
          · obtain rfl : k = ws.length := by omega
            have hr := Lib.hid (right_mk h1 h2 h3 hbb.out (allTo_all hf))
            go_wp2_with fail
            go_ret
            exact ⟨by rw [hr.out]; rfl, hB⟩
  · have hr := Lib.hid (right_size hsz)
    have hB0 := below_alloc w (.cells #[.slice ab bs.length cb, .slice aw ws.length cw] 25)
    have hc : bs.length < 1 ∨ (1 ≤ bs.length ∧ 200 < bs.length) ∨ (1 ≤ bs.length ∧ bs.length ≤ 200 ∧ 100 < ws.length) := by omega
    clear hsz
    rcases hc with h | ⟨h, h'⟩ | ⟨h, h', h''⟩
    all_goals
      go_enter Try.func21, Try.ntmps21
      go_wp2_with fail
      go_ret
      exact ⟨by rw [hr.out]; rfl, hB0⟩

end Go.Proofs.Ytcikgmgkaenpmaa
