/-
  The document's own Check.
-/
import Derived.Test.YtcikgmgkaenpmaaDCheck
namespace Go.Proofs.Ytcikgmgkaenpmaa
open Go.RowKit

set_option maxHeartbeats 4000000 in
theorem refCheck_calls (vb vw : Value) (bs : List (List UInt8)) (ws : List Wr) (w : World) (hb : Txts w vb bs) (hw : Wrs w vw ws) :
    Calls Try.prog 22 #[.agg #[vb, vw]] w fun e w' => e = .returned (.bool (rightB bs ws)) ∧ Below w.heap.size w w' := by
  obtain ⟨ab, cb, rfl⟩ := hb.strs.form
  obtain ⟨aw, cw, rfl⟩ := hw.form
  have HB := Lib.hid hb
  have HW := Lib.hid hw
  clear hb hw
  by_cases hsz : 1 ≤ bs.length ∧ bs.length ≤ 200 ∧ ws.length ≤ 100
  · obtain ⟨h1, h2, h3⟩ := hsz
    have hB0 := below_alloc w (.cells #[.slice ab bs.length cb, .slice aw ws.length cw] 25)
    have d1 : decide ((bs.length : Int) < 1) = false := by simp; omega
    have d2 : decide ((200 : Int) < bs.length) = false := by simp; omega
    have d3 : decide ((100 : Int) < ws.length) = false := by simp; omega
    go_enter Try.func22, Try.ntmps22
    go_wp2_with fail
    go_loop [3] (fun i => ∃ k : Nat, k ≤ bs.length ∧ i = .int .i64 k ∧ allTo blockB bs k) (fun i => bs.length - (intOf i).toNat)
    case atStart => exact ⟨0, Nat.zero_le _, rfl, allTo_zero _ _⟩
    case round =>
      obtain ⟨k, hk, rfl, hf⟩ := hrel
      by_cases hlt : k < bs.length
      · obtain ⟨b, off, rfl, hcell⟩ := HB.out.strs.at hlt
        have hbl := World.block_lt_of_cell? w _ hcell
        generalize hs : bs[k] = s at hcell
        have HS := Lib.hid hs
        clear hs
        by_cases h4 : s.length ≤ 256
        · have d4 : decide ((s.length : Int) ≤ 256) = true := by simp; omega
          go_wp2_with fail
          go_round
          case rel => exact ⟨k + 1, by omega, by go_num, allTo_succ hf hlt (by rw [HS.out]; simpa [blockB] using h4)⟩
          case measure => simp [intOf]; omega
        · have d4 : decide ((s.length : Int) ≤ 256) = false := by simp; omega
          have hr := Lib.hid (right_blocks (ws := ws) (all_not hlt (by rw [HS.out]; simpa [blockB] using h4)))
          go_wp2_with fail
          go_ret
          exact ⟨by rw [hr.out]; rfl, hB0⟩
      · obtain rfl : k = bs.length := by omega
        have hbb := Lib.hid (allTo_all hf)
        clear hf
        go_wp2_with fail
        go_loopw [4] (fun i wr => ∃ k : Nat, k ≤ ws.length ∧ i = .int .i64 k ∧ allTo (writeB bs.length) ws k ∧ Below w.heap.size w wr ∧ wr.cell? ⟨w.heap.size, 0, none⟩ = some (.slice ab bs.length cb)
           ∧ wr.cell? ⟨w.heap.size, 1, none⟩ = some (.slice aw ws.length cw)) (fun i _ => ws.length - (intOf i).toNat)
        case atStart => exact ⟨0, Nat.zero_le _, rfl, allTo_zero _ _, hB0, by go_simp, by go_simp⟩
        case round =>
          obtain ⟨k, hk, rfl, hf, hB, hx0, hx1⟩ := hrel
          by_cases hlt : k < ws.length
          · obtain ⟨b, off, rfl, hc0, hc1⟩ := (HW.out.below hB).at hlt
            obtain ⟨i, hi⟩ : ∃ i, ws[k].1 = i := ⟨_, rfl⟩
            obtain ⟨s, hs⟩ : ∃ i, ws[k].2 = i := ⟨_, rfl⟩
            rw [hi] at hc0
            rw [hs] at hc1
            have HS := Lib.hid hs
            have HI := Lib.hid hi
            clear hs hi
            have hz : w.heap.size < wr.heap.size := World.block_lt_of_cell? wr _ hx0
            have hB2 := hB.alloc (by omega) (.cells #[.int .i64 i, .string ⟨s.toArray⟩] 40)
            by_cases hq : hasB bs.length i = true ∧ s.length ≤ 256
            · have hn := Lib.hid (allTo_succ (p := writeB bs.length) hf hlt (by simp [writeB, HI.out, HS.out, hq.1, blockB, hq.2]))
              obtain ⟨hq1, hq2⟩ := hq
              have hq3 : 0 ≤ i ∧ i < bs.length := by simpa [hasB] using hq1
              obtain ⟨hi0, hi1⟩ := hq3
              clear hq1
              go_wp2_with fail
              go_roundw
              case rel => exact ⟨k + 1, by omega, by go_num, hn.out, hB2, by go_simp, by go_simp⟩
              case measure => simp [intOf]; omega
            · have hr := Lib.hid (right_writes (bs := bs) (all_not (p := writeB bs.length) hlt (by
                simp only [writeB, HI.out, HS.out, blockB]
                cases hh : hasB bs.length i with
                | false => simp
                | true => simp; simpa [hh] using hq)))
              have hc : i < 0 ∨ (0 ≤ i ∧ bs.length ≤ i) ∨ (0 ≤ i ∧ i < bs.length ∧ 256 < s.length) := by
                by_cases a : i < 0
                · exact .inl a
                · by_cases b : (bs.length : Int) ≤ i
                  · exact .inr (.inl ⟨by omega, b⟩)
                  · refine .inr (.inr ⟨by omega, by omega, ?_⟩)
                    have : hasB bs.length i = true := by simp [hasB]; omega
                    simp [this] at hq
                    omega
              clear hq
              rcases hc with h | ⟨h, h'⟩ | ⟨h, h', h''⟩
              all_goals
                go_wp2_with fail
                go_ret
                exact ⟨by rw [hr.out]; rfl, hB2⟩
          · obtain rfl : k = ws.length := by omega
            have hr := Lib.hid (right_mk h1 h2 h3 hbb.out (allTo_all hf))
            go_wp2_with fail
            go_ret
            exact ⟨by rw [hr.out]; rfl, hB⟩
  · have hr := Lib.hid (right_size hsz)
    have hB0 := below_alloc w (.cells #[.slice ab bs.length cb, .slice aw ws.length cw] 25)
    have hc : bs.length < 1 ∨ (1 ≤ bs.length ∧ 200 < bs.length) ∨ (1 ≤ bs.length ∧ bs.length ≤ 200 ∧ 100 < ws.length) := by omega
    clear hsz
    rcases hc with h | ⟨h, h'⟩ | ⟨h, h', h''⟩
    all_goals
      go_enter Try.func22, Try.ntmps22
      go_wp2_with fail
      go_ret
      exact ⟨by rw [hr.out]; rfl, hB0⟩

end Go.Proofs.Ytcikgmgkaenpmaa
