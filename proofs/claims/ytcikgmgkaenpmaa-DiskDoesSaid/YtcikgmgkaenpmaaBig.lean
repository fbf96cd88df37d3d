/-
  The document's own Big: is a disk more than is looked at?
-/
import Derived.Test.YtcikgmgkaenpmaaWrs
import Derived.WalkLawsBesides
import Derived.WalkMore
import Derived.BigQuiet
namespace Go.Proofs.Ytcikgmgkaenpmaa
open Go.RowKit

def longB (s : List UInt8) : Bool := decide (400 < s.length)
def longW (x : Wr) : Bool := decide (400 < x.2.length)
def bigB (bs : List (List UInt8)) (ws : List Wr) : Bool := decide (250 < bs.length) || decide (150 < ws.length) || bs.any longB || ws.any longW
/-- n is over 400, if one of the first k texts is that long (or b). -/
def MaxTo {α : Type} (p : α → Bool) (b : Bool) (l : List α) (k m : Nat) : Prop := decide (400 < m) = (b || (l.take k).any p)
theorem maxTo_zero {α : Type} (p : α → Bool) (b : Bool) (l : List α) (m : Nat) (h : decide (400 < m) = b) : MaxTo p b l 0 m := by simp [MaxTo, h]
theorem maxTo_succ {α : Type} {p : α → Bool} {b : Bool} {l : List α} {k m n : Nat} (h : MaxTo p b l k m) (hk : k < l.length) (hn : p l[k] = decide (400 < n)) : MaxTo p b l (k + 1) (max m n) := by
  unfold MaxTo at h ⊢
  rw [List.take_succ_eq_append_getElem hk, List.any_append, ← Bool.or_assoc, ← h]
  simp only [List.any_cons, List.any_nil, Bool.or_false, hn]
  rw [Bool.eq_iff_iff]
  simp
  omega
theorem maxTo_all {α : Type} {p : α → Bool} {b : Bool} {l : List α} {m : Nat} (h : MaxTo p b l l.length m) : decide (400 < m) = (b || l.any p) := by
  unfold MaxTo at h
  rwa [List.take_length] at h
theorem big_small {bs : List (List UInt8)} {ws : List Wr} {m : Nat} (h1 : bs.length ≤ 250) (h2 : ws.length ≤ 150) (h : decide (400 < m) = (bs.any longB || ws.any longW)) : bigB bs ws = decide (400 < m) := by
  have e1 : decide (250 < bs.length) = false := by simp; omega
  have e2 : decide (150 < ws.length) = false := by simp; omega
  rw [h]
  simp only [bigB, e1, e2, Bool.false_or]
theorem big_blocks {bs : List (List UInt8)} {ws : List Wr} (h1 : 250 < bs.length) : bigB bs ws = true := by simp [bigB, h1]
theorem big_writes {bs : List (List UInt8)} {ws : List Wr} (h1 : 150 < ws.length) : bigB bs ws = true := by simp [bigB, h1]
theorem big_not {bs : List (List UInt8)} {ws : List Wr} (h : bigB bs ws = false) : bs.length ≤ 250 ∧ ws.length ≤ 150 := by
  simp only [bigB, Bool.or_eq_false_iff, decide_eq_false_iff_not] at h
  obtain ⟨⟨⟨h1, h2⟩, _⟩, _⟩ := h
  omega

set_option maxRecDepth 100000 in
set_option maxHeartbeats 4000000 in
theorem big_calls (vb vw : Value) (bs : List (List UInt8)) (ws : List Wr) (w : World) (hb : Txts w vb bs) (hw : Wrs w vw ws) :
    Calls Try.prog 24 #[.agg #[vb, vw]] w fun e w' => e = .returned (.bool (bigB bs ws)) ∧ Below w.heap.size w w' := by
  obtain ⟨ab, cb, rfl⟩ := hb.strs.form
  obtain ⟨aw, cw, rfl⟩ := hw.form
  have hB0 := below_alloc w (.cells #[.slice ab bs.length cb, .slice aw ws.length cw] 25)
  have HB := Lib.hid hb
  have HW := Lib.hid hw
  clear hb hw
  have max_int : ∀ m n : Nat, (if m < n then (n : Int) else (m : Int)) = ((max m n : Nat) : Int) := by intro m n; split <;> omega
  have hmx := Lib.hid max_int
  clear max_int
  by_cases h1 : bs.length ≤ 250
  · by_cases h2 : ws.length ≤ 150
    · have d1 : decide ((bs.length : Int) ≤ 250) = true := by simp; omega
      have d2 : decide ((ws.length : Int) ≤ 150) = true := by simp; omega
      go_enter Try.func24, Try.ntmps24
      go_wp2_with fail
      go_loop [3, 4] (fun n i => ∃ k m : Nat, k ≤ bs.length ∧ i = .int .i64 k ∧ n = .int .i64 m ∧ MaxTo longB false bs k m) (fun _ i => bs.length - (intOf i).toNat)
      case atStart => exact ⟨0, 0, Nat.zero_le _, rfl, rfl, maxTo_zero _ _ _ _ rfl⟩
      case round =>
        obtain ⟨k, m, hk, rfl, rfl, hf⟩ := hrel
        by_cases hlt : k < bs.length
        · obtain ⟨b, off, rfl, hcell⟩ := HB.out.strs.at hlt
          have hbl2 := World.block_lt_of_cell? w _ hcell
          have HM := Lib.hid (maxTo_succ (n := bs[k].length) hf hlt rfl)
          generalize bs[k] = s at hcell HM
          go_wp2_with fail
          go_round
          case rel => exact ⟨k + 1, _, by omega, by go_num, by rw [hmx.out], HM.out⟩
          case measure => simp [intOf]; omega
        · obtain rfl : k = bs.length := by omega
          have hm1 := Lib.hid (maxTo_all hf)
          clear hf
          go_wp2_with fail
          go_loop [3, 5] (fun n i => ∃ k m : Nat, k ≤ ws.length ∧ i = .int .i64 k ∧ n = .int .i64 m ∧ MaxTo longW (bs.any longB) ws k m) (fun _ i => ws.length - (intOf i).toNat)
          case atStart => exact ⟨0, m, Nat.zero_le _, rfl, rfl, maxTo_zero _ _ _ _ (by rw [hm1.out]; simp)⟩
          case round =>
            obtain ⟨k, m, hk, rfl, rfl, hf⟩ := hrel
            by_cases hlt : k < ws.length
            · obtain ⟨b, off, rfl, hc0, hcell⟩ := HW.out.at hlt
              have hbl2 := World.block_lt_of_cell? w _ hcell
              have HM := Lib.hid (maxTo_succ (n := ws[k].2.length) hf hlt rfl)
              generalize ws[k].2 = s at hcell HM
              go_wp2_with fail
              go_round
              case rel => exact ⟨k + 1, _, by omega, by go_num, by rw [hmx.out], HM.out⟩
              case measure => simp [intOf]; omega
            · obtain rfl : k = ws.length := by omega
              have hmm := Lib.hid (show decide ((400 : Int) < (m : Int)) = decide (400 < m) by rw [Bool.eq_iff_iff]; simp only [decide_eq_true_eq]; omega)
              have f1 : decide ((250 : Int) < bs.length) = false := by simp; omega
              have f2 : decide ((150 : Int) < ws.length) = false := by simp; omega
              have hr := Lib.hid (big_small h1 h2 (maxTo_all hf))
              clear hf
              go_wp2_with fail
              go_ret
              exact ⟨by rw [hr.out, ← hmm.out]; rfl, hB0⟩
    · have d1 : decide ((bs.length : Int) ≤ 250) = true := by simp; omega
      have d2 : decide ((ws.length : Int) ≤ 150) = false := by simp; omega
      go_enter Try.func24, Try.ntmps24
      go_wp2_with fail
      go_loop [3, 4] (fun n i => ∃ k m : Nat, k ≤ bs.length ∧ i = .int .i64 k ∧ n = .int .i64 m ∧ MaxTo longB false bs k m) (fun _ i => bs.length - (intOf i).toNat)
      case atStart => exact ⟨0, 0, Nat.zero_le _, rfl, rfl, maxTo_zero _ _ _ _ rfl⟩
      case round =>
        obtain ⟨k, m, hk, rfl, rfl, hf⟩ := hrel
        by_cases hlt : k < bs.length
        · obtain ⟨b, off, rfl, hcell⟩ := HB.out.strs.at hlt
          have hbl2 := World.block_lt_of_cell? w _ hcell
          have HM := Lib.hid (maxTo_succ (n := bs[k].length) hf hlt rfl)
          generalize bs[k] = s at hcell HM
          go_wp2_with fail
          go_round
          case rel => exact ⟨k + 1, _, by omega, by go_num, by rw [hmx.out], HM.out⟩
          case measure => simp [intOf]; omega
        · obtain rfl : k = bs.length := by omega
          have hm1 := Lib.hid (maxTo_all hf)
          clear hf
          go_wp2_with fail
          go_loop [5] (fun i => i = .int .i64 0) (fun _ => 0)
          case atStart => exact rfl
          case round =>
            subst hrel
            · have hr := Lib.hid (big_writes (bs := bs) (ws := ws) (by omega))
              go_wp2_with fail
              go_ret
              exact ⟨by rw [hr.out]; rfl, hB0⟩
  · by_cases h2 : ws.length ≤ 150
    · have d1 : decide ((bs.length : Int) ≤ 250) = false := by simp; omega
      have d2 : decide ((ws.length : Int) ≤ 150) = true := by simp; omega
      go_enter Try.func24, Try.ntmps24
      go_wp2_with fail
      go_loop [3, 4] (fun n i => n = .int .i64 0 ∧ i = .int .i64 0) (fun _ _ => 0)
      case atStart => exact ⟨rfl, rfl⟩
      case round =>
        obtain ⟨rfl, rfl⟩ := hrel
        · obtain ⟨m, hm⟩ : ∃ m : Nat, m = 0 := ⟨0, rfl⟩
          go_wp2_with fail
          go_loop [3, 5] (fun n i => ∃ k m : Nat, k ≤ ws.length ∧ i = .int .i64 k ∧ n = .int .i64 m ∧ True) (fun _ i => ws.length - (intOf i).toNat)
          case atStart => exact ⟨0, 0, Nat.zero_le _, rfl, rfl, trivial⟩
          case round =>
            obtain ⟨k, m, hk, rfl, rfl, hf⟩ := hrel
            by_cases hlt : k < ws.length
            · obtain ⟨b, off, rfl, hc0, hcell⟩ := HW.out.at hlt
              have hbl2 := World.block_lt_of_cell? w _ hcell
              have HM := Lib.hid (trivial)
              generalize ws[k].2 = s at hcell HM
              go_wp2_with fail
              go_round
              case rel => exact ⟨k + 1, _, by omega, by go_num, by rw [hmx.out], HM.out⟩
              case measure => simp [intOf]; omega
            · obtain rfl : k = ws.length := by omega
              have hr := Lib.hid (big_blocks (bs := bs) (ws := ws) (by omega))
              clear hf
              go_wp2_with fail
              go_ret
              exact ⟨by rw [hr.out]; rfl, hB0⟩
    · have d1 : decide ((bs.length : Int) ≤ 250) = false := by simp; omega
      have d2 : decide ((ws.length : Int) ≤ 150) = false := by simp; omega
      go_enter Try.func24, Try.ntmps24
      go_wp2_with fail
      go_loop [3, 4] (fun n i => n = .int .i64 0 ∧ i = .int .i64 0) (fun _ _ => 0)
      case atStart => exact ⟨rfl, rfl⟩
      case round =>
        obtain ⟨rfl, rfl⟩ := hrel
        · obtain ⟨m, hm⟩ : ∃ m : Nat, m = 0 := ⟨0, rfl⟩
          go_wp2_with fail
          go_loop [5] (fun i => i = .int .i64 0) (fun _ => 0)
          case atStart => exact rfl
          case round =>
            subst hrel
            · have hr := Lib.hid (big_blocks (bs := bs) (ws := ws) (by omega))
              go_wp2_with fail
              go_ret
              exact ⟨by rw [hr.out]; rfl, hB0⟩

end Go.Proofs.Ytcikgmgkaenpmaa
