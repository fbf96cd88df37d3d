/-
  Steps in a row: four cells each; the document's own Big of them.
-/
import Derived.Test.YtgbicdbmmjleoaaTrRef
namespace Go.Proofs.Ytgbicdbmmjleoaa
open Go.RowKit

def ocell (x : Stp) : List Value := [.int .i64 x.1, .string ⟨x.2.1.1.toArray⟩, .int .i64 x.2.1.2, .string ⟨x.2.2.toArray⟩]
def ocells (l : List Stp) : List Value := l.flatMap ocell
theorem ocells_cons (x : Stp) (r : List Stp) : ocells (x :: r) = .int .i64 x.1 :: .string ⟨x.2.1.1.toArray⟩ :: .int .i64 x.2.1.2 :: .string ⟨x.2.2.toArray⟩ :: ocells r := rfl
theorem ocells_len (l : List Stp) : (ocells l).length = l.length * 4 := by
  induction l with
  | nil => rfl
  | cons x r ih => rw [ocells_cons]; simp only [List.length_cons, ih]; omega
theorem ocells_at (l : List Stp) (i : Nat) (h : i < l.length) : (ocells l)[i * 4]? = some (.int .i64 l[i].1) ∧ (ocells l)[i * 4 + 1]? = some (.string ⟨l[i].2.1.1.toArray⟩) ∧ (ocells l)[i * 4 + 2]? = some (.int .i64 l[i].2.1.2) ∧ (ocells l)[i * 4 + 3]? = some (.string ⟨l[i].2.2.toArray⟩) := by
  induction l generalizing i with
  | nil => simp at h
  | cons x r ih =>
    cases i with
    | zero => exact ⟨rfl, rfl, rfl, rfl⟩
    | succ i =>
      have h1 := ih i (by simpa using h)
      rw [ocells_cons, show (i + 1) * 4 = i * 4 + 1 + 1 + 1 + 1 by omega]
      exact h1
/-- The slice v reads as these steps. -/
def Stps (w : World) (v : Value) (l : List Stp) : Prop := Rw w 4 v l.length (ocells l)
theorem Stps.below {w w' : World} {v : Value} {l : List Stp} (h : Stps w v l) (hb : Below w.heap.size w w') : Stps w' v l := Rw.below h hb
theorem Stps.form {w : World} {v : Value} {l : List Stp} (h : Stps w v l) : ∃ ao cap, v = .slice ao l.length cap := Rw.form h
theorem Stps.nil (w : World) : Stps w (.slice none 0 0) [] := Rw.nil w 4
theorem Stps.at {w : World} {ao : Option Addr} {n cap : Nat} {l : List Stp} (h : Stps w (.slice ao n cap) l) {k : Nat} (hk : k < l.length) :
    ∃ b off, ao = some ⟨b, off, none⟩ ∧ w.cell? ⟨b, off + k * 4, none⟩ = some (.int .i64 l[k].1) ∧ w.cell? ⟨b, off + k * 4 + 1, none⟩ = some (.string ⟨l[k].2.1.1.toArray⟩) ∧ w.cell? ⟨b, off + k * 4 + 2, none⟩ = some (.int .i64 l[k].2.1.2) ∧ w.cell? ⟨b, off + k * 4 + 3, none⟩ = some (.string ⟨l[k].2.2.toArray⟩) := by
  obtain ⟨hl, ao', cap', he, _, hc⟩ := h
  cases he
  rcases hc with h0 | ⟨b, off, rfl, hc⟩
  · omega
  · have h2 := ocells_len l
    obtain ⟨e1, e2, e3, e4⟩ := ocells_at l k hk
    refine ⟨b, off, rfl, ?_, ?_, ?_, ?_⟩
    · rw [hc (k * 4) (by omega), ← e1, List.getElem?_eq_getElem (by omega)]
    · rw [Nat.add_assoc, hc (k * 4 + 1) (by omega), ← e2, List.getElem?_eq_getElem (by omega)]
    · rw [Nat.add_assoc, hc (k * 4 + 2) (by omega), ← e3, List.getElem?_eq_getElem (by omega)]
    · rw [Nat.add_assoc, hc (k * 4 + 3) (by omega), ← e4, List.getElem?_eq_getElem (by omega)]

/-- Are steps more than are looked at? -/
def bigO (l : List Stp) : Bool := decide (100 < l.length) || l.any fun x => decide (200 < x.2.1.1.length) || decide (300 < x.2.2.length)
/-- None of the first k steps is too great. -/
def smallTo2 (l : List Stp) (k : Nat) : Prop := (l.take k).any (fun x => decide (200 < x.2.1.1.length) || decide (300 < x.2.2.length)) = false
theorem smallTo2_succ {l : List Stp} {k : Nat} (h : smallTo2 l k) (hk : k < l.length) (h1 : l[k].2.1.1.length ≤ 200) (h2 : l[k].2.2.length ≤ 300) : smallTo2 l (k + 1) := by
  unfold smallTo2 at h ⊢
  rw [List.take_succ_eq_append_getElem hk, List.any_append, h]
  simp [h1, h2]
theorem bigO_not {l : List Stp} (hl : l.length ≤ 100) (h : smallTo2 l l.length) : bigO l = false := by
  unfold smallTo2 at h
  rw [List.take_length] at h
  unfold bigO
  rw [h]
  simp [hl]
theorem bigO_one {l : List Stp} {k : Nat} (hk : k < l.length) (h : 200 < l[k].2.1.1.length ∨ 300 < l[k].2.2.length) : bigO l = true := by
  unfold bigO
  have : l.any (fun x => decide (200 < x.2.1.1.length) || decide (300 < x.2.2.length)) = true := List.any_eq_true.2 ⟨l[k], List.getElem_mem hk, by simpa using h⟩
  simp [this]
theorem bigO_len {l : List Stp} (h : 100 < l.length) : bigO l = true := by
  unfold bigO
  simp [h]
theorem smallO {l : List Stp} (h : bigO l = false) : l.length ≤ 100 := by
  unfold bigO at h
  simp only [Bool.or_eq_false_iff, decide_eq_false_iff_not] at h
  omega

set_option maxHeartbeats 2000000 in
theorem bigO_calls (v : Value) (l : List Stp) (w : World) (hs : Stps w v l) (hm : l.length ≤ 9223372036854775807) :
    Calls Try.prog 8 #[v] w fun e w' => e = .returned (.bool (bigO l)) ∧ w = w' := by
  obtain ⟨ao, cap, rfl⟩ := hs.form
  have HS := Lib.hid hs
  clear hs
  by_cases h80 : 100 < l.length
  · have HR := Lib.hid (bigO_len h80)
    go_enter Try.func8, Try.ntmps8
    go_wp2_with fail
    go_loop [3] (fun i => i = .int .i64 0) (fun _ => 0)
    case atStart => rfl
    case round =>
      subst hrel
      go_wp2_with fail
      go_ret
      exact ⟨by rw [HR.out]; rfl, rfl⟩
  · have h81 : l.length ≤ 100 := by omega
    clear hm
    go_enter Try.func8, Try.ntmps8
    go_wp2_with fail
    go_loop [3] (fun i => ∃ k : Nat, k ≤ l.length ∧ i = .int .i64 k ∧ smallTo2 l k) (fun i => l.length - (intOf i).toNat)
    case atStart => exact ⟨0, Nat.zero_le _, rfl, by simp [smallTo2]⟩
    case round =>
      obtain ⟨k, hk, rfl, hf⟩ := hrel
      by_cases hlt : k < l.length
      · obtain ⟨b, off, rfl, c0, c1, c2, c3⟩ := HS.out.at hlt
        obtain ⟨⟨z, ⟨p, n⟩, s⟩, hx⟩ : ∃ x, l[k] = x := ⟨_, rfl⟩
        rw [hx] at c0 c1 c2 c3
        dsimp only at c0 c1 c2 c3
        clear c0 c2
        have HX := Lib.hid hx
        clear hx
        by_cases h1 : 200 < p.length
        · have HR := Lib.hid (bigO_one hlt (.inl (by rw [HX.out]; exact h1)))
          clear hf
          go_wp2_with fail
          go_ret
          exact ⟨by rw [HR.out]; rfl, rfl⟩
        · have h1' : p.length ≤ 200 := by omega
          by_cases h2 : 300 < s.length
          · have HR := Lib.hid (bigO_one hlt (.inr (by rw [HX.out]; exact h2)))
            clear hf
            go_wp2_with fail
            go_ret
            exact ⟨by rw [HR.out]; rfl, rfl⟩
          · have h2' : s.length ≤ 300 := by omega
            have HR := Lib.hid (smallTo2_succ hf hlt (by rw [HX.out]; exact h1') (by rw [HX.out]; exact h2'))
            clear hf
            go_wp2_with fail
            go_round
            case rel => exact ⟨k + 1, by omega, by go_num, HR.out⟩
            case measure => simp [intOf]; omega
      · obtain rfl : k = l.length := by omega
        have HR := Lib.hid (bigO_not h81 hf)
        have hd : decide ((100 : Int) < (l.length : Int)) = false := by rw [decide_eq_false_iff_not]; omega
        clear hf
        go_wp2_with fail
        go_ret
        exact ⟨by rw [HR.out]; rfl, rfl⟩

end Go.Proofs.Ytgbicdbmmjleoaa
