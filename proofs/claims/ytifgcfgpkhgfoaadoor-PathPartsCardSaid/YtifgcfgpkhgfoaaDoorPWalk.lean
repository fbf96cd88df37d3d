/-
  path.walk: the names that are left, or a panic.
-/
import Derived.Test.YtifgcfgpkhgfoaaDoorPParts
import Derived.WalkMore
namespace Go.Proofs.YtifgcfgpkhgfoaaDoor
open Go.RowKit

/-- What is thrown at a part that is none. -/
def thrown : PanicEntry := { v := .iface 22 (.int .i64 20), recovered := false }
/-- k parts of s are gone; acc is left. -/
def Gone (s : List UInt8) (k : Nat) (acc : List (List UInt8)) : Prop := walkL (cut s) [] = walkL ((cut s).drop k) acc
theorem gone_zero (s : List UInt8) : Gone s 0 [] := by simp [Gone]
theorem gone_all {s : List UInt8} {acc : List (List UInt8)} (h : Gone s (cut s).length acc) : walkL (cut s) [] = some acc := by
  unfold Gone at h; simpa [walkL] using h
theorem gone_step {s : List UInt8} {k : Nat} {acc : List (List UInt8)} (h : Gone s k acc) (hk : k < (cut s).length) : walkL (cut s) [] = (step acc (cut s)[k]).bind (walkL ((cut s).drop (k + 1))) := by
  unfold Gone at h
  rw [h, List.drop_eq_getElem_cons hk]
  rfl
theorem gone_some {s : List UInt8} {k : Nat} {acc r : List (List UInt8)} (h : Gone s k acc) (hk : k < (cut s).length) (hs : step acc (cut s)[k] = some r) : Gone s (k + 1) r := by
  have := gone_step h hk
  rw [hs] at this
  exact this
theorem gone_none {s : List UInt8} {k : Nat} {acc : List (List UInt8)} (h : Gone s k acc) (hk : k < (cut s).length) (hs : step acc (cut s)[k] = none) : walkL (cut s) [] = none := by
  have := gone_step h hk
  rw [hs] at this
  exact this
theorem step_len {acc r : List (List UInt8)} {p : List UInt8} (h : step acc p = some r) : r.length ≤ acc.length + 1 := by
  unfold step at h
  split at h
  · cases h; omega
  · split at h
    · cases h; simp; omega
    · split at h
      · cases h; simp
      · cases h
theorem step_skip {acc : List (List UInt8)} {p : List UInt8} (h : p = [] ∨ p = [46]) : step acc p = some acc := by rw [step, if_pos h]
theorem step_up {acc : List (List UInt8)} (h : acc ≠ []) : step acc [46, 46] = some acc.dropLast := by simp [step, h]
theorem step_bad {acc : List (List UInt8)} {p : List UInt8} (h1 : p ≠ []) (h2 : p ≠ [46]) (h3 : p = [46, 46] → acc = []) (h4 : isNm p = false) : step acc p = none := by
  rw [step, if_neg (by simp [h1, h2]), if_neg (fun h => h.2 (h3 h.1)), if_neg (by simp [h4])]

/-- A row of the call's own, one shorter. -/
theorem own_drop {w : World} {base g cap n : Nat} {acc : List (List UInt8)} (h : w.ownsRow base 9 1 (.slice (some ⟨g, 0, none⟩) n cap) acc.length (acc.map SV)) : w.ownsRow base 9 1 (.slice (some ⟨g, 0, none⟩) (acc.length - 1) cap) acc.dropLast.length (acc.dropLast.map SV) := by
  rcases h.2 with ⟨he, _⟩ | ⟨g', cap', cur, he, hb, hg, hc, hm, hz, ht⟩
  · cases he
  · cases he
    refine ⟨by simp, .inr ⟨g, cap, cur, by simp, hb, hg, by simp; omega, hm, hz, ?_⟩⟩
    simp only [Nat.mul_one, List.length_dropLast] at ht ⊢
    rw [← take_last, List.map_take, ← ht, List.take_take]
    congr 1; omega
theorem own_some {w : World} {base : Nat} {v : Value} {acc : List (List UInt8)} (h : w.ownsRow base 9 1 v acc.length (acc.map SV)) (h0 : acc ≠ []) : ∃ g cap, v = .slice (some ⟨g, 0, none⟩) acc.length cap ∧ acc.length ≤ cap := by
  rcases h.2 with ⟨_, hn⟩ | ⟨g, cap, cur, rfl, _, _, hc, _⟩
  · exact absurd (List.eq_nil_of_length_eq_zero hn) h0
  · exact ⟨g, cap, rfl, hc⟩
theorem own_form {w : World} {base : Nat} {v : Value} {acc : List (List UInt8)} (h : w.ownsRow base 9 1 v acc.length (acc.map SV)) : ∃ ao cap, v = .slice ao acc.length cap ∧ acc.length ≤ cap := by
  rcases h.2 with ⟨rfl, hn⟩ | ⟨g, cap, cur, rfl, _, _, hc, _⟩
  · exact ⟨none, 0, by rw [hn], by omega⟩
  · exact ⟨_, cap, rfl, hc⟩

/-- What walk leaves. -/
def WPost (w : World) (o : Option (List (List UInt8))) (e : Ending) (w' : World) : Prop :=
  Below w.heap.size w w' ∧ match o with
    | none => e = .panicked [thrown]
    | some l => ∃ v, e = .returned v ∧ Txts w' v l

theorem panic_end {f : Func} {w wr : World} {s : List UInt8} {a : Act} (hB : Below w.heap.size w wr) (hn : walkL (cut s) [] = none) (hd : a.defers = []) : Exit.noGoto (bodyPost Tryd.prog f (WPost w (walkL (cut s) []))) (Exit.panic [{ v := Value.iface 22 (Value.int IntKind.i64 20), recovered := false }]) a wr := by
  rw [hn]
  simp [Exit.noGoto, bodyPost, WPost, thrown, hB, hd]

set_option maxHeartbeats 4000000 in
theorem walk_calls (s : List UInt8) (h : s.length ≤ 400) (w : World) (hm : Ml w) :
    Calls Tryd.prog 27 #[.string ⟨s.toArray⟩] w (WPost w (walkL (cut s) [])) := by
  have hcl := cut_len s
  obtain ⟨i0, hi, hz0, hz1, hz2⟩ := info_parts info9
  go_enter Tryd.func27, Tryd.ntmps27
  go_wp2_with fail
  go_step3
  go_wp2_with fail
  go_step3
  go_wp2_with (go_at_call 37; refine (split_calls s (by omega) _ hm).mono ?_; rintro e w1 ⟨rfl, rfl⟩)
  go_loopw [3, 9] (fun v i wr => ∃ (k : Nat) (acc : List (List UInt8)), k ≤ (cut s).length ∧ i = .int .i64 k ∧ acc.length ≤ k ∧ Gone s k acc ∧ wr.ownsRow (w.heap.size + 1) 9 1 v acc.length (acc.map SV) ∧ Below (w.heap.size + 1) (w.alloc (.cells ((cut s).map SV).toArray 9)) wr) (fun _ i _ => (cut s).length - (intOf i).toNat)
  case atStart => exact ⟨0, [], Nat.zero_le _, rfl, by simp, gone_zero s, World.ownsRow_nil _ _ _ _, Below.refl _ _⟩
  case round =>
    obtain ⟨k, acc, hk, rfl, hal, hg, hown, hB⟩ := hrel
    have hBw : Below w.heap.size w wr := (below_alloc w _).trans (hB.mono (by omega))
    by_cases hlt : k < (cut s).length
    · have hcell : wr.cell? ⟨w.heap.size, k, none⟩ = some (.string ⟨(cut s)[k].toArray⟩) := (hB.cell (p := ⟨w.heap.size, k, none⟩) (Nat.lt_succ_self _)).trans (cell_part w (cut s) 9 hlt)
      have hpl := part_le hlt
      have hsucc := fun r => gone_some (r := r) hg hlt
      have hnone := gone_none hg hlt
      generalize (cut s)[k] = p at hcell hpl hsucc hnone
      by_cases h1 : p = []
      · have hs := hsucc acc (step_skip (.inl h1))
        subst h1
        clear hsucc hnone
        go_wp2_with fail
        go_roundw
        case rel => exact ⟨k + 1, acc, by omega, by go_num, by omega, hs, hown, hB⟩
        case measure => simp [intOf]; omega
      by_cases h2 : p = [46]
      · have hs := hsucc acc (step_skip (.inr h2))
        subst h2
        clear hsucc hnone h1
        go_wp2_with fail
        go_roundw
        case rel => exact ⟨k + 1, acc, by omega, by go_num, by omega, hs, hown, hB⟩
        case measure => simp [intOf]; omega
      by_cases h3 : p = [46, 46]
      · by_cases h4 : acc = []
        · have HN := Lib.hid (hnone (step_bad h1 h2 (fun _ => h4) (by rw [h3]; rfl)))
          subst h3
          subst h4
          obtain ⟨ao, cap, rfl, hcap⟩ := own_form hown
          clear hsucc hnone h1 h2
          go_wp2_with (go_at_call 38; refine (isName_calls [46, 46] (by simp) _).mono ?_; rintro e w1 ⟨rfl, rfl⟩; rw [show isNm [46, 46] = false from rfl])
          exact panic_end hBw HN.out rfl
        · have hs := hsucc _ (h3 ▸ step_up h4)
          have hpos := List.length_pos_iff.2 h4
          obtain ⟨g, cap, rfl, hcap⟩ := own_some hown h4
          have hown2 := Lib.hid (own_drop hown)
          subst h3
          clear hsucc hnone h1 h2 h4 hown
          go_wp2_with fail
          go_roundw
          case rel => exact ⟨k + 1, acc.dropLast, by omega, by go_num, by simp; omega, hs, hown2.out, hB⟩
          case measure => simp [intOf]; omega
      cases hnm : isNm p with
      | false =>
        have HN := Lib.hid (hnone (step_bad h1 h2 (fun e => absurd e h3) hnm))
        have b1 : (p == []) = false := by simpa using h1
        have b2 : (p == [46]) = false := by simpa using h2
        have b3 : (p == [46, 46]) = false := by simpa using h3
        obtain ⟨ao, cap, rfl, hcap⟩ := own_form hown
        clear hsucc hnone h1 h2 h3
        go_wp2_with (go_at_call 38; refine (isName_calls p (by omega) _).mono ?_; rintro e w1 ⟨rfl, rfl⟩; rw [hnm])
        exact panic_end hBw HN.out rfl
      | true =>
        have hs := hsucc _ (step_name acc hnm)
        have b1 : (p == []) = false := by simpa using h1
        have b2 : (p == [46]) = false := by simpa using h2
        have b3 : (p == [46, 46]) = false := by simpa using h3
        clear hsucc hnone h1 h2 h3
        go_wp2_with (first | (go_at_call 38; refine (isName_calls p (by omega) _).mono ?_; rintro e w1 ⟨rfl, rfl⟩; rw [hnm]) | (at_builtin; refine wpList_append_own _ rfl _ _ 35 rfl (w.heap.size + 1) 9 i0 (.string ⟨#[]⟩) 1 16 Tryd.underlying35 hi hz0 hz1 hz2 rfl (by decide) _ _ _ rfl (hown.alloc _) ⟨wr.heap.size, 0, none⟩ 1 1 [.string ⟨p.toArray⟩] rfl rfl (cell_one_new _ _ _) (by simp [Value.oneCell']) (by unfold maxLen; omega) (by omega) (by have := hB.size; simp at this ⊢; omega) ?_; intro v3 w3 hown3 hg3 _))
        go_roundw
        case rel => exact ⟨k + 1, acc ++ [p], by omega, by go_num, by simp; omega, hs, by simpa [SV] using hown3, (hB.alloc (by have := hB.size; simp at this ⊢; omega) _).grown hg3 (by have := hB.size; simp at this ⊢; omega) (fun j e => (hown.lt j e).1)⟩
        case measure => simp [intOf]; omega
    · obtain rfl : k = (cut s).length := by omega
      have HL := Lib.hid (gone_all hg)
      go_wp2_with fail
      go_ret
      exact ⟨hBw, by rw [HL.out]; exact ⟨_, rfl, Txts.own hown⟩⟩

end Go.Proofs.YtifgcfgpkhgfoaaDoor
