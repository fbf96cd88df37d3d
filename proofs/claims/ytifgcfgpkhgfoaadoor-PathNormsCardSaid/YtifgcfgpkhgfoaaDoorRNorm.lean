/-
  The document's own Norm and Join.
-/
import Derived.Test.YtifgcfgpkhgfoaaDoorRNames
import Derived.Test.YtifgcfgpkhgfoaaDoorPNorm
namespace Go.Proofs.YtifgcfgpkhgfoaaDoor
open Go.RowKit
attribute [local go_sem] app_mk

theorem refNorm_long (s : List UInt8) (h : 400 < s.length) (hm : s.length ≤ 1000000) (w : World) :
    Calls Tryd.prog 10 #[.string ⟨s.toArray⟩] w fun e w' => e = .returned (.tuple #[.string ⟨#[]⟩, .int .i64 20]) ∧ w = w' := by
  go_enter Tryd.func10, Tryd.ntmps10
  go_wp2_with fail
  go_ret2
  exact ⟨rfl, rfl⟩

theorem shut_is {l : List (List UInt8)} (h : Fine l) : isP (gl l) = decide ((gl l).length ≤ 100) := by
  by_cases h1 : (gl l).length ≤ 100
  · rw [isP_of (names_gl h h1)]; simp [h1]
  · have : namesOf (gl l) = none := by rw [namesOf, if_pos (by omega)]
    rw [isP_none this]; simp [h1]

set_option maxHeartbeats 8000000 in
theorem refNorm_short (s : List UInt8) (h : s.length ≤ 400) (w : World) :
    Calls Tryd.prog 10 #[.string ⟨s.toArray⟩] w (NPost w ((walkL (cut s) []).bind shut)) := by
  have hcl := cut_len s
  have hd : decide ((400 : Int) < s.length) = false := by simp; omega
  obtain ⟨i0, hi, hz0, hz1, hz2⟩ := info_parts info9
  go_enter Tryd.func10, Tryd.ntmps10
  go_wp2_with (go_at_call 28; refine (parts_calls s (by omega) _).mono ?_; rintro e w1 ⟨v, rfl, hown0, hB0⟩; have hT := Txts.own hown0; have HT := Lib.hid hT; obtain ⟨ap, cp, rfl⟩ := hT.strs.form; clear hown0 hT)
  go_loopw [5, 6] (fun v i wr => ∃ (k : Nat) (acc : List (List UInt8)), k ≤ (cut s).length ∧ i = .int .i64 k ∧ acc.length ≤ k ∧ Gone s k acc ∧ wr.ownsRow w1.heap.size 9 1 v acc.length (acc.map SV) ∧ Below w1.heap.size w1 wr) (fun _ i _ => (cut s).length - (intOf i).toNat)
  case atStart => exact ⟨0, [], Nat.zero_le _, rfl, by simp, gone_zero s, World.ownsRow_nil _ _ _ _, Below.refl _ _⟩
  case round =>
    obtain ⟨k, acc, hk, rfl, hal, hg, hown, hB⟩ := hrel
    have hBw : Below w.heap.size w wr := below2 hB0 hB
    by_cases hlt : k < (cut s).length
    · obtain ⟨b, off, rfl, hcell⟩ := (HT.out.strs.below hB).at hlt
      have hpl := part_le hlt
      have hcl2 := cut_clean s _ (List.getElem_mem hlt)
      have hsucc := fun r => gone_some (r := r) hg hlt
      have hnone := gone_none hg hlt
      generalize (cut s)[k] = p at hcell hpl hsucc hnone hcl2
      by_cases h1 : p = []
      · have hs := hsucc acc (step_skip (.inl h1))
        subst h1
        clear hsucc hnone
        go_wp2_with fail
        go_roundw
        case rel => exact ⟨k + 1, acc, by omega, by go_num, by omega, hs, hown, hB⟩
        case measure => simp [intOf]; omega
      by_cases h2 : p = [46]
      · have hs := hsucc acc (step_skip (.inr h2))
        subst h2
        clear hsucc hnone h1
        go_wp2_with fail
        go_roundw
        case rel => exact ⟨k + 1, acc, by omega, by go_num, by omega, hs, hown, hB⟩
        case measure => simp [intOf]; omega
      by_cases h3 : p = [46, 46]
      · by_cases h4 : acc = []
        · have HN := Lib.hid (hnone (step_bad h1 h2 (fun _ => h4) (by rw [h3]; rfl)))
          subst h3
          subst h4
          obtain ⟨ao, cap, rfl, hcap⟩ := own_form hown
          clear hsucc hnone h1 h2
          go_wp2_with fail
          go_ret2
          exact ⟨hBw, by rw [HN.out]; rfl⟩
        · have hs := hsucc _ (h3 ▸ step_up h4)
          have hpos := List.length_pos_iff.2 h4
          have hb : ((acc.length : Int) == 0) = false := by rw [beq_eq_false_iff_ne]; omega
          obtain ⟨g, cap, rfl, hcap⟩ := own_some hown h4
          have hown2 := Lib.hid (own_drop hown)
          subst h3
          clear hsucc hnone h1 h2 h4 hown
          go_wp2_with fail
          go_roundw
          case rel => exact ⟨k + 1, acc.dropLast, by omega, by go_num, by simp; omega, hs, hown2.out, hB⟩
          case measure => simp [intOf]; omega
      cases hnm : isNm p with
      | false =>
        have HN := Lib.hid (hnone (step_bad h1 h2 (fun e => absurd e h3) hnm))
        have b1 : (p == []) = false := by simpa using h1
        have b2 : (p == [46]) = false := by simpa using h2
        have b3 : (p == [46, 46]) = false := by simpa using h3
        clear hsucc hnone h1 h2 h3
        go_wp2_with (go_at_call 29; refine (name_calls p (by omega) hcl2 _).mono ?_; rintro e w1 ⟨rfl, rfl⟩; rw [hnm])
        go_ret2
        exact ⟨hBw, by rw [HN.out]; rfl⟩
      | true =>
        have hs := hsucc _ (step_name acc hnm)
        have b1 : (p == []) = false := by simpa using h1
        have b2 : (p == [46]) = false := by simpa using h2
        have b3 : (p == [46, 46]) = false := by simpa using h3
        clear hsucc hnone h1 h2 h3
        go_wp2_with (first | (go_at_call 29; refine (name_calls p (by omega) hcl2 _).mono ?_; rintro e w1 ⟨rfl, rfl⟩; rw [hnm]) | (at_builtin; refine wpList_append_own _ rfl _ _ 35 rfl w1.heap.size 9 i0 (.string ⟨#[]⟩) 1 16 Tryd.underlying35 hi hz0 hz1 hz2 rfl (by decide) _ _ _ rfl (hown.alloc _) ⟨wr.heap.size, 0, none⟩ 1 1 [.string ⟨p.toArray⟩] rfl rfl (cell_one_new _ _ _) (by simp [Value.oneCell']) (by unfold maxLen; omega) (by omega) (by have := hB.size; simp; omega) ?_; intro v3 w3 hown3 hg3 _))
        go_roundw
        case rel => exact ⟨k + 1, acc ++ [p], by omega, by go_num, by simp; omega, hs, by simpa [SV] using hown3, (hB.alloc hB.size _).grown hg3 (by have := hB.size; simp; omega) (fun j e => (hown.lt j e).1)⟩
        case measure => simp [intOf]; omega
    · obtain rfl : k = (cut s).length := by omega
      have hw := gone_all hg
      obtain ⟨hl1, hl2⟩ := walk_len hw
      have hf := (walk_fine hw Fine.nil (cut_clean s)).1
      have his := shut_is hf
      have HL := Lib.hid hw
      have HT2 := Lib.hid (Txts.own hown)
      clear hw hf hown
      by_cases h1 : (gl acc).length ≤ 100
      · have hsh : shut acc = some (gl acc) := by rw [shut, if_neg (by omega)]
        have HS := Lib.hid hsh
        rw [decide_eq_true h1] at his
        have HI := Lib.hid his
        clear hsh his
        go_wp2_with fail
        refine (glue_calls _ acc _ HT2.out (by omega) (by omega)).mono ?_
        rintro e w4 ⟨rfl, rfl⟩
        go_wp2_with fail
        refine (refIs_calls (gl acc) (by omega) _).mono ?_
        rintro e w5 ⟨rfl, hB5⟩
        rw [HI.out]
        go_wp2_with fail
        go_ret2
        exact ⟨below2 hBw hB5, by rw [HL.out, Option.bind_some, HS.out]; rfl⟩
      · have hsh : shut acc = none := by rw [shut, if_pos (by omega)]
        have HS := Lib.hid hsh
        rw [decide_eq_false h1] at his
        have HI := Lib.hid his
        clear hsh his h1
        go_wp2_with fail
        refine (glue_calls _ acc _ HT2.out (by omega) (by omega)).mono ?_
        rintro e w4 ⟨rfl, rfl⟩
        go_wp2_with fail
        refine (refIs_calls (gl acc) (by omega) _).mono ?_
        rintro e w5 ⟨rfl, hB5⟩
        rw [HI.out]
        go_wp2_with fail
        go_ret2
        exact ⟨below2 hBw hB5, by rw [HL.out, Option.bind_some, HS.out]; rfl⟩

theorem refNorm_calls (s : List UInt8) (hl : s.length ≤ 1000000) (w : World) :
    Calls Tryd.prog 10 #[.string ⟨s.toArray⟩] w (NPost w (normOf s)) := by
  by_cases h4 : 400 < s.length
  · rw [normOf, if_pos h4]
    exact (refNorm_long s h4 hl w).mono fun e w' ⟨he, hw⟩ => ⟨hw ▸ Below.refl _ _, he⟩
  · rw [normOf, if_neg h4]
    exact refNorm_short s (by omega) w
theorem refNorm_some {s a : List UInt8} (h : normOf s = some a) (hl : s.length ≤ 1000000) (w : World) :
    Calls Tryd.prog 10 #[.string ⟨s.toArray⟩] w fun e w' => e = .returned (.tuple #[.string ⟨a.toArray⟩, .int .i64 0]) ∧ Below w.heap.size w w' :=
  (refNorm_calls s hl w).mono fun e w' hp => by rw [h] at hp; exact ⟨hp.2, hp.1⟩
theorem refNorm_not {s : List UInt8} (h : normOf s = none) (hl : s.length ≤ 1000000) (w : World) :
    Calls Tryd.prog 10 #[.string ⟨s.toArray⟩] w fun e w' => e = .returned (.tuple #[.string ⟨#[]⟩, .int .i64 20]) ∧ Below w.heap.size w w' :=
  (refNorm_calls s hl w).mono fun e w' hp => by rw [h] at hp; exact ⟨hp.2, hp.1⟩

set_option maxHeartbeats 1000000 in
theorem refJoin_no {d s : List UInt8} (h : isP d = false) (hl : d.length ≤ 1000000) (w : World) :
    Calls Tryd.prog 12 #[.string ⟨d.toArray⟩, .string ⟨s.toArray⟩] w fun e w' => e = .returned (.tuple #[.string ⟨#[]⟩, .int .i64 20]) ∧ Below w.heap.size w w' := by
  go_enter Tryd.func12, Tryd.ntmps12
  go_wp2_with (go_at_call 15; refine (refIs_calls d hl _).mono ?_; rintro e w1 ⟨rfl, hB⟩; rw [h])
  go_ret2
  exact ⟨rfl, hB⟩
set_option maxHeartbeats 1000000 in
theorem refJoin_bad {d s : List UInt8} (h : isP d = true) (h2 : normOf (d ++ 47 :: s) = none) (hd : d.length ≤ 100000) (hs : s.length ≤ 100000) (w : World) :
    Calls Tryd.prog 12 #[.string ⟨d.toArray⟩, .string ⟨s.toArray⟩] w fun e w' => e = .returned (.tuple #[.string ⟨#[]⟩, .int .i64 20]) ∧ Below w.heap.size w w' := by
  have H2 := Lib.hid h2
  clear h2
  have hb1 : ¬ 9223372036854775807 < d.length + 1 := by omega
  have hb2 : ¬ 9223372036854775807 < d.length + 1 + s.length := by omega
  have hb3 : (d ++ 47 :: s).length ≤ 1000000 := by simp; omega
  go_enter Tryd.func12, Tryd.ntmps12
  go_wp2_with (first | (go_at_call 15; refine (refIs_calls d (by omega) _).mono ?_; rintro e w1 ⟨rfl, hB⟩; rw [h]) | (go_at_call 10; refine (refNorm_not H2.out hb3 _).mono ?_; rintro e w2 ⟨rfl, hB2⟩))
  go_ret2
  exact ⟨rfl, below2 hB hB2⟩
set_option maxHeartbeats 1000000 in
theorem refJoin_ok {d s a : List UInt8} (h : isP d = true) (h2 : normOf (d ++ 47 :: s) = some a) (hd : d.length ≤ 100000) (hs : s.length ≤ 100000) (w : World) :
    Calls Tryd.prog 12 #[.string ⟨d.toArray⟩, .string ⟨s.toArray⟩] w fun e w' => e = .returned (.tuple #[.string ⟨a.toArray⟩, .int .i64 0]) ∧ Below w.heap.size w w' := by
  have H2 := Lib.hid h2
  clear h2
  have hb1 : ¬ 9223372036854775807 < d.length + 1 := by omega
  have hb2 : ¬ 9223372036854775807 < d.length + 1 + s.length := by omega
  have hb3 : (d ++ 47 :: s).length ≤ 1000000 := by simp; omega
  go_enter Tryd.func12, Tryd.ntmps12
  go_wp2_with (first | (go_at_call 15; refine (refIs_calls d (by omega) _).mono ?_; rintro e w1 ⟨rfl, hB⟩; rw [h]) | (go_at_call 10; refine (refNorm_some H2.out hb3 _).mono ?_; rintro e w2 ⟨rfl, hB2⟩))
  go_ret2
  exact ⟨rfl, below2 hB hB2⟩

theorem refJoin_some {d s a : List UInt8} (h : joinOf d s = some a) (hd : d.length ≤ 100000) (hs : s.length ≤ 100000) (w : World) :
    Calls Tryd.prog 12 #[.string ⟨d.toArray⟩, .string ⟨s.toArray⟩] w fun e w' => e = .returned (.tuple #[.string ⟨a.toArray⟩, .int .i64 0]) ∧ Below w.heap.size w w' := by
  unfold joinOf at h
  split at h
  · rename_i hp
    exact refJoin_ok hp h hd hs w
  · cases h
theorem refJoin_not {d s : List UInt8} (h : joinOf d s = none) (hd : d.length ≤ 100000) (hs : s.length ≤ 100000) (w : World) :
    Calls Tryd.prog 12 #[.string ⟨d.toArray⟩, .string ⟨s.toArray⟩] w fun e w' => e = .returned (.tuple #[.string ⟨#[]⟩, .int .i64 20]) ∧ Below w.heap.size w w' := by
  unfold joinOf at h
  split at h
  · rename_i hp
    exact refJoin_bad hp h hd hs w
  · rename_i hp
    exact refJoin_no (by simpa using hp) (by omega) w

end Go.Proofs.YtifgcfgpkhgfoaaDoor
