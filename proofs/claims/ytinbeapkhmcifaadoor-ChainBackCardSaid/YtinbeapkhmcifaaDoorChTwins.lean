/-
  The law file's far and twins.
-/
import Derived.Test.YtinbeapkhmcifaaDoorChSums
import Derived.Deep.RegionHeld3
namespace Go.Proofs.YtinbeapkhmcifaaDoor
set_option maxRecDepth 100000
open Go.RowKit

/-- Are these more than are looked at? -/
def chFar (l : List (List UInt8)) : Bool := l.any (fun t => decide (200 < t.length)) || decide (30 < l.length)
theorem far_not {l : List (List UInt8)} (h : chFar l = false) : LenL 200 l ∧ l.length ≤ 30 := by
  unfold chFar at h
  rw [Bool.or_eq_false_iff] at h
  refine ⟨fun t ht => ?_, by have := of_decide_eq_false h.2; omega⟩
  have := (List.any_eq_false.1 h.1) t ht
  simp at this
  omega
theorem far_hit {l : List (List UInt8)} {k : Nat} (hk : k < l.length) (h : 200 < l[k].length) : chFar l = true := by
  unfold chFar
  rw [List.any_eq_true.2 ⟨l[k], List.getElem_mem hk, by simpa using h⟩, Bool.true_or]
theorem far_end {l : List (List UInt8)} (h : (l.take l.length).any (fun t => decide (200 < t.length)) = false) : chFar l = decide ((30 : Int) < l.length) := by
  rw [List.take_length] at h
  unfold chFar
  rw [h, Bool.false_or]
  exact decide_eq_decide.2 (by omega)
theorem far_next {l : List (List UInt8)} {k : Nat} (h : (l.take k).any (fun t => decide (200 < t.length)) = false) (hk : k < l.length) (hn : l[k].length ≤ 200) : (l.take (k + 1)).any (fun t => decide (200 < t.length)) = false := by
  rw [List.take_succ_eq_append_getElem hk, List.any_append, h]
  simpa using hn

set_option maxHeartbeats 1000000 in
theorem chFar_calls (v : Value) (l : List (List UInt8)) (w : World) (h : Strs w v l) (hl : l.length ≤ 9223372036854775807) :
    Calls Tryd.prog 8 #[v] w fun e w' => e = .returned (.bool (chFar l)) ∧ w = w' := by
  obtain ⟨ao, cap, rfl⟩ := h.form
  have H := Lib.hid h
  clear h
  go_enter Tryd.func8, Tryd.ntmps8
  go_wp2_with fail
  go_loop [3] (fun x => ∃ k : Nat, x = .int .i64 k ∧ k ≤ l.length ∧ Hid ((l.take k).any (fun t => decide (200 < t.length)) = false)) (fun x => l.length - (intOf x).toNat)
  case atStart => exact ⟨0, rfl, Nat.zero_le _, Lib.hid (by simp)⟩
  case round =>
    obtain ⟨k, rfl, hk, hf⟩ := hrel
    by_cases hlt : k < l.length
    · obtain ⟨b, off, rfl, hc⟩ := H.out.at hlt
      have hh := far_hit hlt
      have hn := far_next hf.out hlt
      generalize l[k] = t at *
      by_cases ht : 200 < t.length
      · have HH := Lib.hid (hh ht)
        have hd : decide ((200 : Int) < t.length) = true := by rw [decide_eq_true_eq]; omega
        clear hh hn ht
        go_wp2_with fail
        go_ret
        exact ⟨by rw [HH.out]; rfl, rfl⟩
      · have HN := Lib.hid (hn (by omega))
        have hd : decide ((200 : Int) < t.length) = false := by rw [decide_eq_false_iff_not]; omega
        clear hh hn ht
        go_wp2_with fail
        go_round
        case rel => exact ⟨k + 1, by go_num, by omega, HN⟩
        case measure => simp [intOf]; omega
    · obtain rfl : k = l.length := by omega
      have HE := Lib.hid (far_end hf.out)
      go_wp2_with fail
      go_ret
      exact ⟨by rw [HE.out]; rfl, rfl⟩

/-- No two of the texts have one sum, as far as was looked: those ahead of i, and the i-th and those ahead of k. -/
def TwTo (l : List (List UInt8)) (i k : Nat) : Prop := ∀ (a b : Nat) (ha : a < l.length) (hb : b < l.length), (a < i ∧ b < a) ∨ (a = i ∧ b < k) → sumN l[a] = sumN l[b] → l[a] = l[b]
theorem tw_zero (l : List (List UInt8)) : TwTo l 0 0 := fun a b _ _ h => by omega
theorem tw_next {l : List (List UInt8)} {i k : Nat} (h : TwTo l i k) (hi : i < l.length) (hk : k < l.length) (he : sumN l[i] = sumN l[k] → l[i] = l[k]) : TwTo l i (k + 1) := by
  intro a b ha hb hab
  rcases hab with hab | ⟨rfl, hb2⟩
  · exact h a b ha hb (.inl hab)
  · by_cases hbk : b < k
    · exact h a b ha hb (.inr ⟨rfl, hbk⟩)
    · obtain rfl : b = k := by omega
      exact he
theorem tw_row {l : List (List UInt8)} {i : Nat} (h : TwTo l i i) : TwTo l (i + 1) 0 := by
  intro a b ha hb hab
  rcases hab with ⟨h1, h2⟩ | ⟨_, h2⟩
  · by_cases hai : a < i
    · exact h a b ha hb (.inl ⟨hai, h2⟩)
    · obtain rfl : a = i := by omega
      exact h a b ha hb (.inr ⟨rfl, h2⟩)
  · omega
/-- Unlike texts have unlike sums. -/
def NoTw (l : List (List UInt8)) : Prop := ∀ s ∈ l, ∀ t ∈ l, sumN s = sumN t → s = t
theorem tw_all {l : List (List UInt8)} (h : TwTo l l.length 0) : NoTw l := by
  intro s hs t ht he
  obtain ⟨a, ha, rfl⟩ := List.getElem_of_mem hs
  obtain ⟨b, hb, rfl⟩ := List.getElem_of_mem ht
  rcases Nat.lt_trichotomy a b with hab | hab | hab
  · exact (h b a hb ha (.inl ⟨hb, hab⟩) he.symm).symm
  · subst hab; rfl
  · exact h a b ha hb (.inl ⟨ha, hab⟩) he

set_option maxHeartbeats 4000000 in
theorem twins_calls (v : Value) (l : List (List UInt8)) (w : World) (h : Strs w v l) (hl : l.length ≤ 1000000) (hm : LenL 1000000 l) (hT : TabOk w) :
    Calls Tryd.prog 24 #[v] w fun e w' => ∃ r : Bool, e = .returned (.bool r) ∧ (r = false → NoTw l) ∧ Below w.heap.size w w' := by
  obtain ⟨ao, cap, rfl⟩ := h.form
  have H := Lib.hid h
  have HTb := Lib.hid hT
  clear h hT
  go_enter Tryd.func24, Tryd.ntmps24
  go_wp2_with fail
  go_loopw [3] (fun xi wr => ∃ i : Nat, xi = .int .i64 i ∧ i ≤ l.length ∧ Hid (TwTo l i 0) ∧ Hid (Below w.heap.size w wr)) (fun xi _ => l.length - (intOf xi).toNat)
  case atStart => exact ⟨0, rfl, Nat.zero_le _, Lib.hid (tw_zero l), Lib.hid (Below.refl _ _)⟩
  case round =>
    obtain ⟨i, rfl, hi, hw, hB⟩ := hrel
    by_cases hlt : i < l.length
    · go_wp2_with fail
      go_loopw [4] (fun xk wk => ∃ k : Nat, xk = .int .i64 k ∧ k ≤ i ∧ Hid (TwTo l i k) ∧ Hid (Below w.heap.size w wk)) (fun xk _ => i - (intOf xk).toNat)
      case atStart => exact ⟨0, rfl, Nat.zero_le _, hw, hB⟩
      case round =>
        rename World => wA
        obtain ⟨k, rfl, hk, hwk, hBk⟩ := hrel
        by_cases hkl : k < i
        · have hk2 : k < l.length := by omega
          obtain ⟨b, off, rfl, hc⟩ := (H.out.below hBk.out).at hlt
          obtain ⟨b', off', he, hd⟩ := (H.out.below hBk.out).at hk2
          cases he
          have hx := lens_at hm hlt
          have hy := lens_at hm hk2
          have hn := tw_next hwk.out hlt hk2
          generalize l[i] = x at *
          generalize l[k] = y at *
          by_cases hxy : x = y
          · subst hxy
            have HN := Lib.hid (hn (fun _ => rfl))
            have HT := Lib.hid (fun W (hW : Below wA.heap.size wA W) => And.intro (look_below hW hc) (look_below hW hd))
            clear hn hc hd
            go_wp2_with fail
            refine wp_region_held_drew (S := (fun w' => w'.cell? ⟨b, off + i, none⟩ = some (.string ⟨x.toArray⟩) ∧ w'.cell? ⟨b, off + k, none⟩ = some (.string ⟨x.toArray⟩))) (by kernel_rfl) (HT.out _ (drew_below _)) (fun hHeld => ?_)
            refine wpAnyH_take (i := 0) (oi := ⟨_, _, _, _, _, _⟩) (v := ?_) rfl (by kernel_rfl) (by kernel_rfl) (by kernel_rfl) (fun _ _ _ h => h) (Or.inl ⟨by rfl, ?_⟩) hHeld ?_
            rotate_left
            · (intro w hSw; (try dsimp only at hSw); go_simp; try with_reducible rfl)
            try simp only [Act.put, List.setIfInBounds_toArray, List.set_cons_zero, List.set_cons_succ]
            refine wpAnyH_take (i := 1) (oi := ⟨_, _, _, _, _, _⟩) (v := ?_) rfl (by kernel_rfl) (by kernel_rfl) (by kernel_rfl) (fun _ _ _ h => h) (Or.inl ⟨by rfl, ?_⟩) hHeld ?_
            rotate_left
            · (intro w hSw; (try dsimp only at hSw); go_simp; try with_reducible rfl)
            try simp only [Act.put, List.setIfInBounds_toArray, List.set_cons_zero, List.set_cons_succ]
            refine wpAnyH_take (i := 2) (oi := ⟨_, _, _, _, _, _⟩) (v := ?_) rfl (by kernel_rfl) (by kernel_rfl) (by kernel_rfl) (fun _ _ _ h => h) (Or.inl ⟨by rfl, ?_⟩) hHeld ?_
            rotate_left
            · (intro w hSw; (try dsimp only at hSw); go_simp; try with_reducible rfl)
            try simp only [Act.put, List.setIfInBounds_toArray, List.set_cons_zero, List.set_cons_succ]
            refine wpAnyH_take (i := 3) (oi := ⟨_, _, _, _, _, _⟩) (v := ?_) rfl (by kernel_rfl) (by kernel_rfl) (by kernel_rfl) (fun _ _ _ h => h) (Or.inl ⟨by rfl, ?_⟩) hHeld ?_
            rotate_left
            · (intro w hSw; (try dsimp only at hSw); go_simp; try with_reducible rfl)
            try simp only [Act.put, List.setIfInBounds_toArray, List.set_cons_zero, List.set_cons_succ]
            refine wpAnyH_take (i := 4) (oi := ⟨_, _, _, _, _, _⟩) (v := ?_) rfl (by kernel_rfl) (by kernel_rfl) (by kernel_rfl) (fun _ _ _ h => h) (Or.inl ⟨by rfl, ?_⟩) hHeld ?_
            rotate_left
            · (intro w hSw; (try dsimp only at hSw); go_simp; try with_reducible rfl)
            try simp only [Act.put, List.setIfInBounds_toArray, List.set_cons_zero, List.set_cons_succ]
            refine wpAnyH_take (i := 5) (oi := ⟨_, _, _, _, _, _⟩) (v := ?_) rfl (by kernel_rfl) (by kernel_rfl) (by kernel_rfl) (fun _ _ _ h => h) (Or.inl ⟨by rfl, ?_⟩) hHeld ?_
            rotate_left
            · (intro w hSw; (try dsimp only at hSw); go_simp; try with_reducible rfl)
            try simp only [Act.put, List.setIfInBounds_toArray, List.set_cons_zero, List.set_cons_succ]
            refine wpAnyH_take (i := 6) (oi := ⟨_, _, _, _, _, _⟩) (v := ?_) rfl (by kernel_rfl) (by kernel_rfl) (by kernel_rfl) (fun _ _ _ h => h) (Or.inl ⟨by rfl, ?_⟩) hHeld ?_
            rotate_left
            · (intro w hSw; (try dsimp only at hSw); go_simp; try with_reducible rfl)
            try simp only [Act.put, List.setIfInBounds_toArray, List.set_cons_zero, List.set_cons_succ]
            refine wpAnyH_take (i := 7) (oi := ⟨_, _, _, _, _, _⟩) (v := ?_) rfl (by kernel_rfl) (by kernel_rfl) (by kernel_rfl) (fun _ _ _ h => h) (Or.inl ⟨by rfl, ?_⟩) hHeld ?_
            rotate_left
            · (intro w hSw; (try dsimp only at hSw); go_simp; try with_reducible rfl)
            try simp only [Act.put, List.setIfInBounds_toArray, List.set_cons_zero, List.set_cons_succ]
            refine wpAnyH_take (i := 8) (oi := ⟨_, _, _, _, _, _⟩) (v := ?_) rfl (by kernel_rfl) (by kernel_rfl) (by kernel_rfl) (fun _ _ _ h => h) (Or.inl ⟨by rfl, ?_⟩) hHeld ?_
            rotate_left
            · (intro w hSw; (try dsimp only at hSw); go_simp; try with_reducible rfl)
            try simp only [Act.put, List.setIfInBounds_toArray, List.set_cons_zero, List.set_cons_succ]
            refine wpAnyH_take (i := 9) (oi := ⟨_, _, _, _, _, _⟩) (v := ?_) rfl (by kernel_rfl) (by kernel_rfl) (by kernel_rfl) (fun _ _ _ h => h) (Or.inl ⟨by rfl, ?_⟩) hHeld ?_
            rotate_left
            · (intro w hSw; (try dsimp only at hSw); go_simp; try with_reducible rfl)
            try simp only [Act.put, List.setIfInBounds_toArray, List.set_cons_zero, List.set_cons_succ]
            refine wpAnyH_take (i := 10) (oi := ⟨_, _, _, _, _, _⟩) (v := undef) rfl (by kernel_rfl) (by kernel_rfl) (by kernel_rfl) (fun _ _ _ h => h) (Or.inr ⟨by rfl, rfl⟩) hHeld ?_
            try simp only [Act.put, List.setIfInBounds_toArray, List.set_cons_zero, List.set_cons_succ]
            refine wpAnyH_take (i := 11) (oi := ⟨_, _, _, _, _, _⟩) (v := undef) rfl (by kernel_rfl) (by kernel_rfl) (by kernel_rfl) (fun _ _ _ h => h) (Or.inr ⟨by rfl, rfl⟩) hHeld ?_
            try simp only [Act.put, List.setIfInBounds_toArray, List.set_cons_zero, List.set_cons_succ]
            refine wpAnyH_take (i := 12) (oi := ⟨_, _, _, _, _, _⟩) (v := undef) rfl (by kernel_rfl) (by kernel_rfl) (by kernel_rfl) (fun _ _ _ h => h) (Or.inr ⟨by rfl, rfl⟩) hHeld ?_
            try simp only [Act.put, List.setIfInBounds_toArray, List.set_cons_zero, List.set_cons_succ]
            refine wpAnyH_take (i := 13) (oi := ⟨_, _, _, _, _, _⟩) (v := undef) rfl (by kernel_rfl) (by kernel_rfl) (by kernel_rfl) (fun _ _ _ h => h) (Or.inr ⟨by rfl, rfl⟩) hHeld ?_
            try simp only [Act.put, List.setIfInBounds_toArray, List.set_cons_zero, List.set_cons_succ]
            refine wpAnyH_take (i := 15) (oi := ⟨_, _, _, _, _, _⟩) (v := undef) rfl (by kernel_rfl) (by kernel_rfl) (by kernel_rfl) (fun _ _ _ h => h) (Or.inr ⟨by rfl, rfl⟩) hHeld ?_
            try simp only [Act.put, List.setIfInBounds_toArray, List.set_cons_zero, List.set_cons_succ]
            refine wpAnyH_take (i := 16) (oi := ⟨_, _, _, _, _, _⟩) (v := undef) rfl (by kernel_rfl) (by kernel_rfl) (by kernel_rfl) (fun _ _ _ h => h) (Or.inr ⟨by rfl, rfl⟩) hHeld ?_
            try simp only [Act.put, List.setIfInBounds_toArray, List.set_cons_zero, List.set_cons_succ]
            refine wpAnyH_take (i := 17) (oi := ⟨_, _, _, _, _, _⟩) (v := undef) rfl (by kernel_rfl) (by kernel_rfl) (by kernel_rfl) (fun _ _ _ h => h) (Or.inr ⟨by rfl, rfl⟩) hHeld ?_
            try simp only [Act.put, List.setIfInBounds_toArray, List.set_cons_zero, List.set_cons_succ]
            refine wpAnyH_take (i := 18) (oi := ⟨_, _, _, _, _, _⟩) (v := undef) rfl (by kernel_rfl) (by kernel_rfl) (by kernel_rfl) (fun _ _ _ h => h) (Or.inr ⟨by rfl, rfl⟩) hHeld ?_
            try simp only [Act.put, List.setIfInBounds_toArray, List.set_cons_zero, List.set_cons_succ]
            refine wpAnyH_ready (rs := [14]) (by kernel_rfl) (by simp) ?_
            refine AllReadyH.cons (o := ⟨_, _, _, _, _, _⟩) rfl (fun K hK => ?_) AllReadyH.nil
            go_simp
            refine hK.out _ _ (HT.out _ (drew_below _)) (fun hHeld => ?_)
            clear hK K
            try simp only [Act.put, List.setIfInBounds_toArray, List.set_cons_zero, List.set_cons_succ]
            refine wpAnyH_ready (rs := [19]) (by kernel_rfl) (by simp) ?_
            refine AllReadyH.cons (o := ⟨_, _, _, _, _, _⟩) rfl (fun K hK => ?_) AllReadyH.nil
            go_simp
            refine hK.out _ _ (HT.out _ (drew_below _)) (fun hHeld => ?_)
            clear hK K
            try simp only [Act.put, List.setIfInBounds_toArray, List.set_cons_zero, List.set_cons_succ]
            refine wpAnyH_take (i := 20) (oi := ⟨_, _, _, _, _, _⟩) (v := undef) rfl (by kernel_rfl) (by kernel_rfl) (by kernel_rfl) (fun _ _ _ h => h) (Or.inr ⟨by rfl, rfl⟩) hHeld ?_
            try simp only [Act.put, List.setIfInBounds_toArray, List.set_cons_zero, List.set_cons_succ]
            refine wpAnyH_take (i := 21) (oi := ⟨_, _, _, _, _, _⟩) (v := ?_) rfl (by kernel_rfl) (by kernel_rfl) (by kernel_rfl) (fun _ _ _ h => h) (Or.inl ⟨by rfl, ?_⟩) hHeld ?_
            rotate_left
            · (intro w hSw; (try dsimp only at hSw); go_simp; try with_reducible rfl)
            try simp only [Act.put, List.setIfInBounds_toArray, List.set_cons_zero, List.set_cons_succ]
            refine wpAnyH_done (by kernel_rfl) ?_ _
            go_wp2_with fail
            go_roundw
            case rel => exact ⟨k + 1, by go_num, by omega, HN, Lib.hid (hBk.out.drew)⟩
            case measure => simp [intOf]; omega
          · have hne : (x == y) = false := by rw [beq_eq_false_iff_ne]; exact hxy
            have HT := Lib.hid (fun W (hW : Below wA.heap.size wA W) => And.intro (look_below hW hc) (look_below hW hd))
            have KX := Lib.hid (fun W (hW : Below wA.heap.size wA W) => sum_calls x (by omega) W ((HTb.out.below hBk.out).below hW))
            have KY := Lib.hid (fun W (hW : Below wA.heap.size wA W) => sum_calls y (by omega) W ((HTb.out.below hBk.out).below hW))
            have hbr : Below wA.heap.size wA wA.drew := drew_below _
            by_cases hs : sumN x = sumN y
            · have hq : (((sumN x : Nat) : Int) == ((sumN y : Nat) : Int)) = true := by rw [hs]; simp
              clear hn hs hxy
              go_wp2_with fail
              go_region_held3 (fun w' => w'.cell? ⟨b, off + i, none⟩ = some (.string ⟨x.toArray⟩) ∧ w'.cell? ⟨b, off + k, none⟩ = some (.string ⟨y.toArray⟩)) (first | exact HT.out _ hbr) (first
            | ((with_reducible refine (KX.out _ hbr).mono ?_); rintro e w1 ⟨rfl, hB1⟩; have hbr := below2 hbr hB1)
            | ((with_reducible refine (KY.out _ hbr).mono ?_); rintro e w2 ⟨rfl, hB2⟩; have hbr := below2 hbr hB2))
              all_goals
                go_wp2_with fail
                go_ret
                exact ⟨true, rfl, (fun e => by cases e), below2 hBk.out hbr⟩
            · have hq : (((sumN x : Nat) : Int) == ((sumN y : Nat) : Int)) = false := by rw [beq_eq_false_iff_ne]; omega
              have HN := Lib.hid (hn (fun e => absurd e hs))
              clear hn hs hxy
              go_wp2_with fail
              go_region_held3 (fun w' => w'.cell? ⟨b, off + i, none⟩ = some (.string ⟨x.toArray⟩) ∧ w'.cell? ⟨b, off + k, none⟩ = some (.string ⟨y.toArray⟩)) (first | exact HT.out _ hbr) (first
            | ((with_reducible refine (KX.out _ hbr).mono ?_); rintro e w1 ⟨rfl, hB1⟩; have hbr := below2 hbr hB1)
            | ((with_reducible refine (KY.out _ hbr).mono ?_); rintro e w2 ⟨rfl, hB2⟩; have hbr := below2 hbr hB2))
              all_goals
                go_wp2_with fail
                go_roundw
                case rel => exact ⟨k + 1, by go_num, by omega, HN, Lib.hid (below2 hBk.out hbr)⟩
                case measure => simp [intOf]; omega
        · obtain rfl : k = i := by omega
          have HR := Lib.hid (tw_row hwk.out)
          go_wp2_with fail
          go_roundw
          case rel => exact ⟨k + 1, by go_num, by omega, HR, hBk⟩
          case measure => simp [intOf]; omega
    · obtain rfl : i = l.length := by omega
      have HA := Lib.hid (tw_all hw.out)
      go_wp2_with fail
      go_ret
      exact ⟨false, rfl, fun _ => HA.out, hB.out⟩

end Go.Proofs.YtinbeapkhmcifaaDoor
