/-
  The document's own Is of pairs.
-/
import Derived.Test.YtgbicdbmmjleoaaPrs
import Derived.Test.YtgbicdbmmjleoaaKyRefL
import Derived.Deep.RegionHeld3
namespace Go.Proofs.Ytgbicdbmmjleoaa
open Go.RowKit

theorem kRefLessK_calls (p q : List UInt8) (n m : Int) (w : World) :
    Calls Try.prog 31 #[.agg #[.string ⟨p.toArray⟩, .int .i64 n], .agg #[.string ⟨q.toArray⟩, .int .i64 m]] w fun e w' => e = .returned (.bool (lessK (p, n) (q, m))) ∧ Below w.heap.size w w' := by
  rw [lessK_ahead]
  exact kRefLess_calls p q n m w

set_option maxHeartbeats 4000000 in
theorem refIs_calls (v : Value) (l : List Pr) (w : World) (hs : Prs w v l) (hm : l.length ≤ 100000) :
    Calls Try.prog 20 #[v] w fun e w' => e = .returned (.bool (riseB l)) ∧ Below w.heap.size w w' := by
  obtain ⟨ao, cap, rfl⟩ := hs.form
  have HS := Lib.hid hs
  clear hs
  go_enter Try.func20, Try.ntmps20
  go_wp2_with fail
  go_loopw [3] (fun i wr => ∃ k : Nat, i = .int .i64 ((k : Int) + 1) ∧ (k = 0 ∨ k + 1 ≤ l.length) ∧ riseTo l (k + 1) ∧ Below w.heap.size w wr) (fun i _ => l.length + 1 - (intOf i).toNat)
  case atStart => exact ⟨0, rfl, .inl rfl, riseTo_one l, Below.refl _ _⟩
  case round =>
    obtain ⟨k, rfl, hk, hf, hB⟩ := hrel
    by_cases hlt : k + 1 < l.length
    · clear hk
      have hlk : k < l.length := by omega
      obtain ⟨b, off, rfl, c0, c1, c2⟩ := (HS.out.below hB).at hlk
      obtain ⟨b', off', he, d0, d1, d2⟩ := (HS.out.below hB).at hlt
      cases he
      obtain ⟨⟨⟨p, n⟩, s⟩, hx⟩ : ∃ x, l[k] = x := ⟨_, rfl⟩
      obtain ⟨⟨⟨q, m⟩, t⟩, hy⟩ : ∃ x, l[k + 1] = x := ⟨_, rfl⟩
      rw [hx] at c0 c1
      rw [hy] at d0 d1
      dsimp only at c0 c1 d0 d1
      clear c2 d2
      have HF := Lib.hid hf
      have HXY := Lib.hid (And.intro hx hy)
      clear hf hx hy
      have hw1 : IntKind.i64.wrap (k : Int) = (k : Int) := IntWalk.i64_in _ (by omega)
      have hw2 : IntKind.i64.wrap ((k : Int) + 1) = (k : Int) + 1 := IntWalk.i64_in _ (by omega)
      have ht1 : ((k : Int) + 1).toNat = k + 1 := by omega
      have ht2 : (0 : Int) ≤ (k : Int) + 1 := by omega
      have ht3 : (k : Int) + 1 < (l.length : Int) := by omega
      have KC := kRefLessK_calls p q n m
      cases hle : lessK (p, n) (q, m) with
      | true =>
        rw [hle] at KC
        have K := Lib.hid KC
        have HR := Lib.hid (riseTo_succ hlt HF.out (by rw [HXY.out.1, HXY.out.2]; exact hle))
        clear KC hle
        go_wp2_with fail
        go_region_held3 (fun w' => w'.cell? ⟨b, off + k * 3, none⟩ = some (.string ⟨p.toArray⟩) ∧ w'.cell? ⟨b, off + k * 3 + 1, none⟩ = some (.int .i64 n) ∧ w'.cell? ⟨b, off + (k + 1) * 3, none⟩ = some (.string ⟨q.toArray⟩) ∧ w'.cell? ⟨b, off + (k + 1) * 3 + 1, none⟩ = some (.int .i64 m)) (first | exact ⟨c0, c1, d0, d1⟩ | exact ⟨look_below hB1 c0, look_below hB1 c1, look_below hB1 d0, look_below hB1 d1⟩) (first | (go_at_call 31; refine (K.out _).mono ?_; rintro e w1 ⟨rfl, hB1⟩))
        all_goals
          clear hw1 hw2 ht1 ht2 ht3
          go_wp2_with fail
          go_roundw
          case rel => exact ⟨k + 1, by go_num, by omega, HR.out, below3 hB (drew_below _) hB1⟩
          case measure => simp [intOf]; omega
      | false =>
        rw [hle] at KC
        have K := Lib.hid KC
        have HR := Lib.hid (rise_not hlt (by rw [HXY.out.1, HXY.out.2]; exact hle))
        clear KC hle
        go_wp2_with fail
        go_region_held3 (fun w' => w'.cell? ⟨b, off + k * 3, none⟩ = some (.string ⟨p.toArray⟩) ∧ w'.cell? ⟨b, off + k * 3 + 1, none⟩ = some (.int .i64 n) ∧ w'.cell? ⟨b, off + (k + 1) * 3, none⟩ = some (.string ⟨q.toArray⟩) ∧ w'.cell? ⟨b, off + (k + 1) * 3 + 1, none⟩ = some (.int .i64 m)) (first | exact ⟨c0, c1, d0, d1⟩ | exact ⟨look_below hB1 c0, look_below hB1 c1, look_below hB1 d0, look_below hB1 d1⟩) (first | (go_at_call 31; refine (K.out _).mono ?_; rintro e w1 ⟨rfl, hB1⟩))
        all_goals
          clear hw1 hw2 ht1 ht2 ht3
          go_wp2_with fail
          go_ret
          exact ⟨by rw [HR.out]; rfl, below3 hB (drew_below _) hB1⟩
    · have HR := Lib.hid (riseTo_all (by omega) hf)
      go_wp2_with fail
      go_ret
      exact ⟨by rw [HR.out]; rfl, hB⟩

end Go.Proofs.Ytgbicdbmmjleoaa
