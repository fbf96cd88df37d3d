/-
  node: Drop.
-/
import Derived.Test.YtgbicdbmmjleoaaNdPlace
import Derived.Test.YtgbicdbmmjleoaaNdApart
namespace Go.Proofs.Ytgbicdbmmjleoaa
open Go.RowKit

theorem drop_here {l : List Pr} {k : Ky} {n : Nat} (hn : placeN l k = n) (hh : hereB l k = true) : l.take n ++ (l.drop (n + 1) ++ []) = dropL l k := by
  unfold dropL nextN
  rw [hn, if_pos hh]
  simp
theorem drop_not {l : List Pr} {k : Ky} (hh : hereB l k = false) : dropL l k = l := by
  unfold dropL nextN
  rw [if_neg (by simp [hh])]
  simp

set_option maxHeartbeats 4000000 in
theorem drop_calls (v : Value) (l : List Pr) (p : List UInt8) (m : Int) (w : World) (hs : Prs w v l) (hm : l.length ≤ 100000) :
    Calls Try.prog 36 #[v, .agg #[.string ⟨p.toArray⟩, .int .i64 m]] w fun e w' => ∃ ao n cap, e = .returned (.slice ao n cap) ∧ OwnP w' w.heap.size (.slice ao n cap) (dropL l (p, m)) ∧ Below w.heap.size w w' := by
  obtain ⟨ao, cap, rfl⟩ := hs.form
  have hB0 := below_alloc w (.cells #[.string ⟨p.toArray⟩, .int .i64 m] 24)
  have hX := Lib.hid (kbox_new w p m)
  have KP := find_calls _ l p m _ (hs.below hB0) (by omega)
  have HS := Lib.hid hs
  clear hs
  obtain ⟨n, hn⟩ : ∃ n, placeN l (p, m) = n := ⟨_, rfl⟩
  have hnl : n ≤ l.length := by rw [← hn]; exact placeN_le l _
  rw [hn] at KP
  cases hh : hereB l (p, m) with
  | true =>
    rw [hh] at KP
    have K := Lib.hid KP
    have HU := Lib.hid (drop_here hn hh)
    have hnl2 : n < l.length := by rw [← hn]; exact hereB_lt hh
    have hle := Lib.hid (show (dropL l (p, m)).length ≤ l.length by rw [dropL_length]; split <;> omega)
    clear KP hh hn
    obtain ⟨r, hr⟩ : ∃ r, n + 1 + r = l.length := ⟨l.length - n - 1, by omega⟩
    obtain ⟨a2, c2, hr2, hp2⟩ := slice_from HS.out (n + 1) r (by omega) hr
    obtain ⟨hr3, hp3⟩ := slice_to HS.out n hnl
    have hr4 : ∀ W, (Instr.slice 28 (.slice ao l.length cap) (some (.int .i64 ((n : Int) + 1))) none none).run Try.prog W = .ok (.slice a2 r c2) W := hr2
    have hw1 : IntKind.i64.wrap ((n : Int) + 1) = (n : Int) + 1 := IntWalk.i64_in _ (by omega)
    have HP := Lib.hid (And.intro hp2 hp3)
    clear hr2 hp2 hp3
    go_enter Try.func36, Try.ntmps36
    go_wp2_with fail
    refine K.out.mono ?_
    rintro e w1 ⟨rfl, hB1⟩
    obtain ⟨x0, x1, _, _, xl⟩ := (hX.out.below hB1).two
    have hBB1 := below2 hB0 hB1
    have HJ := joined_calls _ _ _ ((rws_two (w := w1) (HP.out.2.below hBB1) (HP.out.1.below hBB1)).below (drew_below _)) (by simp) (by
      have := hle.out
      rw [← HU.out] at this
      show (l.take n ++ (l.drop (n + 1) ++ [])).length ≤ _
      omega)
    rw [show allP [(.slice ao n cap, l.take n), (.slice a2 r c2, l.drop (n + 1))] = dropL l (p, m) from HU.out] at HJ
    have HJ := Lib.hid HJ
    have hBd := below3 hBB1 (below_alloc w1 (.cells #[.slice ao n cap, .slice a2 r c2] 28)) (drew_below _)
    go_wp2_with fail
    go_region_with (go_at_call 41; refine HJ.out.mono ?_; rintro e w2 ⟨a4, c4, rfl, ho, hB2⟩)
    all_goals
      have hO := Lib.hid ho
      clear ho
      go_wp2_with fail
      go_ret
      exact ⟨a4, _, c4, rfl, hO.out.weak hBd.size, below2 hBd hB2⟩
  | false =>
    rw [hh] at KP
    have K := Lib.hid KP
    have HU := Lib.hid (drop_not hh)
    clear KP hh hn
    go_enter Try.func36, Try.ntmps36
    go_wp2_with fail
    refine K.out.mono ?_
    rintro e w1 ⟨rfl, hB1⟩
    have hBB1 := below2 hB0 hB1
    have hBd := below2 hBB1 (below_alloc w1 (.cells #[.slice ao l.length cap] 28))
    have HJ := Lib.hid (joined_calls _ _ _ (rws_one (w := w1) (HS.out.below hBB1)) (by simp) (by simp [allP]; omega))
    go_wp2_with fail
    refine HJ.out.mono ?_
    rintro e w2 ⟨a4, c4, rfl, ho, hB2⟩
    have hO := Lib.hid (show OwnP w2 _ (.slice a4 _ c4) (dropL l (p, m)) by
      have e1 : allP [((.slice ao l.length cap : Value), l)] = dropL l (p, m) := by rw [HU.out]; simp [allP]
      rw [e1] at ho
      exact ho)
    clear ho
    go_wp2_with fail
    go_ret
    exact ⟨a4, _, c4, rfl, by simpa [allP, HU.out] using hO.out.weak hBd.size, below2 hBd hB2⟩

end Go.Proofs.Ytgbicdbmmjleoaa
