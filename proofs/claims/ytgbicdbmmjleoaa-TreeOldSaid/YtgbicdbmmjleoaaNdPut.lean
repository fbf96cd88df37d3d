/-
  node: Put.
-/
import Derived.Test.YtgbicdbmmjleoaaNdPlace
import Derived.Test.YtgbicdbmmjleoaaNdJoin
namespace Go.Proofs.Ytgbicdbmmjleoaa
open Go.RowKit

theorem put_here {l : List Pr} {x : Pr} {n : Nat} (hn : placeN l x.1 = n) (hh : hereB l x.1 = true) : l.take n ++ ([x] ++ (l.drop (n + 1) ++ [])) = putL l x := by
  unfold putL nextN
  rw [hn, if_pos hh]
  simp
theorem put_new {l : List Pr} {x : Pr} {n : Nat} (hn : placeN l x.1 = n) (hh : hereB l x.1 = false) : l.take n ++ ([x] ++ (l.drop n ++ [])) = putL l x := by
  unfold putL nextN
  rw [hn, if_neg (by simp [hh])]
  simp

set_option maxHeartbeats 4000000 in
theorem put_calls (v : Value) (l : List Pr) (p : List UInt8) (m : Int) (s : List UInt8) (w : World) (hs : Prs w v l) (hm : l.length ≤ 100000) :
    Calls Try.prog 34 #[v, .agg #[.string ⟨p.toArray⟩, .int .i64 m, .string ⟨s.toArray⟩]] w fun e w' => ∃ ao cap, e = .returned (.slice ao (putL l ((p, m), s)).length cap) ∧ OwnP w' w.heap.size (.slice ao (putL l ((p, m), s)).length cap) (putL l ((p, m), s)) ∧ Below w.heap.size w w' := by
  obtain ⟨ao, cap, rfl⟩ := hs.form
  have hB0 := below_alloc w (.cells #[.string ⟨p.toArray⟩, .int .i64 m, .string ⟨s.toArray⟩] 31)
  have hX := Lib.hid (Cx.new w 31 [.string ⟨p.toArray⟩, .int .i64 m, .string ⟨s.toArray⟩])
  have KP := find_calls _ l p m _ (hs.below hB0) (by omega)
  have HS := Lib.hid hs
  clear hs
  obtain ⟨n, hn⟩ : ∃ n, placeN l (p, m) = n := ⟨_, rfl⟩
  have hnl : n ≤ l.length := by rw [← hn]; exact placeN_le l _
  rw [hn] at KP
  cases hh : hereB l (p, m) with
  | true =>
    rw [hh] at KP
    have K := Lib.hid KP
    have HU := Lib.hid (put_here (x := ((p, m), s)) hn hh)
    have hnl2 : n < l.length := by rw [← hn]; exact hereB_lt hh
    have hle := Lib.hid (putL_le l ((p, m), s))
    clear KP hh hn
    obtain ⟨r, hr⟩ : ∃ r, n + 1 + r = l.length := ⟨l.length - n - 1, by omega⟩
    obtain ⟨a1, c1, hr1, hp1⟩ := slice_from HS.out n (r + 1) hnl (by omega)
    obtain ⟨a2, c2, hr2, hp2⟩ := slice_from hp1 1 r (by omega) (by omega)
    obtain ⟨hr3, hp3⟩ := slice_to HS.out n hnl
    rw [List.drop_drop] at hp2
    have hr4 : ∀ W, (Instr.slice 28 (.slice a1 (r + 1) c1) (some (.int .i64 1)) none none).run Try.prog W = .ok (.slice a2 r c2) W := hr2
    have HP := Lib.hid (And.intro hp2 hp3)
    clear hr2 hp1 hp2 hp3
    go_enter Try.func34, Try.ntmps34
    go_wp2_with fail
    refine K.out.mono ?_
    rintro e w1 ⟨rfl, hB1⟩
    obtain ⟨x0, x1, x2, _, _, _, xl⟩ := (hX.out.below hB1).three
    have hBB1 := below2 hB0 hB1
    have HJ := joined_calls _ _ _ (rws_put (w := w1) p m s (HP.out.2.below hBB1) (HP.out.1.below hBB1)) (by simp) (by
      have := hle.out
      rw [← HU.out] at this
      show (l.take n ++ ([((p, m), s)] ++ (l.drop (n + 1) ++ []))).length ≤ _
      omega)
    rw [show allP [(.slice ao n cap, l.take n), (.slice (some ⟨w1.heap.size, 0, none⟩) 1 1, [((p, m), s)]), (.slice a2 r c2, l.drop (n + 1))] = putL l ((p, m), s) from HU.out] at HJ
    have HJ := Lib.hid HJ
    have hBd := below3 hBB1 (below_alloc2 w1 (.cells #[.string ⟨p.toArray⟩, .int .i64 m, .string ⟨s.toArray⟩] 31) (.cells #[.slice ao n cap, .slice (some ⟨w1.heap.size, 0, none⟩) 1 1, .slice a2 r c2] 28)) (drew_below _)
    go_wp2_with fail
    go_region_with (go_at_call 41; refine HJ.out.mono ?_; rintro e w2 ⟨a4, c4, rfl, ho, hB2⟩)
    all_goals
      have hO := Lib.hid ho
      clear ho
      go_wp2_with fail
      go_ret
      exact ⟨a4, c4, rfl, hO.out.weak hBd.size, below2 hBd hB2⟩
  | false =>
    rw [hh] at KP
    have K := Lib.hid KP
    have HU := Lib.hid (put_new (x := ((p, m), s)) hn hh)
    have hle := Lib.hid (putL_le l ((p, m), s))
    clear KP hh hn
    obtain ⟨r, hr⟩ : ∃ r, n + r = l.length := ⟨l.length - n, by omega⟩
    obtain ⟨a2, c2, hr2, hp2⟩ := slice_from HS.out n r hnl hr
    obtain ⟨hr3, hp3⟩ := slice_to HS.out n hnl
    have HP := Lib.hid (And.intro hp2 hp3)
    clear hp2 hp3
    go_enter Try.func34, Try.ntmps34
    go_wp2_with fail
    refine K.out.mono ?_
    rintro e w1 ⟨rfl, hB1⟩
    obtain ⟨x0, x1, x2, _, _, _, xl⟩ := (hX.out.below hB1).three
    have hBB1 := below2 hB0 hB1
    have HJ := joined_calls _ _ _ (rws_put (w := w1) p m s (HP.out.2.below hBB1) (HP.out.1.below hBB1)) (by simp) (by
      have := hle.out
      rw [← HU.out] at this
      show (l.take n ++ ([((p, m), s)] ++ (l.drop n ++ []))).length ≤ _
      omega)
    rw [show allP [(.slice ao n cap, l.take n), (.slice (some ⟨w1.heap.size, 0, none⟩) 1 1, [((p, m), s)]), (.slice a2 r c2, l.drop n)] = putL l ((p, m), s) from HU.out] at HJ
    have HJ := Lib.hid HJ
    have hBd := below3 hBB1 (below_alloc2 w1 (.cells #[.string ⟨p.toArray⟩, .int .i64 m, .string ⟨s.toArray⟩] 31) (.cells #[.slice ao n cap, .slice (some ⟨w1.heap.size, 0, none⟩) 1 1, .slice a2 r c2] 28)) (drew_below _)
    go_wp2_with fail
    go_region_with (go_at_call 41; refine HJ.out.mono ?_; rintro e w2 ⟨a4, c4, rfl, ho, hB2⟩)
    all_goals
      have hO := Lib.hid ho
      clear ho
      go_wp2_with fail
      go_ret
      exact ⟨a4, c4, rfl, hO.out.weak hBd.size, below2 hBd hB2⟩

theorem putN_calls (v : Value) (l : List Pr) (p : List UInt8) (m : Int) (s : List UInt8) (w : World) (hs : Prs w v l) (hm : l.length ≤ 100000) :
    Calls Try.prog 34 #[v, .agg #[.string ⟨p.toArray⟩, .int .i64 m, .string ⟨s.toArray⟩]] w fun e w' => ∃ ao n cap, e = .returned (.slice ao n cap) ∧ OwnP w' w.heap.size (.slice ao n cap) (putL l ((p, m), s)) ∧ Below w.heap.size w w' := by
  refine (put_calls v l p m s w hs hm).mono ?_
  rintro e w' ⟨ao, cap, rfl, ho, hB⟩
  exact ⟨ao, _, cap, rfl, ho, hB⟩

end Go.Proofs.Ytgbicdbmmjleoaa
