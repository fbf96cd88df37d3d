/-
  The document's own Put, Drop of pairs.
-/
import Derived.Test.YtgbicdbmmjleoaaNdRefF
import Derived.Test.YtgbicdbmmjleoaaNdJoin
import Derived.Test.YtgbicdbmmjleoaaNdPut
import Derived.Test.YtgbicdbmmjleoaaNdDrop
namespace Go.Proofs.Ytgbicdbmmjleoaa
open Go.RowKit

set_option maxHeartbeats 4000000 in
theorem refPut_calls (v : Value) (l : List Pr) (p : List UInt8) (m : Int) (s : List UInt8) (w : World) (hs : Prs w v l) (hm : l.length ≤ 100000) :
    Calls Try.prog 25 #[v, .agg #[.string ⟨p.toArray⟩, .int .i64 m, .string ⟨s.toArray⟩]] w fun e w' => ∃ ao n cap, e = .returned (.slice ao n cap) ∧ OwnP w' w.heap.size (.slice ao n cap) (putL l ((p, m), s)) ∧ Below w.heap.size w w' := by
  obtain ⟨ao, cap, rfl⟩ := hs.form
  have hB0 := below_alloc w (.cells #[.string ⟨p.toArray⟩, .int .i64 m, .string ⟨s.toArray⟩] 31)
  have hX := Lib.hid (Cx.new w 31 [.string ⟨p.toArray⟩, .int .i64 m, .string ⟨s.toArray⟩])
  have KP := refFind_calls _ l p m _ (hs.below hB0) (by omega)
  have HS := Lib.hid hs
  clear hs
  obtain ⟨n, hn⟩ : ∃ n, placeN l (p, m) = n := ⟨_, rfl⟩
  have hnl : n ≤ l.length := by rw [← hn]; exact placeN_le l _
  rw [hn] at KP
  obtain ⟨hr3, hp3⟩ := slice_to HS.out n hnl
  have HT := Lib.hid hp3
  clear hp3
  cases hh : hereB l (p, m) with
  | true =>
    rw [hh] at KP
    have K := Lib.hid KP
    have HU := Lib.hid (put_here (x := ((p, m), s)) hn hh)
    have hnl2 : n < l.length := by rw [← hn]; exact hereB_lt hh
    have hle := putL_le l ((p, m), s)
    obtain ⟨q, hq⟩ : ∃ q, (putL l ((p, m), s)).length = q := ⟨_, rfl⟩
    rw [hq] at hle
    have HQ := Lib.hid hq
    clear KP hh hn hq
    obtain ⟨r, hr⟩ : ∃ r, n + 1 + r = l.length := ⟨l.length - n - 1, by omega⟩
    obtain ⟨a2, c2, hr2, hp2⟩ := slice_from HS.out (n + 1) r (by omega) hr
    have hr4 : ∀ W, (Instr.slice 28 (.slice ao l.length cap) (some (.int .i64 ((n : Int) + 1))) none none).run Try.prog W = .ok (.slice a2 r c2) W := hr2
    have HR := Lib.hid hp2
    clear hr2 hp2
    go_enter Try.func25, Try.ntmps25
    go_wp2_with fail
    refine K.out.mono ?_
    rintro e w1 ⟨rfl, hB1⟩
    have hBB1 := below2 hB0 hB1
    obtain ⟨x0, x1, x2, _, _, _, xl⟩ := (hX.out.below hB1).three
    go_wp2_with (at_builtin; first
      | (refine wpList_append_prs rfl (.tmp 15) (.tmp 18) rfl w1.heap.size _ ([]) rfl (OwnP.nil _ _) ao n cap (l.take n) rfl (HT.out.below hBB1) (l.take n) rfl n (by simp; omega) (by omega) w1 (Below.refl _ _) (Nat.le_refl _) ?_; intro a2' c2' w2 ho2 hB2; have HO2 := Lib.hid ho2; clear ho2; have y0 := look_below hB2 x0; have y1 := look_below hB2 x1; have y2 := look_below hB2 x2; have hB2' := below2 hB2 (below_alloc w2 (.cells #[.string ⟨p.toArray⟩, .int .i64 m, .string ⟨s.toArray⟩] 31)); clear x0 x1 x2)
      | (refine wpList_append_prs rfl (.tmp 20) (.tmp 22) rfl w1.heap.size _ (l.take n) rfl (HO2.out.stays (below_alloc _ _)) (some ⟨w2.heap.size, 0, none⟩) 1 1 ([((p, m), s)]) rfl (prs_lit w2 [((p, m), s)] _) (l.take n ++ [((p, m), s)]) rfl (n + 1) (by simp; omega) (by omega) w1 hB2' (Nat.le_refl _) ?_; intro a3 c3 w3 ho3 hB3; have HO3 := Lib.hid ho3; clear ho3)
      | (refine wpList_append_prs rfl (.tmp 27) (.tmp 30) rfl w1.heap.size _ (l.take n ++ [((p, m), s)]) rfl HO3.out a2 r c2 (l.drop (n + 1)) rfl (HR.out.below (below2 hBB1 hB3)) (putL l ((p, m), s)) (by rw [← HU.out]; simp) q HQ.out (by omega) w1 hB3 (Nat.le_refl _) ?_; intro a4 c4 w4 ho4 hB4; have HO4 := Lib.hid ho4; clear ho4))
    go_ret
    exact ⟨a4, q, c4, rfl, HO4.out.weak hBB1.size, below2 hBB1 hB4⟩
  | false =>
    rw [hh] at KP
    have K := Lib.hid KP
    have HU := Lib.hid (put_new (x := ((p, m), s)) hn hh)
    have hle := putL_le l ((p, m), s)
    obtain ⟨q, hq⟩ : ∃ q, (putL l ((p, m), s)).length = q := ⟨_, rfl⟩
    rw [hq] at hle
    have HQ := Lib.hid hq
    clear KP hh hn hq
    obtain ⟨r, hr⟩ : ∃ r, n + r = l.length := ⟨l.length - n, by omega⟩
    obtain ⟨a2, c2, hr2, hp2⟩ := slice_from HS.out n r hnl hr
    have HR := Lib.hid hp2
    clear hp2
    go_enter Try.func25, Try.ntmps25
    go_wp2_with fail
    refine K.out.mono ?_
    rintro e w1 ⟨rfl, hB1⟩
    have hBB1 := below2 hB0 hB1
    obtain ⟨x0, x1, x2, _, _, _, xl⟩ := (hX.out.below hB1).three
    go_wp2_with (at_builtin; first
      | (refine wpList_append_prs rfl (.tmp 15) (.tmp 18) rfl w1.heap.size _ ([]) rfl (OwnP.nil _ _) ao n cap (l.take n) rfl (HT.out.below hBB1) (l.take n) rfl n (by simp; omega) (by omega) w1 (Below.refl _ _) (Nat.le_refl _) ?_; intro a2' c2' w2 ho2 hB2; have HO2 := Lib.hid ho2; clear ho2; have y0 := look_below hB2 x0; have y1 := look_below hB2 x1; have y2 := look_below hB2 x2; have hB2' := below2 hB2 (below_alloc w2 (.cells #[.string ⟨p.toArray⟩, .int .i64 m, .string ⟨s.toArray⟩] 31)); clear x0 x1 x2)
      | (refine wpList_append_prs rfl (.tmp 20) (.tmp 22) rfl w1.heap.size _ (l.take n) rfl (HO2.out.stays (below_alloc _ _)) (some ⟨w2.heap.size, 0, none⟩) 1 1 ([((p, m), s)]) rfl (prs_lit w2 [((p, m), s)] _) (l.take n ++ [((p, m), s)]) rfl (n + 1) (by simp; omega) (by omega) w1 hB2' (Nat.le_refl _) ?_; intro a3 c3 w3 ho3 hB3; have HO3 := Lib.hid ho3; clear ho3)
      | (refine wpList_append_prs rfl (.tmp 27) (.tmp 30) rfl w1.heap.size _ (l.take n ++ [((p, m), s)]) rfl HO3.out a2 r c2 (l.drop n) rfl (HR.out.below (below2 hBB1 hB3)) (putL l ((p, m), s)) (by rw [← HU.out]; simp) q HQ.out (by omega) w1 hB3 (Nat.le_refl _) ?_; intro a4 c4 w4 ho4 hB4; have HO4 := Lib.hid ho4; clear ho4))
    go_ret
    exact ⟨a4, q, c4, rfl, HO4.out.weak hBB1.size, below2 hBB1 hB4⟩

set_option maxHeartbeats 4000000 in
theorem refDrop_calls (v : Value) (l : List Pr) (p : List UInt8) (m : Int) (w : World) (hs : Prs w v l) (hm : l.length ≤ 100000) :
    Calls Try.prog 26 #[v, .agg #[.string ⟨p.toArray⟩, .int .i64 m]] w fun e w' => ∃ ao n cap, e = .returned (.slice ao n cap) ∧ OwnP w' w.heap.size (.slice ao n cap) (dropL l (p, m)) ∧ Below w.heap.size w w' := by
  obtain ⟨ao, cap, rfl⟩ := hs.form
  have hB0 := below_alloc w (.cells #[.string ⟨p.toArray⟩, .int .i64 m] 24)
  have hX := Lib.hid (kbox_new w p m)
  have KP := refFind_calls _ l p m _ (hs.below hB0) (by omega)
  have HS := Lib.hid hs
  clear hs
  obtain ⟨n, hn⟩ : ∃ n, placeN l (p, m) = n := ⟨_, rfl⟩
  have hnl : n ≤ l.length := by rw [← hn]; exact placeN_le l _
  rw [hn] at KP
  obtain ⟨hr3, hp3⟩ := slice_to HS.out n hnl
  have HT := Lib.hid hp3
  clear hp3
  cases hh : hereB l (p, m) with
  | true =>
    rw [hh] at KP
    have K := Lib.hid KP
    have HU := Lib.hid (drop_here hn hh)
    have hnl2 : n < l.length := by rw [← hn]; exact hereB_lt hh
    obtain ⟨r, hr⟩ : ∃ r, n + 1 + r = l.length := ⟨l.length - n - 1, by omega⟩
    obtain ⟨a2, c2, hr2, hp2⟩ := slice_from HS.out (n + 1) r (by omega) hr
    have hr4 : ∀ W, (Instr.slice 28 (.slice ao l.length cap) (some (.int .i64 ((n : Int) + 1))) none none).run Try.prog W = .ok (.slice a2 r c2) W := hr2
    have HR := Lib.hid hp2
    clear hr2 hp2 KP hh hn
    have hle : (dropL l (p, m)).length ≤ l.length := by rw [dropL_length]; split <;> omega
    obtain ⟨q, hq⟩ : ∃ q, (dropL l (p, m)).length = q := ⟨_, rfl⟩
    rw [hq] at hle
    have HQ := Lib.hid hq
    clear hq
    go_enter Try.func26, Try.ntmps26
    go_wp2_with fail
    refine K.out.mono ?_
    rintro e w1 ⟨rfl, hB1⟩
    have hBB1 := below2 hB0 hB1
    go_wp2_with (at_builtin; first
      | (refine wpList_append_prs rfl (.tmp 14) (.tmp 17) rfl w1.heap.size _ ([]) rfl (OwnP.nil _ _) ao n cap (l.take n) rfl (HT.out.below hBB1) (l.take n) rfl n (by simp; omega) (by omega) w1 (Below.refl _ _) (Nat.le_refl _) ?_; intro a3 c3 w2 ho2 hB2; have HO2 := Lib.hid ho2; clear ho2)
      | (refine wpList_append_prs rfl (.tmp 22) (.tmp 25) rfl w1.heap.size _ (l.take n) rfl HO2.out a2 r c2 (l.drop (n + 1)) rfl (HR.out.below (below2 hBB1 hB2)) (dropL l (p, m)) (by rw [← HU.out]; simp) q HQ.out (by omega) w1 hB2 (Nat.le_refl _) ?_; intro a4 c4 w3 ho3 hB3; have HO3 := Lib.hid ho3; clear ho3))
    go_ret
    exact ⟨a4, q, c4, rfl, HO3.out.weak hBB1.size, below2 hBB1 hB3⟩
  | false =>
    rw [hh] at KP
    have K := Lib.hid KP
    have HU := Lib.hid (show l.take n ++ (l.drop n ++ []) = dropL l (p, m) by rw [drop_not hh]; simp)
    obtain ⟨r, hr⟩ : ∃ r, n + r = l.length := ⟨l.length - n, by omega⟩
    obtain ⟨a2, c2, hr2, hp2⟩ := slice_from HS.out n r hnl hr
    have HR := Lib.hid hp2
    clear hp2 KP hh hn
    have hle : (dropL l (p, m)).length ≤ l.length := by rw [dropL_length]; split <;> omega
    obtain ⟨q, hq⟩ : ∃ q, (dropL l (p, m)).length = q := ⟨_, rfl⟩
    rw [hq] at hle
    have HQ := Lib.hid hq
    clear hq
    go_enter Try.func26, Try.ntmps26
    go_wp2_with fail
    refine K.out.mono ?_
    rintro e w1 ⟨rfl, hB1⟩
    have hBB1 := below2 hB0 hB1
    go_wp2_with (at_builtin; first
      | (refine wpList_append_prs rfl (.tmp 14) (.tmp 17) rfl w1.heap.size _ ([]) rfl (OwnP.nil _ _) ao n cap (l.take n) rfl (HT.out.below hBB1) (l.take n) rfl n (by simp; omega) (by omega) w1 (Below.refl _ _) (Nat.le_refl _) ?_; intro a3 c3 w2 ho2 hB2; have HO2 := Lib.hid ho2; clear ho2)
      | (refine wpList_append_prs rfl (.tmp 22) (.tmp 25) rfl w1.heap.size _ (l.take n) rfl HO2.out a2 r c2 (l.drop n) rfl (HR.out.below (below2 hBB1 hB2)) (dropL l (p, m)) (by rw [← HU.out]; simp) q HQ.out (by omega) w1 hB2 (Nat.le_refl _) ?_; intro a4 c4 w3 ho3 hB3; have HO3 := Lib.hid ho3; clear ho3))
    go_ret
    exact ⟨a4, q, c4, rfl, HO3.out.weak hBB1.size, below2 hBB1 hB3⟩

end Go.Proofs.Ytgbicdbmmjleoaa
