/-
  DiffOf: the walk.
-/
import Derived.Test.YtogicnciheedoaaGreatDoorPks16a
import Derived.Test.YtogicnciheedoaaGreatDoorPks16b
import Derived.Test.YtogicnciheedoaaGreatDoorPks09
import Derived.Test.YtogicnciheedoaaGreatDoorPks10
namespace Go.Proofs.YtogicnciheedoaaGreatDoor
set_option maxRecDepth 100000
open Go.RowKit

set_option maxHeartbeats 16000000 in
theorem diffOf_walk (v : Value) (l : List Pr) (d : List UInt8) (m n : Int) (w : World) (h : Prs w v l) (hnl : l.length ≤ 9223372036854775807) (hti : TimesK l) (hdl : d.length ≤ 9223372036854775807) (hml : Ml w) (hki : KiOk w) :
    Calls Tryz.prog 3 #[v, .string ⟨d.toArray⟩, .int .i64 m, .int .i64 n] w fun e w' => e = .returned (.bool true) ∧ Below w.heap.size w w' := by
  obtain ⟨av, cv, rfl⟩ := h.form
  obtain ⟨nl, hnL⟩ : ∃ k, l.length = k := ⟨_, rfl⟩
  have KB := Lib.hid (big_calls _ l w h hnl)
  rw [hnL] at KB ⊢
  cases hb : bigP l with
  | true =>
    rw [hb] at KB
    clear h hti hb hnL
    go_enter Tryz.func3, Tryz.ntmps3
    go_wp2_with fail
    refine KB.out.mono ?_
    rintro e w1 ⟨rfl, rfl⟩
    go_wp2_with fail
    go_ret
    exact ⟨rfl, Below.refl _ _⟩
  | false =>
    obtain ⟨hl80, hls⟩ := bigP_small hb
    rw [hb] at KB
    by_cases hp3 : 300 < d.length
    · have hdd : decide ((300 : Int) < (d.length : Int)) = true := by rw [decide_eq_true_eq]; omega
      clear h hti hb hnL hls hp3
      go_enter Tryz.func3, Tryz.ntmps3
      go_wp2_with fail
      refine KB.out.mono ?_
      rintro e w1 ⟨rfl, rfl⟩
      go_wp2_with fail
      go_ret
      exact ⟨rfl, Below.refl _ _⟩
    · have hdd : decide ((300 : Int) < (d.length : Int)) = false := by rw [decide_eq_false_iff_not]; omega
      have KM := Lib.hid (diMade_calls _ l w h (by omega))
      rw [hnL] at KM
      obtain ⟨hUr, hUl, hUm⟩ := made_facts l
      obtain ⟨U, hU⟩ : ∃ U, madeL l = U := ⟨_, rfl⟩
      rw [hU] at KM hUr hUl hUm
      have hUt : TimesK U := fun x hx => hti x (hUm x hx)
      have HUS := Lib.hid (fun x hx => by have := hls x (hUm x hx); omega : ∀ x ∈ U, x.1.1.length ≤ 1000000 ∧ x.2.length ≤ 1000)
      have HST : Hid (∀ W tv, TreeV W tv U → Ml W → Sto W tv U) := Lib.hid (fun W tv ht hm => ⟨ht, hUt, by omega, fun x hx => by have := hls x (hUm x hx); omega, fun x hx => by have := hls x (hUm x hx); omega, hm⟩)
      have HUT := Lib.hid (fun x hx => (hUt x hx).2 : Timed U)
      have HU := Lib.hid (And.intro hUr (show U.length ≤ 1000 by omega))
      have HP := Lib.hid (show d.length ≤ 1000000 by omega)
      have HM := Lib.hid (And.intro hml hki)
      have HLEN := Lib.hid (ofX_len (U := U) (d := d) (fun n => Nat.le_trans (listX_facts hUr d n).1 HU.out.2) m n)
      clear h hti hb hnL hls hUr hUl hUm hUt hU hml hki hp3
      go_enter Tryz.func3, Tryz.ntmps3
      go_wp2_with fail
      refine KB.out.mono ?_
      rintro e w1 ⟨rfl, rfl⟩
      go_wp2_with fail
      refine KM.out.mono ?_
      rintro e w2 ⟨t, rfl, ht, hB2⟩
      obtain ⟨tp, rfl⟩ := ht.val
      have HT := Lib.hid (And.intro (HST.out _ _ ht (HM.out.1.below hB2)) hB2)
      clear ht hB2
      go_wp2_with fail
      refine (of_calls HT.out.1 d m n HP.out).mono ?_
      rintro e w3 ⟨u3, rfl, ho3, hB3⟩
      obtain ⟨a3, c3, rfl⟩ := ho3.form
      have H3 := Lib.hid (And.intro ho3.row (And.intro (HT.out.1.below hB3) (below2 HT.out.2 hB3)))
      clear ho3 hB3
      go_wp2_with fail
      refine (all_calls _ U _ H3.out.2.1.1 (by have := HU.out.2; omega) HUT.out).mono ?_
      rintro e w4 ⟨a, rfl, ha, hB4⟩
      obtain ⟨a4, c4, rfl⟩ := ha.form
      have H4 := Lib.hid (And.intro (H3.out.1.below hB4) (And.intro ha.prs (below2 H3.out.2.2 hB4)))
      clear ha hB4
      go_wp2_with fail
      refine (refOf_calls _ U _ H4.out.2.1 HU.out.1 HU.out.2 HUS.out d m n HP.out).mono ?_
      rintro e w5 ⟨u5, rfl, ho5, hB5⟩
      obtain ⟨a5, c5, rfl⟩ := ho5.form
      have H5 := Lib.hid (And.intro (H4.out.1.below hB5) (And.intro ho5.row (below2 H4.out.2.2 hB5)))
      clear ho5 hB5
      obtain ⟨E, hE⟩ : ∃ E, ofE U d m n = E := ⟨_, rfl⟩
      rw [hE]
      clear hE
      have eE : (E == E) = true := by simp
      go_wp2_with fail
      refine (diffs_calls _ (HM.out.2.below H5.out.2.2)).mono ?_
      rintro e w6 ⟨rfl, hB6⟩
      have H6 := Lib.hid (And.intro (H5.out.1.below hB6) (And.intro (H5.out.2.1.below hB6) (below2 H5.out.2.2 hB6)))
      clear hB6
      go_wp2_with fail
      refine (refDsame_self _ _ (ofX U d m n) _ H6.out.1 H6.out.2.1 (Nat.le_trans HLEN.out (by decide))).mono ?_
      rintro e w7 ⟨rfl, hB7⟩
      have H7 := Lib.hid (below2 H6.out.2.2 hB7)
      clear hB7
      go_wp2_with fail
      go_ret
      exact ⟨rfl, H7.out⟩

end Go.Proofs.YtogicnciheedoaaGreatDoor
