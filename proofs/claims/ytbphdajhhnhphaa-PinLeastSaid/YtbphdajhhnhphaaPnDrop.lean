/-
  pin: Drop, Add.
-/
import Derived.Test.YtbphdajhhnhphaaPnOf
import Derived.Deep.DeepCutAuto
namespace Go.Proofs.Ytbphdajhhnhphaa
set_option maxRecDepth 100000
open Go.RowKit

theorem rw_lit (w : World) (xs : List Value) (t : TypeId) : Rw (w.alloc (.cells xs.toArray t)) 1 (.slice (some ⟨w.heap.size, 0, none⟩) xs.length xs.length) xs.length xs := by
  refine ⟨by simp, _, _, rfl, Nat.le_refl _, .inr ⟨_, 0, rfl, fun j hj => ?_⟩⟩
  rw [Nat.zero_add, World.cell?_alloc_new]
  simp [List.getElem?_eq_getElem hj]

set_option maxHeartbeats 4000000 in
theorem pnDrop_calls (v : Value) (l : List Pn) (s : Int) (w : World) (h : Pns w v l) (hl : l.length ≤ 1000000) :
    Calls Try.prog 11 #[v, .int .i64 s] w fun e w' => ∃ u, e = .returned (.tuple #[u, .int .i64 (dropNE l s)]) ∧ OwnPn w' w.heap.size u (if dropNE l s = 0 then dropN l s else []) ∧ Below w.heap.size w w' := by
  obtain ⟨ao, cap, rfl⟩ := h.form
  have KI := pnIs_calls _ l w h hl
  have HH := Lib.hid h
  clear h
  cases hi : isN l with
  | false =>
    have e0 : dropNE l s = 1 := by unfold dropNE; rw [hi]; rfl
    rw [e0]
    rw [hi] at KI
    have K1 := Lib.hid KI
    clear KI hi e0
    go_enter Try.func11, Try.ntmps11
    go_wp2_with fail
    refine K1.out.mono ?_
    rintro e w1 ⟨rfl, hB⟩
    go_wp2_with fail
    go_ret2
    exact ⟨_, rfl, OwnOf.nil _ _, hB⟩
  | true =>
    rw [hi] at KI
    have K1 := Lib.hid KI
    obtain ⟨h50, _, hrise⟩ := isN_iff.1 hi
    have KF := fun W (hB : Below w.heap.size w W) => find_calls _ entersHolds _ _ (holds_calls s) _ l W (HH.out.below hB) hl
    obtain ⟨k, hk⟩ : ∃ k, whereN (holdsP s) l = k := ⟨_, rfl⟩
    have hle : k ≤ l.length := hk ▸ whereN_le _ _
    rw [hk] at KF
    have K2 := Lib.hid KF
    have HW := Lib.hid hk
    have hE : dropNE l s = if (ofN l s).isSome then 0 else 80 := by unfold dropNE; rw [if_pos hi]
    clear KI KF hk
    by_cases hlt : k < l.length
    · have HO := ofN_at (l := l) (s := s) (by rw [HW.out]; exact hlt)
      have he : ((k : Int) == (l.length : Int)) = false := by rw [beq_eq_false_iff_ne]; omega
      rw [HO] at hE
      have hE0 : dropNE l s = 0 := hE
      have hD := dropN_where hrise (s := s) (by rw [HW.out]; exact hlt)
      rw [HW.out] at hD
      rw [hE0, if_pos rfl]
      have HD := Lib.hid hD
      have hw1 : IntKind.i64.wrap ((k : Int) + 1) = (k : Int) + 1 := IntWalk.i64_in _ (by omega)
      have HP := Lib.hid (fun W (hB : Below w.heap.size w W) => And.intro (pns_to (HH.out.below hB) k hle).2 (pns_from (HH.out.below hB) (k + 1) (l.length - (k + 1)) (by omega) (by omega)))
      have hto := (pns_to HH.out k hle).1
      have H50 := Lib.hid h50
      have HL := Lib.hid hl
      clear hi h50 hrise HO hE hE0 hD hl
      obtain ⟨m, hm⟩ : ∃ m, l.length - (k + 1) = m := ⟨_, rfl⟩
      rw [hm] at HP
      have HM := Lib.hid hm
      clear hm
      obtain ⟨a1, c1, hfr, hrow⟩ := (HP.out w (Below.refl _ _)).2
      have hfr1 : ∀ W, (Instr.slice 22 (.slice ao l.length cap) (some (.int .i64 ((k : Int) + 1))) none none).run Try.prog W = .ok (.slice a1 m c1) W := hfr
      have HR := Lib.hid (fun W (hB : Below w.heap.size w W) => hrow.below hB)
      clear hfr hrow
      have KC := Lib.hid (fun W W' (hB : Below w.heap.size w W) (hB' : Below (W.heap.size + 1) (W.alloc (.cells #[.slice ao k cap, .slice a1 m c1] 22)) W') => pnconcat_calls (.slice (some ⟨W.heap.size, 0, none⟩) 2 2) [(.slice ao k cap, l.take k), (.slice a1 m c1, l.drop (k + 1))] (dropN l s) W' (Rw.below (rw_lit W [.slice ao k cap, .slice a1 m c1] 22) (by rw [World.size_alloc]; exact hB')) (by
        have hB2 := below2 (below2 hB (below_alloc W (.cells #[.slice ao k cap, .slice a1 m c1] 22))) (by rw [World.size_alloc]; exact hB')
        intro x hx
        rcases List.mem_cons.1 hx with rfl | hx
        · exact (HP.out _ hB2).1
        · obtain rfl := List.mem_singleton.1 hx
          exact HR.out _ hB2) (by rw [HD.out]; simp) (by simp) (by have := dropN_len l s; have := HL.out; omega))
      obtain ⟨D, hD⟩ : ∃ D, dropN l s = D := ⟨_, rfl⟩
      obtain ⟨q, hq⟩ : ∃ q, D.length = q := ⟨_, rfl⟩
      rw [hD] at KC ⊢
      rw [hq] at KC
      have HQ := Lib.hid hq
      clear hD hq HD
      go_enter Try.func11, Try.ntmps11
      go_wp2_with fail
      refine K1.out.mono ?_
      rintro e w1 ⟨rfl, hB1⟩
      go_wp2_with fail
      refine (K2.out _ hB1).mono ?_
      rintro e w2 ⟨rfl, hB2⟩
      have hBB := below2 hB1 hB2
      have KD := Lib.hid (fun W' h => KC.out w2 W' hBB h)
      have hbr : Below (w2.heap.size + 1) (w2.alloc (.cells #[.slice ao k cap, .slice a1 m c1] 22)) (w2.alloc (.cells #[.slice ao k cap, .slice a1 m c1] 22)).drew := by
        have := drew_below (w2.alloc (.cells #[.slice ao k cap, .slice a1 m c1] 22))
        rwa [World.size_alloc] at this
      go_wp2_with fail
      go_region_held3 (fun _ => True) (exact trivial) (first
        | ((with_reducible refine (KD.out _ hbr).mono ?_); rintro e w3 ⟨a3, c3, rfl, ho, hB3⟩; have HO := Lib.hid (And.intro ho hB3); clear ho hB3))
      go_wp2_with fail
      go_ret2
      obtain ⟨ho, hB3⟩ := HO.out
      have hb4 := below2 (below2 hBB (below_alloc _ _)) (by rw [World.size_alloc]; exact hbr)
      have hb5 := below2 hb4 hB3
      exact ⟨_, rfl, OwnOf.weak ho hb4.size, hb5⟩
    · obtain rfl : k = l.length := by omega
      have he : ((l.length : Int) == (l.length : Int)) = true := by simp
      rw [ofN_out HW.out] at hE
      have hE0 : dropNE l s = 80 := hE
      rw [hE0]
      clear hi h50 hrise hE hE0
      go_enter Try.func11, Try.ntmps11
      go_wp2_with fail
      refine K1.out.mono ?_
      rintro e w1 ⟨rfl, hB1⟩
      go_wp2_with fail
      refine (K2.out _ hB1).mono ?_
      rintro e w2 ⟨rfl, hB2⟩
      go_wp2_with fail
      go_ret2
      exact ⟨_, rfl, OwnOf.nil _ _, below2 hB1 hB2⟩

end Go.Proofs.Ytbphdajhhnhphaa
