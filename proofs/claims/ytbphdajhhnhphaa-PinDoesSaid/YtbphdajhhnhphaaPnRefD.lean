/-
  The document's own Drop of pins.
-/
import Derived.Test.YtbphdajhhnhphaaPnRefI
import Derived.Test.YtbphdajhhnhphaaPns
namespace Go.Proofs.Ytbphdajhhnhphaa
set_option maxRecDepth 100000
open Go.RowKit

set_option maxHeartbeats 8000000 in
theorem refPnDrop_calls (v : Value) (l : List Pn) (s : Int) (w : World) (h : Pns w v l) (hl : l.length ≤ 1000000) :
    Calls Try.prog 12 #[v, .int .i64 s] w fun e w' => ∃ u, e = .returned (.tuple #[u, .int .i64 (dropNE l s)]) ∧ OwnPn w' w.heap.size u (if dropNE l s = 0 then dropN l s else []) ∧ Below w.heap.size w w' := by
  obtain ⟨ao, cap, rfl⟩ := h.form
  have KI := refPnIs_calls _ l w h hl
  have HH := Lib.hid h
  have hE : dropNE l s = if isN l then (if (ofN l s).isSome then 0 else 80) else 1 := rfl
  clear h
  cases hi : isN l with
  | false =>
    rw [hi] at KI hE
    have e0 : dropNE l s = 1 := hE
    rw [e0]
    have K1 := Lib.hid KI
    clear KI hi e0 hE
    go_enter Try.func12, Try.ntmps12
    go_wp2_with fail
    refine K1.out.mono ?_
    rintro e w1 ⟨rfl, hB⟩
    go_wp2_with fail
    go_ret2
    exact ⟨_, rfl, OwnOf.nil _ _, hB⟩
  | true =>
    rw [hi] at KI hE
    have K1 := Lib.hid KI
    have HE := Lib.hid (show dropNE l s = if (ofN l s).isSome then 0 else 80 from hE)
    have HL := Lib.hid hl
    obtain ⟨Z, hZ⟩ : ∃ Z, (if dropNE l s = 0 then dropN l s else []) = Z := ⟨_, rfl⟩
    obtain ⟨E, hE0⟩ : ∃ E, dropNE l s = E := ⟨_, rfl⟩
    rw [hZ, hE0]
    rw [hE0] at hZ HE
    have HZ := Lib.hid hZ
    clear KI hi hE hZ hE0
    go_enter Try.func12, Try.ntmps12
    go_wp2_with fail
    refine K1.out.mono ?_
    rintro e w1 ⟨rfl, hB1⟩
    go_wp2_with fail
    go_loopw [6, 7] (fun o i wr => ∃ k : Nat, i = .int .i64 k ∧ k ≤ l.length ∧ (∃ D a1 c1, o = .slice a1 (D.length) c1 ∧ Hid (dropN (l.take k) s = D) ∧ Hid (OwnPn wr w.heap.size (.slice a1 D.length c1) D)) ∧ Below w.heap.size w wr) (fun _ i _ => l.length - (intOf i).toNat)
    case atStart => exact ⟨0, rfl, Nat.zero_le _, ⟨[], none, 0, rfl, Lib.hid (by simp [dropN]), Lib.hid (OwnOf.nil _ _)⟩, hB1⟩
    case round =>
      obtain ⟨k, rfl, hk, ⟨D, a1, c1, rfl, HD, HO⟩, hB⟩ := hrel
      have hDl : D.length ≤ k := by
        have := dropN_len (l.take k) s
        rw [HD.out, List.length_take] at this
        omega
      by_cases hlt : k < l.length
      · have hd : decide ((k : Int) < (l.length : Int)) = true := by rw [decide_eq_true_eq]; omega
        obtain ⟨b, off, rfl, x0, x1⟩ := pns_at (HH.out.below hB) hlt
        have hs := dropN_snoc hlt s
        rw [HD.out] at hs
        obtain ⟨⟨q, n⟩, hx⟩ : ∃ x, l[k] = x := ⟨_, rfl⟩
        rw [hx] at x0 x1 hs
        dsimp only at x0 x1 hs
        clear hx
        by_cases hq : q = s
        · rw [if_pos hq, List.append_nil] at hs
          have e1 : (q == s) = true := by simpa using hq
          have HS := Lib.hid hs
          clear hq hs
          go_wp2_with fail
          go_roundw
          case rel => exact ⟨k + 1, by go_num, by omega, ⟨D, a1, c1, rfl, HS, HO⟩, hB⟩
          case measure => simp [intOf]; omega
        · rw [if_neg hq] at hs
          have e1 : (q == s) = false := by simpa using hq
          have HS := Lib.hid hs
          have HLD := Lib.hid hDl
          clear hq hs hDl
          go_wp2_with (at_builtin; refine app_pn rfl _ _ rfl w.heap.size _ D rfl HO.out q n rfl (by have := HLD.out; have := HL.out; omega) hB.size ?_; intro a5 c5 w5 ho5 hg5; have hB5 := hg5 _ hB; have HO5 := Lib.hid ho5; clear ho5 hg5)
          go_roundw
          case rel => exact ⟨k + 1, by go_num, by omega, ⟨D ++ [(q, n)], a5, c5, by rw [List.length_append]; rfl, HS, Lib.hid (by rw [List.length_append]; exact HO5.out)⟩, hB5⟩
          case measure => simp [intOf]; omega
      · obtain rfl : k = l.length := by omega
        have hd : decide ((l.length : Int) < (l.length : Int)) = false := by simp
        have hs := HD.out
        rw [List.take_length] at hs
        obtain ⟨m, hm⟩ : ∃ m, D.length = m := ⟨_, rfl⟩
        have HM := Lib.hid hm
        have HS := Lib.hid hs
        have HO2 := Lib.hid HO.out
        rw [hm] at HO2 hDl ⊢
        clear hm hs
        cases ho : ofN l s with
        | none =>
          have hz : m = l.length := by rw [← HM.out, ← HS.out]; exact dropN_all.2 ho
          have e2 : ((m : Int) == (l.length : Int)) = true := by rw [beq_iff_eq]; omega
          have e0 : E = 80 := by rw [HE.out, ho]; rfl
          have HE0 := Lib.hid e0
          clear hz e0 ho
          go_wp2_with fail
          go_ret2
          exact ⟨_, by rw [HE0.out]; rfl, by rw [← HZ.out, HE0.out]; exact OwnOf.nil _ _, hB⟩
        | some n =>
          have hz : m ≠ l.length := by
            intro e
            rw [← HM.out, ← HS.out, dropN_all, ho] at e
            cases e
          have e2 : ((m : Int) == (l.length : Int)) = false := by rw [beq_eq_false_iff_ne]; omega
          have e0 : E = 0 := by rw [HE.out, ho]; rfl
          have HE0 := Lib.hid e0
          clear hz e0 ho
          go_wp2_with fail
          go_ret2
          exact ⟨_, by rw [HE0.out]; rfl, by rw [← HZ.out, HE0.out, if_pos rfl, HS.out]; exact HO2.out, hB⟩

end Go.Proofs.Ytbphdajhhnhphaa
