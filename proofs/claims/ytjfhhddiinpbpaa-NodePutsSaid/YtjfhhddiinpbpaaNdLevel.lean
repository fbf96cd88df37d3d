/-
  node: Level.
-/
import Derived.Test.YtjfhhddiinpbpaaNdSplit
namespace Go.Proofs.Ytjfhhddiinpbpaa
open Go.RowKit

theorem apart_nil (x : Value) : Apart x (.slice none 0 0) ∧ Apart (.slice none 0 0) x := by
  unfold Apart
  refine ⟨?_, .inl rfl⟩
  cases h : x.ownBlock with
  | none => exact .inl rfl
  | some g => exact .inr (by simp [Value.ownBlock])

set_option maxHeartbeats 4000000 in
theorem level_calls (va vb : Value) (la lb : List Pr) (most : Int) (w : World) (ha : Prs w va la) (hb : Prs w vb lb) (hla : la.length ≤ 1000) (hlb : lb.length ≤ 1000) :
    Calls Try.prog 18 #[va, vb, .int .i64 most] w fun e w' => ∃ a1 n1 c1 a2 n2 c2, e = .returned (.tuple #[.slice a1 n1 c1, .slice a2 n2 c2, .int .i64 (levE most)]) ∧ OwnP w' w.heap.size (.slice a1 n1 c1) (levA (la ++ lb) most) ∧ OwnP w' w.heap.size (.slice a2 n2 c2) (levB (la ++ lb) most) ∧ Apart (.slice a1 n1 c1) (.slice a2 n2 c2) ∧ Apart (.slice a2 n2 c2) (.slice a1 n1 c1) ∧ Below w.heap.size w w' := by
  obtain ⟨aa, ca, rfl⟩ := ha.form
  obtain ⟨ab, cb, rfl⟩ := hb.form
  obtain ⟨L, hL⟩ : ∃ L, la ++ lb = L := ⟨_, rfl⟩
  rw [hL]
  have hBa := below_alloc w (.cells #[.slice aa la.length ca, .slice ab lb.length cb] 22)
  have e1 : allP [((.slice aa la.length ca : Value), la), (.slice ab lb.length cb, lb)] = L := by simp [allP, hL]
  have hll : L.length ≤ 2000 := by rw [← hL]; simp; omega
  have HJ := joined_calls _ _ _ (rws_two ha hb) (by simp) (by rw [e1]; omega)
  rw [e1] at HJ
  obtain ⟨k, hk⟩ : ∃ k, L.length = k := ⟨_, rfl⟩
  rw [hk] at HJ hll
  have HJ := Lib.hid HJ
  by_cases h1 : most < 1
  · have E := Lib.hid (show levE most = 1 ∧ levA L most = [] ∧ levB L most = [] by unfold levE levA levB; simp [h1])
    go_enter Try.func18, Try.ntmps18
    go_wp2_with fail
    go_ret3
    rw [E.out.1, E.out.2.1, E.out.2.2]
    exact ⟨none, 0, 0, none, 0, 0, rfl, OwnP.nil _ _, OwnP.nil _ _, .inl rfl, .inl rfl, Below.refl _ _⟩
  · by_cases h2 : (k : Int) ≤ most
    · have E := Lib.hid (show levE most = 0 ∧ levA L most = L ∧ levB L most = [] by unfold levE levA levB; simp [h1, hk, h2])
      go_enter Try.func18, Try.ntmps18
      go_wp2_with fail
      refine HJ.out.mono ?_
      rintro e w1 ⟨a1, c1, rfl, ho1, hB1⟩
      have HO := Lib.hid ho1
      clear ho1
      go_wp2_with fail
      go_ret3
      rw [E.out.1, E.out.2.1, E.out.2.2]
      exact ⟨a1, k, c1, none, 0, 0, rfl, HO.out.weak hBa.size, OwnP.nil _ _, (apart_nil _).1, (apart_nil _).2, below2 hBa hB1⟩
    · have E := Lib.hid (show levE most = 0 ∧ levA L most = L.take (L.length / 2) ∧ levB L most = L.drop (L.length / 2) by
        unfold levE levA levB
        rw [hk]
        simp [h1, h2])
      have HK := Lib.hid hk
      clear hk
      go_enter Try.func18, Try.ntmps18
      go_wp2_with fail
      refine HJ.out.mono ?_
      rintro e w1 ⟨a1, c1, rfl, ho1, hB1⟩
      have KS := Lib.hid (split_calls _ L _ ho1.prs (by rw [HK.out]; omega))
      clear ho1
      go_wp2_with fail
      refine KS.out.mono ?_
      rintro e w2 ⟨ax, nx, cx, ay, ny, cy, rfl, ho1, ho2, p1, p2, hB2⟩
      have HO := Lib.hid (And.intro ho1 (And.intro ho2 (And.intro p1 p2)))
      clear ho1 ho2 p1 p2
      go_wp2_with fail
      go_ret3
      rw [E.out.1, E.out.2.1, E.out.2.2]
      obtain ⟨o1, o2, p1, p2⟩ := HO.out
      have hs := (below2 hBa hB1).size
      exact ⟨ax, nx, cx, ay, ny, cy, rfl, o1.weak hs, o2.weak hs, p1, p2, below3 hBa hB1 hB2⟩

end Go.Proofs.Ytjfhhddiinpbpaa
