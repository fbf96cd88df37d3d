/-
  The document's own Split, Level of pairs.
-/
import Derived.Test.YtjfhhddiinpbpaaNdRefP
import Derived.Test.YtjfhhddiinpbpaaNdLevel
namespace Go.Proofs.Ytjfhhddiinpbpaa
open Go.RowKit

set_option maxHeartbeats 4000000 in
theorem refSplit_calls (v : Value) (l : List Pr) (w : World) (hs : Prs w v l) (hm : l.length ≤ 100000) :
    Calls Try.prog 17 #[v] w fun e w' => ∃ a1 n1 c1 a2 n2 c2, e = .returned (.tuple #[.slice a1 n1 c1, .slice a2 n2 c2]) ∧ OwnP w' w.heap.size (.slice a1 n1 c1) (l.take (l.length / 2)) ∧ OwnP w' w.heap.size (.slice a2 n2 c2) (l.drop (l.length / 2)) ∧ Apart (.slice a1 n1 c1) (.slice a2 n2 c2) ∧ Apart (.slice a2 n2 c2) (.slice a1 n1 c1) ∧ Below w.heap.size w w' := by
  obtain ⟨ao, cap, rfl⟩ := hs.form
  obtain ⟨n, hn⟩ : ∃ n, l.length / 2 = n := ⟨_, rfl⟩
  obtain ⟨r, hr⟩ : ∃ r, n + r = l.length := ⟨l.length - n, by omega⟩
  rw [hn]
  have hla : (l.take n).length ≤ 100000 := by simp; omega
  have hlb : (l.drop n).length ≤ 100000 := by simp; omega
  obtain ⟨k, hk⟩ : ∃ k, l.length = k := ⟨_, rfl⟩
  rw [hk] at hs hr hm hn ⊢
  have hq : ((k : Int) / 2) = (n : Int) := by omega
  obtain ⟨hr1, hp1⟩ := slice_to hs n (by omega)
  obtain ⟨a2, c2, hr2, hp2⟩ := slice_from hs n r (by omega) hr
  have CA := Lib.hid (fun (W : World) (hB : Below w.heap.size w W) => refOwn_calls _ _ W (hp1.below hB) hla)
  have CB := Lib.hid (fun (W : World) (hB : Below w.heap.size w W) => refOwn_calls _ _ W (hp2.below hB) hlb)
  clear hs hp1 hp2 hk hn hla hlb
  have hd := drew_below w
  go_enter Try.func17, Try.ntmps17
  go_wp2_with fail
  go_region_with (first
    | (go_at_call 9; (first
        | (refine (CA.out _ hd).mono ?_; rintro e wA ⟨aA, nA, cA, rfl, hoA, hBA⟩; have hBw : Below w.heap.size w wA := below2 hd hBA; have ho2 := Lib.hid (hoA.weak (b := w.heap.size) hd.size); clear hoA)
        | (refine (CB.out _ hd).mono ?_; rintro e wA ⟨aB, nB, cB, rfl, hoA, hBA⟩; have hBw : Below w.heap.size w wA := below2 hd hBA; have ho2 := Lib.hid (hoA.weak (b := w.heap.size) hd.size); clear hoA)
        | (refine (CA.out _ hBw).mono ?_; rintro e w3 ⟨aA, nA, cA, rfl, ho3, hB3⟩; have F := Lib.hid (two_own ho2.out (Nat.le_refl _) hBw (Below.refl _ _) ho3 hB3); clear ho3 hB3)
        | (refine (CB.out _ hBw).mono ?_; rintro e w3 ⟨aB, nB, cB, rfl, ho3, hB3⟩; have F := Lib.hid (two_own ho2.out (Nat.le_refl _) hBw (Below.refl _ _) ho3 hB3); clear ho3 hB3))))
  all_goals
    obtain ⟨f1, f2, f3, f4, f5⟩ := F.out
    go_wp2_with fail
    go_ret2
    first
      | exact ⟨aA, nA, cA, aB, nB, cB, rfl, f1, f2, f3, f4, f5⟩
      | exact ⟨aA, nA, cA, aB, nB, cB, rfl, f2, f1, f4, f3, f5⟩

set_option maxHeartbeats 4000000 in
theorem refLevel_calls (va vb : Value) (la lb : List Pr) (most : Int) (w : World) (ha : Prs w va la) (hb : Prs w vb lb) (hla : la.length ≤ 1000) (hlb : lb.length ≤ 1000) :
    Calls Try.prog 19 #[va, vb, .int .i64 most] w fun e w' => ∃ a1 n1 c1 a2 n2 c2, e = .returned (.tuple #[.slice a1 n1 c1, .slice a2 n2 c2, .int .i64 (levE most)]) ∧ OwnP w' w.heap.size (.slice a1 n1 c1) (levA (la ++ lb) most) ∧ OwnP w' w.heap.size (.slice a2 n2 c2) (levB (la ++ lb) most) ∧ Apart (.slice a1 n1 c1) (.slice a2 n2 c2) ∧ Apart (.slice a2 n2 c2) (.slice a1 n1 c1) ∧ Below w.heap.size w w' := by
  obtain ⟨aa, ca, rfl⟩ := ha.form
  obtain ⟨ab, cb, rfl⟩ := hb.form
  obtain ⟨L, hL⟩ : ∃ L, la ++ lb = L := ⟨_, rfl⟩
  rw [hL]
  have HB := Lib.hid hb
  have HJ := Lib.hid (refOwn_calls _ la w ha (by omega))
  have hll : L.length ≤ 2000 := by rw [← hL]; simp; omega
  obtain ⟨k, hk⟩ : ∃ k, L.length = k := ⟨_, rfl⟩
  rw [hk] at hll
  clear ha hb
  by_cases h1 : most < 1
  · have E := Lib.hid (show levE most = 1 ∧ levA L most = [] ∧ levB L most = [] by unfold levE levA levB; simp [h1])
    go_enter Try.func19, Try.ntmps19
    go_wp2_with fail
    go_ret3
    rw [E.out.1, E.out.2.1, E.out.2.2]
    exact ⟨none, 0, 0, none, 0, 0, rfl, OwnP.nil _ _, OwnP.nil _ _, .inl rfl, .inl rfl, Below.refl _ _⟩
  · by_cases h2 : (k : Int) ≤ most
    · have E := Lib.hid (show levE most = 0 ∧ levA L most = L ∧ levB L most = [] by unfold levE levA levB; simp [h1, hk, h2])
      go_enter Try.func19, Try.ntmps19
      go_wp2_with fail
      refine HJ.out.mono ?_
      rintro e w1 ⟨a1, n1, c1, rfl, ho1, hB1⟩
      have HO := Lib.hid (And.intro ho1 hL)
      clear ho1 hL
      go_wp2_with (at_builtin; refine wpList_append_prs rfl (.tmp 16) (.tmp 17) rfl w.heap.size _ la rfl HO.out.1 ab lb.length cb lb rfl (HB.out.below hB1) L HO.out.2 k hk (by omega) w hB1 (Nat.le_refl _) ?_; intro a3 c3 w3 ho3 hB3; have HO3 := Lib.hid ho3; clear ho3)
      go_ret3
      rw [E.out.1, E.out.2.1, E.out.2.2]
      exact ⟨a3, k, c3, none, 0, 0, rfl, HO3.out, OwnP.nil _ _, (apart_nil _).1, (apart_nil _).2, hB3⟩
    · have E := Lib.hid (show levE most = 0 ∧ levA L most = L.take (L.length / 2) ∧ levB L most = L.drop (L.length / 2) by
        unfold levE levA levB
        rw [hk]
        simp [h1, h2])
      have HK := Lib.hid hk
      clear hk
      go_enter Try.func19, Try.ntmps19
      go_wp2_with fail
      refine HJ.out.mono ?_
      rintro e w1 ⟨a1, n1, c1, rfl, ho1, hB1⟩
      have HO := Lib.hid (And.intro ho1 hL)
      have KS := Lib.hid (fun (v : Value) (W : World) (h : Prs W v L) => refSplit_calls v L W h (by rw [HK.out]; omega))
      clear ho1 hL
      go_wp2_with (at_builtin; refine wpList_append_prs rfl (.tmp 16) (.tmp 17) rfl w.heap.size _ la rfl HO.out.1 ab lb.length cb lb rfl (HB.out.below hB1) L HO.out.2 k HK.out (by omega) w hB1 (Nat.le_refl _) ?_; intro a3 c3 w3 ho3 hB3; have HO3 := Lib.hid ho3; clear ho3)
      refine (KS.out _ _ HO3.out.prs).mono ?_
      rintro e w2 ⟨ax, nx, cx, ay, ny, cy, rfl, ho1, ho2, p1, p2, hB2⟩
      have HQ := Lib.hid (And.intro ho1 (And.intro ho2 (And.intro p1 p2)))
      clear ho1 ho2 p1 p2
      go_wp2_with fail
      go_ret3
      rw [E.out.1, E.out.2.1, E.out.2.2]
      obtain ⟨o1, o2, p1, p2⟩ := HQ.out
      exact ⟨ax, nx, cx, ay, ny, cy, rfl, o1.weak hB3.size, o2.weak hB3.size, p1, p2, below2 hB3 hB2⟩

end Go.Proofs.Ytjfhhddiinpbpaa
