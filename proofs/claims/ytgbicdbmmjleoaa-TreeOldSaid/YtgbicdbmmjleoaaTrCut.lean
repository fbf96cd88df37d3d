/-
  tree: cut.
-/
import Derived.Test.YtgbicdbmmjleoaaTrOver
namespace Go.Proofs.Ytgbicdbmmjleoaa
open Go.RowKit

/-- What stands in a vertex's place: one as wide as N, or two that are not too narrow. -/
def News (N : Nat) (S : List Ch) : Prop := (∃ c, S = [c] ∧ N ≤ c.2.2) ∨ ∃ a b, S = [a, b] ∧ 4 ≤ a.2.2 ∧ 4 ≤ b.2.2
theorem News.less {N M : Nat} {S : List Ch} (h : News N S) (hm : M ≤ N) : News M S := by
  rcases h with ⟨c, rfl, h⟩ | h
  · exact .inl ⟨c, rfl, by omega⟩
  · exact .inr h
/-- Vertices that are laid as they stand. -/
theorem vrow_lit (d : Nat) (w : World) (S : List Ch) (t : TypeId) (h : ∀ c ∈ S, Vx d w c.1 c.2.1 c.2.2) : VRow d (w.alloc (.cells (S.map (·.1)).toArray t)) (.slice (some ⟨w.heap.size, 0, none⟩) S.length S.length) S := by
  refine ⟨⟨by simp, _, _, rfl, Nat.le_refl _, .inr ⟨_, 0, rfl, fun j hj => ?_⟩⟩, fun x hx => (h x hx).below (below_alloc w _)⟩
  rw [Nat.zero_add, World.cell?_alloc_new]
  simp only [List.getElem?_toArray, List.getElem?_eq_getElem hj]
theorem vrow_one {d : Nat} {w : World} {v : Value} {l : List Pr} {n : Nat} (h : Vx d w v l n) : VRow d (w.alloc (.cells #[v] 53)) (.slice (some ⟨w.heap.size, 0, none⟩) 1 1) [(v, l, n)] :=
  vrow_lit d w [(v, l, n)] _ (fun c hc => by simp only [List.mem_singleton] at hc; subst hc; exact h)
theorem vrow_two {d : Nat} {w : World} {v1 v2 : Value} {l1 l2 : List Pr} {n1 n2 : Nat} (h1 : Vx d w v1 l1 n1) (h2 : Vx d w v2 l2 n2) : VRow d (w.alloc (.cells #[v1, v2] 53)) (.slice (some ⟨w.heap.size, 0, none⟩) 2 2) [(v1, l1, n1), (v2, l2, n2)] :=
  vrow_lit d w [(v1, l1, n1), (v2, l2, n2)] _ (fun c hc => by
    simp only [List.mem_cons, List.not_mem_nil, or_false] at hc
    rcases hc with rfl | rfl
    · exact h1
    · exact h2)
theorem vx_leaf {w : World} {v : Value} {l : List Pr} (h : Prs w v l) : Vx 0 w (.iface 66 v) l l.length := ⟨rfl, v, rfl, h⟩

set_option maxHeartbeats 4000000 in
set_option maxRecDepth 100000 in
theorem cutP_calls (v : Value) (l : List Pr) (w : World) (h : Prs w v l) (hm : l.length ≤ 1000000) :
    Calls Try.prog 47 #[v, .func (.func 48) #[] #[]] w fun e w' => ∃ u S, e = .returned u ∧ VRow 0 w' u S ∧ allC S = l ∧ News l.length S ∧ Below w.heap.size w w' := by
  obtain ⟨ao, cap, rfl⟩ := h.form
  have KL := Lib.hid (fun v w => leafOf_calls v w)
  by_cases h8 : l.length ≤ 8
  · have HO := Lib.hid (And.intro h h8)
    obtain ⟨n, hn⟩ : ∃ n, l.length = n := ⟨_, rfl⟩
    rw [hn] at HO h8 ⊢
    have HN := Lib.hid hn
    have h8d : decide ((n : Int) ≤ 8) = true := by rw [decide_eq_true_eq]; omega
    clear h hm hn
    go_enter Try.func47, Try.ntmps47
    go_wp2_with fail
    refine (KL.out _ _).mono ?_
    rintro e w1 ⟨rfl, rfl⟩
    go_wp2_with fail
    go_ret
    have e := HN.out
    exact ⟨_, _, rfl, vrow_one (vx_leaf HO.out.1), allC_one _, .inl ⟨_, rfl, by dsimp only; omega⟩, below_alloc _ _⟩
  · obtain ⟨n, hn⟩ : ∃ n, l.length / 2 = n := ⟨_, rfl⟩
    obtain ⟨r, hr⟩ : ∃ r, n + r = l.length := ⟨l.length - n, by omega⟩
    have HL := Lib.hid (show (l.take n).length = n ∧ (l.drop n).length = r ∧ 4 ≤ n ∧ 4 ≤ r by simp; omega)
    obtain ⟨k, hk⟩ : ∃ k, l.length = k := ⟨_, rfl⟩
    rw [hk] at h hr hm hn h8 ⊢
    have hq : ((k : Int) / 2) = (n : Int) := by omega
    have h8d : decide ((k : Int) ≤ 8) = false := by rw [decide_eq_false_iff_not]; omega
    obtain ⟨hr1, hp1⟩ := slice_to h n (by omega)
    obtain ⟨a2, c2, hr2, hp2⟩ := slice_from h n r (by omega) hr
    obtain ⟨A, hA⟩ : ∃ A, l.take n = A := ⟨_, rfl⟩
    obtain ⟨B, hB⟩ : ∃ B, l.drop n = B := ⟨_, rfl⟩
    have HAB := Lib.hid (show A ++ B = l by rw [← hA, ← hB, List.take_append_drop])
    rw [hA, hB] at HL
    rw [hA] at hp1
    rw [hB] at hp2
    have KA := Lib.hid (fun W (hW : Below w.heap.size w W) => cloneP_calls _ A W (hp1.below hW) (by have := HL.out.1; omega))
    have KB := Lib.hid (fun W (hW : Below w.heap.size w W) => cloneP_calls _ B W (hp2.below hW) (by have := HL.out.2.1; omega))
    have hbr : Below w.heap.size w w.drew := drew_below _
    clear h hp1 hp2 hk hn hA hB
    go_enter Try.func47, Try.ntmps47
    go_wp2_with fail
    go_region_held3 (fun _ => True) (exact trivial) (first
      | ((with_reducible refine (KL.out _ _).mono ?_); rintro e w2 ⟨rfl, rfl⟩)
      | ((with_reducible refine (KA.out _ hbr).mono ?_); rintro e w3 ⟨uA, rfl, hA, hB3⟩; have hbr := below2 hbr hB3; (try replace hB := hB.below hB3))
      | ((with_reducible refine (KB.out _ hbr).mono ?_); rintro e w4 ⟨uB, rfl, hB, hB4⟩; have hbr := below2 hbr hB4; (try replace hA := hA.below hB4)))
    go_wp2_with fail
    go_ret
    obtain ⟨e1, e2, e3, e4⟩ := HL.out
    exact ⟨_, _, rfl, vrow_two (vx_leaf hA) (vx_leaf hB), by rw [allC_cons, allC_one]; exact HAB.out, .inr ⟨_, _, rfl, by dsimp only; omega, by dsimp only; omega⟩, below2 hbr (below_alloc _ _)⟩

/-- One that stands alone. -/
theorem cutV_one (d : Nat) (v : Value) (c : Ch) (w : World) (h : VRow d w v [c]) :
    Calls Try.prog 49 #[v, .func (.func 39) #[] #[]] w fun e w' => ∃ u, e = .returned u ∧ VRow d w' u [c] ∧ Below w.heap.size w w' := by
  obtain ⟨ao, cap, rfl⟩ := h.form
  simp only [List.length_singleton]
  have hv := h.2 c (by simp)
  have ho := over_one d _ c w h
  obtain ⟨v, l, n⟩ := c
  dsimp only at hv ho
  obtain ⟨T, u, rfl⟩ := hv.iface
  have KO := Lib.hid ho
  have HV := Lib.hid hv
  clear h hv ho
  go_enter Try.func49, Try.ntmps49
  go_wp2_with fail
  refine KO.out.mono ?_
  rintro e w1 ⟨rfl, rfl⟩
  go_wp2_with fail
  go_ret
  exact ⟨_, rfl, vrow_one HV.out, below_alloc _ _⟩

set_option maxHeartbeats 4000000 in
set_option maxRecDepth 100000 in
theorem cutV_calls (d : Nat) (v : Value) (S : List Ch) (w : World) (h : VRow d w v S) (hw : Wide S) (h2 : 2 ≤ S.length) (hm : (allC S).length ≤ 1000000) :
    Calls Try.prog 49 #[v, .func (.func 39) #[] #[]] w fun e w' => ∃ u T, e = .returned u ∧ VRow (d + 1) w' u T ∧ allC T = allC S ∧ News S.length T ∧ Below w.heap.size w w' := by
  have hcn := h.count hw
  obtain ⟨ao, cap, rfl⟩ := h.form
  by_cases h8 : S.length ≤ 8
  · have KO := Lib.hid (over_calls d _ S w h hw h2 hm)
    obtain ⟨n, hn⟩ : ∃ n, S.length = n := ⟨_, rfl⟩
    rw [hn] at KO h8 hcn ⊢
    have h8d : decide ((n : Int) ≤ 8) = true := by rw [decide_eq_true_eq]; omega
    clear h hw hn
    go_enter Try.func49, Try.ntmps49
    go_wp2_with fail
    refine KO.out.mono ?_
    rintro e w1 ⟨u, rfl, hu, hB⟩
    obtain ⟨T, u, rfl⟩ := hu.iface
    go_wp2_with fail
    go_ret
    exact ⟨_, _, rfl, vrow_one hu, allC_one _, .inl ⟨_, rfl, Nat.le_refl _⟩, below2 hB (below_alloc _ _)⟩
  · obtain ⟨n, hn⟩ : ∃ n, S.length / 2 = n := ⟨_, rfl⟩
    obtain ⟨r, hr⟩ : ∃ r, n + r = S.length := ⟨S.length - n, by omega⟩
    have HL := Lib.hid (show (S.take n).length = n ∧ (S.drop n).length = r ∧ 4 ≤ n ∧ 4 ≤ r by simp; omega)
    obtain ⟨k, hk⟩ : ∃ k, S.length = k := ⟨_, rfl⟩
    rw [hk] at h hr hcn hn h8 ⊢
    have hq : ((k : Int) / 2) = (n : Int) := by omega
    have h8d : decide ((k : Int) ≤ 8) = false := by rw [decide_eq_false_iff_not]; omega
    obtain ⟨a1, c1, hr1, hp1⟩ := vrow_to h n (by omega)
    obtain ⟨a2, c2, hr2, hp2⟩ := vrow_from h n r hr
    obtain ⟨A, hA⟩ : ∃ A, S.take n = A := ⟨_, rfl⟩
    obtain ⟨B, hB⟩ : ∃ B, S.drop n = B := ⟨_, rfl⟩
    have hAB : A ++ B = S := by rw [← hA, ← hB, List.take_append_drop]
    have hwA : Wide A := fun c hc => hw c (by rw [← hAB]; simp [hc])
    have hwB : Wide B := fun c hc => hw c (by rw [← hAB]; simp [hc])
    have hcAB : allC A ++ allC B = allC S := by rw [← allC_append, hAB]
    have hmA : (allC A).length ≤ 1000000 ∧ (allC B).length ≤ 1000000 := by
      have := congrArg List.length hcAB
      rw [List.length_append] at this
      omega
    have HAB := Lib.hid hcAB
    have hkm : k ≤ 1000000 := by omega
    rw [hA, hB] at HL
    rw [hA] at hp1
    rw [hB] at hp2
    have KA := Lib.hid (fun W (hW : Below w.heap.size w W) => cloneV_calls d _ A W (hp1.below hW) (by have := HL.out.1; omega))
    have KB := Lib.hid (fun W (hW : Below w.heap.size w W) => cloneV_calls d _ B W (hp2.below hW) (by have := HL.out.2.1; omega))
    have KOA := Lib.hid (fun u W (hu : VRow d W u A) => over_calls d u A W hu hwA (by have := HL.out; omega) hmA.1)
    have KOB := Lib.hid (fun u W (hu : VRow d W u B) => over_calls d u B W hu hwB (by have := HL.out; omega) hmA.2)
    have hbr : Below w.heap.size w w.drew := drew_below _
    clear h hp1 hp2 hk hn hA hB hw hAB hwA hwB hcAB hmA hm
    go_enter Try.func49, Try.ntmps49
    go_wp2_with fail
    go_region_held3 (fun _ => True) (exact trivial) (first
      | ((with_reducible refine (KA.out _ hbr).mono ?_); rintro e w3 ⟨uA, rfl, hA, hB3⟩; have hbr := below2 hbr hB3; (try replace hB := hB.below hB3); (try replace hvB := hvB.below hB3))
      | ((with_reducible refine (KB.out _ hbr).mono ?_); rintro e w4 ⟨uB, rfl, hB, hB4⟩; have hbr := below2 hbr hB4; (try replace hA := hA.below hB4); (try replace hvA := hvA.below hB4))
      | ((with_reducible refine (KOA.out _ _ hA).mono ?_); rintro e w5 ⟨vA, rfl, hvA, hB5⟩; obtain ⟨TA, vA, rfl⟩ := hvA.iface; have hbr := below2 hbr hB5; (try replace hB := hB.below hB5); (try replace hvB := hvB.below hB5))
      | ((with_reducible refine (KOB.out _ _ hB).mono ?_); rintro e w6 ⟨vB, rfl, hvB, hB6⟩; obtain ⟨TB, vB, rfl⟩ := hvB.iface; have hbr := below2 hbr hB6; (try replace hA := hA.below hB6); (try replace hvA := hvA.below hB6)))
    go_wp2_with fail
    go_ret
    obtain ⟨e1, e2, e3, e4⟩ := HL.out
    exact ⟨_, _, rfl, vrow_two hvA hvB, by rw [allC_cons, allC_one]; exact HAB.out, .inr ⟨_, _, rfl, by dsimp only; omega, by dsimp only; omega⟩, below2 hbr (below_alloc _ _)⟩

end Go.Proofs.Ytgbicdbmmjleoaa
