/-
  node: Split, Level.
-/
import Derived.Test.YtjfhhddiinpbpaaNdJoin
namespace Go.Proofs.Ytjfhhddiinpbpaa
open Go.RowKit

/-- Two rows of the call's own lie in unlike blocks. -/
def Apart (x y : Value) : Prop := x.ownBlock = none ∨ x.ownBlock ≠ y.ownBlock
theorem Apart.symm {x y : Value} (h : Apart x y) (hy : y.ownBlock = none ∨ y.ownBlock ≠ none) : Apart y x := by
  unfold Apart at h ⊢
  rcases hy with hy | hy
  · exact .inl hy
  · rcases h with h | h
    · exact .inr (by rw [h]; exact hy)
    · exact .inr (Ne.symm h)
theorem apart_later {w1 w2 : World} {b1 b2 : Nat} {x y : Value} {lx ly : List Pr} (hx : OwnP w1 b1 x lx) (hy : OwnP w2 b2 y ly) (h : w1.heap.size ≤ b2) : Apart x y ∧ Apart y x := by
  unfold Apart
  cases ex : x.ownBlock with
  | none =>
    refine ⟨.inl rfl, ?_⟩
    cases y.ownBlock with
    | none => exact .inl rfl
    | some g => exact .inr (by simp)
  | some g =>
    have h1 := (World.ownsRow.lt hx g ex).2
    cases ey : y.ownBlock with
    | none => exact ⟨.inr (by simp), .inl rfl⟩
    | some k =>
      have h2 := (World.ownsRow.lt hy k ey).1
      have : g ≠ k := by omega
      exact ⟨.inr (by simpa using this), .inr (by simpa using Ne.symm this)⟩
theorem rws_of_cell {w : World} {g : Nat} {v : Value} {L : List Pr} (c : w.cell? ⟨g, 0, none⟩ = some v) (h : Prs w v L) : Rws w (.slice (some ⟨g, 0, none⟩) 1 1) [(v, L)] := by
  refine ⟨⟨rfl, _, _, rfl, Nat.le_refl _, .inr ⟨g, 0, rfl, fun j hj => ?_⟩⟩, fun x hx => ?_⟩
  · obtain rfl : j = 0 := by simpa using hj
    simpa using c
  · simp only [List.mem_singleton] at hx
    subst hx
    exact h

theorem joined_one {w W : World} {g : Nat} {v : Value} {L : List Pr} (h : Prs w v L) (hB : Below w.heap.size w W) (c : W.cell? ⟨g, 0, none⟩ = some v) (hm : L.length ≤ 1000000) :
    Calls Try.prog 29 #[.slice (some ⟨g, 0, none⟩) 1 1] W fun e w' => ∃ ao n cap, e = .returned (.slice ao n cap) ∧ OwnP w' W.heap.size (.slice ao n cap) L ∧ Below W.heap.size W w' := by
  have e1 : allP [(v, L)] = L := by simp [allP]
  refine (joined_calls _ [(v, L)] W (rws_of_cell c (h.below hB)) (by simp) (by rw [e1]; exact hm)).mono ?_
  rw [e1]
  rintro e w' ⟨ao, cap, rfl, ho, hB'⟩
  exact ⟨ao, _, cap, rfl, ho, hB'⟩
/-- Two rows that were made one behind the other. -/
theorem two_own {w wA W2 w2 : World} {bA : Nat} {x y : Value} {LA LB : List Pr} (hoA : OwnP wA bA x LA) (hbA : w.heap.size ≤ bA) (hBA : Below w.heap.size w wA) (hBX : Below wA.heap.size wA W2) (hoB : OwnP w2 W2.heap.size y LB) (hB2 : Below W2.heap.size W2 w2) :
    OwnP w2 w.heap.size x LA ∧ OwnP w2 w.heap.size y LB ∧ Apart x y ∧ Apart y x ∧ Below w.heap.size w w2 := by
  have hb := below2 hBX hB2
  obtain ⟨p, q⟩ := apart_later hoA hoB hBX.size
  exact ⟨(hoA.weak hbA).stays hb, hoB.weak (Nat.le_trans hBA.size hBX.size), p, q, below2 hBA hb⟩
theorem first_below (w : World) (o : Obj) : Below w.heap.size w (w.alloc o).drew := below2 (below_alloc w o) (drew_below _)
theorem first_below2 (w : World) (o o' : Obj) : Below w.heap.size w ((w.alloc o).alloc o').drew := below2 (below_alloc2 w o o') (drew_below _)
theorem two_cells (w : World) (v u : Value) (t : TypeId) : ((w.alloc (.cells #[v] t)).alloc (.cells #[u] t)).drew.cell? ⟨w.heap.size, 0, none⟩ = some v ∧ ((w.alloc (.cells #[v] t)).alloc (.cells #[u] t)).drew.cell? ⟨w.heap.size + 1, 0, none⟩ = some u := by
  constructor <;> go_simp
theorem drew_alloc_below (w : World) (o : Obj) : Below w.heap.size w (w.drew.alloc o) := below2 (drew_below _) (below_alloc _ o)

set_option maxHeartbeats 8000000 in
theorem split_calls (v : Value) (l : List Pr) (w : World) (hs : Prs w v l) (hm : l.length ≤ 100000) :
    Calls Try.prog 16 #[v] w fun e w' => ∃ a1 n1 c1 a2 n2 c2, e = .returned (.tuple #[.slice a1 n1 c1, .slice a2 n2 c2]) ∧ OwnP w' w.heap.size (.slice a1 n1 c1) (l.take (l.length / 2)) ∧ OwnP w' w.heap.size (.slice a2 n2 c2) (l.drop (l.length / 2)) ∧ Apart (.slice a1 n1 c1) (.slice a2 n2 c2) ∧ Apart (.slice a2 n2 c2) (.slice a1 n1 c1) ∧ Below w.heap.size w w' := by
  obtain ⟨ao, cap, rfl⟩ := hs.form
  obtain ⟨n, hn⟩ : ∃ n, l.length / 2 = n := ⟨_, rfl⟩
  obtain ⟨r, hr⟩ : ∃ r, n + r = l.length := ⟨l.length - n, by omega⟩
  rw [hn]
  have HLA := Lib.hid (show (l.take n).length ≤ 1000000 by simp; omega)
  have HLB := Lib.hid (show (l.drop n).length ≤ 1000000 by simp; omega)
  obtain ⟨k, hk⟩ : ∃ k, l.length = k := ⟨_, rfl⟩
  rw [hk] at hs hr hm hn ⊢
  have hq : ((k : Int) / 2) = (n : Int) := by omega
  obtain ⟨hr1, hp1⟩ := slice_to hs n (by omega)
  obtain ⟨a2, c2, hr2, hp2⟩ := slice_from hs n r (by omega) hr
  have HA := Lib.hid hp1
  have HB := Lib.hid hp2
  clear hs hp1 hp2 hk hn
  go_enter Try.func16, Try.ntmps16
  go_wp2_with fail
  go_region_with (first
    | (go_at_call 29; (first
        | (refine (joined_one HA.out (by first | exact first_below w _ | exact first_below2 w _ _) (by go_simp) HLA.out).mono ?_; rintro e wA ⟨aA, nA, cA, rfl, hoA, hBA⟩; have hBw : Below w.heap.size w wA := (by first | exact below2 (first_below w _) hBA | exact below2 (first_below2 w _ _) hBA); have ho2 := Lib.hid (hoA.weak (b := w.heap.size) (by first | exact (first_below w _).size | exact (first_below2 w _ _).size)); (try have d0 := look_below hBA (two_cells w (.slice a2 r c2) (.slice ao n cap) 22).1); (try have d1 := look_below hBA (two_cells w (.slice ao n cap) (.slice a2 r c2) 22).2); clear hoA)
        | (refine (joined_one HB.out (by first | exact first_below w _ | exact first_below2 w _ _) (by go_simp) HLB.out).mono ?_; rintro e wB ⟨aB, nB, cB, rfl, hoB, hBB⟩; have hBw : Below w.heap.size w wB := (by first | exact below2 (first_below w _) hBB | exact below2 (first_below2 w _ _) hBB); have ho2 := Lib.hid (hoB.weak (b := w.heap.size) (by first | exact (first_below w _).size | exact (first_below2 w _ _).size)); (try have d0 := look_below hBB (two_cells w (.slice ao n cap) (.slice a2 r c2) 22).1); (try have d1 := look_below hBB (two_cells w (.slice a2 r c2) (.slice ao n cap) 22).2); clear hoB)
        | (refine (joined_one HB.out (by first | exact hBw | exact below2 hBw (below_alloc _ _)) (by first | assumption | go_simp) HLB.out).mono ?_; rintro e w3 ⟨aB, nB, cB, rfl, ho3, hB3⟩; have F := Lib.hid (two_own ho2.out (Nat.le_refl _) hBw (by first | exact Below.refl _ _ | exact below_alloc _ _) ho3 hB3); clear ho3 hB3)
        | (refine (joined_one HA.out (by first | exact hBw | exact below2 hBw (below_alloc _ _)) (by first | assumption | go_simp) HLA.out).mono ?_; rintro e w3 ⟨aA, nA, cA, rfl, ho3, hB3⟩; have F := Lib.hid (two_own ho2.out (Nat.le_refl _) hBw (by first | exact Below.refl _ _ | exact below_alloc _ _) ho3 hB3); clear ho3 hB3))))
  all_goals
    obtain ⟨f1, f2, f3, f4, f5⟩ := F.out
    go_wp2_with fail
    go_ret2
    first
      | exact ⟨aA, nA, cA, aB, nB, cB, rfl, f1, f2, f3, f4, f5⟩
      | exact ⟨aA, nA, cA, aB, nB, cB, rfl, f2, f1, f4, f3, f5⟩

end Go.Proofs.Ytjfhhddiinpbpaa
