/-
  tree: where in a branch a key is; sort.Search.
-/
import Derived.Test.YtgbicdbmmjleoaaTrMeth
import Derived.Test.YtgbicdbmmjleoaaNdPlace
namespace Go.Proofs.Ytgbicdbmmjleoaa
open Go.RowKit

/-- The first key of a vertex. -/
def fK (c : Ch) : Ky := match c.2.1 with | [] => ([], 0) | x :: _ => x.1

set_option maxHeartbeats 2000000 in
theorem place1_calls (d : Nat) (S : List Ch) (p : List UInt8) (m : Int) (gk gb g : Nat) (ao : Option Addr) (cap i : Nat) (w : World) (hk : KBox w gk (p, m)) (hb : Cx w gb 67 [.pointer (some ⟨g, 0, none⟩)])
    (hg : w.cell? ⟨g, 0, none⟩ = some (.slice ao S.length cap)) (hR : VRow d w (.slice ao S.length cap) S) (hS : Wide S) (hi : i < S.length) :
    Calls Try.prog 46 #[.int .i64 i, .pointer (some ⟨gk, 0, none⟩), .pointer (some ⟨gb, 0, none⟩)] w fun e w' => e = .returned (.bool (lessK (p, m) (fK (S[i]'hi)))) ∧ Below w.heap.size w w' := by
  obtain ⟨b, off, rfl, c0, hv⟩ := hR.at hi
  obtain ⟨x, r, hx⟩ := hv.first (by have := hS _ (List.getElem_mem hi); omega)
  have hfk : fK S[i] = x.1 := by unfold fK; rw [hx]
  rw [hx] at hv
  obtain ⟨v, hv1⟩ : ∃ v, S[i].1 = v := ⟨_, rfl⟩
  rw [hv1] at hv c0
  rw [hfk]
  obtain ⟨T, u, rfl⟩ := hv.iface
  obtain ⟨f, hme, hc, hf⟩ := hv.least
  obtain ⟨⟨q, z⟩, t⟩ := x
  obtain ⟨k0, k1, _⟩ := hk.two
  have b0 : w.cell? ⟨gb, 0, none⟩ = some (.pointer (some ⟨g, 0, none⟩)) := hb.cell rfl
  have HS : Hid (∀ W, Below w.heap.size w W → W.cell? ⟨gk, 0, none⟩ = some (.string ⟨p.toArray⟩) ∧ W.cell? ⟨gk, 1, none⟩ = some (.int .i64 m) ∧ W.cell? ⟨gb, 0, none⟩ = some (.pointer (some ⟨g, 0, none⟩)) ∧ W.cell? ⟨g, 0, none⟩ = some (.slice (some ⟨b, off, none⟩) S.length cap) ∧ W.cell? ⟨b, off + i, none⟩ = some (.iface T u)) :=
    Lib.hid (fun W hB => ⟨look_below hB k0, look_below hB k1, look_below hB b0, look_below hB hg, look_below hB c0⟩)
  have KF := Lib.hid hf
  have KL := Lib.hid (fun W => kLess_calls p q m z W)
  have hbr : Below w.heap.size w w.drew := drew_below _
  unfold Enters at hc
  clear hf hv hv1 hfk hx hR hk hb hS k0 k1 b0 hg c0
  dsimp only
  go_enter Try.func46, Try.ntmps46
  go_wp2_with fail
  go_region_held3 (fun w' => w'.cell? ⟨gk, 0, none⟩ = some (.string ⟨p.toArray⟩) ∧ w'.cell? ⟨gk, 1, none⟩ = some (.int .i64 m) ∧ w'.cell? ⟨gb, 0, none⟩ = some (.pointer (some ⟨g, 0, none⟩)) ∧ w'.cell? ⟨g, 0, none⟩ = some (.slice (some ⟨b, off, none⟩) S.length cap) ∧ w'.cell? ⟨b, off + i, none⟩ = some (.iface T u)) (first | exact HS.out _ hbr) (first | (go_at_call 44; ((with_reducible refine (KL.out _).mono ?_); rintro e w2 ⟨rfl, hB2⟩; have hbr := below2 hbr hB2)) | ((with_reducible refine (KF.out _ hbr).mono ?_); rintro e w1 ⟨rfl, hB1⟩; have hbr := below2 hbr hB1))
  go_wp2_with fail
  go_ret
  exact ⟨rfl, hbr⟩

/-- What Search finds: a place at whose left it does not hold, and at whose right it does. -/
def Found (L : Nat) (F : Nat → Bool) (n : Nat) : Prop := n ≤ L ∧ (∀ k, n = k + 1 → F k = false) ∧ (n < L → F n = true)

set_option maxHeartbeats 2000000 in
theorem search_calls (L : Nat) (F : Nat → Bool) (a1 a2 : Value) (w : World) (hL : L ≤ 100000)
    (hf : ∀ W, Below w.heap.size w W → ∀ i, i < L → Calls Try.prog 46 #[.int .i64 i, a1, a2] W fun e w' => e = .returned (.bool (F i)) ∧ Below W.heap.size W w') :
    Calls Try.prog 45 #[.int .i64 L, .func (.func 46) #[] #[a1, a2]] w fun e w' => (∃ n : Nat, e = .returned (.int .i64 n) ∧ Found L F n) ∧ Below w.heap.size w w' := by
  have HF := Lib.hid hf
  clear hf
  go_enter Try.func45, Try.ntmps45
  go_wp2_with fail
  go_loopw [5, 6] (fun i j wr => ∃ a b : Nat, i = .int .i64 a ∧ j = .int .i64 b ∧ a ≤ b ∧ b ≤ L ∧ (∀ k, a = k + 1 → F k = false) ∧ (b < L → F b = true) ∧ Below w.heap.size w wr) (fun i j _ => (intOf j).toNat - (intOf i).toNat)
  case atStart => exact ⟨0, L, rfl, rfl, Nat.zero_le _, Nat.le_refl _, fun k h => by omega, fun h => by omega, Below.refl _ _⟩
  case round =>
    obtain ⟨a, b, rfl, rfl, hab, hbL, h1, h2, hB⟩ := hrel
    by_cases hlt : a < b
    · obtain ⟨c, hc, hac, hcb⟩ : ∃ c : Nat, ((a : Int) + (b : Int)) / 2 = (c : Int) ∧ a ≤ c ∧ c < b := ⟨(a + b) / 2, by omega, by omega, by omega⟩
      have KC := HF.out wr hB c (by omega)
      cases hFc : F c with
      | true =>
        rw [hFc] at KC
        have K := Lib.hid KC
        have HC := Lib.hid hFc
        have H1 := Lib.hid (And.intro h1 h2)
        clear KC hFc h1 h2
        go_wp2_with fail
        refine K.out.mono ?_
        rintro e w1 ⟨rfl, hB1⟩
        go_wp2_with fail
        go_roundw
        case rel => exact ⟨a, c, rfl, rfl, hac, by omega, H1.out.1, fun _ => HC.out, below2 hB hB1⟩
        case measure => simp [intOf]; omega
      | false =>
        rw [hFc] at KC
        have K := Lib.hid KC
        have HC := Lib.hid hFc
        have H1 := Lib.hid (And.intro h1 h2)
        clear KC hFc h1 h2
        go_wp2_with fail
        refine K.out.mono ?_
        rintro e w1 ⟨rfl, hB1⟩
        go_wp2_with fail
        go_roundw
        case rel =>
          refine ⟨c + 1, b, by go_num, rfl, by omega, hbL, fun k hk => ?_, H1.out.2, below2 hB hB1⟩
          obtain rfl : c = k := by omega
          exact HC.out
        case measure => simp [intOf]; omega
    · obtain rfl : a = b := by omega
      have H1 := Lib.hid (And.intro h1 h2)
      clear h1 h2
      go_wp2_with fail
      go_ret
      exact ⟨⟨a, rfl, hbL, H1.out.1, H1.out.2⟩, hB⟩


set_option maxHeartbeats 2000000 in
theorem place_br_calls (d : Nat) (S : List Ch) (p : List UInt8) (m : Int) (g : Nat) (ao : Option Addr) (cap : Nat) (w : World)
    (hg : w.cell? ⟨g, 0, none⟩ = some (.slice ao S.length cap)) (hR : VRow d w (.slice ao S.length cap) S) (hS : Wide S) (h2 : 2 ≤ S.length) (hm : S.length ≤ 100000) :
    Calls Try.prog 38 #[.pointer (some ⟨g, 0, none⟩), .agg #[.string ⟨p.toArray⟩, .int .i64 m]] w fun e w' => (∃ n i : Nat, e = .returned (.int .i64 i) ∧ Found S.length (fun j => lessK (p, m) ((S[j]?.map fK).getD ([], 0))) n ∧ i = n - 1) ∧ Below w.heap.size w w' := by
  have hB0 := below_alloc2 w (.cells #[.pointer (some ⟨g, 0, none⟩)] 67) (.cells #[.string ⟨p.toArray⟩, .int .i64 m] 24)
  have hb0 : Cx ((w.alloc (.cells #[.pointer (some ⟨g, 0, none⟩)] 67)).alloc (.cells #[.string ⟨p.toArray⟩, .int .i64 m] 24)) w.heap.size 67 [.pointer (some ⟨g, 0, none⟩)] :=
    (Cx.new w 67 [.pointer (some ⟨g, 0, none⟩)]).below (below_alloc _ _)
  have hk0 := kbox_new (w.alloc (.cells #[.pointer (some ⟨g, 0, none⟩)] 67)) p m
  have K := Lib.hid (search_calls S.length (fun j => lessK (p, m) ((S[j]?.map fK).getD ([], 0))) (.pointer (some ⟨w.heap.size + 1, 0, none⟩)) (.pointer (some ⟨w.heap.size, 0, none⟩)) _ hm (fun W hB i hi => by
    have := place1_calls d S p m (w.heap.size + 1) w.heap.size g ao cap i W (by rw [World.size_alloc] at hk0; exact hk0.below hB) (hb0.below hB) (look_below (below2 hB0 hB) hg) (hR.below (below2 hB0 hB)) hS hi
    rw [List.getElem?_eq_getElem hi]
    exact this))
  have hl : g < w.heap.size := World.block_lt_of_cell? w _ hg
  go_enter Try.func38, Try.ntmps38
  go_wp2_with fail
  refine K.out.mono ?_
  rintro e w1 ⟨⟨n, rfl, hn⟩, hB1⟩
  have HN := Lib.hid hn
  have hn1 := hn.1
  clear hn
  by_cases h0 : n = 0
  · subst h0
    go_wp2_with fail
    go_ret
    exact ⟨⟨0, 0, rfl, HN.out, rfl⟩, below2 hB0 hB1⟩
  · obtain ⟨i, rfl⟩ : ∃ i, n = i + 1 := ⟨n - 1, by omega⟩
    have hmx : max (0 : Int) (i : Int) = (i : Int) := by omega
    go_wp2_with fail

    go_ret
    exact ⟨⟨i + 1, i, rfl, HN.out, rfl⟩, below2 hB0 hB1⟩

end Go.Proofs.Ytgbicdbmmjleoaa
