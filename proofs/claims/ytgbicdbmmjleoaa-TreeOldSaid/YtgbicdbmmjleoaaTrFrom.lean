/-
  tree: From, All.
-/
import Derived.Test.YtgbicdbmmjleoaaTrGath
namespace Go.Proofs.Ytgbicdbmmjleoaa
open Go.RowKit

/-- What From tells. -/
def fromL (l : List Pr) (k : Ky) (n : Int) : List Pr := (tailL l k).take n.toNat
theorem fromL_min (l : List Pr) (k : Ky) (n : Int) (N : Nat) (h : max 0 (min n (l.length : Int)) = (N : Int)) : (tailL l k).take N = fromL l k n := by
  unfold fromL
  have hl : (tailL l k).length ≤ l.length := by unfold tailL; rw [List.length_drop]; omega
  by_cases hn : n.toNat ≤ l.length
  · have e : N = n.toNat := by omega
    rw [e]
  · rw [List.take_of_length_le (by omega), List.take_of_length_le (by omega)]
theorem fromL_le (l : List Pr) (k : Ky) (n : Int) : (fromL l k n).length ≤ l.length := by
  unfold fromL tailL
  rw [List.length_take, List.length_drop]
  omega

/-- The root is one and the same, whenever it is asked for. -/
theorem top_fixed {w : World} {v : Value} {l : List Pr} (ht : TreeV w v l) : ∃ T x d n, Vx d w (.iface T x) l n ∧ ∀ W, Below w.heap.size w W → Calls Try.prog 28 #[v] W fun e w' => e = .returned (.iface T x) ∧ w' = W := by
  obtain ⟨hr, ⟨rfl, rfl⟩ | ⟨g, u, rfl, hc, ⟨rfl, rfl⟩ | ⟨d, n, hu⟩⟩⟩ := ht
  · refine ⟨_, _, 0, 0, leaf_nil w, fun W hB => ?_⟩
    go_enter Try.func28, Try.ntmps28
    go_wp2_with fail
    go_ret
    exact ⟨rfl, rfl⟩
  · refine ⟨_, _, 0, 0, leaf_nil w, fun W hB => ?_⟩
    have hc' := look_below hB hc
    go_enter Try.func28, Try.ntmps28
    go_wp2_with fail
    go_ret
    exact ⟨rfl, rfl⟩
  · obtain ⟨T, u, rfl⟩ := hu.iface
    refine ⟨_, _, d, n, hu, fun W hB => ?_⟩
    have hc' := look_below hB hc
    have he := top_eqTo T u
    go_enter Try.func28, Try.ntmps28
    go_wp2_with fail
    go_ret
    exact ⟨rfl, rfl⟩

set_option maxHeartbeats 4000000 in
set_option maxRecDepth 100000 in
theorem from_calls (v : Value) (l : List Pr) (p : List UInt8) (m n : Int) (w : World) (ht : TreeV w v l) (hm : l.length ≤ 100000) :
    Calls Try.prog 18 #[v, .agg #[.string ⟨p.toArray⟩, .int .i64 m], .int .i64 n] w fun e w' => ∃ u, e = .returned u ∧ OwnP w' w.heap.size u (fromL l (p, m) n) ∧ Below w.heap.size w w' := by
  have hB0 := below_alloc w (.cells #[.string ⟨p.toArray⟩, .int .i64 m] 24)
  have hkb := kbox_new w p m
  obtain ⟨k0, k1, _⟩ := hkb.two
  obtain ⟨T, x, d, k, hv, hT⟩ := top_fixed ht
  have KT := Lib.hid hT
  have KN := Lib.hid (fun W (hB : Below w.heap.size w W) => len_calls v l W (ht.below hB))
  obtain ⟨q, hq⟩ : ∃ q, min n (l.length : Int) = q := ⟨_, rfl⟩
  obtain ⟨N, hN⟩ : ∃ N : Nat, max 0 q = (N : Int) := ⟨(max 0 q).toNat, by omega⟩
  have hNl : N ≤ 100000 := by omega
  have HF := Lib.hid (fromL_min l (p, m) n N (by rw [hq]; exact hN))
  have KG := Lib.hid (fun W (hB : Below w.heap.size w W) => gather_calls p m N hNl d _ (.slice none 0 0) l [] k w W hv ht.1 hB (OwnP.nil W _) (Nat.zero_le _) hm)
  obtain ⟨t, htl⟩ : ∃ t, l.length = t := ⟨_, rfl⟩
  rw [htl] at KN hq
  have HS : Hid (∀ W, KBox W w.heap.size (p, m) → W.cell? ⟨w.heap.size, 0, none⟩ = some (.string ⟨p.toArray⟩) ∧ W.cell? ⟨w.heap.size, 1, none⟩ = some (.int .i64 m)) :=
    Lib.hid (fun W hk => ⟨hk.two.1, hk.two.2.1⟩)
  have hbr : Below w.heap.size w (w.alloc (.cells #[.string ⟨p.toArray⟩, .int .i64 m] 24)).drew := hB0.drew
  have hkr : KBox (w.alloc (.cells #[.string ⟨p.toArray⟩, .int .i64 m] 24)).drew w.heap.size (p, m) := hkb.below (drew_below _)
  clear ht hkb k0 k1 hT hv htl hm
  go_enter Try.func18, Try.ntmps18
  go_wp2_with fail
  go_region_held3 (fun w' => w'.cell? ⟨w.heap.size, 0, none⟩ = some (.string ⟨p.toArray⟩) ∧ w'.cell? ⟨w.heap.size, 1, none⟩ = some (.int .i64 m)) (first | exact HS.out _ hkr) (first
    | ((with_reducible refine (KT.out _ hbr).mono ?_); rintro e w1 ⟨rfl, rfl⟩)
    | ((with_reducible refine (KN.out _ hbr).mono ?_); rintro e w2 ⟨rfl, rfl⟩)
    | ((with_reducible refine (KG.out _ hbr).mono ?_); rintro e w3 ⟨u3, rfl, ho3, hB3, hk3⟩; have hbr := hB3; have hkr := hkr.keep hk3; have HO := Lib.hid ho3; clear ho3; obtain ⟨a3, n3, c3, rfl⟩ := HO.out.prs.any))
  go_wp2_with fail
  go_ret
  refine ⟨_, rfl, ?_, hbr⟩
  rw [← HF.out]
  exact HO.out

end Go.Proofs.Ytgbicdbmmjleoaa
