/-
  pin: ats, least, Least, Raise.
-/
import Derived.Test.YtbphdajhhnhphaaPnWhere
import Derived.Test.YtbphdajhhnhphaaPns
import Derived.Test.YtbphdajhhnhphaaInts
import Derived.Test.YtbphdajhhnhphaaApp1
import Derived.Test.YtbphdajhhnhphaaHeld
import Derived.Deep.RegionHeld3
import Derived.Lib.MinMax
namespace Go.Proofs.Ytbphdajhhnhphaa
set_option maxRecDepth 100000
open Go.RowKit

/-- A row of ints of the call's own. -/
abbrev OwnA (w : World) (base : Nat) (v : Value) (l : List Int) : Prop := w.ownsRow base 3 1 v l.length (l.map (Value.int .i64))
theorem ownA_ints {w : World} {base : Nat} {v : Value} {l : List Int} (h : OwnA w base v l) : Ints w v l := by
  have := Rw.own h
  exact this
theorem infoA : (Try.prog.info? 3).map (fun i => (i.zero, i.size, i.bytes)) = some (some (.int .i64 0), 1, 8) := by kernel_rfl
theorem app_at {w : World} {ops : Array Oper} {rest : List Oper} {o : Oper} {a : Act} {Q : Exit → Act → World → Prop} (hgd : o.guard = none) (s x : Operand)
    (ho : o.op = .call { callee := .builtin .append, args := #[s, x], argTypes := #[49, 49] })
    (base : Nat) (v : Value) (l : List Int) (hs : a.eval s = v) (hown : OwnA w base v l) (n : Int) (g : Nat) (hg : w.heap.size = g) (hx : a.eval x = .slice (some ⟨g, 0, none⟩) 1 1)
    (m : Nat) (hm : l.length = m) (hn : m ≤ 1000000) (hbase : base ≤ w.heap.size)
    (h : ∀ ao' cap' w', OwnA w' base (.slice ao' (m + 1) cap') (l ++ [n]) → (∀ w0, Below base w0 w → Below base w0 w') → wpList Try.prog ops Q rest (a.put o.dst (.slice ao' (m + 1) cap')) w') :
    wpList Try.prog ops Q (o :: rest) a (w.alloc (.cells #[.int .i64 n] 3)) := by
  subst hm hg
  obtain ⟨i0, hi, hz0, hz1, hz2⟩ := info_parts infoA
  refine wpList_app1 hgd s x 49 ho base 3 i0 (.int .i64 0) 8 Try.underlying49 hi hz0 hz1 hz2 rfl v l.length (l.map (Value.int .i64)) hs hown (.int .i64 n) hx rfl hn (by omega) hbase ?_
  intro ao' cap' w' h2 h3
  exact h _ _ w' (by unfold OwnA; rw [List.length_append, List.map_append]; exact h2) h3

theorem atsN_succ {l : List Pn} {k : Nat} (hk : k < l.length) {s a : Int} (hx : l[k] = (s, a)) : (l.take (k + 1)).map (fun q => q.2) = (l.take k).map (fun q => q.2) ++ [a] := by
  rw [List.take_succ_eq_append_getElem hk, List.map_append, hx]
  rfl
set_option maxHeartbeats 4000000 in
theorem ats_calls (v : Value) (l : List Pn) (w : World) (hl : Pns w v l) (hn : l.length ≤ 1000) :
    Calls Try.prog 28 #[v] w fun e w' => ∃ ao cap, e = .returned (.slice ao l.length cap) ∧ OwnA w' w.heap.size (.slice ao l.length cap) (l.map fun q => q.2) ∧ Below w.heap.size w w' := by
  obtain ⟨ao, cap, rfl⟩ := hl.form
  have HH := Lib.hid hl
  clear hl
  go_enter Try.func28, Try.ntmps28
  go_wp2_with fail
  go_loopw [3, 8] (fun r i wr => ∃ k : Nat, i = .int .i64 k ∧ k ≤ l.length ∧ (∃ a1 c1, r = .slice a1 k c1 ∧ OwnA wr w.heap.size (.slice a1 k c1) ((l.take k).map fun q => q.2)) ∧ Below w.heap.size w wr) (fun _ i _ => l.length - (intOf i).toNat)
  case atStart => exact ⟨0, rfl, Nat.zero_le _, ⟨none, 0, rfl, World.ownsRow_nil _ _ _ _⟩, Below.refl _ _⟩
  case round =>
    obtain ⟨k, rfl, hk, ⟨a1, c1, rfl, hown⟩, hB⟩ := hrel
    by_cases hlt : k < l.length
    · have hd : decide ((k : Int) < (l.length : Int)) = true := by rw [decide_eq_true_eq]; omega
      obtain ⟨b, off, rfl, x0, x1⟩ := pns_at (HH.out.below hB) hlt
      obtain ⟨⟨s, a⟩, hx⟩ : ∃ x, l[k] = x := ⟨_, rfl⟩
      rw [hx] at x0 x1
      dsimp only at x0 x1
      have HS := Lib.hid (atsN_succ hlt hx)
      have HO := Lib.hid hown
      have HL : Hid (((l.take k).map fun q => q.2).length = k) := Lib.hid (by rw [List.length_map, List.length_take]; omega)
      have hB1 := hB.alloc hB.size (.cells #[.int .i64 s, .int .i64 a] 24)
      clear hx hown
      go_wp2_with (at_builtin; refine app_at rfl _ _ rfl w.heap.size _ _ rfl (own_stays HO.out (below_alloc _ _)) a _ (World.size_alloc _ _) rfl k HL.out (by omega) (by rw [World.size_alloc]; exact Nat.le_succ_of_le hB.size) ?_; intro a2 c2 w2 ho2 hB2)
      have hB3 := hB2 _ hB1
      rw [← HS.out] at ho2
      have HO2 := Lib.hid ho2
      clear ho2
      go_wp2_with fail
      go_roundw
      case rel => exact ⟨k + 1, by go_num, by omega, ⟨a2, c2, rfl, HO2.out⟩, hB3⟩
      case measure => simp [intOf]; omega
    · obtain rfl : k = l.length := by omega
      have hd : decide ((l.length : Int) < (l.length : Int)) = false := by simp
      rw [List.take_length] at hown
      have HO := Lib.hid hown
      clear hown
      go_wp2_with fail
      go_ret
      exact ⟨_, _, rfl, HO.out, hB⟩

set_option maxHeartbeats 4000000 in
theorem least_calls (n : Int) (v : Value) (l : List Int) (w : World) (hl : Ints w v l) (hn : l.length ≤ 1000000) :
    Calls Try.prog 27 #[.int .i64 n, v] w fun e w' => e = .returned (.int .i64 (l.foldl min n)) ∧ w = w' := by
  obtain ⟨ao, cap, rfl⟩ := hl.form
  have HH := Lib.hid hl
  obtain ⟨z, hz⟩ : ∃ z, l.foldl min n = z := ⟨_, rfl⟩
  rw [hz]
  have HZ := Lib.hid hz
  clear hl hz
  go_enter Try.func27, Try.ntmps27
  go_wp2_with fail
  go_loopw [0, 9] (fun m i wr => ∃ k : Nat, i = .int .i64 k ∧ k ≤ l.length ∧ (∃ c, m = .int .i64 c ∧ Hid ((l.drop k).foldl min c = z)) ∧ w = wr) (fun _ i _ => l.length - (intOf i).toNat)
  case atStart => exact ⟨0, rfl, Nat.zero_le _, ⟨n, rfl, HZ⟩, rfl⟩
  case round =>
    obtain ⟨k, rfl, hk, ⟨c, rfl, hf⟩, rfl⟩ := hrel
    by_cases hlt : k < l.length
    · have hd : decide ((k : Int) < (l.length : Int)) = true := by rw [decide_eq_true_eq]; omega
      obtain ⟨b, off, rfl, x0⟩ := HH.out.at hlt
      have hs := hf.out
      rw [List.drop_eq_getElem_cons hlt, List.foldl_cons] at hs
      generalize l[k] = y at *
      have HS := Lib.hid hs
      clear hs
      go_wp2_with fail
      go_roundw
      case rel => exact ⟨k + 1, by go_num, by omega, ⟨_, rfl, HS⟩, trivial⟩
      case measure => simp [intOf]; omega
    · obtain rfl : k = l.length := by omega
      have hd : decide ((l.length : Int) < (l.length : Int)) = false := by simp
      have hs := hf.out
      rw [List.drop_length] at hs
      have HS := Lib.hid (show c = z from hs)
      clear hs
      go_wp2_with fail
      go_ret
      exact ⟨by rw [HS.out]; rfl, rfl⟩

set_option maxHeartbeats 4000000 in
theorem raise_calls (a b t : Int) (v : Value) (l : List Pn) (w : World) (hl : Pns w v l) (hn : l.length ≤ 1000) :
    Calls Try.prog 18 #[.int .i64 a, .int .i64 b, .int .i64 t, v] w fun e w' => e = .returned (.int .i64 (raiseN a b t l)) ∧ Below w.heap.size w w' := by
  have HF : Hid (max a (min ((l.map fun q => q.2).foldl min b) t) = raiseN a b t l) := Lib.hid (by rw [← raise_fold, List.foldl_append]; rfl)
  have KA := Lib.hid (ats_calls v l w hl hn)
  have KL := Lib.hid (fun v' l' W (h : Ints W v' l') (h1 : l'.length ≤ 1000000) => least_calls b v' l' W h h1)
  obtain ⟨ao, cap, rfl⟩ := hl.form
  have HN : Hid ((l.map fun q => q.2).length = l.length) := Lib.hid (List.length_map _)
  have HN2 : Hid ((l.map (fun q => q.2) ++ [t]).length ≤ 1000000) := Lib.hid (by simp; omega)
  clear hl
  go_enter Try.func18, Try.ntmps18
  go_wp2_with fail
  refine KA.out.mono ?_
  rintro e w1 ⟨a1, c1, rfl, ho, hB1⟩
  have HO := Lib.hid ho
  clear ho
  go_wp2_with (at_builtin; refine app_at rfl _ _ rfl w.heap.size _ _ rfl HO.out t _ rfl rfl l.length HN.out (by omega) hB1.size ?_; intro a2 c2 w2 ho2 hB2)
  have hB3 := hB2 _ hB1
  have K := Lib.hid (KL.out _ _ _ (ownA_ints ho2) HN2.out)
  clear ho2
  go_wp2_with fail
  refine K.out.mono ?_
  rintro e w3 ⟨rfl, rfl⟩
  go_wp2_with fail
  go_ret
  exact ⟨by rw [← HF.out]; rfl, hB3⟩

/-- What is handed back: two ints, or none. -/
theorem leastP_none (v : Value) (w : World) (hl : Pns w v []) : Calls Try.prog 15 #[v] w fun e w' => e = .returned (.tuple #[.int .i64 0, .bool false]) ∧ Below w.heap.size w w' := by
  obtain ⟨ao, cap, rfl⟩ := hl.form
  go_enter Try.func15, Try.ntmps15
  go_wp2_with fail
  go_ret2
  exact ⟨rfl, Below.refl _ _⟩

set_option maxHeartbeats 4000000 in
theorem leastP_some (v : Value) (x : Pn) (r : List Pn) (w : World) (hl : Pns w v (x :: r)) (hn : r.length ≤ 999) : Calls Try.prog 15 #[v] w fun e w' => e = .returned (.tuple #[.int .i64 ((r.map fun q => q.2).foldl min x.2), .bool true]) ∧ Below w.heap.size w w' := by
  obtain ⟨ao, cap, rfl⟩ := hl.form
  obtain ⟨s, a⟩ := x
  obtain ⟨n, hnn⟩ : ∃ n, r.length = n := ⟨_, rfl⟩
  have h1 : ((s, a) :: r).length = n + 1 := by rw [List.length_cons, hnn]
  rw [h1] at hl ⊢
  obtain ⟨a1, c1, hsl, hr⟩ := pns_from hl 1 n (by omega) (by omega)
  rw [List.drop_succ_cons, List.drop_zero] at hr
  obtain ⟨b, off, rfl, x0, x1⟩ := pns_at hl (i := 0) (by simp)
  rw [List.getElem_cons_zero] at x0 x1
  rw [Nat.zero_mul, Nat.add_zero] at x0 x1
  have HNN := Lib.hid hnn
  have KA := Lib.hid (fun W (hB : Below w.heap.size w W) => ats_calls _ r W (hr.below hB) (by rw [hnn]; omega))
  rw [hnn] at KA
  have HC := Lib.hid (fun W (hW : Below w.heap.size w W) => look_below hW x1)
  have KL := Lib.hid (fun v' W W' (h : Ints W v' (r.map fun q => q.2)) (hB : Below W.heap.size W W') => least_calls a v' _ W' (h.below hB) (by rw [List.length_map]; omega))
  have hz : ((n : Int) + 1 == 0) = false := by rw [beq_eq_false_iff_ne]; omega
  have hsl1 : ∀ W, (Instr.slice 22 (.slice (some ⟨b, off, none⟩) (n + 1) cap) (some (.int .i64 1)) none none).run Try.prog W = .ok (.slice a1 n c1) W := hsl
  clear hsl
  have hbr : Below w.heap.size w w.drew := drew_below _
  clear hl hr hnn h1 x0 x1
  go_enter Try.func15, Try.ntmps15
  go_wp2_with fail
  go_region_held3 (fun w' => w'.cell? ⟨b, off + 1, none⟩ = some (.int .i64 a)) (first | exact HC.out _ hbr) (first
    | ((with_reducible refine (KA.out _ hbr).mono ?_); rintro e w2 ⟨a2, c2, rfl, ho, hB2⟩; have hbr := below2 hbr hB2; have KM := Lib.hid (fun W h => KL.out _ w2 W (ownA_ints ho) h); have hb2 := Below.refl w2.heap.size w2; clear ho)
    | ((with_reducible refine (KM.out _ hb2).mono ?_); rintro e w3 ⟨rfl, rfl⟩))
  go_wp2_with fail
  go_ret2
  exact ⟨rfl, hbr⟩

end Go.Proofs.Ytbphdajhhnhphaa
