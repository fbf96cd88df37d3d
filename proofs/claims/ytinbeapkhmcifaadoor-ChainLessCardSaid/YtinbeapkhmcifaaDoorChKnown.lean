/-
  The law file's cut: the document's rows.
-/
import Derived.Test.YtinbeapkhmcifaaDoorChDesc
import Derived.Test.YtinbeapkhmcifaaDoorChWhole
import Derived.Test.YtinbeapkhmcifaaDoorMeSame
import Derived.Test.YtinbeapkhmcifaaDoorTexts
import Derived.Deep.RegionHeld3
namespace Go.Proofs.YtinbeapkhmcifaaDoor
set_option maxRecDepth 100000
open Go.RowKit

abbrev kAb : List UInt8 := [97, 98]
theorem k_sum : sumN kAb = 2659403885 := by decide
theorem k_cut1 : cutE [97, 98, 99, 100, 101] 2 = 0 ∧ cutL [97, 98, 99, 100, 101] 2 = [[97, 98], [99, 100], [101]] := by decide
theorem k_cut2 : cutE [] 2 = 0 ∧ cutL [] 2 = [] := by decide
theorem k_cut3 : cutE [97] 0 = 1 ∧ cutL [97] 0 = [] := by decide
theorem k_cut4 : cutE [97, 98, 97, 98] 2 = 0 ∧ cutL [97, 98, 97, 98] 2 = [kAb, kAb] := by decide
theorem k_sums : sumsL [kAb, kAb] = [2659403885, 2659403885] := by
  simp only [sumsL, List.map, k_sum]
  rfl
theorem k_meta : metaB 4 7 [2659403885, 2659403885] = true := by decide
theorem k_desc : descE [97, 98, 97, 98] 2 7 = 0 ∧ descL [97, 98, 97, 98] 2 7 = [kAb, kAb] ∧ descZ [97, 98, 97, 98] 2 7 = 4 ∧ descD [97, 98, 97, 98] 2 7 = 7 ∧ descS [97, 98, 97, 98] 2 7 = [2659403885, 2659403885] := by
  have h := desc_ok (s := [97, 98, 97, 98]) (n := 2) (d := 7) k_cut4.1 (by rw [k_cut4.2, k_sums]; exact k_meta)
  rw [k_cut4.2, k_sums] at h
  exact h
theorem k_has (l : List (List UInt8)) : hasSum (kAb :: l) 2659403885 = true ∧ ofSum (kAb :: l) 2659403885 = kAb := by
  have e : ((((sumN kAb : Nat) : Int)) == 2659403885) = true := by rw [k_sum]; rfl
  constructor
  · rw [hasSum, List.any_cons, e, Bool.true_or]
  · rw [ofSum, List.find?_cons_of_pos (p := fun t => ((sumN t : Nat) : Int) == 2659403885) (a := kAb) e]
    rfl
theorem k_whole : wholeT 4 7 [2659403885, 2659403885] [kAb, kAb] = [97, 98, 97, 98] ∧ wholeE 4 7 [2659403885, 2659403885] [kAb, kAb] = 0 := by
  obtain ⟨h1, h2⟩ := k_has [kAb]
  have hg : (gotL [kAb, kAb] [2659403885, 2659403885]).flatten = [97, 98, 97, 98] := by
    simp only [gotL, List.map, h2]
    rfl
  have h := whole_is (z := 4) (d := 7) (cs := [2659403885, 2659403885]) (l := [kAb, kAb]) k_meta (by simp only [allB, List.all, h1]; rfl) (by rw [hg]; rfl)
  rw [hg] at h
  exact h
theorem k_have : haveL [kAb] [2659403885, 2659403885] 2 = [0, 1] := by
  obtain ⟨h1, _⟩ := k_has []
  have e : ([0, 1].filter fun i => hasSum [kAb] (([2659403885, 2659403885] : List Int).getD i 0)) = [0, 1] := by
    simp [h1]
  unfold haveL
  have e2 : List.range 2 = [0, 1] := rfl
  rw [e2, e]
  rfl
theorem k_lens : LenL 1000000 [kAb, kAb] := by
  intro t ht
  have : t = kAb := by simpa using ht
  subst this
  decide

theorem kCut1 (w : World) : Calls Tryd.prog 10 #[.string ⟨#[97, 98, 99, 100, 101]⟩, .int .i64 2] w fun e w' => ∃ v, e = .returned (.tuple #[v, .int .i64 0]) ∧ Strs w' v [[97, 98], [99, 100], [101]] ∧ Below w.heap.size w w' := by
  have h := ccut_calls [97, 98, 99, 100, 101] 2 w
  rw [k_cut1.1, k_cut1.2] at h
  exact h.mono fun e w' ⟨v, h1, h2, h3⟩ => ⟨v, h1, strs_own h2, h3⟩
theorem kCut2 (w : World) : Calls Tryd.prog 10 #[.string ⟨#[]⟩, .int .i64 2] w fun e w' => ∃ ao cap, e = .returned (.tuple #[.slice ao 0 cap, .int .i64 0]) ∧ Below w.heap.size w w' := by
  have h := ccut_calls [] 2 w
  rw [k_cut2.1, k_cut2.2] at h
  refine h.mono fun e w' ⟨v, h1, h2, h3⟩ => ?_
  obtain ⟨ao, cap, rfl⟩ := (strs_own h2).form
  exact ⟨ao, cap, h1, h3⟩
theorem kCut3 (w : World) : Calls Tryd.prog 10 #[.string ⟨#[97]⟩, .int .i64 0] w fun e w' => ∃ v, e = .returned (.tuple #[v, .int .i64 1]) ∧ Below w.heap.size w w' := by
  have h := ccut_calls [97] 0 w
  rw [k_cut3.1, k_cut3.2] at h
  exact h.mono fun e w' ⟨v, h1, h2, h3⟩ => ⟨v, h1, h3⟩
theorem kDesc (w : World) (hT : TabOk w) : Calls Tryd.prog 12 #[.string ⟨#[97, 98, 97, 98]⟩, .int .i64 2, .int .i64 7] w fun e w' => ∃ ao cap av vc, e = .returned (.tuple #[MV 4 7 (.slice ao 2 cap), .slice av 2 vc, .int .i64 0]) ∧
    Ints w' (.slice ao 2 cap) [2659403885, 2659403885] ∧ Txts w' (.slice av 2 vc) [kAb, kAb] ∧ Below w.heap.size w w' := by
  have h := cdesc_calls [97, 98, 97, 98] 2 7 (by decide) w hT
  unfold DescP at h
  rw [k_desc.1, k_desc.2.1, k_desc.2.2.1, k_desc.2.2.2.1, k_desc.2.2.2.2] at h
  refine h.mono fun e w' ⟨u, v, h1, h2, h3, h4⟩ => ?_
  obtain ⟨ao, cap, rfl⟩ := (ints_own h2).form
  obtain ⟨av, vc, rfl⟩ := (ownL_txts h3).strs.form
  exact ⟨ao, cap, av, vc, h1, ints_own h2, ownL_txts h3, h4⟩
theorem kWhole (u v : Value) (w : World) (h1 : Ints w u [2659403885, 2659403885]) (h2 : Strs w v [kAb, kAb]) (hT : TabOk w) : Calls Tryd.prog 14 #[MV 4 7 u, v] w fun e w' => e = .returned (.tuple #[.string ⟨#[97, 98, 97, 98]⟩, .int .i64 0]) ∧ Below w.heap.size w w' := by
  have h := cwhole_calls 4 7 u [2659403885, 2659403885] v [kAb, kAb] w h1 (by decide) h2 (by decide) k_lens hT
  rw [k_whole.1, k_whole.2] at h
  exact h
theorem kHave (u v : Value) (w : World) (h1 : Ints w u [2659403885, 2659403885]) (h2 : Strs w v [kAb]) (hT : TabOk w) : Calls Tryd.prog 22 #[MV 4 7 u, v] w fun e w' => ∃ p, e = .returned p ∧ Ints w' p [0, 1] ∧ Below w.heap.size w w' := by
  have h := chave_calls 4 7 u [2659403885, 2659403885] v [kAb] w h1 (by decide) (by decide) h2 (by decide) (fun t ht => k_lens t (by simp at ht; subst ht; simp)) hT
  have e : ([2659403885, 2659403885] : List Int).length = 2 := rfl
  rw [e, k_have] at h
  exact h.mono fun e w' ⟨v, h1, h2, h3⟩ => ⟨v, h1, ints_own h2, h3⟩
theorem kSum (w : World) (hT : TabOk w) : Calls Tryd.prog 25 #[.string ⟨#[97, 98]⟩] w fun e w' => e = .returned (.int .i64 2659403885) ∧ Below w.heap.size w w' := by
  have h := sum_calls kAb (by decide) w hT
  rw [k_sum] at h
  exact h

/-- Rows that were written out. -/
theorem strs_lit (w : World) (ls : List (List UInt8)) (t : TypeId) (n : Nat) (hn : ls.length = n) : Strs (w.alloc (.cells (ls.map SV).toArray t)) (.slice (some ⟨w.heap.size, 0, none⟩) n n) ls := by
  subst hn
  exact (Txts.new w ls t).strs
theorem ints_lit (w : World) (ls : List Int) (t : TypeId) (n : Nat) (hn : ls.length = n) : Ints (w.alloc (.cells (ls.map (Value.int .i64)).toArray t)) (.slice (some ⟨w.heap.size, 0, none⟩) n n) ls := by
  subst hn
  refine ⟨by simp, _, _, rfl, Nat.le_refl _, .inr ⟨w.heap.size, 0, rfl, fun i hi => ?_⟩⟩
  rw [Nat.zero_add, World.cell?_alloc_new]
  simp [List.getElem?_eq_getElem (show i < ls.length by simpa using hi)]

theorem kTextsD (v : Value) {w : World} (h : Strs w v [[97, 98], [99, 100], [101]]) :
    Calls Tryd.prog 16 #[v, .slice (some ⟨w.heap.size, 0, none⟩) 3 3] (w.alloc (.cells #[.string ⟨#[97, 98]⟩, .string ⟨#[99, 100]⟩, .string ⟨#[101]⟩] 9)).drew fun e w' => e = .returned (.bool true) ∧ Below w.heap.size w w' := by
  have hA : Below w.heap.size w (w.alloc (.cells #[.string ⟨#[97, 98]⟩, .string ⟨#[99, 100]⟩, .string ⟨#[101]⟩] 9)).drew := below2 (below_alloc w _) (drew_below _)
  have k := texts_calls v (.slice (some ⟨w.heap.size, 0, none⟩) 3 3) [[97, 98], [99, 100], [101]] [[97, 98], [99, 100], [101]] _ (h.below hA) ((strs_lit w [[97, 98], [99, 100], [101]] 9 3 rfl).below (drew_below _)) (by decide)
  exact k.mono fun e w' ⟨h1, h2⟩ => ⟨h1, below2 hA h2⟩
theorem kSame (u : Value) {w W : World} (h : Ints w u [2659403885, 2659403885]) (hB : Below w.heap.size w W) :
    Calls Tryd.prog 17 #[MV 4 7 u, MV 4 7 (.slice (some ⟨W.heap.size, 0, none⟩) 2 2)] (W.alloc (.cells #[.int .i64 2659403885, .int .i64 2659403885] 3)) fun e w' => e = .returned (.bool true) ∧ Below w.heap.size w w' := by
  have hA : Below W.heap.size W (W.alloc (.cells #[.int .i64 2659403885, .int .i64 2659403885] 3)) := below_alloc W _
  have k := mSame_calls 4 7 u [2659403885, 2659403885] 4 7 (.slice (some ⟨W.heap.size, 0, none⟩) 2 2) [2659403885, 2659403885] _ (h.below (below2 hB hA)) (ints_lit W [2659403885, 2659403885] 3 2 rfl) (by decide)
  exact k.mono fun e w' ⟨h1, h2⟩ => ⟨h1, below3 hB hA h2⟩
theorem kHaveW (u : Value) (av : Option Addr) (vc : Nat) {w W : World} (h1 : Ints w u [2659403885, 2659403885]) (h2 : Txts w (.slice av 2 vc) [kAb, kAb]) (hT : TabOk w) (hB : Below w.heap.size w W) :
    Calls Tryd.prog 22 #[MV 4 7 u, .slice av 1 vc] W fun e w' => ∃ p, e = .returned p ∧ Ints w' p [0, 1] ∧ Below W.heap.size W w' :=
  kHave u _ W (h1.below hB) (((h2.below hB).take 1 (by decide)).strs) (hT.below hB)
theorem kInts (p q : Value) {W : World} (h1 : Ints W p [0, 1]) (h2 : Ints W q [0, 1]) : Calls Tryd.prog 19 #[p, q] W fun e w' => e = .returned (.bool true) ∧ Below W.heap.size W w' :=
  refInts_calls p q [0, 1] [0, 1] W h1 h2 (by decide)
theorem kLit (W : World) : Ints (W.alloc (.cells #[.int .i64 0, .int .i64 1] 3)) (.slice (some ⟨W.heap.size, 0, none⟩) 2 2) [0, 1] := ints_lit W [0, 1] 3 2 rfl
theorem txts_room {w : World} {av : Option Addr} {vc : Nat} (h : Txts w (.slice av 2 vc) [kAb, kAb]) : 2 ≤ vc := by
  obtain ⟨_, _, he, hc, _⟩ := h
  cases he
  exact hc

theorem txt_elem : Tryd.prog.elem 25 = 9 := by kernel_rfl
theorem txt_slice : Tryd.prog.underlying 25 = some (.slice (Tryd.prog.elem 25)) := by kernel_rfl
theorem txt_size (W : World) : (sizeOf 9).run Tryd.prog W = .ok 1 W := by
  have h : (Tryd.prog.info? 9).map (·.size) = some 1 := by kernel_rfl
  cases hq : Tryd.prog.info? 9 with
  | none => simp [hq] at h
  | some i =>
    simp [hq] at h
    simp [sizeOf, typeInfo, hq, h]
/-- The first text of a row, as a slice. -/
theorem slice_one (ao : Option Addr) (n cap : Nat) (h : 1 ≤ cap) (W : World) : (Instr.slice 25 (.slice ao n cap) none (some (.int .i64 1)) none).run Tryd.prog W = .ok (.slice ao 1 cap) W := by
  rw [run_slice_h W _ ao n cap txt_slice .i64 1 (by omega) (by omega), txt_elem, txt_size]
  cases ao <;> simp [sliced, Result.andThen, Addr.add]

set_option maxHeartbeats 8000000 in
theorem chKnown_calls (w : World) (hT : TabOk w) : Calls Tryd.prog 18 #[] w fun e w' => e = .returned (.bool true) ∧ Below w.heap.size w w' := by
  have HT0 := Lib.hid hT
  clear hT
  go_enter Tryd.func18, Tryd.ntmps18
  go_wp2_with fail
  refine (kCut1 _).mono ?_
  rintro e w1 ⟨v1, rfl, hs1, hB1⟩
  have H1 := Lib.hid (And.intro hs1 hB1)
  clear hs1 hB1
  go_wp2_with fail
  refine (kCut2 _).mono ?_
  rintro e w2 ⟨a2, c2, rfl, hB2⟩
  have H2 := Lib.hid (And.intro (H1.out.1.below hB2) (below2 H1.out.2 hB2))
  clear hB2
  go_wp2_with fail
  refine (kDesc _ (HT0.out.below H2.out.2)).mono ?_
  rintro e w3 ⟨au, cu, av, vc, rfl, hi3, ht3, hB3⟩
  have hA3 := below_alloc w3 (.cells #[.int .i64 4, .int .i64 7, .slice au 2 cu] 24)
  have H3 := Lib.hid (And.intro (hi3.below hA3) (And.intro (ht3.below hA3) (And.intro (H2.out.1.below (below2 hB3 hA3)) (And.intro (box3 w3 (.int .i64 4) (.int .i64 7) (.slice au 2 cu)) (below3 H2.out.2 hB3 hA3)))))
  have hvc := txts_room ht3
  clear hi3 ht3 hB3 hA3
  go_wp2_with fail
  refine (kWhole _ _ _ H3.out.1 H3.out.2.1.strs (HT0.out.below H3.out.2.2.2.2)).mono ?_
  rintro e w4 ⟨rfl, hB4⟩
  have H4 := Lib.hid hB4
  clear hB4
  go_wp2_with fail
  refine (kCut3 _).mono ?_
  rintro e w5 ⟨v5, rfl, hB5⟩
  have H5 := Lib.hid (below2 H4.out hB5)
  clear hB5
  go_wp2_with fail
  refine (kSum _ (HT0.out.below (below2 H3.out.2.2.2.2 H5.out))).mono ?_
  rintro e w6 ⟨rfl, hB6⟩
  have H6 := Lib.hid (below2 H5.out hB6)
  clear hB6
  have HX : Hid (∀ W, Below w6.heap.size w6 W → W.cell? ⟨w3.heap.size, 0, none⟩ = some (.int .i64 4) ∧ W.cell? ⟨w3.heap.size, 1, none⟩ = some (.int .i64 7) ∧ W.cell? ⟨w3.heap.size, 2, none⟩ = some (.slice au 2 cu)) := Lib.hid fun W hW => by
    obtain ⟨x0, x1, x2, _⟩ := ((H3.out.2.2.2.1.below H6.out).below hW).three
    exact ⟨x0, x1, x2⟩
  have KT := Lib.hid (kTextsD v1 (H3.out.2.2.1.below H6.out))
  have KS := Lib.hid (fun W (hW : Below w6.heap.size w6 W) => kSame (.slice au 2 cu) (H3.out.1.below H6.out) hW)
  have KH := Lib.hid (fun W (hW : Below w6.heap.size w6 W) => kHaveW (.slice au 2 cu) av vc (H3.out.1.below H6.out) (H3.out.2.1.below H6.out) (HT0.out.below (below2 H3.out.2.2.2.2 H6.out)) hW)
  have hsl := slice_one av 2 vc (by omega)
  have hbr : Below w6.heap.size w6 w6.drew := drew_below _
  go_wp2_with fail
  go_region_held3 (fun W => W.cell? ⟨w3.heap.size, 0, none⟩ = some (.int .i64 4) ∧ W.cell? ⟨w3.heap.size, 1, none⟩ = some (.int .i64 7) ∧ W.cell? ⟨w3.heap.size, 2, none⟩ = some (.slice au 2 cu)) (first | exact HX.out _ hbr | exact HX.out _ (hbr.alloc hbr.size _) | exact HX.out _ (below2 (below_alloc _ _) (drew_below _))) (first
    | ((with_reducible refine KT.out.mono ?_); rintro e w7 ⟨rfl, hB7⟩; have hbr := hB7)
    | ((with_reducible refine (KS.out _ hbr).mono ?_); rintro e w8 ⟨rfl, hB8⟩; have hbr := hB8)
    | ((with_reducible refine (KH.out _ hbr).mono ?_); rintro e w9 ⟨p9, rfl, hi9, hB9⟩; have hbr := below2 hbr hB9)
    | ((with_reducible refine (KH.out _ (hbr.alloc hbr.size _)).mono ?_); rintro e w9 ⟨p9, rfl, hi9, hB9⟩; have HL := Lib.hid ((kLit _).below hB9); have hbr := below2 (hbr.alloc hbr.size _) hB9)
    | ((with_reducible refine (kInts p9 _ hi9 HL.out).mono ?_); rintro e w10 ⟨rfl, hB10⟩; have hbr := below2 hbr hB10)
    | ((with_reducible refine (kInts p9 _ (hi9.below (below_alloc _ _)) (kLit _)).mono ?_); rintro e w10 ⟨rfl, hB10⟩; have hbr := below2 (hbr.alloc hbr.size _) hB10))
  all_goals
    go_wp2_with fail
    go_ret
    exact ⟨rfl, below3 H3.out.2.2.2.2 H6.out hbr⟩

end Go.Proofs.YtinbeapkhmcifaaDoor
