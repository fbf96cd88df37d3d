/-
  The texts of one folder in one: SoStore, SoLay, SoFile, SoList, SoSkip, SoAsOf, SoLists, SoHist, SoStored, SoLaid, LdsOpen, SoSame, SoLast.
-/
import Derived.Test.YtbadbfmeoiclfaaGreatDoorPks15a
import Derived.Test.YtbadbfmeoiclfaaGreatDoorPks02
import Derived.Test.YtbadbfmeoiclfaaGreatDoorPks14
import Derived.Test.YtbadbfmeoiclfaaGreatDoorPks12
import Derived.Test.YtbadbfmeoiclfaaGreatDoorPks10
import Derived.Test.YtbadbfmeoiclfaaGreatDoorPks08
import Derived.Test.YtbadbfmeoiclfaaGreatDoorPks09
import Derived.Maps.AppendAt
import Derived.Test.YtbadbfmeoiclfaaGreatDoorPkbase
import Derived.Deep.RegionHeld3
import Derived.Deep.Grids
import Derived.BigRegion

/-
  store: Is, Last, and the error of a call.
-/
namespace Go.Proofs.YtbadbfmeoiclfaaGreatDoor
set_option maxRecDepth 100000
open Go.RowKit

/-- A tree that is small enough to be gone through. -/
def Sto (w : World) (tv : Value) (U : List Pr) : Prop := TreeV w tv U ∧ TimesK U ∧ U.length ≤ 1000 ∧ (∀ x ∈ U, x.1.1.length ≤ 1000) ∧ (∀ x ∈ U, x.2.length ≤ 4611686018427387904) ∧ Ml w
theorem Sto.below {w w' : World} {tv : Value} {U : List Pr} (h : Sto w tv U) (hb : Below w.heap.size w w') : Sto w' tv U := ⟨h.1.below hb, h.2.1, h.2.2.1, h.2.2.2.1, h.2.2.2.2.1, h.2.2.2.2.2.below hb⟩
theorem Sto.rises {w : World} {tv : Value} {U : List Pr} (h : Sto w tv U) : Rises U := h.1.1
theorem Sto.val {w : World} {tv : Value} {U : List Pr} (h : Sto w tv U) : ∃ p, tv = .pointer p := h.1.val
/-- What Last tells. -/
def lastSo (U : List Pr) : Int := if isSt U then lastI U else 0
theorem surv_calls {tv : Value} {U : List Pr} {w : World} (h : Sto w tv U) :
    Calls Tryz.prog 38 #[tv] w fun e w' => e = .returned (.tuple #[.int .i64 (lastSo U), .bool (isSt U)]) ∧ Below w.heap.size w w' :=
  survey_calls tv U w h.1 h.rises h.2.1 h.2.2.1 h.2.2.2.1 h.2.2.2.2.1 h.2.2.2.2.2

set_option maxHeartbeats 1000000 in
theorem soIs_calls {tv : Value} {U : List Pr} {w : World} (h : Sto w tv U) :
    Calls Tryz.prog 24 #[tv] w fun e w' => e = .returned (.bool (isSt U)) ∧ Below w.heap.size w w' := by
  obtain ⟨tp, rfl⟩ := h.val
  have K := Lib.hid (surv_calls h)
  generalize isSt U = b at *
  generalize lastSo U = n at *
  clear h
  go_enter Tryz.func24, Tryz.ntmps24
  go_wp2_with fail
  refine K.out.mono ?_
  rintro e w1 ⟨rfl, hB⟩
  go_wp2_with fail
  go_ret
  exact ⟨rfl, hB⟩
set_option maxHeartbeats 1000000 in
theorem soLast_calls {tv : Value} {U : List Pr} {w : World} (h : Sto w tv U) :
    Calls Tryz.prog 26 #[tv] w fun e w' => e = .returned (.int .i64 (lastSo U)) ∧ Below w.heap.size w w' := by
  obtain ⟨tp, rfl⟩ := h.val
  have K := Lib.hid (surv_calls h)
  generalize isSt U = b at *
  generalize lastSo U = n at *
  clear h
  go_enter Tryz.func26, Tryz.ntmps26
  go_wp2_with fail
  refine K.out.mono ?_
  rintro e w1 ⟨rfl, hB⟩
  go_wp2_with fail
  go_ret
  exact ⟨rfl, hB⟩

/-- The error of a call that asks of a store; of a tree that is none another one may be told. -/
def refE (s : List UInt8) (n : Int) : Int := if isP s then (if n < 0 then 1 else 0) else 20

set_option maxHeartbeats 2000000 in
theorem refusal_calls {tv : Value} {U : List Pr} {w : World} (h : Sto w tv U) (hs : isSt U = true) (s : List UInt8) (n : Int) (hl : s.length ≤ 1000000) :
    Calls Tryz.prog 43 #[tv, .string ⟨s.toArray⟩, .int .i64 n] w fun e w' => e = .returned (.int .i64 (refE s n)) ∧ Below w.heap.size w w' := by
  obtain ⟨tp, rfl⟩ := h.val
  have KP := Lib.hid (fun W hm => is_calls s (by omega) W hm)
  have KI := Lib.hid (fun W (hB : Below w.heap.size w W) => soIs_calls (h.below hB))
  rw [hs] at KI
  have HM := Lib.hid (fun W (hB : Below w.heap.size w W) => h.2.2.2.2.2.below hB)
  clear h
  cases hp : isP s with
  | false =>
    have HE := Lib.hid (show refE s n = 20 by simp [refE, hp])
    rw [HE.out]
    rw [hp] at KP
    clear hp
    go_enter Tryz.func43, Tryz.ntmps43
    go_wp2_with fail
    first
      | (refine (KP.out _ (HM.out _ (Below.refl _ _))).mono ?_
         rintro e w1 ⟨rfl, hB⟩
         go_wp2_with fail
         go_ret
         exact ⟨rfl, hB⟩)
      | (refine (KI.out _ (Below.refl _ _)).mono ?_
         rintro e w1 ⟨rfl, hB⟩
         go_wp2_with fail
         refine (KP.out _ (HM.out _ hB)).mono ?_
         rintro e w2 ⟨rfl, hB2⟩
         go_wp2_with fail
         go_ret
         exact ⟨rfl, below2 hB hB2⟩)
  | true =>
    rw [hp] at KP
    by_cases hn : n < 0
    · have HE := Lib.hid (show refE s n = 1 by simp [refE, hp, hn])
      rw [HE.out]
      have hd : decide (n < 0) = true := decide_eq_true hn
      clear hp hn
      go_enter Tryz.func43, Tryz.ntmps43
      go_wp2_with fail
      first
        | (refine (KP.out _ (HM.out _ (Below.refl _ _))).mono ?_
           rintro e w1 ⟨rfl, hB⟩
           go_wp2_with fail
           go_ret
           exact ⟨rfl, hB⟩)
        | (refine (KI.out _ (Below.refl _ _)).mono ?_
           rintro e w1 ⟨rfl, hB⟩
           go_wp2_with fail
           refine (KP.out _ (HM.out _ hB)).mono ?_
           rintro e w2 ⟨rfl, hB2⟩
           go_wp2_with fail
           go_ret
           exact ⟨rfl, below2 hB hB2⟩)
    · have HE := Lib.hid (show refE s n = 0 by simp [refE, hp, hn])
      rw [HE.out]
      have hd : decide (n < 0) = false := decide_eq_false hn
      clear hp hn
      go_enter Tryz.func43, Tryz.ntmps43
      go_wp2_with fail
      first
        | (refine (KP.out _ (HM.out _ (Below.refl _ _))).mono ?_
           rintro e w1 ⟨rfl, hB⟩
           go_wp2_with fail
           refine (KI.out _ hB).mono ?_
           rintro e w2 ⟨rfl, hB2⟩
           go_wp2_with fail
           go_ret
           exact ⟨rfl, below2 hB hB2⟩)
        | (refine (KI.out _ (Below.refl _ _)).mono ?_
           rintro e w1 ⟨rfl, hB⟩
           go_wp2_with fail
           refine (KP.out _ (HM.out _ hB)).mono ?_
           rintro e w2 ⟨rfl, hB2⟩
           go_wp2_with fail
           go_ret
           exact ⟨rfl, below2 hB hB2⟩)

end Go.Proofs.YtbadbfmeoiclfaaGreatDoor

/-
  store.Lay.
-/
namespace Go.Proofs.YtbadbfmeoiclfaaGreatDoor
set_option maxRecDepth 100000
open Go.RowKit

theorem layP_len : ∀ (l : List Cg) (U : List Pr) (n : Int), (layP U n l).length ≤ U.length + l.length
  | [], U, n => by simp [layP]
  | c :: r, U, n => by
    have h := layP_len r (putL U ((c.1, n), cval c)) n
    show (layP (putL U ((c.1, n), cval c)) n r).length ≤ _
    rw [putL_length] at h
    rw [List.length_cons]
    split at h <;> omega
theorem layP_snoc {l : List Cg} {k : Nat} (h : k < l.length) (U : List Pr) (n : Int) : layP U n (l.take (k + 1)) = putL (layP U n (l.take k)) ((l[k].1, n), cval l[k]) := by
  have e : l.take (k + 1) = l.take k ++ [l[k]] := by rw [List.take_append_getElem]
  rw [e]
  unfold layP
  rw [List.foldl_append]
  rfl

set_option maxHeartbeats 4000000 in
theorem lay_no {tv : Value} {U : List Pr} {w : World} (h : Sto w tv U) (n : Int) (v : Value) (S : List Cv) (hS : Cgs w v S) (hn : S.length ≤ 1000000) (hs : SmallC (chs S)) (hno : (isSt U && layB U n (chs S)) = false) :
    Calls Tryz.prog 12 #[tv, .int .i64 n, v] w fun e w' => e = .returned (.tuple #[.pointer none, .int .i64 1]) ∧ Below w.heap.size w w' := by
  obtain ⟨tp, rfl⟩ := h.val
  obtain ⟨ao, cap, rfl⟩ := hS.form
  have KB := Lib.hid (baIs_calls _ S w hS hn hs h.2.2.2.2.2)
  have KS := Lib.hid (fun W (hB : Below w.heap.size w W) => surv_calls (h.below hB))
  obtain ⟨b, hb⟩ : ∃ b, isB (chs S) = b := ⟨_, rfl⟩
  obtain ⟨k, hk⟩ : ∃ b, isSt U = b := ⟨_, rfl⟩
  obtain ⟨m, hm⟩ : ∃ b, lastSo U = b := ⟨_, rfl⟩
  have hor : n < 1 ∨ (1 ≤ n ∧ 1000000000 < n) ∨ (1 ≤ n ∧ n ≤ 1000000000 ∧ b = false) ∨ (1 ≤ n ∧ n ≤ 1000000000 ∧ b = true ∧ k = false) ∨ (1 ≤ n ∧ n ≤ 1000000000 ∧ b = true ∧ k = true ∧ n ≤ m) := by
    by_cases h1 : n < 1
    · exact .inl h1
    by_cases h2 : 1000000000 < n
    · exact .inr (.inl ⟨by omega, h2⟩)
    cases b with
    | false => exact .inr (.inr (.inl ⟨by omega, by omega, rfl⟩))
    | true =>
      cases k with
      | false => exact .inr (.inr (.inr (.inl ⟨by omega, by omega, rfl, rfl⟩)))
      | true =>
        refine .inr (.inr (.inr (.inr ⟨by omega, by omega, rfl, rfl, ?_⟩)))
        have h3 : ¬ (layB U n (chs S) = true) := by
          rw [hk] at hno
          simpa using hno
        rw [layB_iff] at h3
        have h4 : lastI U = m := by rw [← hm, lastSo, hk, if_pos rfl]
        rw [h4] at h3
        have h5 : ¬ m < n := fun h => h3 ⟨by omega, by omega, hb, h⟩
        omega
  rw [hb] at KB
  rw [hk, hm] at KS
  clear h hS hs hno hb hk hm
  rcases hor with h1 | ⟨h1, h2⟩ | ⟨h1, h2, rfl⟩ | ⟨h1, h2, rfl, rfl⟩ | ⟨h1, h2, rfl, rfl, h3⟩
  · have d1 : decide (n < 1) = true := decide_eq_true h1
    go_enter Tryz.func12, Tryz.ntmps12
    go_wp2_with fail
    go_ret2
    exact ⟨rfl, Below.refl _ _⟩
  · have d1 : decide (n < 1) = false := decide_eq_false (by omega)
    have d2 : decide (1000000000 < n) = true := decide_eq_true h2
    go_enter Tryz.func12, Tryz.ntmps12
    go_wp2_with fail
    go_ret2
    exact ⟨rfl, Below.refl _ _⟩
  · have d1 : decide (n < 1) = false := decide_eq_false (by omega)
    have d2 : decide (1000000000 < n) = false := decide_eq_false (by omega)
    go_enter Tryz.func12, Tryz.ntmps12
    go_wp2_with fail
    refine KB.out.mono ?_
    rintro e w1 ⟨rfl, hB⟩
    go_wp2_with fail
    go_ret2
    exact ⟨rfl, hB⟩
  · have d1 : decide (n < 1) = false := decide_eq_false (by omega)
    have d2 : decide (1000000000 < n) = false := decide_eq_false (by omega)
    go_enter Tryz.func12, Tryz.ntmps12
    go_wp2_with fail
    refine KB.out.mono ?_
    rintro e w1 ⟨rfl, hB⟩
    go_wp2_with fail
    refine (KS.out _ hB).mono ?_
    rintro e w2 ⟨rfl, hB2⟩
    go_wp2_with fail
    go_ret2
    exact ⟨rfl, below2 hB hB2⟩
  · have d1 : decide (n < 1) = false := decide_eq_false (by omega)
    have d2 : decide (1000000000 < n) = false := decide_eq_false (by omega)
    have d3 : decide (n ≤ m) = true := decide_eq_true h3
    go_enter Tryz.func12, Tryz.ntmps12
    go_wp2_with fail
    refine KB.out.mono ?_
    rintro e w1 ⟨rfl, hB⟩
    go_wp2_with fail
    refine (KS.out _ hB).mono ?_
    rintro e w2 ⟨rfl, hB2⟩
    go_wp2_with fail
    go_ret2
    exact ⟨rfl, below2 hB hB2⟩

set_option maxHeartbeats 8000000 in
theorem lay_ok {tv : Value} {U : List Pr} {w : World} (h : Sto w tv U) (n : Int) (v : Value) (S : List Cv) (hS : Cgs w v S) (hs : SmallC (chs S)) (hk : isSt U = true) (hl : layB U n (chs S) = true) :
    Calls Tryz.prog 12 #[tv, .int .i64 n, v] w fun e w' => ∃ u, e = .returned (.tuple #[u, .int .i64 0]) ∧ TreeV w' u (layP U n (chs S)) ∧ Below w.heap.size w w' := by
  obtain ⟨l1, l2, l3, l4⟩ := layB_iff.1 hl
  have hn : S.length ≤ 20 := by
    have := (isB_iff.1 l3).2.1
    simpa using this
  have hU := h.2.2.1
  have KB := Lib.hid (baIs_calls v S w hS (by omega) hs h.2.2.2.2.2)
  have KS := Lib.hid (fun W (hB : Below w.heap.size w W) => surv_calls (h.below hB))
  have hm : lastSo U = lastI U := by rw [lastSo, if_pos hk]
  rw [l3] at KB
  rw [hk, hm] at KS
  obtain ⟨m, hme⟩ : ∃ b, lastI U = b := ⟨_, rfl⟩
  rw [hme] at KS l4
  have d1 : decide (n < 1) = false := decide_eq_false (by omega)
  have d2 : decide (1000000000 < n) = false := decide_eq_false (by omega)
  have d3 : decide (n ≤ m) = false := decide_eq_false (by omega)
  have HH := Lib.hid (And.intro h.1 (And.intro hS hs))
  obtain ⟨tp, rfl⟩ := h.val
  obtain ⟨ao, cap, rfl⟩ := hS.form
  have HL := Lib.hid (show (chs S).length = S.length by simp)
  clear h hS hs hk hl hm hme l3
  go_enter Tryz.func12, Tryz.ntmps12
  go_wp2_with fail
  refine KB.out.mono ?_
  rintro e w1 ⟨rfl, hB⟩
  go_wp2_with fail
  refine (KS.out _ hB).mono ?_
  rintro e w2 ⟨rfl, hB2⟩
  have HB2 := Lib.hid (below2 hB hB2)
  clear hB hB2
  go_wp2_with fail
  go_loopw [39, 0] (fun i t wr => ∃ k : Nat, i = .int .i64 k ∧ k ≤ S.length ∧ TreeV wr t (layP U n ((chs S).take k)) ∧ Below w.heap.size w wr) (fun i _ _ => S.length - (intOf i).toNat)
  case atStart => exact ⟨0, rfl, Nat.zero_le _, HH.out.1.below HB2.out, HB2.out⟩
  case round =>
    obtain ⟨k, rfl, hk, ht, hBr⟩ := hrel
    by_cases hlt : k < S.length
    · have hd : decide ((k : Int) < (S.length : Int)) = true := by simp; omega
      obtain ⟨b, off, rfl, ⟨c0, c1, c2, c3, c4⟩, hI⟩ := (HH.out.2.1.below hBr).at hlt
      have hltc : k < (chs S).length := by rw [HL.out]; exact hlt
      have hsm := (HH.out.2.2 _ (List.getElem_mem hltc)).2
      have hsn := Lib.hid (layP_snoc hltc U n)
      have hle := layP_len ((chs S).take k) U n
      rw [List.length_take, HL.out] at hle
      have hgt : (chs S)[k] = S[k].1 := by simp
      rw [hgt] at hsm hsn
      obtain ⟨⟨⟨q, g, z, d, cs⟩, vv⟩, hx⟩ : ∃ x, S[k] = x := ⟨_, rfl⟩
      rw [hx] at c0 c1 c2 c3 c4 hI hsm hsn
      dsimp only at c0 c1 c2 c3 c4 hI hsm hsn
      obtain ⟨s1, s3, rfl⟩ := hI.form
      obtain ⟨tq, rfl⟩ := ht.val
      obtain ⟨s2, hs2⟩ : ∃ n, cs.length = n := ⟨_, rfl⟩
      have KV := Lib.hid (fun W (hB : Below wr.heap.size wr W) => mValue_calls z d _ cs g W (hI.below hB) hsm)
      have KT := Lib.hid (fun s W (hB : Below wr.heap.size wr W) => tput_calls _ _ q n s W (ht.below hB) (by omega))
      have HX := Lib.hid (Cx.new wr 62 [.string ⟨q.toArray⟩, .bool g, .int .i64 z, .int .i64 d, .slice s1 s2 s3])
      have hBa := below_alloc wr (.cells #[.string ⟨q.toArray⟩, .bool g, .int .i64 z, .int .i64 d, .slice s1 s2 s3] 62)
      have HBR := Lib.hid (And.intro hBr hBa)
      rw [hs2] at c4 KV
      clear hI hsm hx hgt ht hBr hBa
      go_wp2_with fail
      refine (KV.out _ HBR.out.2).mono ?_
      rintro e w3 ⟨rfl, hB3⟩
      clear c0 c1 c2 c3 c4
      obtain ⟨c0, c1, c2, c3, c4⟩ := (HX.out.below hB3).five
      have HB3 := Lib.hid (below2 HBR.out.2 hB3)
      clear hB3
      go_wp2_with fail
      refine (KT.out _ _ HB3.out).mono ?_
      rintro e w4 ⟨u, rfl, hu, hB4⟩
      have HU := Lib.hid hu
      clear hu
      go_wp2_with fail
      go_roundw
      case rel => exact ⟨k + 1, by go_num, by omega, by rw [hsn.out]; exact HU.out, below3 HBR.out.1 HB3.out hB4⟩
      case measure => simp [intOf]; omega
    · obtain rfl : k = S.length := by omega
      have hd : decide ((S.length : Int) < (S.length : Int)) = false := by simp
      rw [List.take_of_length_le (Nat.le_of_eq HL.out)] at ht
      have HT := Lib.hid ht
      clear ht
      go_wp2_with fail
      go_ret2
      exact ⟨_, rfl, HT.out, hBr⟩

end Go.Proofs.YtbadbfmeoiclfaaGreatDoor

/-
  store.file: what is told of a path and a time.
-/
namespace Go.Proofs.YtbadbfmeoiclfaaGreatDoor
set_option maxRecDepth 100000
open Go.RowKit

theorem asOf_place {V : List Pr} (h : Rises V) (p : List UInt8) (m : Int) : asOf V p m = if placeN V (p, m) < V.length ∧ (hereP V (placeN V (p, m))).1.1 = p then some (hereP V (placeN V (p, m))) else none := by
  rw [asOf_tail h]
  unfold tailL
  by_cases hlt : placeN V (p, m) < V.length
  · rw [List.drop_eq_getElem_cons hlt, hereP_lt hlt]
    dsimp only
    by_cases hp : V[placeN V (p, m)].1.1 = p
    · rw [if_pos hp, if_pos ⟨hlt, hp⟩]
    · rw [if_neg hp, if_neg fun h => hp h.2]
  · rw [List.drop_eq_nil_of_le (by omega), if_neg fun h => hlt h.1]
theorem asOf_under {U : List Pr} {d p : List UInt8} (h : underOf d p = true) (n : Int) : asOf (underL U d) p n = asOf U p n := by
  unfold asOf underL
  rw [List.find?_filter]
  congr 1
  funext x
  by_cases hx : x.1.1 = p
  · rw [hx, h]
    simp
  · simp [hx]

/-- An entry as a value; what stands for none. -/
abbrev EV (e : En) (v : Value) : Value := .agg #[.string ⟨e.1.toArray⟩, .int .i64 e.2.1, .int .i64 e.2.2.1, .int .i64 e.2.2.2.1, v]
def enD (o : Option En) : En := o.getD ([], 0, 0, 0, [])
theorem ent_agg (w : World) : (isAgg 41).run Tryz.prog w = .ok true w := by simp [isAgg, run_underlying Tryz.underlying41]
theorem ent_size : (Tryz.prog.info? 41).map (·.size) = some 5 := by kernel_rfl
theorem load_ent (w : World) (g : Nat) (v0 v1 v2 v3 v4 : Value) (h : Cx w g 41 [v0, v1, v2, v3, v4]) : (loadVar 41 ⟨g, 0, none⟩).run Tryz.prog w = .ok (.agg #[v0, v1, v2, v3, v4]) w :=
  load_many (cs := [v0, v1, v2, v3, v4]) (ent_agg w) ent_size (cells_box h)
/-- An entry and a bool are what comes out of a call. -/
theorem ret_ent2 {fn : Func} {p q : Tmp} {R : Ending → World → Prop} {a : Act} {w : World} (h : fn.results = #[.cell p 41, .tmp q]) (hd : a.defers = []) (g : Nat) (v0 v1 v2 v3 v4 u : Value) (hp : a.tmps.getD p undef = .pointer (some ⟨g, 0, none⟩))
    (hq : a.tmps.getD q undef = u) (hc : Cx w g 41 [v0, v1, v2, v3, v4]) (hR : R (.returned (.tuple #[.agg #[v0, v1, v2, v3, v4], u])) w) : bodyPost Tryz.prog fn R .ret a w := by
  refine bodyPost_ret (v := .tuple #[.agg #[v0, v1, v2, v3, v4], u]) ?_ hd hR
  have hp' : a.tmps[p]?.getD undef = .pointer (some ⟨g, 0, none⟩) := by simpa using hp
  have hq' : a.tmps[q]?.getD undef = u := by simpa using hq
  simp [results, h, hp', hq', asAddr, load_ent w g v0 v1 v2 v3 v4 hc]
theorem Cx.five2 {w : World} {b : Nat} {t : TypeId} {v0 v1 v2 v3 v4 : Value} (h : Cx w b t [v0, v1, v2, v3, v4]) : (w.cell? ⟨b, 0, none⟩ = some v0 ∧ w.cell? ⟨b, 1, none⟩ = some v1 ∧ w.cell? ⟨b, 2, none⟩ = some v2 ∧ w.cell? ⟨b, 3, none⟩ = some v3 ∧ w.cell? ⟨b, 4, none⟩ = some v4) ∧
    (w.frozen? ⟨b, 0, none⟩ = false ∧ w.frozen? ⟨b, 1, none⟩ = false ∧ w.frozen? ⟨b, 2, none⟩ = false ∧ w.frozen? ⟨b, 3, none⟩ = false ∧ w.frozen? ⟨b, 4, none⟩ = false) ∧ b < w.heap.size :=
  ⟨⟨h.cell rfl, h.cell rfl, h.cell rfl, h.cell rfl, h.cell rfl⟩, ⟨h.frozen _, h.frozen _, h.frozen _, h.frozen _, h.frozen _⟩, h.lt⟩
theorem Cx.sets5 {w : World} {b : Nat} {t : TypeId} {v0 v1 v2 v3 v4 : Value} (h : Cx w b t [v0, v1, v2, v3, v4]) (x y z u v : Value) : Cx (((((w.setCell ⟨b, 0, none⟩ x).setCell ⟨b, 1, none⟩ y).setCell ⟨b, 2, none⟩ z).setCell ⟨b, 3, none⟩ u).setCell ⟨b, 4, none⟩ v) b t [x, y, z, u, v] :=
  ((((h.set 0 x).set 1 y).set 2 z).set 3 u).set 4 v
theorem Keeps.sets5 {g b : Nat} {w w' : World} (h : Keeps g w w') (hb : w.heap.size ≤ b) (x y z u v : Value) : Keeps g w (((((w'.setCell ⟨b, 0, none⟩ x).setCell ⟨b, 1, none⟩ y).setCell ⟨b, 2, none⟩ z).setCell ⟨b, 3, none⟩ u).setCell ⟨b, 4, none⟩ v) :=
  ((((h.other hb 0 x).other hb 1 y).other hb 2 z).other hb 3 u).other hb 4 v
theorem keeps_sets5 (b : Nat) (w : World) (x y z u v : Value) : Keeps b w (((((w.setCell ⟨b, 0, none⟩ x).setCell ⟨b, 1, none⟩ y).setCell ⟨b, 2, none⟩ z).setCell ⟨b, 3, none⟩ u).setCell ⟨b, 4, none⟩ v) :=
  (((((Keeps.refl b w).set 0 x).set 1 y).set 2 z).set 3 u).set 4 v

/-- What file leaves. -/
def FilePost (wt : World) (lo g : Nat) (V : List Pr) (w : World) (o : Option En) (e : Ending) (w' : World) : Prop :=
  ∃ v, e = .returned (.tuple #[EV (enD o) v, .bool o.isSome]) ∧ OwnI w' w.heap.size v (enD o).2.2.2.2 ∧ (∃ j, CurH wt lo w' g V j) ∧ Keeps g w w'

set_option maxHeartbeats 8000000 in
theorem file_calls {wt w : World} {lo g : Nat} {V : List Pr} {i : Nat} (hc : CurH wt lo w g V i) (hv : ∀ x ∈ V, verB x = true ∧ x.2.length ≤ 4611686018427387904) (hml : Ml wt) (p : List UInt8) (n : Int) (hp : isP p = true) (h0 : 0 ≤ n) :
    Calls Tryz.prog 45 #[.func (.func 46) #[.pointer (some ⟨g, 0, none⟩)] #[], .func (.func 47) #[.pointer (some ⟨g, 0, none⟩)] #[], .string ⟨p.toArray⟩, .int .i64 n] w (FilePost wt lo g V w (told (asOf V p n))) := by
  obtain ⟨hr, ht, hl, hpl, _, hwg, hbt⟩ := hc.facts
  have hp100 : p.length ≤ 1000000 := by
    have := under_len ((under_root p).trans hp)
    omega
  have hkt : keyB (topK p n) = true := by rw [first_ref, hp]; simp [h0]
  obtain ⟨m, hme⟩ : ∃ m, min n 1000000000 = m := ⟨_, rfl⟩
  have hK1 : firstK p n = (p, m) := by rw [firstK, if_pos hkt, topK, hme]
  have hK2 : firstE p n = 0 := by rw [firstE, if_pos hkt]
  have htop : asOf V p n = asOf V p m := by
    rw [← hme, asOf_top fun x hx => (ver_times (hv x hx).1).2]
  have hpl2 := asOf_place hr p m
  rw [htop]
  have KF := Lib.hid (fun W hm => kFirst_calls p n hp100 W hm)
  rw [hK1, hK2] at KF
  have hB0 := below_alloc w (.cells #[.string ⟨#[]⟩, .int .i64 0, .int .i64 0, .int .i64 0, .slice none 0 0] 41)
  have HM := Lib.hid (hml.below hbt)
  have hml2 := Lib.hid (fun W (h : CurH wt lo W g V (nextI V (placeN V (p, m)))) => hml.below h.facts.2.2.2.2.2.2)
  have HE := Lib.hid (Cx.new w 41 [.string ⟨#[]⟩, .int .i64 0, .int .i64 0, .int .i64 0, .slice none 0 0])
  have HC := Lib.hid (And.intro (hc.below hB0) hB0)
  have hgl := hc.cells.choose_spec.2.2.2.2
  obtain ⟨j, hj⟩ : ∃ j, placeN V (p, m) = j := ⟨_, rfl⟩
  rw [hj] at hpl2
  have KS := Lib.hid (fun (W : World) (i : Nat) (h : CurH wt lo W g V i) => hSeek_calls h (p, m))
  rw [hj] at KS hml2
  dsimp only [KV] at KS
  have KN := Lib.hid (fun (W : World) (h : CurH wt lo W g V j) => hNext_calls h)
  have HV := Lib.hid (And.intro hv (And.intro hpl (And.intro hr ht)))
  clear hc hr ht hl hpl hv hwg hbt hp100 hkt hme hK1 hK2 htop hB0 hj hml
  obtain ⟨o, ho⟩ : ∃ o, told (asOf V p m) = o := ⟨_, rfl⟩
  rw [ho]
  by_cases hlt : j < V.length
  · have hx := hereP_lt hlt
    have hmem := List.getElem_mem hlt
    obtain ⟨⟨⟨q, tm⟩, s⟩, hxe⟩ : ∃ x, hereP V j = x := ⟨_, rfl⟩
    rw [← hx, hxe] at hmem
    rw [hxe] at KN hpl2
    have hd : decide (j < V.length) = true := decide_eq_true hlt
    rw [hd] at KN
    dsimp only [PV] at KN
    dsimp only at hpl2
    obtain ⟨hver, hvl⟩ := HV.out.1 _ hmem
    have hql := HV.out.2.1 _ hmem
    dsimp only at hvl hql
    have HX := Lib.hid (And.intro hver (And.intro hvl hql))
    clear hx hxe hd hver hvl hql hmem
    go_enter Tryz.func45, Tryz.ntmps45
    go_wp2_with fail
    refine (KF.out _ (HM.out.below HC.out.2)).mono ?_
    rintro e w1 ⟨rfl, hB1⟩
    have hBa := below_alloc w1 (.cells #[.string ⟨p.toArray⟩, .int .i64 m] 72)
    have HC1 := Lib.hid (And.intro ((HC.out.1.below hB1).below hBa) (below3 HC.out.2 hB1 hBa))
    have HE1 := Lib.hid ((HE.out.below hB1).below hBa)
    clear hB1 hBa
    go_wp2_with fail
    refine (KS.out _ _ HC1.out.1).mono ?_
    rintro e w2 ⟨rfl, hc2, hk2⟩
    have HC2 := Lib.hid (And.intro hc2 (Keeps.start HC1.out.2 hk2))
    have HE2 := Lib.hid (HE1.out.keeps (by omega) hk2)
    clear hc2 hk2
    go_wp2_with fail
    refine (KN.out _ HC2.out.1).mono ?_
    rintro e w3 ⟨rfl, hc3, hk3⟩
    have hBa := below_alloc w3 (.cells #[.string ⟨q.toArray⟩, .int .i64 tm, .string ⟨s.toArray⟩] 74)
    have HC3 := Lib.hid (And.intro (hc3.below hBa) ((HC2.out.2.trans hk3).then hBa))
    have HE3 := Lib.hid ((HE2.out.keeps (by omega) hk3).below hBa)
    have HP := Lib.hid (Cx.new w3 74 [.string ⟨q.toArray⟩, .int .i64 tm, .string ⟨s.toArray⟩])
    have hs3 := (HC2.out.2.trans hk3).size
    clear hc3 hk3 hBa
    by_cases hq : q = p
    · subst hq
      rw [if_pos ⟨hlt, rfl⟩] at hpl2
      have hmW := hml2.out _ HC3.out.1
      have KV := Lib.hid (fun W hm => ver_ok q tm s (by have := HX.out.2.2; omega) HX.out.2.1 W hm HX.out.1)
      have hqq : (q == q) = true := by simp
      cases hg : redG s with
      | true =>
        rw [hg] at KV
        have ho2 : o = none := by rw [← ho, hpl2]; unfold told; dsimp only; rw [if_pos hg]
        subst ho2
        clear hg ho hpl2 hlt
        go_wp2_with fail
        refine (KV.out _ hmW).mono ?_
        rintro e w4 ⟨v, rfl, hI, hB4⟩
        obtain ⟨aM, cM, rfl⟩ := (ints_own hI).form
        obtain ⟨nM, hnM⟩ : ∃ k, (redM s).2.2.length = k := ⟨_, rfl⟩
        rw [hnM]
        have hBb := below_alloc w4 (.cells #[.int .i64 (redM s).1, .int .i64 (redM s).2.1, .slice aM nM cM] 39)
        have HC4 := Lib.hid (And.intro ((HC3.out.1.below hB4).below hBb) ((HC3.out.2.then hB4).then hBb))
        have HE4 := Lib.hid ((HE3.out.below hB4).below hBb)
        clear hI hB4 hBb hnM
        obtain ⟨⟨e0, e1, e2, e3, e4⟩, ⟨f0, f1, f2, f3, f4⟩, hlE⟩ := HE4.out.five2
        go_wp2_with fail
        have hkk := keeps_sets5 w.heap.size (w4.alloc (.cells #[.int .i64 (redM s).1, .int .i64 (redM s).2.1, .slice aM nM cM] 39)) (.string ⟨#[]⟩) (.int .i64 0) (.int .i64 0) (.int .i64 0) (.slice none 0 0)
        refine ret_ent2 rfl rfl w.heap.size _ _ _ _ _ _ rfl rfl (HE4.out.sets5 _ _ _ _ _) ⟨_, rfl, World.ownsRow_nil _ _ _ _, ⟨_, HC4.out.1.other hkk (by omega) (by omega)⟩, HC4.out.2.sets5 (Nat.le_refl _) _ _ _ _ _⟩
      | false =>
        rw [hg] at KV
        obtain ⟨⟨z1, z2, z3⟩, hM⟩ : ∃ x, redM s = x := ⟨_, rfl⟩
        have ho2 : o = some (q, tm, z1, z2, z3) := by rw [← ho, hpl2]; unfold told; dsimp only; rw [if_neg (by rw [hg]; simp), hM]
        subst ho2
        rw [hM] at KV
        dsimp only at KV
        clear hg ho hpl2 hlt hM
        go_wp2_with fail
        refine (KV.out _ hmW).mono ?_
        rintro e w4 ⟨v, rfl, hI, hB4⟩
        obtain ⟨aM, cM, rfl⟩ := (ints_own hI).form
        obtain ⟨nM, hnM⟩ : ∃ k, z3.length = k := ⟨_, rfl⟩
        rw [hnM] at hI ⊢
        have hBb := below_alloc w4 (.cells #[.int .i64 z1, .int .i64 z2, .slice aM nM cM] 39)
        have HC4 := Lib.hid (And.intro ((HC3.out.1.below hB4).below hBb) ((HC3.out.2.then hB4).then hBb))
        have HE4 := Lib.hid ((HE3.out.below hB4).below hBb)
        have HI := Lib.hid (own_stays hI hBb)
        obtain ⟨x0, x1, x2, _⟩ := ((HP.out.below hB4).below hBb).three
        obtain ⟨y0, y1, y2, _⟩ := (Cx.new w4 39 [.int .i64 z1, .int .i64 z2, .slice aM nM cM]).three
        have HN := Lib.hid hnM
        clear hI hB4 hBb hnM
        obtain ⟨⟨e0, e1, e2, e3, e4⟩, ⟨f0, f1, f2, f3, f4⟩, hlE⟩ := HE4.out.five2
        go_wp2_with fail
        have hkk := keeps_sets5 w.heap.size (w4.alloc (.cells #[.int .i64 z1, .int .i64 z2, .slice aM nM cM] 39)) (.string ⟨q.toArray⟩) (.int .i64 tm) (.int .i64 z1) (.int .i64 z2) (.slice aM nM cM)
        refine ret_ent2 rfl rfl w.heap.size _ _ _ _ _ _ rfl rfl (HE4.out.sets5 _ _ _ _ _) ⟨_, rfl, ?_, ⟨_, HC4.out.1.other hkk (by omega) (by omega)⟩, HC4.out.2.sets5 (Nat.le_refl _) _ _ _ _ _⟩
        have h1 := HI.out
        rw [← HN.out] at h1 ⊢
        have hl : w.heap.size < w3.heap.size + 1 := by omega
        refine own_weak (b := w.heap.size) (own_above (own_above (own_above (own_above (own_above h1 ?_ 0 _) ?_ 1 _) ?_ 2 _) ?_ 3 _) ?_ 4 _) ?_ <;> (try rw [World.size_alloc]) <;> omega
    · have ho2 : o = none := by rw [← ho, hpl2, if_neg fun h => hq h.2]; rfl
      subst ho2
      have hqn : (q == p) = false := by simpa using hq
      clear hq ho hpl2 hlt
      obtain ⟨⟨e0, e1, e2, e3, e4⟩, ⟨f0, f1, f2, f3, f4⟩, hlE⟩ := HE3.out.five2
      go_wp2_with fail
      have hkk := keeps_sets5 w.heap.size (w3.alloc (.cells #[.string ⟨q.toArray⟩, .int .i64 tm, .string ⟨s.toArray⟩] 74)) (.string ⟨#[]⟩) (.int .i64 0) (.int .i64 0) (.int .i64 0) (.slice none 0 0)
      refine ret_ent2 rfl rfl w.heap.size _ _ _ _ _ _ rfl rfl (HE3.out.sets5 _ _ _ _ _) ⟨_, rfl, World.ownsRow_nil _ _ _ _, ⟨_, HC3.out.1.other hkk (by omega) (by omega)⟩, HC3.out.2.sets5 (Nat.le_refl _) _ _ _ _ _⟩
  · have ho2 : o = none := by rw [← ho, hpl2, if_neg fun h => hlt h.1]; rfl
    subst ho2
    have hd : decide (j < V.length) = false := decide_eq_false hlt
    have hh : hereP V j = (([], 0), []) := by unfold hereP; rw [List.getElem?_eq_none (by omega)]; rfl
    rw [hd, hh] at KN
    clear hpl2 ho hd hh hlt
    go_enter Tryz.func45, Tryz.ntmps45
    go_wp2_with fail
    refine (KF.out _ (HM.out.below HC.out.2)).mono ?_
    rintro e w1 ⟨rfl, hB1⟩
    have hBa := below_alloc w1 (.cells #[.string ⟨p.toArray⟩, .int .i64 m] 72)
    have HC1 := Lib.hid (And.intro ((HC.out.1.below hB1).below hBa) (below3 HC.out.2 hB1 hBa))
    have HE1 := Lib.hid ((HE.out.below hB1).below hBa)
    clear hB1 hBa
    go_wp2_with fail
    refine (KS.out _ _ HC1.out.1).mono ?_
    rintro e w2 ⟨rfl, hc2, hk2⟩
    have HC2 := Lib.hid (And.intro hc2 (Keeps.start HC1.out.2 hk2))
    have HE2 := Lib.hid (HE1.out.keeps (by omega) hk2)
    clear hc2 hk2
    go_wp2_with fail
    refine (KN.out _ HC2.out.1).mono ?_
    rintro e w3 ⟨rfl, hc3, hk3⟩
    have hBa := below_alloc w3 (.cells #[.string ⟨#[]⟩, .int .i64 0, .string ⟨#[]⟩] 74)
    have HC3 := Lib.hid (And.intro (hc3.below hBa) ((HC2.out.2.trans hk3).then hBa))
    have HE3 := Lib.hid ((HE2.out.keeps (by omega) hk3).below hBa)
    clear hc3 hk3 hBa
    obtain ⟨⟨e0, e1, e2, e3, e4⟩, ⟨f0, f1, f2, f3, f4⟩, hlE⟩ := HE3.out.five2
    go_wp2_with fail
    have hkk := keeps_sets5 w.heap.size (w3.alloc (.cells #[.string ⟨#[]⟩, .int .i64 0, .string ⟨#[]⟩] 74)) (.string ⟨#[]⟩) (.int .i64 0) (.int .i64 0) (.int .i64 0) (.slice none 0 0)
    refine ret_ent2 rfl rfl w.heap.size _ _ _ _ _ _ rfl rfl (HE3.out.sets5 _ _ _ _ _) ⟨_, rfl, World.ownsRow_nil _ _ _ _, ⟨_, HC3.out.1.other hkk (by omega) (by omega)⟩, HC3.out.2.sets5 (Nat.le_refl _) _ _ _ _ _⟩

end Go.Proofs.YtbadbfmeoiclfaaGreatDoor

/-
  Stores in plain words: what List tells stays, and rises. No program is named here.
-/
namespace Go.Proofs.YtbadbfmeoiclfaaGreatDoor
set_option maxRecDepth 100000

/-- Entries whose paths rise. -/
def RiseE (l : List En) : Prop := l.Pairwise fun a b => Op.bytesLess a.1 b.1 = true
theorem riseE_same : ∀ {a b : List En}, RiseE a → RiseE b → (∀ x, x ∈ a ↔ x ∈ b) → a = b
  | [], [], _, _, _ => rfl
  | [], y :: s, _, _, h => absurd ((h y).2 (by simp)) (by simp)
  | x :: r, [], _, _, h => absurd ((h x).1 (by simp)) (by simp)
  | x :: r, y :: s, ha, hb, h => by
    obtain ⟨a1, a2⟩ := List.pairwise_cons.1 ha
    obtain ⟨b1, b2⟩ := List.pairwise_cons.1 hb
    have e : x = y := by
      rcases List.mem_cons.1 ((h x).1 (by simp)) with e | hx
      · exact e
      · rcases List.mem_cons.1 ((h y).2 (by simp)) with e | hy
        · exact e.symm
        · have := less_trans (a1 y hy) (b1 x hx)
          rw [less_irrefl] at this
          cases this
    subst e
    refine congrArg (x :: ·) (riseE_same a2 b2 fun z => ⟨fun hz => ?_, fun hz => ?_⟩)
    · rcases List.mem_cons.1 ((h z).1 (List.mem_cons_of_mem _ hz)) with rfl | hz'
      · have := a1 z hz
        rw [less_irrefl] at this
        cases this
      · exact hz'
    · rcases List.mem_cons.1 ((h z).2 (List.mem_cons_of_mem _ hz)) with rfl | hz'
      · have := b1 z hz
        rw [less_irrefl] at this
        cases this
      · exact hz'
theorem list_rise {U : List Pr} (h : Rises U) (d : List UInt8) (n : Int) : RiseE (listL U d n) := by
  have hp : ((pathsL U).filter (underOf d)).Pairwise fun a b => Op.bytesLess a b = true := List.Pairwise.filter _ (paths_rise h)
  have hpath : ∀ {p : List UInt8} {e : En}, told (asOf U p n) = some e → e.1 = p := by
    intro p e ht
    cases ha : asOf U p n with
    | none => rw [ha] at ht; cases ht
    | some x =>
      rw [ha] at ht
      unfold told at ht
      dsimp only at ht
      split at ht
      · cases ht
      · cases ht
        exact ((asOf_iff h).1 ha).2.1
  unfold listL RiseE
  rw [List.pairwise_filterMap]
  refine List.Pairwise.imp (fun {a b} hab e he f hf => ?_) hp
  rw [hpath he, hpath hf]
  exact hab
/-- What List tells hangs on what AsOf tells alone. -/
theorem list_ext {U V : List Pr} (hU : Rises U) (hV : Rises V) {d : List UInt8} {n : Int} (h : ∀ p, underOf d p = true → told (asOf U p n) = told (asOf V p n)) : listL U d n = listL V d n := by
  refine riseE_same (list_rise hU d n) (list_rise hV d n) fun e => ?_
  rw [mem_list hU, mem_list hV]
  constructor
  · rintro ⟨h1, h2⟩
    exact ⟨h1, (h e.1 h1) ▸ h2⟩
  · rintro ⟨h1, h2⟩
    exact ⟨h1, (h e.1 h1).symm ▸ h2⟩
/-- What List tells of an earlier time stays. -/
theorem list_stays {l : List Cg} {U : List Pr} {n m : Int} (h : Rises U) (hl : layB U n l = true) (hm : m < n) (d : List UInt8) : listL (layP U n l) d m = listL U d m := by
  obtain ⟨_, _, l3, l4⟩ := layB_iff.1 hl
  obtain ⟨_, _, _, b4⟩ := isB_iff.1 l3
  refine list_ext (lay_rises l n h) h fun p _ => ?_
  rw [asOf_ahead h (sort_unlike b4) (till_last l4) hm]

end Go.Proofs.YtbadbfmeoiclfaaGreatDoor

/-
  The paths that a cursor's Skip tells, one behind the other.
-/
namespace Go.Proofs.YtbadbfmeoiclfaaGreatDoor
set_option maxRecDepth 100000

theorem paths_cons : ∀ (x : Pr) (r : List Pr), pathsL (x :: r) = x.1.1 :: pathsL ((x :: r).dropWhile fun y => decide (y.1.1 = x.1.1))
  | x, [] => by simp [pathsL]
  | x, y :: r => by
    rw [pathsL]
    by_cases h : x.1.1 = y.1.1
    · have e1 : (x :: y :: r).dropWhile (fun z => decide (z.1.1 = x.1.1)) = (y :: r).dropWhile (fun z => decide (z.1.1 = y.1.1)) := by
        rw [List.dropWhile_cons_of_pos (by simp), h]
      rw [if_pos h, paths_cons y r, e1, h]
    · rw [if_neg h, List.dropWhile_cons_of_pos (by simp), List.dropWhile_cons_of_neg (by simpa using fun e => h e.symm)]
theorem drop_while {α : Type} (f : α → Bool) (l : List α) : l.dropWhile f = l.drop (l.takeWhile f).length := by
  induction l with
  | nil => rfl
  | cons x r ih =>
    by_cases h : f x = true
    · rw [List.dropWhile_cons_of_pos h, List.takeWhile_cons_of_pos h, List.length_cons, List.drop_succ_cons, ih]
    · rw [List.dropWhile_cons_of_neg h, List.takeWhile_cons_of_neg h]
      rfl
theorem take_while_all {α : Type} {f : α → Bool} : ∀ {l : List α} {x : α}, x ∈ l.takeWhile f → f x = true
  | [], x, h => by cases h
  | y :: r, x, h => by
    by_cases hy : f y = true
    · rw [List.takeWhile_cons_of_pos hy] at h
      rcases List.mem_cons.1 h with rfl | h
      · exact hy
      · exact take_while_all h
    · rw [List.takeWhile_cons_of_neg hy] at h
      cases h
theorem drop_while_head {α : Type} {f : α → Bool} : ∀ {l s : List α} {y : α}, l.dropWhile f = y :: s → f y = false
  | [], s, y, h => by cases h
  | z :: r, s, y, h => by
    by_cases hz : f z = true
    · rw [List.dropWhile_cons_of_pos hz] at h
      exact drop_while_head h
    · rw [List.dropWhile_cons_of_neg hz] at h
      cases h
      simpa using hz
/-- Where a cursor is behind k Skips. -/
def skipN (V : List Pr) : Nat → Nat
  | 0 => 0
  | k + 1 => skipI V (skipN V k)
theorem skip_next {V : List Pr} (hr : Rises V) (ht : TimesK V) {i : Nat} (hi : i < V.length) : skipI V i = i + ((V.drop i).takeWhile fun y => decide (y.1.1 = V[i].1.1)).length := by
  have hd := List.drop_eq_getElem_cons hi
  obtain ⟨m, hm⟩ : ∃ m, ((V.drop i).takeWhile fun y => decide (y.1.1 = V[i].1.1)).length = m := ⟨_, rfl⟩
  have hle : m ≤ (V.drop i).length := by rw [← hm]; exact List.IsPrefix.length_le (List.takeWhile_prefix _)
  rw [List.length_drop] at hle
  have hsk : skipI V i = placeN V (cuPast V[i].1.1) := by
    unfold skipI
    rw [if_pos hi, hereP_lt hi]
  rw [hm, hsk]
  refine skip_place hr ht hi (by omega) (by omega) (fun q hq hiq hqj => ?_) (fun hj => ?_)
  · have hlt : q - i < ((V.drop i).takeWhile fun y => decide (y.1.1 = V[i].1.1)).length := by omega
    have h1 := take_while_all (List.getElem_mem hlt)
    rw [decide_eq_true_eq] at h1
    have h2 : ((V.drop i).takeWhile fun y => decide (y.1.1 = V[i].1.1))[q - i] = V[q] := by
      have h3 := List.IsPrefix.getElem (List.takeWhile_prefix (fun y : Pr => decide (y.1.1 = V[i].1.1)) (l := V.drop i)) hlt
      rw [h3, List.getElem_drop]
      congr 1
      omega
    rw [h2] at h1
    exact h1
  · have h1 : (V.drop i).dropWhile (fun y => decide (y.1.1 = V[i].1.1)) = V.drop (i + m) := by rw [drop_while, hm, List.drop_drop]
    have h3 := drop_while_head (h1.trans (List.drop_eq_getElem_cons hj))
    rw [decide_eq_false_iff_not] at h3
    exact h3
theorem skip_le {V : List Pr} (hr : Rises V) (ht : TimesK V) : ∀ k, skipN V k ≤ V.length ∧ pathsL (V.drop (skipN V k)) = (pathsL V).drop k
  | 0 => ⟨Nat.zero_le _, rfl⟩
  | k + 1 => by
    obtain ⟨h1, h2⟩ := skip_le hr ht k
    by_cases hi : skipN V k < V.length
    · have e := skip_next hr ht hi
      have hd := List.drop_eq_getElem_cons hi
      obtain ⟨m, hm⟩ : ∃ m, ((V.drop (skipN V k)).takeWhile fun y => decide (y.1.1 = V[skipN V k].1.1)).length = m := ⟨_, rfl⟩
      have hle : m ≤ (V.drop (skipN V k)).length := by rw [← hm]; exact List.IsPrefix.length_le (List.takeWhile_prefix _)
      rw [List.length_drop] at hle
      rw [hm] at e
      refine ⟨by rw [skipN, e]; omega, ?_⟩
      rw [skipN, e]
      have h3 := paths_cons V[skipN V k] (V.drop (skipN V k + 1))
      rw [← hd, drop_while, hm, List.drop_drop, h2] at h3
      have h5 := congrArg List.tail h3
      rw [List.tail_drop] at h5
      exact h5.symm
    · have e : skipI V (skipN V k) = skipN V k := by
        unfold skipI
        rw [if_neg hi]
      refine ⟨by rw [skipN, e]; exact h1, ?_⟩
      rw [skipN, e, h2]
      have h3 : (pathsL V).drop k = [] := by
        rw [← h2, List.drop_eq_nil_of_le (by omega)]
        rfl
      have := List.drop_eq_nil_iff.1 h3
      rw [h3, List.drop_eq_nil_of_le (by omega)]
theorem paths_len_pos {V : List Pr} (h : V ≠ []) : pathsL V ≠ [] := by
  cases V with
  | nil => exact absurd rfl h
  | cons x r => rw [paths_cons]; simp
theorem skip_lt {V : List Pr} (hr : Rises V) (ht : TimesK V) (k : Nat) : decide (skipN V k < V.length) = decide (k < (pathsL V).length) := by
  obtain ⟨h1, h2⟩ := skip_le hr ht k
  rw [decide_eq_decide]
  constructor
  · intro h
    have h3 : pathsL (V.drop (skipN V k)) ≠ [] := paths_len_pos (by simpa using h)
    rw [h2] at h3
    have : ¬ (pathsL V).length ≤ k := fun hle => h3 (List.drop_eq_nil_of_le hle)
    omega
  · intro h
    have : ¬ V.length ≤ skipN V k := fun hle => by
      rw [List.drop_eq_nil_of_le hle] at h2
      have h3 := congrArg List.length h2
      simp [pathsL] at h3
      omega
    omega
theorem skip_at {V : List Pr} (hr : Rises V) (ht : TimesK V) {k : Nat} (hk : k < (pathsL V).length) : (hereP V (skipN V k)).1.1 = (pathsL V)[k] := by
  obtain ⟨_, h2⟩ := skip_le hr ht k
  have hi : skipN V k < V.length := by
    have := skip_lt hr ht k
    rw [decide_eq_true hk, decide_eq_true_eq] at this
    exact this
  rw [hereP_lt hi]
  rw [List.drop_eq_getElem_cons hi, paths_cons, List.drop_eq_getElem_cons hk] at h2
  exact (List.cons.inj h2).1

/-! ### What List tells -/

theorem rise_same : ∀ {a b : List (List UInt8)}, (a.Pairwise fun x y => Op.bytesLess x y = true) → (b.Pairwise fun x y => Op.bytesLess x y = true) → (∀ x, x ∈ a ↔ x ∈ b) → a = b
  | [], [], _, _, _ => rfl
  | [], y :: s, _, _, h => absurd ((h y).2 (by simp)) (by simp)
  | x :: r, [], _, _, h => absurd ((h x).1 (by simp)) (by simp)
  | x :: r, y :: s, ha, hb, h => by
    obtain ⟨a1, a2⟩ := List.pairwise_cons.1 ha
    obtain ⟨b1, b2⟩ := List.pairwise_cons.1 hb
    have e : x = y := by
      rcases List.mem_cons.1 ((h x).1 (by simp)) with e | hx
      · exact e
      · rcases List.mem_cons.1 ((h y).2 (by simp)) with e | hy
        · exact e.symm
        · have := less_trans (a1 y hy) (b1 x hx)
          rw [less_irrefl] at this
          cases this
    subst e
    refine congrArg (x :: ·) (rise_same a2 b2 fun z => ⟨fun hz => ?_, fun hz => ?_⟩)
    · rcases List.mem_cons.1 ((h z).1 (List.mem_cons_of_mem _ hz)) with rfl | hz'
      · have := a1 z hz
        rw [less_irrefl] at this
        cases this
      · exact hz'
    · rcases List.mem_cons.1 ((h z).2 (List.mem_cons_of_mem _ hz)) with rfl | hz'
      · have := b1 z hz
        rw [less_irrefl] at this
        cases this
      · exact hz'
theorem underL_rises {U : List Pr} (h : Rises U) (d : List UInt8) : Rises (underL U d) := List.Pairwise.filter _ h
theorem paths_under {U : List Pr} (h : Rises U) (d : List UInt8) : pathsL (underL U d) = (pathsL U).filter (underOf d) := by
  refine rise_same (paths_rise (underL_rises h d)) (List.Pairwise.filter _ (paths_rise h)) fun p => ?_
  rw [mem_paths, List.mem_filter, mem_paths]
  constructor
  · rintro ⟨x, hx, rfl⟩
    obtain ⟨h1, h2⟩ := List.mem_filter.1 hx
    exact ⟨⟨x, h1, rfl⟩, h2⟩
  · rintro ⟨⟨x, hx, rfl⟩, h2⟩
    exact ⟨x, List.mem_filter.2 ⟨hx, h2⟩, rfl⟩
theorem list_under {U : List Pr} (h : Rises U) (d : List UInt8) (n : Int) : listL U d n = (pathsL (underL U d)).filterMap fun p => told (asOf (underL U d) p n) := by
  rw [paths_under h]
  unfold listL
  have : ∀ l : List (List UInt8), (∀ p ∈ l, underOf d p = true) → l.filterMap (fun p => told (asOf U p n)) = l.filterMap fun p => told (asOf (underL U d) p n) := by
    intro l
    induction l with
    | nil => intro _; rfl
    | cons p r ih =>
      intro hl
      rw [List.filterMap_cons, List.filterMap_cons, ih fun q hq => hl q (List.mem_cons_of_mem _ hq), asOf_under (hl p (by simp))]
  exact this _ fun p hp => (List.mem_filter.1 hp).2

end Go.Proofs.YtbadbfmeoiclfaaGreatDoor

/-
  store.AsOf.
-/
namespace Go.Proofs.YtbadbfmeoiclfaaGreatDoor
set_option maxRecDepth 100000
open Go.RowKit

theorem ret_ent3 {fn : Func} {p q r : Tmp} {R : Ending → World → Prop} {a : Act} {w : World} (h : fn.results = #[.cell p 41, .tmp q, .tmp r]) (hd : a.defers = []) (g : Nat) (v0 v1 v2 v3 v4 u t : Value) (hp : a.tmps.getD p undef = .pointer (some ⟨g, 0, none⟩))
    (hq : a.tmps.getD q undef = u) (hr : a.tmps.getD r undef = t) (hc : Cx w g 41 [v0, v1, v2, v3, v4]) (hR : R (.returned (.tuple #[.agg #[v0, v1, v2, v3, v4], u, t])) w) : bodyPost Tryz.prog fn R .ret a w := by
  refine bodyPost_ret (v := .tuple #[.agg #[v0, v1, v2, v3, v4], u, t]) ?_ hd hR
  have hp' : a.tmps[p]?.getD undef = .pointer (some ⟨g, 0, none⟩) := by simpa using hp
  have hq' : a.tmps[q]?.getD undef = u := by simpa using hq
  have hr' : a.tmps[r]?.getD undef = t := by simpa using hr
  simp [results, h, hp', hq', hr', asAddr, load_ent w g v0 v1 v2 v3 v4 hc]
theorem ref_zero {s : List UInt8} {n : Int} : refE s n = 0 ↔ isP s = true ∧ 0 ≤ n := by
  unfold refE
  cases isP s with
  | false => simp
  | true =>
    by_cases h : n < 0
    · simp [h]
    · simp [h]; omega
/-- What AsOf tells. -/
def asL (U : List Pr) (p : List UInt8) (n : Int) : Option En := if refE p n = 0 then told (asOf U p n) else none
theorem Keeps.low {g : Nat} {w w1 w2 : World} (h : Keeps g w1 w2) (hb : Below w.heap.size w w1) (hg : w.heap.size ≤ g) : Below w.heap.size w w2 := h.on hb hg hb.size

set_option maxHeartbeats 8000000 in
theorem asOf_calls {tv : Value} {U : List Pr} {w : World} (h : Sto w tv U) (hs : isSt U = true) (p : List UInt8) (n : Int) (hl : p.length ≤ 1000000) :
    Calls Tryz.prog 14 #[tv, .string ⟨p.toArray⟩, .int .i64 n] w fun e w' => ∃ v, e = .returned (.tuple #[EV (enD (asL U p n)) v, .bool (asL U p n).isSome, .int .i64 (refE p n)]) ∧ OwnI w' w.heap.size v (enD (asL U p n)).2.2.2.2 ∧ Below w.heap.size w w' := by
  obtain ⟨tp, rfl⟩ := h.val
  have hB0 := below_alloc w (.cells #[.string ⟨#[]⟩, .int .i64 0, .int .i64 0, .int .i64 0, .slice none 0 0] 41)
  have HE := Lib.hid (Cx.new w 41 [.string ⟨#[]⟩, .int .i64 0, .int .i64 0, .int .i64 0, .slice none 0 0])
  have KR := Lib.hid (fun W (hB : Below w.heap.size w W) => refusal_calls (h.below hB) hs p n hl)
  have HH := Lib.hid (And.intro h (And.intro hs hB0))
  obtain ⟨E, hE⟩ : ∃ E, refE p n = E := ⟨_, rfl⟩
  rw [hE] at KR ⊢
  by_cases h0 : E = 0
  · subst h0
    obtain ⟨hip, hn0⟩ := ref_zero.1 hE
    have hlp : p.length ≤ 1000 := by
      have := under_len ((under_root p).trans hip)
      omega
    have hus : underOf p p = true := by rw [under_self]; exact hip
    have has : asL U p n = told (asOf (underL U p) p n) := by rw [asL, if_pos hE, asOf_under hus]
    rw [has]
    have hVv : ∀ x ∈ underL U p, verB x = true ∧ x.2.length ≤ 4611686018427387904 := fun x hx => ⟨List.all_eq_true.1 hs x (List.mem_filter.1 hx).1, h.2.2.2.2.1 x (List.mem_filter.1 hx).1⟩
    have KN := Lib.hid (fun W (hB : Below w.heap.size w W) => hNew_calls _ U p w W h.1 hB h.2.2.2.2.2 h.2.1 h.2.2.1 h.2.2.2.1 hlp hip)
    have KF := Lib.hid (fun (W : World) (lo g i : Nat) (hc : CurH w lo W g (underL U p) i) => file_calls hc hVv h.2.2.2.2.2 p n hip hn0)
    obtain ⟨o, ho⟩ : ∃ o, told (asOf (underL U p) p n) = o := ⟨_, rfl⟩
    rw [ho] at KF ⊢
    obtain ⟨V, hV⟩ : ∃ V, underL U p = V := ⟨_, rfl⟩
    rw [hV] at KF KN
    clear h hs hB0 hE hip hn0 hlp hus has hVv ho hV
    go_enter Tryz.func14, Tryz.ntmps14
    go_wp2_with fail
    refine (KR.out _ HH.out.2.2).mono ?_
    rintro e w1 ⟨rfl, hB1⟩
    have HB1 := Lib.hid (below2 HH.out.2.2 hB1)
    have HE1 := Lib.hid (HE.out.below hB1)
    clear hB1
    go_wp2_with fail
    refine (KN.out _ HB1.out).mono ?_
    rintro e w2 ⟨g, rfl, hc, hB2⟩
    have hgl := hc.cells.choose_spec.2.2.2.2
    have hlo := hc.lo_le
    have HC := Lib.hid hc
    have HB2 := Lib.hid (below2 HB1.out hB2)
    have HE2 := Lib.hid (HE1.out.below hB2)
    have hs1 := HB1.out.size
    have hwg : w.heap.size + 1 ≤ g := by
      have := HE1.out.lt
      omega
    clear hc hB2
    go_wp2_with fail
    refine (KF.out _ _ _ _ HC.out).mono ?_
    rintro e w3 ⟨v, rfl, hI, _, hk⟩
    obtain ⟨aM, cM, rfl⟩ := (ints_own hI).form
    obtain ⟨nM, hnM⟩ : ∃ k, (enD o).2.2.2.2.length = k := ⟨_, rfl⟩
    rw [hnM]
    have hBc := below_alloc w3 (.cells #[.string ⟨(enD o).1.toArray⟩, .int .i64 (enD o).2.1, .int .i64 (enD o).2.2.1, .int .i64 (enD o).2.2.2.1, .slice aM nM cM] 41)
    have HI := Lib.hid (own_stays hI hBc)
    have HB3 := Lib.hid (below2 (hk.low HB2.out (by omega)) hBc)
    have HE3 := Lib.hid ((HE2.out.keeps (by omega) hk).below hBc)
    have HN := Lib.hid hnM
    obtain ⟨⟨y0, y1, y2, y3, y4⟩, _, _⟩ := (Cx.new w3 41 [.string ⟨(enD o).1.toArray⟩, .int .i64 (enD o).2.1, .int .i64 (enD o).2.2.1, .int .i64 (enD o).2.2.2.1, .slice aM nM cM]).five2
    obtain ⟨⟨e0, e1, e2, e3, e4⟩, ⟨f0, f1, f2, f3, f4⟩, hlE⟩ := HE3.out.five2
    have hs2 := HB2.out.size
    clear hI hk hBc hnM
    go_wp2_with fail
    have hkk := keeps_sets5 w.heap.size (w3.alloc (.cells #[.string ⟨(enD o).1.toArray⟩, .int .i64 (enD o).2.1, .int .i64 (enD o).2.2.1, .int .i64 (enD o).2.2.2.1, .slice aM nM cM] 41)) (.string ⟨(enD o).1.toArray⟩) (.int .i64 (enD o).2.1) (.int .i64 (enD o).2.2.1) (.int .i64 (enD o).2.2.2.1) (.slice aM nM cM)
    refine ret_ent3 rfl rfl w.heap.size _ _ _ _ _ _ _ rfl rfl rfl (HE3.out.sets5 _ _ _ _ _) ⟨_, by rfl, ?_, hkk.on HB3.out (Nat.le_refl _) HB3.out.size⟩
    have h1 := HI.out
    rw [← HN.out] at h1 ⊢
    have hl2 : w.heap.size < w2.heap.size := by omega
    exact own_weak (own_above (own_above (own_above (own_above (own_above h1 hl2 0 _) hl2 1 _) hl2 2 _) hl2 3 _) hl2 4 _) (by omega)
  · have hEb : (E != 0) = true := by simpa using h0
    have has : asL U p n = none := by rw [asL, if_neg (by rw [hE]; exact h0)]
    rw [has]
    clear h hs hB0 hE h0 has
    go_enter Tryz.func14, Tryz.ntmps14
    go_wp2_with fail
    refine (KR.out _ HH.out.2.2).mono ?_
    rintro e w1 ⟨rfl, hB1⟩
    have HB1 := Lib.hid (below2 HH.out.2.2 hB1)
    have HE1 := Lib.hid (HE.out.below hB1)
    obtain ⟨⟨e0, e1, e2, e3, e4⟩, ⟨f0, f1, f2, f3, f4⟩, hlE⟩ := HE1.out.five2
    clear hB1
    go_wp2_with fail
    have hkk := keeps_sets5 w.heap.size w1 (.string ⟨#[]⟩) (.int .i64 0) (.int .i64 0) (.int .i64 0) (.slice none 0 0)
    exact ret_ent3 rfl rfl w.heap.size _ _ _ _ _ _ _ rfl rfl rfl (HE1.out.sets5 _ _ _ _ _) ⟨_, rfl, World.ownsRow_nil _ _ _ _, hkk.on HB1.out (Nat.le_refl _) HB1.out.size⟩

end Go.Proofs.YtbadbfmeoiclfaaGreatDoor

/-
  store.List.
-/
namespace Go.Proofs.YtbadbfmeoiclfaaGreatDoor
set_option maxRecDepth 100000
open Go.RowKit Go.Shelf
attribute [local go_sem] Oper.semAt_some

theorem CurH.lows {wt A B : World} {lo g m : Nat} {U : List Pr} {i : Nat} (h : CurH wt lo A g U i) (hb : Below m A B) (hg : g < m) : CurH wt lo B g U i := by
  obtain ⟨L, S, P, tv, sv, pv, k0, b1, b2, b3, b4, b5, b6, b7, b8, b9, b10, b11, b12⟩ := h
  exact ⟨L, S, P, tv, sv, pv, k0, b1.same fun j hj hj2 => hb.block j (by omega), b2, b3, b4, b5, b6, b7, b8.trans (hb.mono (by omega)), b9, b10, (hb.block g hg).trans b11, b12⟩
theorem OwnE.keeps {A B : World} {base k : Nat} {v : Value} {S : List Ev} (h : OwnE A base v S) (hk : Keeps k A B) (hb : k < base) : OwnE B base v S :=
  ⟨h.1.kept hk (.inr fun e => by have := (h.1.lt _ e).1; omega), fun x hx => (h.2 x hx).kept hk (.inr fun e => by have := ((h.2 x hx).lt _ e).1; omega)⟩

/-- What stands in List's boxes, and both cursors, behind i paths. -/
def LiI (w : World) (l1 l2 n at0 bl bf g1 g2 Bc : Nat) (tn : Int) (V : List Pr) (i c : Nat) (A : World) : Prop :=
  n ≤ A.heap.size ∧ CurH w l1 A g1 V c ∧ (∃ j, CurH w l2 A g2 V j) ∧ Boxed A at0 3 (.int .i64 tn) ∧ Boxed A bf 88 (.pointer (some ⟨g2, 0, none⟩)) ∧
  A.cell? ⟨Bc, 0, none⟩ = some (.func (.func 51) #[.pointer (some ⟨g1, 0, none⟩)] #[]) ∧ Below w.heap.size w A ∧
  ∃ vl S, Boxed A bl 45 vl ∧ OwnE A (n + 2) vl S ∧ ens S = ((pathsL V).take i).filterMap (fun p => told (asOf V p tn))
theorem LiI.below {w : World} {l1 l2 n at0 bl bf g1 g2 Bc : Nat} {tn : Int} {V : List Pr} {i c : Nat} {A B : World} (h : LiI w l1 l2 n at0 bl bf g1 g2 Bc tn V i c A) (hb : Below A.heap.size A B) : LiI w l1 l2 n at0 bl bf g1 g2 Bc tn V i c B := by
  obtain ⟨h1, h2, ⟨j, h3⟩, h4, h5, h6, h7, vl, S, h8, h9, h10⟩ := h
  exact ⟨Nat.le_trans h1 hb.size, h2.below hb, ⟨j, h3.below hb⟩, boxed_stays h4 hb, boxed_stays h5 hb, look_below hb h6, below2 h7 hb, vl, S, boxed_stays h8 hb, h9.stays hb, h10⟩
theorem LiI.keeps {w : World} {l1 l2 n at0 bl bf g1 g2 Bc : Nat} {tn : Int} {V : List Pr} {i c k : Nat} {A B : World} (h : LiI w l1 l2 n at0 bl bf g1 g2 Bc tn V i c A) (hk : Keeps k A B) (hn : n ≤ k) (hn2 : k < n + 2) (o1 : g1 < n) (o2 : g2 < n) (o3 : at0 < n) (o4 : bl < n) (o5 : bf < n) (o6 : Bc < n) (o7 : w.heap.size ≤ n) : LiI w l1 l2 n at0 bl bf g1 g2 Bc tn V i c B := by
  obtain ⟨h1, h2, ⟨j, h3⟩, h4, h5, h6, h7, vl, S, h8, h9, h10⟩ := h
  exact ⟨Nat.le_trans h1 hk.size, h2.other hk (by omega) (by omega), ⟨j, h3.other hk (by omega) (by omega)⟩, boxed_keeps h4 hk (by omega), boxed_keeps h5 hk (by omega), cell_keeps h6 hk (by omega), hk.on h7 (by omega) h7.size, vl, S, boxed_keeps h8 hk (by omega), h9.keeps hk hn2, h10⟩
/-- The order of List's blocks. -/
def LiO (w : World) (l1 l2 n at0 bl bf g1 g2 Bc : Nat) : Prop := w.heap.size ≤ at0 ∧ at0 < bl ∧ bl < l1 ∧ l1 ≤ g1 ∧ g1 < l2 ∧ l2 ≤ g2 ∧ g2 < bf ∧ bf < Bc ∧ Bc < n
/-- Behind a Skip. -/
theorem LiI.step {w : World} {l1 l2 n at0 bl bf g1 g2 Bc : Nat} {tn : Int} {V : List Pr} {i c c' : Nat} {A B : World} (h : LiI w l1 l2 n at0 bl bf g1 g2 Bc tn V i c A) (ho : LiO w l1 l2 n at0 bl bf g1 g2 Bc) (hc : CurH w l1 B g1 V c') (hk : Keeps g1 A B) : LiI w l1 l2 n at0 bl bf g1 g2 Bc tn V i c' B := by
  obtain ⟨h1, h2, ⟨j, h3⟩, h4, h5, h6, h7, vl, S, h8, h9, h10⟩ := h
  obtain ⟨p1, p2, p3, p4, p5, p6, p7, p8, p9⟩ := ho
  exact ⟨Nat.le_trans h1 hk.size, hc, ⟨j, h3.hole hk (by omega) (.inl p5)⟩, boxed_keeps h4 hk (by omega), boxed_keeps h5 hk (by omega), cell_keeps h6 hk (by omega), hk.on h7 (by omega) h7.size, vl, S, boxed_keeps h8 hk (by omega), h9.keeps hk (by omega), h10⟩
/-- Behind a look at a path. -/
theorem LiI.look {w : World} {l1 l2 n at0 bl bf g1 g2 Bc : Nat} {tn : Int} {V : List Pr} {i c : Nat} {A B : World} (h : LiI w l1 l2 n at0 bl bf g1 g2 Bc tn V i c A) (ho : LiO w l1 l2 n at0 bl bf g1 g2 Bc) (hc : ∃ j, CurH w l2 B g2 V j) (hk : Keeps g2 A B) : LiI w l1 l2 n at0 bl bf g1 g2 Bc tn V i c B := by
  obtain ⟨h1, h2, _, h4, h5, h6, h7, vl, S, h8, h9, h10⟩ := h
  obtain ⟨p1, p2, p3, p4, p5, p6, p7, p8, p9⟩ := ho
  exact ⟨Nat.le_trans h1 hk.size, h2.other hk (by omega) (by omega), hc, boxed_keeps h4 hk (by omega), boxed_keeps h5 hk (by omega), cell_keeps h6 hk (by omega), hk.on h7 (by omega) h7.size, vl, S, boxed_keeps h8 hk (by omega), h9.keeps hk (by omega), h10⟩
theorem take_map {ps : List (List UInt8)} {i : Nat} (h : i < ps.length) (f : List UInt8 → Option En) : (ps.take (i + 1)).filterMap f = (ps.take i).filterMap f ++ (f ps[i]).toList := by
  have e : ps.take (i + 1) = ps.take i ++ [ps[i]] := by rw [List.take_append_getElem]
  rw [e, List.filterMap_append]
  cases hf : f ps[i] <;> simp [hf]
theorem paths_len_le : ∀ V : List Pr, (pathsL V).length ≤ V.length
  | [] => Nat.le_refl _
  | [x] => Nat.le_refl _
  | x :: y :: r => by
    have ih := paths_len_le (y :: r)
    rw [pathsL]
    split
    · rw [List.length_cons]
      omega
    · rw [List.length_cons, List.length_cons]
      omega

set_option maxHeartbeats 8000000 in
theorem list_calls {tv : Value} {U : List Pr} {w : World} (h : Sto w tv U) (hs : isSt U = true) (d : List UInt8) (n : Int) (hl : d.length ≤ 1000000) :
    Calls Tryz.prog 16 #[tv, .string ⟨d.toArray⟩, .int .i64 n] w fun e w' => ∃ v S, e = .returned (.tuple #[v, .int .i64 (refE d n)]) ∧ OwnE w' w.heap.size v S ∧ ens S = (if refE d n = 0 then listL U d n else []) ∧ Below w.heap.size w w' := by
  have hmf : ∀ (fn : Fn) (first cap : Array Value) (w : World), (Instr.makeFunc fn first cap).run Tryz.prog w = .ok (.func fn first cap) w := fun _ _ _ _ => rfl
  obtain ⟨tp, rfl⟩ := h.val
  have hB0 := below_alloc w (.cells #[.int .i64 n] 3)
  have HE := Lib.hid (Boxed.new w 3 (.int .i64 n))
  have KR := Lib.hid (fun W (hB : Below w.heap.size w W) => refusal_calls (h.below hB) hs d n hl)
  obtain ⟨E, hE⟩ : ∃ E, refE d n = E := ⟨_, rfl⟩
  rw [hE] at KR ⊢
  by_cases h0 : E = 0
  · subst h0
    obtain ⟨hip, hn0⟩ := ref_zero.1 hE
    have hlp : d.length ≤ 1000 := by
      have := under_len ((under_root d).trans hip)
      omega
    have hli := list_under h.rises d n
    rw [if_pos rfl, hli]
    have hVv : ∀ x ∈ underL U d, verB x = true ∧ x.2.length ≤ 4611686018427387904 := fun x hx => ⟨List.all_eq_true.1 hs x (List.mem_filter.1 hx).1, h.2.2.2.2.1 x (List.mem_filter.1 hx).1⟩
    have hpt : ∀ p ∈ pathsL (underL U d), isP p = true := fun p hp => by
      obtain ⟨x, hx, rfl⟩ := (mem_paths _ _).1 hp
      have := (hVv x hx).1
      rw [ver_iff] at this
      have h1 := this.1
      unfold keyB at h1
      simp at h1
      exact h1.2
    have KN := Lib.hid (fun W (hB : Below w.heap.size w W) => hNew_calls _ U d w W h.1 hB h.2.2.2.2.2 h.2.1 h.2.2.1 h.2.2.2.1 hlp hip)
    obtain ⟨V, hV⟩ : ∃ V, underL U d = V := ⟨_, rfl⟩
    rw [hV] at KN hVv hpt ⊢
    have KF := Lib.hid (fun (W : World) (lo g i : Nat) (hc : CurH w lo W g V i) p (hp : p ∈ pathsL V) => file_calls hc hVv h.2.2.2.2.2 p n (hpt p hp) hn0)
    have hVr : Rises V := hV ▸ underL_rises h.rises d
    have hVt : TimesK V := hV ▸ h.2.1.sub fun x hx => (List.mem_filter.1 hx).1
    have HV := Lib.hid (And.intro hVr hVt)
    have HB0 := Lib.hid hB0
    clear h hs hB0 hE hip hn0 hlp hli hVv hpt hV hVr hVt
    refine calls_of_wpE (n := 6) Tryz.func16 rfl ?_
    simp only [Tryz.ntmps16, List.size_toArray, List.length_cons, List.length_nil, Nat.reduceAdd, Nat.reduceSub, Array.replicate_succ, Array.replicate_zero, List.push_toArray, List.append_toArray, List.nil_append, List.cons_append]
    refine wpE_seq (wpE_of ?_)
    go_wp2_with fail
    refine wpE_seq (wpE_of ?_)
    obtain ⟨c0, f0⟩ := And.intro HE.out.cell HE.out.frozen
    go_wp2_with fail
    refine (KR.out _ HB0.out).mono ?_
    rintro e w1 ⟨rfl, hB1⟩
    have HB1 := Lib.hid (below2 HB0.out hB1)
    have HE1 := Lib.hid (boxed_stays HE.out hB1)
    clear hB1 c0 f0
    go_wp2_with fail
    refine wpE_seq (wpE_of ?_)
    go_wp2_with fail
    refine wpE_seq (wpE_of ?_)
    have hBl := below_alloc w1 (.cells #[.slice none 0 0] 45)
    have HL := Lib.hid (Boxed.new w1 45 (.slice none 0 0))
    have HB2 := Lib.hid (below2 HB1.out hBl)
    have HE2 := Lib.hid (boxed_stays HE1.out hBl)
    clear hBl
    go_wp2_with fail
    refine (KN.out _ HB2.out).mono ?_
    rintro e w2 ⟨g1, rfl, hc1, hB⟩
    have HB3 := Lib.hid (And.intro hB (below2 HB2.out hB))
    have HC1 := Lib.hid hc1
    clear hB hc1
    go_wp2_with fail
    refine wpE_seq (wpE_of ?_)
    go_wp2_with fail
    refine (KN.out _ HB3.out.2).mono ?_
    rintro e w3 ⟨g2, rfl, hc2, hB⟩
    have HB4 := Lib.hid (And.intro hB (below2 HB3.out.2 hB))
    have HC2 := Lib.hid hc2
    clear hB hc2
    go_wp2_with fail
    refine wpE_seq (wpE_seq (wpE_of ?_))
    go_wp2_with fail
    refine (toldS_calls _ _ _ _).mono ?_
    rintro e w4 ⟨rfl, hw4⟩
    have HW4 := Lib.hid hw4
    clear hw4
    go_wp2_with fail
    refine wpE_block ?_
    obtain ⟨k0, hk0⟩ : ∃ n, n = w4.heap.size := ⟨_, rfl⟩
    obtain ⟨bl, hbl⟩ : ∃ n, n = w1.heap.size := ⟨_, rfl⟩
    obtain ⟨bf, hbf⟩ : ∃ n, n = w3.heap.size := ⟨_, rfl⟩
    obtain ⟨Bc, hBc⟩ : ∃ n, n = w3.heap.size + 1 := ⟨_, rfl⟩
    have hg1 := HC1.out.cells.choose_spec.2.2.2.2
    have hg2 := HC2.out.cells.choose_spec.2.2.2.2
    have hlo1 := HC1.out.lo_le
    have hlo2 := HC2.out.lo_le
    have hVl := HC1.out.facts.2.2.1
    rw [World.size_alloc] at hlo1
    have hs1 := HB1.out.size
    have hs4 : w4.heap.size = w3.heap.size + 2 := by rw [HW4.out]; simp
    have hB34 : Below w3.heap.size w3 w4 := by rw [HW4.out]; exact below_alloc2 w3 _ _
    have hsE := HE1.out.lt
    have hlt2 := HC1.out.cells.choose_spec.2.2.2.2
    have ho : LiO w (w1.heap.size + 1) w2.heap.size k0 w.heap.size bl bf g1 g2 Bc := ⟨Nat.le_refl _, by omega, by omega, by omega, by omega, by omega, by omega, by omega, by omega⟩
    have hI0 : LiI w (w1.heap.size + 1) w2.heap.size k0 w.heap.size bl bf g1 g2 Bc n V 0 0 w4 := by
      have hc1 := HC1.out
      rw [World.size_alloc] at hc1
      have q1 := boxed_stays (boxed_stays HE2.out HB3.out.1) HB4.out.1
      have q2 := boxed_stays (boxed_stays HL.out HB3.out.1) HB4.out.1
      have q3 : Boxed w4 w3.heap.size 88 (.pointer (some ⟨g2, 0, none⟩)) := by
        rw [HW4.out]
        exact (Boxed.new w3 _ _).alloc _
      have q4 : Boxed w4 (w3.heap.size + 1) 101 (.func (.func 51) #[.pointer (some ⟨g1, 0, none⟩)] #[]) := by
        rw [HW4.out]
        have := Boxed.new (w3.alloc (.cells #[.pointer (some ⟨g2, 0, none⟩)] 88)) 101 (.func (.func 51) #[.pointer (some ⟨g1, 0, none⟩)] #[])
        rwa [World.size_alloc] at this
      rw [← hbf] at q3
      rw [← hBc] at q4
      rw [← hbl] at q2
      exact ⟨Nat.le_of_eq hk0, (hc1.below HB4.out.1).below hB34, ⟨_, HC2.out.below hB34⟩, boxed_stays q1 hB34, q3, q4.cell, below2 HB4.out.2 hB34, _, [], boxed_stays q2 hB34, OwnE.nil _ _, rfl⟩
    obtain ⟨l1, hl1⟩ : ∃ n, n = w1.heap.size + 1 := ⟨_, rfl⟩
    obtain ⟨l2, hl2⟩ : ∃ n, n = w2.heap.size := ⟨_, rfl⟩
    rw [← hl1, ← hl2] at ho hI0
    rw [← hBc, ← hbl, ← hbf]
    have HO := Lib.hid ho
    have HN := Lib.hid hk0
    obtain ⟨p1, p2, p3, p4, p5, p6, p7, p8, p9⟩ := ho
    clear hk0 hbl hbf hBc hg1 hg2 hlo1 hlo2 hs1 hs4 hB34 hsE hlt2 hl1 hl2
    refine wpE_told (fl := False) (N := (pathsL V).length) (encs := fun i => #[.string ⟨(hereP V (skipN V i)).1.1.toArray⟩]) (res := fun i => .tuple #[.string ⟨(hereP V (skipN V i)).1.1.toArray⟩, .bool (decide (i < (pathsL V).length))]) (Box := fun W => W.cell? ⟨Bc, 0, none⟩ = some (.func (.func 51) #[.pointer (some ⟨g1, 0, none⟩)] #[])) rfl (enters_of Tryz.func81 (by kernel_rfl) rfl)
      (toldS g1 Bc (fun i => (hereP V (skipN V i)).1.1) (pathsL V).length) (fun _ => rfl) (fun i _ A => LiI w l1 l2 k0 w.heap.size bl bf g1 g2 Bc n V i (skipN V i) A) (fun i _ A => LiI w l1 l2 k0 w.heap.size bl bf g1 g2 Bc n V i (skipN V (i + 1)) A) (fun _ A => LiI w l1 l2 k0 w.heap.size bl bf g1 g2 Bc n V (pathsL V).length (skipN V ((pathsL V).length + 1)) A) (fun _ _ => False) (fun _ _ => False)
      (fun i _ a' A => LiI w l1 l2 k0 w.heap.size bl bf g1 g2 Bc n V i (skipN V (i + 1)) A ∧ a' = { tmps := #[.pointer tp, .string ⟨d.toArray⟩, .int .i64 n, undef, undef, .pointer (some ⟨w.heap.size, 0, none⟩), .slice none 0 0, .int .i64 0, .int .i64 0, .pointer (some ⟨bl, 0, none⟩), .pointer (some ⟨g1, 0, none⟩), .int .i64 0, .pointer (some ⟨bf, 0, none⟩), .int .i64 0, .string ⟨(hereP V (skipN V i)).1.1.toArray⟩, undef, undef, .pointer tp, .string ⟨d.toArray⟩, .int .i64 n, .int .i64 0, .int .i64 0, .bool false, undef, .tuple #[.pointer (some ⟨g1, 0, none⟩), .int .i64 0], .pointer tp, .string ⟨d.toArray⟩, .tuple #[.pointer (some ⟨g1, 0, none⟩), .int .i64 0], .pointer (some ⟨g1, 0, none⟩), .int .i64 0, .tuple #[.pointer (some ⟨g2, 0, none⟩), .int .i64 0], .pointer tp, .string ⟨d.toArray⟩, .tuple #[.pointer (some ⟨g2, 0, none⟩), .int .i64 0], .pointer (some ⟨g2, 0, none⟩), .int .i64 0, .pointer (some ⟨g1, 0, none⟩), .func (.func 51) #[.pointer (some ⟨g1, 0, none⟩)] #[], .func (.func 81) #[] #[.pointer (some ⟨Bc, 0, none⟩)], .string ⟨(hereP V (skipN V i)).1.1.toArray⟩, undef, undef, undef, undef, undef, undef, undef, undef, undef, undef, undef, undef, undef, undef, undef, undef], defers := [] }) g1 ?_ ?_ ?_ ?_ ?_ ?_ ?_ ?_ ?_ ?_ ?_ ?_ ?_ ?_ ?_
    · rw [← HN.out]
      omega
    · intro i
      rw [← HN.out]
      exact ⟨fun b k A B h hk hK => h.keeps hK (by rcases hk with ⟨h, _⟩ | h | h; exact h.elim; omega; omega) (by rcases hk with ⟨h, _⟩ | h | h; exact h.elim; omega; omega) (by omega) (by omega) (by omega) (by omega) (by omega) (by omega) (by omega), fun b A B b' h hb _ => h.below hb⟩
    · intro i
      rw [← HN.out]
      exact ⟨fun b k A B h hk hK => h.keeps hK (by rcases hk with ⟨h, _⟩ | h | h; exact h.elim; omega; omega) (by rcases hk with ⟨h, _⟩ | h | h; exact h.elim; omega; omega) (by omega) (by omega) (by omega) (by omega) (by omega) (by omega) (by omega), fun b A B b' h hb _ => h.below hb⟩
    · rw [← HN.out]
      exact ⟨fun b k A B h hk hK => h.keeps hK (by rcases hk with ⟨h, _⟩ | h | h; exact h.elim; omega; omega) (by rcases hk with ⟨h, _⟩ | h | h; exact h.elim; omega; omega) (by omega) (by omega) (by omega) (by omega) (by omega) (by omega) (by omega), fun b A B b' h hb _ => h.below hb⟩
    · exact fun _ _ _ h => h.elim
    · rintro i b a' A B ⟨h1, h2⟩ hk
      rw [← HN.out] at hk
      exact ⟨h1.keeps hk (by omega) (by omega) (by omega) (by omega) (by omega) (by omega) (by omega) (by omega) (by omega), h2⟩
    · exact fun i b A h => h.2.2.2.2.2.1
    · exact hI0
    · intro i b A hi h
      have hlt := skip_lt HV.out.1 HV.out.2 i
      refine (hSkip_calls h.2.1).mono ?_
      rintro e B ⟨rfl, hc, hk⟩
      rw [hlt]
      exact ⟨rfl, h.step HO.out hc hk, hk⟩
    · intro b A h
      have hlt := skip_lt HV.out.1 HV.out.2 (pathsL V).length
      refine (hSkip_calls h.2.1).mono ?_
      rintro e B ⟨rfl, hc, hk⟩
      rw [hlt]
      exact ⟨rfl, h.step HO.out hc hk, hk⟩
    · intro l i b A K hl hlA hi hI hK
      have HK := Lib.hid hK
      have HI := Lib.hid hI
      clear hI hK
      gi_wp2_with fail
      exact HK.out _ _ (Below.refl _ _) ⟨HI.out, rfl⟩
    · rintro l i b a' A hl hlA ⟨hb, _⟩ hi ⟨hI, rfl⟩
      rw [← HN.out] at hl hb ⊢
      have hq := skip_at HV.out.1 HV.out.2 hi
      have hqm : (hereP V (skipN V i)).1.1 ∈ pathsL V := by rw [hq]; exact List.getElem_mem hi
      have htm := take_map hi (fun p => told (asOf V p n))
      rw [← hq] at htm
      obtain ⟨q, hqe⟩ : ∃ q, (hereP V (skipN V i)).1.1 = q := ⟨_, rfl⟩
      rw [hqe] at hqm htm ⊢
      have HI := Lib.hid hI
      obtain ⟨_, _, ⟨j, hc2⟩, y4, y5, _⟩ := hI
      have K := Lib.hid (KF.out A _ _ _ hc2 q hqm)
      obtain ⟨o, ho⟩ : ∃ o, told (asOf V q n) = o := ⟨_, rfl⟩
      rw [ho] at K htm
      have c4 := y4.cell
      have c5 := y5.cell
      have hfw : ∀ f, Fence.wide.fn f := fun _ => trivial
      have h14 : 1 ≤ 4 := by omega
      have HT := Lib.hid htm
      clear hq hqm htm hqe hc2 y4 y5 ho
      gi_wp2_with fail
      refine (CallsIn.inRound _ (callsIn_wide.2 K.out)).mono ?_
      rintro e B ⟨v, rfl, hOw, hcB, hkB⟩
      obtain ⟨aM, cM, rfl⟩ := (ints_own hOw).form
      have HIB := Lib.hid (HI.out.look HO.out hcB hkB)
      have HSB := Lib.hid (Same3.of_keeps (fl := False) (n := k0) (b := b) hkB (by omega) (by omega) (by omega))
      have hAB := hkB.size
      clear hcB hkB c4 c5
      cases o with
      | none =>
        dsimp only [enD, Option.getD, Option.isSome] at hOw ⊢
        clear hOw
        gi_wp2_with fail
        have hBa := below_alloc B (.cells #[.string ⟨#[]⟩, .int .i64 0, .int .i64 0, .int .i64 0, .slice aM 0 cM] 41)
        refine ⟨HSB.out.trans (Same3.of_below hBa), ?_⟩
        obtain ⟨h1, h2, h3, h4, h5, h6, h7, vl, S, h8, h9, h10⟩ := HIB.out.below hBa
        refine ⟨h1, h2, h3, h4, h5, h6, h7, vl, S, h8, h9, ?_⟩
        rw [h10, HT.out]
        simp
      | some x =>
        obtain ⟨p, tm, z1, z2, z3⟩ := x
        dsimp only [enD, Option.getD, Option.isSome] at hOw ⊢
        obtain ⟨nM, hnM⟩ : ∃ k, z3.length = k := ⟨_, rfl⟩
        rw [hnM] at hOw ⊢
        have hBa := below_alloc B (.cells #[.string ⟨p.toArray⟩, .int .i64 tm, .int .i64 z1, .int .i64 z2, .slice aM nM cM] 41)
        obtain ⟨h1, h2, h3, h4, h5, h6, h7, vl, S, h8, h9, h10⟩ := HIB.out.below hBa
        obtain ⟨⟨x0, x1, x2, x3, x4⟩, _, _⟩ := (Cx.new B 41 [.string ⟨p.toArray⟩, .int .i64 tm, .int .i64 z1, .int .i64 z2, .slice aM nM cM]).five2
        have cl := h8.cell
        have HOw := Lib.hid (own_weak (b := k0 + 2) (own_stays hOw hBa) (by omega))
        have hSl : S.length ≤ 100000 := by
          have e1 : S.length = (ens S).length := by simp
          rw [e1, h10]
          refine Nat.le_trans (List.length_filterMap_le _ _) ?_
          rw [List.length_take]
          have e2 := paths_len_le V
          omega
        have HH := Lib.hid (And.intro h1 (And.intro h2 (And.intro h3 (And.intro h4 (And.intro h5 (And.intro h6 (And.intro h7 (And.intro h8 (And.intro h9 h10)))))))))
        have HN2 := Lib.hid hnM
        have HBa := Lib.hid hBa
        have hsB : k0 + 2 ≤ (B.alloc (.cells #[.string ⟨p.toArray⟩, .int .i64 tm, .int .i64 z1, .int .i64 z2, .slice aM nM cM] 41)).heap.size := by
          rw [World.size_alloc]
          omega
        have hk1 : (B.alloc (.cells #[.string ⟨p.toArray⟩, .int .i64 tm, .int .i64 z1, .int .i64 z2, .slice aM nM cM] 41)).heap.size = B.heap.size + 1 := by simp
        have HK1 := Lib.hid hk1
        have HsB := Lib.hid hsB
        clear h1 h2 h3 h4 h5 h6 h7 h8 h9 h10 hOw hBa hnM hk1 hsB
        gi_wp2_with (gi_at_builtin; refine appIn_ent rfl _ _ rfl (k0 + 2) vl S rfl HH.out.2.2.2.2.2.2.2.2.1 p tm z1 z2 _ z3 HOw.out (B.heap.size + 1) HK1.out rfl hSl HsB.out ?_; intro v' w' hv' hbw hke; obtain ⟨av, cv, rfl⟩ := hv'.form; have hlow := hbw _ (Below.refl _ _); have hbx : Boxed w' bl 45 vl := (hlow.block bl (by omega)).trans HH.out.2.2.2.2.2.2.2.1; have cl2 := hbx.cell; have fl2 := hbx.frozen; obtain ⟨nS, hnS⟩ : ∃ k, (S ++ [((p, tm, z1, z2, z3), Value.slice aM nM cM)]).length = k := ⟨_, rfl⟩; rw [hnS] at hv' ⊢; have HV2 := Lib.hid (And.intro hv' (And.intro hlow (And.intro hbx hnS))); clear hv' hbw hke hlow hbx hnS)
        obtain ⟨h1, h2, h3, h4, h5, h6, h7, h8, h9, h10⟩ := HH.out
        obtain ⟨r1, r2, r3, r4⟩ := HV2.out
        have hk2 : Keeps bl w' (w'.setCell ⟨bl, 0, none⟩ (.slice av nS cv)) := (Keeps.refl _ _).set 0 _
        have hz := r2.size
        have hz2 := HBa.out.size
        have hlt1 := h2.cells.choose_spec.2.2.2.2
        refine ⟨(HSB.out.trans (Same3.of_below HBa.out)).trans (Same3.trans ⟨hz, fun k hk hl => ?_⟩ (Same3.of_keeps hk2 (by omega) (by omega) (by omega))), ?_⟩
        · rcases hk with rfl | rfl | ⟨hf, _⟩
          · exact r2.block _ (by omega)
          · exact r2.block _ (by omega)
          · exact hf.elim
        · refine ⟨Nat.le_trans h1 (Nat.le_trans hz hk2.size), (h2.lows r2 (by omega)).hole hk2 (by omega) (.inl (by omega)), ?_, ?_, ?_, ?_, ?_, _, S ++ [((p, tm, z1, z2, z3), .slice aM nM cM)], r3.set _, ?_, ?_⟩
          · obtain ⟨j2, h3⟩ := h3
            exact ⟨j2, (h3.lows r2 (by omega)).hole hk2 (by omega) (.inl (by omega))⟩
          · exact boxed_keeps ((r2.block _ (by omega)).trans h4) hk2 (by omega)
          · exact boxed_keeps ((r2.block _ (by omega)).trans h5) hk2 (by omega)
          · refine cell_keeps ?_ hk2 (by omega)
            exact (r2.cell (p := ⟨Bc, 0, none⟩) (by show Bc < _; omega)).trans h6
          · exact hk2.on (h7.trans (r2.mono (by omega))) (by omega) (Nat.le_trans h7.size hz)
          · exact OwnE.keeps r1 hk2 (by omega)
          · rw [HT.out, ← h10]
            simp
    · intro D b A hD hI hK
      rw [← HN.out] at hD
      obtain ⟨h1, h2, h3, h4, h5, h6, h7, vl, S, h8, h9, h10⟩ := hI
      rw [List.take_of_length_le (Nat.le_refl _)] at h10
      have cl := h8.cell
      obtain ⟨av, cv, rfl⟩ := h9.form
      obtain ⟨nS, hnS⟩ : ∃ k, S.length = k := ⟨_, rfl⟩
      rw [hnS] at cl h8
      have HH := Lib.hid (And.intro h7 (And.intro h9 (And.intro h10 hK)))
      have HNS := Lib.hid hnS
      have HD := Lib.hid hD
      clear h1 h2 h3 h4 h5 h6 h7 h8 h9 h10 hK hnS
      change WpE _ _ _ _ _
      refine wpE_of ?_
      go_wp2_with fail
      obtain ⟨h7, h9, h10, hK⟩ := HH.out
      rw [← HNS.out]
      obtain rfl := HD.out
      have hkp : Keeps D A (A.putObj D (.deferred none)) := keeps_put _
      refine leavesM_mark (by simp) hK ?_
      refine ⟨_, results_tmp2 rfl _ _ _, _, S, rfl, ?_, h10, hkp.on h7 (by omega) h7.size⟩
      exact (h9.keeps hkp (by omega)).weak (by omega)
    · exact fun _ _ _ _ h _ => h.elim
    · exact fun _ _ _ _ h _ => h.elim
  · have hEb : (E != 0) = true := by simpa using h0
    have HB0 := Lib.hid hB0
    obtain ⟨c0, f0⟩ := And.intro HE.out.cell HE.out.frozen
    rw [if_neg h0]
    clear h hs hB0 hE h0
    go_enter Tryz.func16, Tryz.ntmps16
    go_wp2_with fail
    refine (KR.out _ HB0.out).mono ?_
    rintro e w1 ⟨rfl, hB1⟩
    go_wp2_with fail
    go_ret2
    exact ⟨_, [], rfl, OwnE.nil _ _, rfl, below2 HB0.out hB1⟩

end Go.Proofs.YtbadbfmeoiclfaaGreatDoor

/-
  store.History.
-/
namespace Go.Proofs.YtbadbfmeoiclfaaGreatDoor
set_option maxRecDepth 100000
open Go.RowKit Go.Shelf
attribute [local go_sem] Oper.semAt_some

/-- What History tells. -/
def histL (U : List Pr) (p : List UInt8) : List Pr := U.filter fun x => decide (x.1.1 = p)
/-- Of what is under a path its own pairs stand first. -/
theorem hist_under {U : List Pr} (h : Rises U) {p : List UInt8} (hp : isP p = true) {i : Nat} (h1 : ∀ x ∈ (underL U p).take i, x.1.1 = p) (h2 : ∀ hi : i < (underL U p).length, (underL U p)[i].1.1 ≠ p) : histL U p = (underL U p).take i := by
  obtain ⟨V, hV⟩ : ∃ V, underL U p = V := ⟨_, rfl⟩
  have hVr : Rises V := hV ▸ underL_rises h p
  have hu : ∀ x ∈ V, underOf p x.1.1 = true := fun x hx => by rw [← hV] at hx; exact (List.mem_filter.1 hx).2
  have e1 : histL U p = histL V p := by
    rw [← hV]
    unfold histL underL
    rw [List.filter_filter]
    congr 1
    funext x
    by_cases hx : x.1.1 = p
    · rw [hx, under_self, hp]
      simp
    · simp [hx]
  rw [hV] at h1 h2 ⊢
  rw [e1]
  have hsp : V = V.take i ++ V.drop i := (List.take_append_drop i V).symm
  have e2 : histL V p = histL (V.take i) p ++ histL (V.drop i) p := by
    unfold histL
    rw [← List.filter_append, ← hsp]
  have e3 : histL (V.take i) p = V.take i := List.filter_eq_self.2 fun x hx => decide_eq_true (h1 x hx)
  have e4 : histL (V.drop i) p = [] := by
    refine List.filter_eq_nil_iff.2 fun x hx => ?_
    rw [decide_eq_true_eq]
    intro hxp
    obtain ⟨j, hj, rfl⟩ := List.getElem_of_mem hx
    rw [List.length_drop] at hj
    have hi : i < V.length := by omega
    have hne := h2 hi
    rw [List.getElem_drop] at hxp
    rcases Nat.eq_zero_or_pos j with rfl | hjp
    · exact hne hxp
    · have hl := List.pairwise_iff_getElem.1 hVr i (i + j) hi (by omega) (by omega)
      rw [lessK_eq, hxp] at hl
      have hun := hu _ (List.getElem_mem hi)
      have hle : Op.bytesLess V[i].1.1 p = false := by
        by_cases hp0 : p = []
        · subst hp0
          cases V[i].1.1 <;> rfl
        · rcases under_form hun hp0 with e | ⟨r, e⟩
          · exact absurd e hne
          · rw [e]
            have h3 := less_app p [] (47 :: r)
            rw [List.append_nil] at h3
            exact less_asymm (h3.trans rfl)
      rw [hle] at hl
      simp [hne] at hl
  rw [e2, e3, e4, List.append_nil]

theorem appIn_pr {F : Fence} {n : Nat} {w : World} {ops : Array Oper} {rest : List Oper} {o : Oper} {a : Act} {Q : Exit → Act → World → Prop} (hgd : o.guard = none) (s x : Operand)
    (ho : o.op = .call { callee := .builtin .append, args := #[s, x], argTypes := #[22, 22] }) (base : Nat) (v : Value) (T : List Pr) (hs : a.eval s = v) (hown : OwnP w base v T)
    (y : Pr) (hx : a.eval x = .slice (some ⟨w.heap.size, 0, none⟩) 1 1) (hq2 : T.length ≤ 100000) (hb0 : base ≤ w.heap.size) (b : Nat) (hb : b < w.heap.size) (hvb : v.ownBlock ≠ some b)
    (h : ∀ v' w', OwnP w' base v' (T ++ [y]) → (∀ w0, Below base w0 w → Below base w0 w') → v'.ownBlock ≠ some b → w'.heap[b]? = w.heap[b]? → w.heap.size ≤ w'.heap.size → wpListIn F n Tryz.prog ops Q rest (a.put o.dst v') w') :
    wpListIn F n Tryz.prog ops Q (o :: rest) a (w.alloc (.cells (pcell y).toArray 74)) := by
  obtain ⟨i0, hi, hz0, hz1, hz2⟩ := info_parts infoP
  refine wpListIn_plain hgd fun K hK' => ?_
  have hown1 : (w.alloc (.cells (pcell y).toArray 74)).ownsRow base 74 3 v T.length (pcells T) := World.ownsRow.alloc hown _
  obtain ⟨v', w', hrun, r1, r2, _, r5⟩ := run_append_own_at (P := Tryz.prog) (w.alloc (.cells (pcell y).toArray 74)) base 22 o.type 74 i0 _ 3 40 Tryz.underlying22 hi hz0 hz1 hz2 rfl (by decide) v T.length (pcells T) hown1 ⟨w.heap.size, 0, none⟩ 1 1 (pcell y) rfl (news_litE w (pcell y) _) (by intro u hu; exact pcells_one [y] u (by simpa [pcells] using hu)) (by unfold maxLen; omega) (by omega) (by rw [World.size_alloc]; omega)
  have hfin := h v' w' (by unfold OwnP; rw [List.length_append, pcells_append]; simpa [pcells] using r1) (fun w0 hB => (hB.alloc hb0 _).grown r2 (by rw [World.size_alloc]; omega) fun j e => (World.ownsRow.lt hown j e).1) (by
      rcases r5 with e | e
      · rw [e]; exact hvb
      · rw [e, World.size_alloc]
        intro e2
        cases e2
        omega) ((r2.block b (by rw [World.size_alloc]; omega) (fun e => hvb e.symm)).trans (heap_alloc_old w _ hb)) (by have := r2.size; rw [World.size_alloc] at this; omega)
  unfold Oper.wpIn
  refine ⟨?_, ?_⟩
  · simp [Oper.about, ho, resolve, Target.leads, Sem.run_pure]
  · rw [Oper.semAt_plain F _ _ (by rw [ho]; intro c hc'; cases hc')]
    simp [execOp, ho, resolve, invoke, builtin, hs, hx, hrun, Result.andThen]
    exact hK' _ _ hfin

theorem ownP_keeps {w w' : World} {base g : Nat} {v : Value} {l : List Pr} (h : OwnP w base v l) (hk : Keeps g w w') (hne : v.ownBlock ≠ some g) : OwnP w' base v l := World.ownsRow.kept h hk (.inr hne)
/-- What stands in History's boxes, and the cursor, behind i pairs. -/
def HiI (w : World) (l1 n bp bl g Bc : Nat) (p : List UInt8) (V : List Pr) (i c b : Nat) (A : World) : Prop :=
  (n ≤ b ∧ n ≤ A.heap.size) ∧ CurH w l1 A g V c ∧ Boxed A bp 9 (.string ⟨p.toArray⟩) ∧ A.cell? ⟨Bc, 0, none⟩ = some (.func (.func 47) #[.pointer (some ⟨g, 0, none⟩)] #[]) ∧ Below w.heap.size w A ∧ (∀ x ∈ V.take i, x.1.1 = p) ∧
  ∃ vl, Boxed A bl 22 vl ∧ OwnP A (n + 2) vl (V.take i) ∧ vl.ownBlock ≠ some b
theorem HiI.below {w : World} {l1 n bp bl g Bc : Nat} {p : List UInt8} {V : List Pr} {i c b b' : Nat} {A B : World} (h : HiI w l1 n bp bl g Bc p V i c b A) (hb : Below A.heap.size A B) (hb' : A.heap.size ≤ b') : HiI w l1 n bp bl g Bc p V i c b' B := by
  obtain ⟨h1, h2, h3, h4, h5, h6, vl, h7, h8, h9⟩ := h
  exact ⟨⟨Nat.le_trans h1.2 hb', Nat.le_trans h1.2 hb.size⟩, h2.below hb, boxed_stays h3 hb, look_below hb h4, below2 h5 hb, h6, vl, boxed_stays h7 hb, OwnP.stays h8 hb, fun e => by have := World.ownsRow.lt h8 _ e; omega⟩
theorem HiI.same {w : World} {l1 n bp bl g Bc : Nat} {p : List UInt8} {V : List Pr} {i c b : Nat} {A B : World} (h : HiI w l1 n bp bl g Bc p V i c b A) (hb : Below A.heap.size A B) : HiI w l1 n bp bl g Bc p V i c b B := by
  obtain ⟨h1, h2, h3, h4, h5, h6, vl, h7, h8, h9⟩ := h
  exact ⟨⟨h1.1, Nat.le_trans h1.2 hb.size⟩, h2.below hb, boxed_stays h3 hb, look_below hb h4, below2 h5 hb, h6, vl, boxed_stays h7 hb, OwnP.stays h8 hb, h9⟩
/-- The order of History's blocks. -/
def HiO (w : World) (l1 n bp bl g Bc : Nat) : Prop := w.heap.size ≤ bp ∧ bp < bl ∧ bl < l1 ∧ l1 ≤ g ∧ g < Bc ∧ Bc < n
theorem HiI.keeps {w : World} {l1 n bp bl g Bc : Nat} {p : List UInt8} {V : List Pr} {i c b k : Nat} {A B : World} (h : HiI w l1 n bp bl g Bc p V i c b A) (ho : HiO w l1 n bp bl g Bc) (hk : Keeps k A B) (hn : n ≤ k) (hn2 : k = b ∨ k < n + 2) : HiI w l1 n bp bl g Bc p V i c b B := by
  obtain ⟨h1, h2, h3, h4, h5, h6, vl, h7, h8, h9⟩ := h
  obtain ⟨p1, p2, p3, p4, p5, p6⟩ := ho
  refine ⟨⟨h1.1, Nat.le_trans h1.2 hk.size⟩, h2.other hk (by omega) (by omega), boxed_keeps h3 hk (by omega), cell_keeps h4 hk (by omega), hk.on h5 (by omega) h5.size, h6, vl, boxed_keeps h7 hk (by omega), ownP_keeps h8 hk fun e => ?_, h9⟩
  rcases hn2 with rfl | hn2
  · exact h9 e
  · have := World.ownsRow.lt h8 _ e
    omega
theorem HiI.step {w : World} {l1 n bp bl g Bc : Nat} {p : List UInt8} {V : List Pr} {i c c' b : Nat} {A B : World} (h : HiI w l1 n bp bl g Bc p V i c b A) (ho : HiO w l1 n bp bl g Bc) (hc : CurH w l1 B g V c') (hk : Keeps g A B) : HiI w l1 n bp bl g Bc p V i c' b B := by
  obtain ⟨h1, h2, h3, h4, h5, h6, vl, h7, h8, h9⟩ := h
  obtain ⟨p1, p2, p3, p4, p5, p6⟩ := ho
  exact ⟨⟨h1.1, Nat.le_trans h1.2 hk.size⟩, hc, boxed_keeps h3 hk (by omega), cell_keeps h4 hk (by omega), hk.on h5 (by omega) h5.size, h6, vl, boxed_keeps h7 hk (by omega), ownP_keeps h8 hk fun e => by have := World.ownsRow.lt h8 _ e; omega, h9⟩
/-- Behind the loop. -/
def HiE (w : World) (n bl : Nat) (L : List Pr) (A : World) : Prop := ∃ vl, Boxed A bl 22 vl ∧ OwnP A (n + 2) vl L ∧ Below w.heap.size w A

set_option maxHeartbeats 8000000 in
theorem hist_calls {tv : Value} {U : List Pr} {w : World} (h : Sto w tv U) (hs : isSt U = true) (p : List UInt8) (hl : p.length ≤ 1000000) :
    Calls Tryz.prog 18 #[tv, .string ⟨p.toArray⟩] w fun e w' => ∃ v, e = .returned (.tuple #[v, .int .i64 (refE p 0)]) ∧ OwnP w' w.heap.size v (if refE p 0 = 0 then histL U p else []) ∧ Below w.heap.size w w' := by
  have hmf : ∀ (fn : Fn) (first cap : Array Value) (w : World), (Instr.makeFunc fn first cap).run Tryz.prog w = .ok (.func fn first cap) w := fun _ _ _ _ => rfl
  obtain ⟨tp, rfl⟩ := h.val
  have hB0 := below_alloc w (.cells #[.string ⟨p.toArray⟩] 9)
  have HE := Lib.hid (Boxed.new w 9 (.string ⟨p.toArray⟩))
  have KR := Lib.hid (fun W (hB : Below w.heap.size w W) => refusal_calls (h.below hB) hs p 0 hl)
  obtain ⟨E, hE⟩ : ∃ E, refE p 0 = E := ⟨_, rfl⟩
  rw [hE] at KR ⊢
  by_cases h0 : E = 0
  · subst h0
    obtain ⟨hip, hn0⟩ := ref_zero.1 hE
    have hlp : p.length ≤ 1000 := by
      have := under_len ((under_root p).trans hip)
      omega
    rw [if_pos rfl]
    have KN := Lib.hid (fun W (hB : Below w.heap.size w W) => hNew_calls _ U p w W h.1 hB h.2.2.2.2.2 h.2.1 h.2.2.1 h.2.2.2.1 hlp hip)
    have hhu := fun (i : Nat) => hist_under h.rises hip (i := i)
    obtain ⟨V, hV⟩ : ∃ V, underL U p = V := ⟨_, rfl⟩
    obtain ⟨L, hL⟩ : ∃ V, histL U p = V := ⟨_, rfl⟩
    rw [hV] at KN hhu
    rw [hL] at hhu ⊢
    have HU := Lib.hid hhu
    have HB0 := Lib.hid hB0
    clear h hs hB0 hE hip hn0 hlp hV hL hhu
    refine calls_of_wpE (n := 6) Tryz.func18 rfl ?_
    simp only [Tryz.ntmps18, List.size_toArray, List.length_cons, List.length_nil, Nat.reduceAdd, Nat.reduceSub, Array.replicate_succ, Array.replicate_zero, List.push_toArray, List.append_toArray, List.nil_append, List.cons_append]
    refine wpE_seq (wpE_of ?_)
    go_wp2_with fail
    refine wpE_seq (wpE_of ?_)
    obtain ⟨c0, f0⟩ := And.intro HE.out.cell HE.out.frozen
    go_wp2_with fail
    refine (KR.out _ HB0.out).mono ?_
    rintro e w1 ⟨rfl, hB1⟩
    have HB1 := Lib.hid (below2 HB0.out hB1)
    have HE1 := Lib.hid (boxed_stays HE.out hB1)
    clear hB1 c0 f0
    go_wp2_with fail
    refine wpE_seq (wpE_of ?_)
    go_wp2_with fail
    refine wpE_seq (wpE_of ?_)
    have hBl := below_alloc w1 (.cells #[.slice none 0 0] 22)
    have HL := Lib.hid (Boxed.new w1 22 (.slice none 0 0))
    have HB2 := Lib.hid (below2 HB1.out hBl)
    have hE2 := boxed_stays HE1.out hBl
    obtain ⟨c0, f0⟩ := And.intro hE2.cell hE2.frozen
    have HE2 := Lib.hid hE2
    clear hBl hE2
    go_wp2_with fail
    refine (KN.out _ HB2.out).mono ?_
    rintro e w2 ⟨g, rfl, hc1, hB⟩
    have HB3 := Lib.hid (And.intro hB (below2 HB2.out hB))
    have HC1 := Lib.hid hc1
    clear hB hc1 c0 f0
    go_wp2_with fail
    refine wpE_seq (wpE_seq (wpE_of ?_))
    go_wp2_with fail
    refine (toldP_calls _ _ _ _).mono ?_
    rintro e w3 ⟨rfl, hw3⟩
    have HW3 := Lib.hid hw3
    clear hw3
    go_wp2_with fail
    refine wpE_block ?_
    obtain ⟨k0, hk0⟩ : ∃ n, n = w3.heap.size := ⟨_, rfl⟩
    obtain ⟨bl, hbl⟩ : ∃ n, n = w1.heap.size := ⟨_, rfl⟩
    obtain ⟨Bc, hBc⟩ : ∃ n, n = w2.heap.size := ⟨_, rfl⟩
    have hg1 := HC1.out.cells.choose_spec.2.2.2.2
    have hlo1 := HC1.out.lo_le
    have hVl := HC1.out.facts.2.2.1
    rw [World.size_alloc] at hlo1
    have hs1 := HB1.out.size
    have hs3 : w3.heap.size = w2.heap.size + 1 := by rw [HW3.out]; simp
    have hB23 : Below w2.heap.size w2 w3 := by rw [HW3.out]; exact below_alloc w2 _
    have hsE := HE1.out.lt
    have ho : HiO w (w1.heap.size + 1) k0 w.heap.size bl g Bc := ⟨Nat.le_refl _, by omega, by omega, by omega, by omega, by omega⟩
    have hI0 : HiI w (w1.heap.size + 1) k0 w.heap.size bl g Bc p V 0 0 k0 w3 := by
      have hc1 := HC1.out
      rw [World.size_alloc] at hc1
      have q2 := boxed_stays (boxed_stays HL.out HB3.out.1) hB23
      have q4 : Boxed w3 w2.heap.size 94 (.func (.func 47) #[.pointer (some ⟨g, 0, none⟩)] #[]) := by
        rw [HW3.out]
        exact Boxed.new w2 _ _
      rw [← hBc] at q4
      rw [← hbl] at q2
      exact ⟨⟨Nat.le_refl _, Nat.le_of_eq hk0⟩, hc1.below hB23, boxed_stays (boxed_stays HE2.out HB3.out.1) hB23, q4.cell, below2 HB3.out.2 hB23, fun x hx => by simp at hx, _, q2, World.ownsRow_nil _ _ _ _, by simp [Value.ownBlock]⟩
    obtain ⟨l1, hl1⟩ : ∃ n, n = w1.heap.size + 1 := ⟨_, rfl⟩
    rw [← hl1] at ho hI0
    rw [← hBc, ← hbl]
    have HO := Lib.hid ho
    have HN := Lib.hid hk0
    obtain ⟨p1, p2, p3, p4, p5, p6⟩ := ho
    clear hk0 hbl hBc hg1 hlo1 hs1 hs3 hB23 hsE hl1
    refine wpE_told (fl := True) (N := V.length) (encs := fun i => #[PV (hereP V i)]) (res := fun i => .tuple #[PV (hereP V i), .bool (decide (i < V.length))]) (Box := fun W => W.cell? ⟨Bc, 0, none⟩ = some (.func (.func 47) #[.pointer (some ⟨g, 0, none⟩)] #[])) rfl (enters_of Tryz.func83 (by kernel_rfl) rfl)
      (toldP g Bc (hereP V) V.length) (fun _ => rfl) (fun i b A => HiI w l1 k0 w.heap.size bl g Bc p V i i b A) (fun i b A => HiI w l1 k0 w.heap.size bl g Bc p V i (i + 1) b A) (fun b A => HiI w l1 k0 w.heap.size bl g Bc p V V.length V.length b A) (fun c A => c = .exit 0 ∧ HiE w k0 bl L A) (fun _ _ => False)
      (fun i b a' A => HiI w l1 k0 w.heap.size bl g Bc p V i (i + 1) b A ∧ ∃ q, k0 + 2 ≤ q ∧ a' = { tmps := #[.pointer tp, .string ⟨p.toArray⟩, undef, .pointer (some ⟨w.heap.size, 0, none⟩), .slice none 0 0, .int .i64 0, .int .i64 0, .pointer (some ⟨bl, 0, none⟩), .pointer (some ⟨g, 0, none⟩), .int .i64 0, .pointer (some ⟨q, 0, none⟩), .pointer tp, .string ⟨p.toArray⟩, .int .i64 0, .int .i64 0, .bool false, undef, .tuple #[.pointer (some ⟨g, 0, none⟩), .int .i64 0], .pointer tp, .string ⟨p.toArray⟩, .tuple #[.pointer (some ⟨g, 0, none⟩), .int .i64 0], .pointer (some ⟨g, 0, none⟩), .int .i64 0, .pointer (some ⟨g, 0, none⟩), .func (.func 47) #[.pointer (some ⟨g, 0, none⟩)] #[], .func (.func 83) #[] #[.pointer (some ⟨Bc, 0, none⟩)], PV (hereP V i), undef, undef, undef, undef, undef, undef, undef, undef, undef, undef], defers := [] } ∧ Cx A q 74 (pcell (hereP V i))) g ?_ ?_ ?_ ?_ ?_ ?_ ?_ ?_ ?_ ?_ ?_ ?_ ?_ ?_ ?_
    · rw [← HN.out]
      omega
    · intro i
      rw [← HN.out]
      exact ⟨fun b k A B h hk hK => h.keeps HO.out hK (by have := h.1.1; rcases hk with ⟨_, hk⟩ | hk | hk <;> omega) (by rcases hk with ⟨_, hk⟩ | hk | hk <;> omega), fun b A B b' h hb hb' => h.below hb hb'⟩
    · intro i
      rw [← HN.out]
      exact ⟨fun b k A B h hk hK => h.keeps HO.out hK (by have := h.1.1; rcases hk with ⟨_, hk⟩ | hk | hk <;> omega) (by rcases hk with ⟨_, hk⟩ | hk | hk <;> omega), fun b A B b' h hb hb' => h.below hb hb'⟩
    · rw [← HN.out]
      exact ⟨fun b k A B h hk hK => h.keeps HO.out hK (by have := h.1.1; rcases hk with ⟨_, hk⟩ | hk | hk <;> omega) (by rcases hk with ⟨_, hk⟩ | hk | hk <;> omega), fun b A B b' h hb hb' => h.below hb hb'⟩
    · rintro c A B ⟨rfl, vl, h7, h8, h5⟩ hk
      rw [← HN.out] at hk
      exact ⟨rfl, vl, boxed_keeps h7 hk (by omega), ownP_keeps h8 hk (fun e => by have := World.ownsRow.lt h8 _ e; omega), hk.on h5 (by omega) h5.size⟩
    · rintro i b a' A B ⟨h1, q, hq, h2, h3⟩ hk
      rw [← HN.out] at hk
      exact ⟨h1.keeps HO.out hk (by omega) (by omega), q, hq, h2, Cx.keeps h3 (by omega) hk⟩
    · exact fun i b A h => h.2.2.2.1
    · rw [← HN.out]
      exact hI0
    · intro i b A hi h
      refine (hNext_calls h.2.1).mono ?_
      rintro e B ⟨rfl, hc, hk⟩
      have hx : nextI V i = i + 1 := by simp [nextI, hi]
      rw [hx] at hc
      exact ⟨rfl, h.step HO.out hc hk, hk⟩
    · intro b A h
      refine (hNext_calls h.2.1).mono ?_
      rintro e B ⟨rfl, hc, hk⟩
      have hx : nextI V V.length = V.length := by simp [nextI]
      rw [hx] at hc
      exact ⟨rfl, h.step HO.out hc hk, hk⟩
    · intro l i b A K hl hlA hi hI hK
      have hA := hI.1.2
      rw [← HN.out] at hl
      have HK := Lib.hid hK
      have HI := Lib.hid hI
      clear hI hK
      gi_wp2_with fail
      exact HK.out _ _ (below_alloc _ _) ⟨HI.out.same (below_alloc _ _), A.heap.size, by omega, rfl, Cx.new A _ (pcell (hereP V i))⟩
    · rintro l i b a' A hl hlA ⟨hb, hfb⟩ hi ⟨hI, q, hq, rfl, hx⟩
      rw [← HN.out] at hl hb ⊢
      have hbA := hfb trivial
      have hVi := hereP_lt hi
      have htk : V.take (i + 1) = V.take i ++ [hereP V i] := by rw [hVi, List.take_append_getElem]
      obtain ⟨⟨⟨r, m⟩, s⟩, hxe⟩ : ∃ x, hereP V i = x := ⟨_, rfl⟩
      obtain ⟨h1, h2, h3, h4, h5, h6, vl, h7, h8, h9⟩ := hI
      rw [hxe] at hx htk ⊢
      rw [hxe] at hVi
      obtain ⟨x0, x1, x2, _⟩ := Cx.three hx
      have c3 := h3.cell
      have cl := h7.cell
      have hfw : ∀ f, Fence.wide.fn f := fun _ => trivial
      have h14 : 1 ≤ 4 := by omega
      by_cases hrp : r = p
      · subst hrp
        have hd : (r == r) = true := by simp
        have hall : ∀ x ∈ V.take (i + 1), x.1.1 = r := fun x hx => by
          rw [htk] at hx
          rcases List.mem_append.1 hx with hx | hx
          · exact h6 x hx
          · simp at hx
            rw [hx]
        have hTl : (V.take i).length ≤ 100000 := by
          rw [List.length_take]
          omega
        have HH := Lib.hid (And.intro h1 (And.intro h2 (And.intro h3 (And.intro h4 (And.intro h5 (And.intro hall (And.intro h7 (And.intro h8 (And.intro h9 htk)))))))))
        clear h1 h2 h3 h4 h5 h6 h7 h8 h9 hall hx hxe hVi htk
        gi_wp2_with (gi_at_builtin; refine appIn_pr rfl _ _ rfl (k0 + 2) vl (V.take i) rfl HH.out.2.2.2.2.2.2.2.1 ((r, m), s) rfl hTl (by omega) b hbA HH.out.2.2.2.2.2.2.2.2.1 ?_; intro v' w' hv' hbw hvb hbb hzz; obtain ⟨av, cv, rfl⟩ := (OwnP.prs hv').form; have hlow := hbw _ (Below.refl _ _); have hbx : Boxed w' bl 22 vl := (hlow.block bl (by omega)).trans HH.out.2.2.2.2.2.2.1; have cl2 := hbx.cell; have fl2 := hbx.frozen; obtain ⟨nS, hnS⟩ : ∃ k, (V.take i ++ [((r, m), s)]).length = k := ⟨_, rfl⟩; rw [hnS] at hv' hvb ⊢; have HV2 := Lib.hid (And.intro hv' (And.intro hlow (And.intro hbx (And.intro hvb (And.intro hbb hnS))))); clear hv' hbw hlow hbx hnS hvb hbb)
        obtain ⟨h1, h2, h3, h4, h5, hall, h7, h8, h9, htk⟩ := HH.out
        obtain ⟨r1, r2, r3, r4, r5, r6⟩ := HV2.out
        have hzz' := r2.size
        have hk2 : Keeps bl w' (w'.setCell ⟨bl, 0, none⟩ (.slice av nS cv)) := (Keeps.refl _ _).set 0 _
        refine ⟨Same3.trans ⟨hzz', fun k hk hl => ?_⟩ (Same3.of_keeps hk2 (by omega) (by omega) (by omega)), ⟨h1.1, Nat.le_trans h1.2 (Nat.le_trans hzz' hk2.size)⟩, (h2.lows r2 (by omega)).hole hk2 (by omega) (.inl (by omega)), boxed_keeps ((r2.block _ (by omega)).trans h3) hk2 (by omega), cell_keeps ((r2.cell (p := ⟨Bc, 0, none⟩) (by show Bc < _; omega)).trans h4) hk2 (by omega), hk2.on (h5.trans (r2.mono (by omega))) (by omega) (Nat.le_trans h5.size hzz'), hall, _, r3.set _, ?_, r4⟩
        · rcases hk with rfl | rfl | ⟨_, rfl⟩
          · exact r2.block _ (by omega)
          · exact r2.block _ (by omega)
          · exact r5
        · rw [htk]
          exact ownP_keeps r1 hk2 (fun e => by have := World.ownsRow.lt r1 _ e; omega)
      · have hd : (r == p) = false := by simpa using hrp
        have hli := HU.out i h6 (fun hi' => by rw [← hVi]; exact hrp)
        have HH := Lib.hid (And.intro h5 (And.intro h7 (And.intro h8 hli)))
        clear h1 h2 h3 h4 h5 h6 h7 h8 h9 hx hxe hVi htk hrp hli
        gi_wp2_with fail
        obtain ⟨h5, h7, h8, hli⟩ := HH.out
        exact ⟨Same3.of_below (Below.refl _ _), rfl, vl, h7, hli ▸ h8, h5⟩
    · intro D b A hD hI hK
      rw [← HN.out] at hD
      obtain ⟨h1, h2, h3, h4, h5, h6, vl, h7, h8, h9⟩ := hI
      have hli := HU.out V.length h6 (fun hi' => by omega)
      have hE : HiE w k0 bl L A := ⟨vl, h7, hli ▸ h8, h5⟩
      clear h1 h2 h3 h4 h5 h6 h7 h8 h9 hli
      obtain ⟨vl, h7, h8, h5⟩ := hE
      have cl := h7.cell
      obtain ⟨av, cv, rfl⟩ := (OwnP.prs h8).form
      obtain ⟨nS, hnS⟩ : ∃ k, L.length = k := ⟨_, rfl⟩
      rw [hnS] at cl
      have HH := Lib.hid (And.intro h5 (And.intro h8 hK))
      have HNS := Lib.hid hnS
      have HD := Lib.hid hD
      clear h5 h7 h8 hK hnS
      change WpE _ _ _ _ _
      refine wpE_of ?_
      go_wp2_with fail
      obtain ⟨h5, h8, hK⟩ := HH.out
      rw [← HNS.out]
      obtain rfl := HD.out
      have hkp : Keeps D A (A.putObj D (.deferred none)) := keeps_put _
      refine leavesM_mark (by simp) hK ?_
      refine ⟨_, results_tmp2 rfl _ _ _, _, rfl, ?_, hkp.on h5 (by omega) h5.size⟩
      exact own_weak (ownP_keeps h8 hkp (fun e => by have := World.ownsRow.lt h8 _ e; omega)) (by omega)
    · rintro D c A hD ⟨rfl, hE⟩ hK
      rw [← HN.out] at hD
      obtain ⟨vl, h7, h8, h5⟩ := hE
      have cl := h7.cell
      obtain ⟨av, cv, rfl⟩ := (OwnP.prs h8).form
      obtain ⟨nS, hnS⟩ : ∃ k, L.length = k := ⟨_, rfl⟩
      rw [hnS] at cl
      have HH := Lib.hid (And.intro h5 (And.intro h8 hK))
      have HNS := Lib.hid hnS
      have HD := Lib.hid hD
      clear h5 h7 h8 hK hnS
      refine wpE_of (wp_exit ?_)
      change WpE _ _ _ _ _
      refine wpE_of ?_
      go_wp2_with fail
      obtain ⟨h5, h8, hK⟩ := HH.out
      rw [← HNS.out]
      obtain rfl := HD.out
      have hkp : Keeps D A (A.putObj D (.deferred none)) := keeps_put _
      refine leavesM_mark (by simp) hK ?_
      refine ⟨_, results_tmp2 rfl _ _ _, _, rfl, ?_, hkp.on h5 (by omega) h5.size⟩
      exact own_weak (ownP_keeps h8 hkp (fun e => by have := World.ownsRow.lt h8 _ e; omega)) (by omega)
    · exact fun _ _ _ _ h _ => h.elim
  · have hEb : (E != 0) = true := by simpa using h0
    have HB0 := Lib.hid hB0
    obtain ⟨c0, f0⟩ := And.intro HE.out.cell HE.out.frozen
    rw [if_neg h0]
    clear h hs hB0 hE h0
    go_enter Tryz.func18, Tryz.ntmps18
    go_wp2_with fail
    refine (KR.out _ HB0.out).mono ?_
    rintro e w1 ⟨rfl, hB1⟩
    go_wp2_with fail
    go_ret2
    exact ⟨_, rfl, World.ownsRow_nil _ _ _ _, below2 HB0.out hB1⟩

end Go.Proofs.YtbadbfmeoiclfaaGreatDoor

/-
  The law file's sized; the document's rows.
-/
namespace Go.Proofs.YtbadbfmeoiclfaaGreatDoor
set_option maxRecDepth 100000
open Go.RowKit

def stA : Cg := ([97], false, 1, 0, [])
def soB : Cg := ([98], false, 1, 0, [])
def stG : Cg := ([97], true, 0, 0, [])
def stU : List Pr := layP [] 1 [stA, soB]
def soW : List Pr := layP stU 3 [stG]
theorem st_val : cval stA = [1, 1, 1, 0, 0] ∧ cval soB = [1, 1, 1, 0, 0] ∧ cval stG = [0] := by
  refine ⟨?_, ?_, ?_⟩ <;> rfl
theorem st_U : stU = [(([97], 1), [1, 1, 1, 0, 0]), (([98], 1), [1, 1, 1, 0, 0])] := by
  unfold stU layP
  simp only [List.foldl, st_val.1, st_val.2.1]
  rfl
theorem st_W : soW = [(([97], 3), [0]), (([97], 1), [1, 1, 1, 0, 0]), (([98], 1), [1, 1, 1, 0, 0])] := by
  unfold soW layP
  rw [st_U]
  simp only [List.foldl, st_val.2.2]
  rfl
theorem st_lays : layB [] 1 [stA, soB] = true ∧ layB stU 3 [stG] = true ∧ layB soW 3 [stA] = false := by
  rw [st_U, st_W]
  refine ⟨?_, ?_, ?_⟩ <;> rfl
theorem st_red : redM [1, 1, 1, 0, 0] = (1, 0, []) ∧ redG [1, 1, 1, 0, 0] = false := ⟨rfl, rfl⟩
theorem st_is : isSt stU = true ∧ isSt soW = true := by
  rw [st_U, st_W]
  exact ⟨rfl, rfl⟩
theorem st_tells : asL soW [97] 2 = some ([97], 1, 1, 0, []) ∧ asL soW [97] 3 = none ∧ refE [97] 2 = 0 ∧ refE [97] 3 = 0 ∧ refE [] 2 = 0 ∧ refE [] 9 = 0 ∧ refE [97] 0 = 0 := by
  rw [st_W]
  refine ⟨rfl, rfl, rfl, rfl, rfl, rfl, rfl⟩
theorem st_lists : listL soW [] 2 = [([97], 1, 1, 0, []), ([98], 1, 1, 0, [])] ∧ listL soW [] 9 = [([98], 1, 1, 0, [])] ∧ (histL soW [97]).length = 2 ∧ lastSo soW = 3 := by
  rw [st_W]
  refine ⟨rfl, rfl, rfl, rfl⟩

theorem took_vals : ∀ {r : List Ld}, TookR r → ∀ x ∈ layR r, x.2.length ≤ 96
  | [], _, x, hx => by cases hx
  | b :: r, h, x, hx => by
    obtain ⟨h1, _⟩ := layR_facts h.1
    obtain ⟨l1, _, l3, l4⟩ := layB_iff.1 h.2
    obtain ⟨_, _, b3, b4⟩ := isB_iff.1 l3
    rcases (mem_lay_new h1 (sort_unlike b4) (till_last l4) x).1 hx with hx | ⟨c, hc, rfl⟩
    · exact took_vals h.1 x hx
    · exact cval_len (b3 c hc)
theorem sto_took {w : World} {tv : Value} {r : List Ld} (h : TookR r) (hl : (layR r).length ≤ 1000) (ht : TreeV w tv (layR r)) (hm : Ml w) : Sto w tv (layR r) := by
  have hs := (layR_facts h).2
  refine ⟨ht, fun x hx => ?_, hl, fun x hx => ?_, fun x hx => by have := took_vals h x hx; omega, hm⟩
  · obtain ⟨h1, h2, _⟩ := st_times hs x hx
    unfold TimeK
    omega
  · have := under_len ((under_root x.1.1).trans (st_times hs x hx).2.2.1)
    omega
theorem st_took : TookR [(1, [stA, soB])] ∧ TookR [(3, [stG]), (1, [stA, soB])] := ⟨⟨trivial, st_lays.1⟩, ⟨trivial, st_lays.1⟩, st_lays.2.1⟩
theorem st_stoU {w : World} {tv : Value} (ht : TreeV w tv stU) (hm : Ml w) : Sto w tv stU := sto_took (r := [(1, [stA, soB])]) st_took.1 (by show stU.length ≤ 1000; rw [st_U]; decide) ht hm
theorem st_stoW {w : World} {tv : Value} (ht : TreeV w tv soW) (hm : Ml w) : Sto w tv soW := sto_took (r := [(3, [stG]), (1, [stA, soB])]) st_took.2 (by show soW.length ≤ 1000; rw [st_W]; decide) ht hm
theorem sto_nil {w : World} {tv : Value} (ht : TreeV w tv []) (hm : Ml w) : Sto w tv [] := ⟨ht, (fun _ h => absurd h List.not_mem_nil), Nat.zero_le _, (fun _ h => absurd h List.not_mem_nil), (fun _ h => absurd h List.not_mem_nil), hm⟩
theorem Cgs.lit (w : World) (S : List Cv) (t : TypeId) (h : ∀ x ∈ S, Ints w x.2 x.1.2.2.2.2) : Cgs (w.alloc (.cells (ccells S).toArray t)) (.slice (some ⟨w.heap.size, 0, none⟩) S.length S.length) S := by
  refine ⟨⟨ccells_len S, _, _, rfl, Nat.le_refl _, .inr ⟨_, 0, rfl, fun j hj => ?_⟩⟩, fun x hx => (h x hx).below (below_alloc _ _)⟩
  rw [Nat.zero_add, World.cell?_alloc_new]
  simp [List.getElem?_eq_getElem hj]

theorem chg_agg (w : World) : (isAgg 62).run Tryz.prog w = .ok true w := by simp [isAgg, run_underlying Tryz.underlying62]
theorem chg_size : (Tryz.prog.info? 62).map (·.size) = some 5 := by kernel_rfl
theorem load_chg (w : World) (g : Nat) (v0 v1 v2 v3 v4 : Value) (h : Cx w g 62 [v0, v1, v2, v3, v4]) : (loadVar 62 ⟨g, 0, none⟩).run Tryz.prog w = .ok (.agg #[v0, v1, v2, v3, v4]) w :=
  load_many (cs := [v0, v1, v2, v3, v4]) (chg_agg w) chg_size (cells_box h)
theorem ret_chg {fn : Func} {p : Tmp} {R : Ending → World → Prop} {a : Act} {w : World} (h : fn.results = #[.cell p 62]) (hd : a.defers = []) (g : Nat) (v0 v1 v2 v3 v4 : Value) (hp : a.tmps.getD p undef = .pointer (some ⟨g, 0, none⟩))
    (hc : Cx w g 62 [v0, v1, v2, v3, v4]) (hR : R (.returned (.agg #[v0, v1, v2, v3, v4])) w) : bodyPost Tryz.prog fn R .ret a w := by
  refine bodyPost_ret (v := .agg #[v0, v1, v2, v3, v4]) ?_ hd hR
  have hp' : a.tmps[p]?.getD undef = .pointer (some ⟨g, 0, none⟩) := by simpa using hp
  simp [results, h, hp', asAddr, load_chg w g v0 v1 v2 v3 v4 hc]
theorem ret_chg3 {fn : Func} {p q r : Tmp} {R : Ending → World → Prop} {a : Act} {w : World} (h : fn.results = #[.cell p 62, .tmp q, .tmp r]) (hd : a.defers = []) (g : Nat) (v0 v1 v2 v3 v4 u t : Value) (hp : a.tmps.getD p undef = .pointer (some ⟨g, 0, none⟩))
    (hq : a.tmps.getD q undef = u) (hr : a.tmps.getD r undef = t) (hc : Cx w g 62 [v0, v1, v2, v3, v4]) (hR : R (.returned (.tuple #[.agg #[v0, v1, v2, v3, v4], u, t])) w) : bodyPost Tryz.prog fn R .ret a w := by
  refine bodyPost_ret (v := .tuple #[.agg #[v0, v1, v2, v3, v4], u, t]) ?_ hd hR
  have hp' : a.tmps[p]?.getD undef = .pointer (some ⟨g, 0, none⟩) := by simpa using hp
  have hq' : a.tmps[q]?.getD undef = u := by simpa using hq
  have hr' : a.tmps[r]?.getD undef = t := by simpa using hr
  simp [results, h, hp', hq', hr', asAddr, load_chg w g v0 v1 v2 v3 v4 hc]

set_option maxHeartbeats 1000000 in
theorem sized_calls (p : List UInt8) (n : Int) (w : World) :
    Calls Tryz.prog 55 #[.string ⟨p.toArray⟩, .int .i64 n] w fun e w' => e = .returned (.agg #[.string ⟨p.toArray⟩, .bool false, .int .i64 n, .int .i64 0, .slice none 0 0]) ∧ Below w.heap.size w w' := by
  have hC := Cx.new w 62 [.string ⟨p.toArray⟩, .bool false, .int .i64 n, .int .i64 0, .slice none 0 0]
  go_enter Tryz.func55, Tryz.ntmps55
  go_wp2_with fail
  exact ret_chg rfl rfl w.heap.size _ _ _ _ _ rfl hC ⟨rfl, below_alloc _ _⟩

theorem ens_at {S : List Ev} {L : List En} (h : ens S = L) {k : Nat} (hk : k < S.length) : some S[k].1 = L[k]? := by
  subst h
  rw [List.getElem?_map, List.getElem?_eq_getElem hk]
  rfl
def cvA : Cv := (stA, .slice none 0 0)
def cvB : Cv := (soB, .slice none 0 0)
def cvG : Cv := (stG, .slice none 0 0)
theorem st_small : SmallC [stA, soB] ∧ SmallC [stG] ∧ SmallC [stA] := by
  refine ⟨fun c hc => ?_, fun c hc => ?_, fun c hc => ?_⟩ <;> simp at hc
  · rcases hc with rfl | rfl <;> exact ⟨by decide, by decide⟩
  · subst hc; exact ⟨by decide, by decide⟩
  · subst hc; exact ⟨by decide, by decide⟩
theorem st_litAB (w : World) : Cgs (w.alloc (.cells #[.string ⟨#[97]⟩, .bool false, .int .i64 1, .int .i64 0, .slice none 0 0, .string ⟨#[98]⟩, .bool false, .int .i64 1, .int .i64 0, .slice none 0 0] 62)) (.slice (some ⟨w.heap.size, 0, none⟩) 2 2) [cvA, cvB] :=
  Cgs.lit w [cvA, cvB] 62 fun x hx => by
    simp at hx
    rcases hx with rfl | rfl <;> exact Ints.nil w
theorem st_litG (w : World) : Cgs (w.alloc (.cells #[.string ⟨#[97]⟩, .bool true, .int .i64 0, .int .i64 0, .slice none 0 0] 62)) (.slice (some ⟨w.heap.size, 0, none⟩) 1 1) [cvG] :=
  Cgs.lit w [cvG] 62 fun x hx => by
    simp at hx
    subst hx
    exact Ints.nil w
theorem st_litA (w : World) : Cgs (w.alloc (.cells #[.string ⟨#[97]⟩, .bool false, .int .i64 1, .int .i64 0, .slice none 0 0] 62)) (.slice (some ⟨w.heap.size, 0, none⟩) 1 1) [cvA] :=
  Cgs.lit w [cvA] 62 fun x hx => by
    simp at hx
    subst hx
    exact Ints.nil w

set_option maxHeartbeats 8000000 in
theorem stored_calls (w : World) (hml : Ml w) : Calls Tryz.prog 23 #[] w fun e w' => e = .returned (.bool true) ∧ Below w.heap.size w w' := by
  have HM := Lib.hid hml
  have KZ := Lib.hid (fun p n W => sized_calls p n W)
  have KW := Lib.hid (fun W => new_calls W)
  have KL1 := Lib.hid (fun tv W (ht : TreeV W tv []) (hm : Ml W) v (hS : Cgs W v [cvA, cvB]) => lay_ok (sto_nil ht hm) 1 v [cvA, cvB] hS st_small.1 rfl st_lays.1)
  have KL2 := Lib.hid (fun tv W (ht : TreeV W tv stU) (hm : Ml W) v (hS : Cgs W v [cvG]) => lay_ok (st_stoU ht hm) 3 v [cvG] hS st_small.2.1 st_is.1 st_lays.2.1)
  have KL3 := Lib.hid (fun tv W (ht : TreeV W tv soW) (hm : Ml W) v (hS : Cgs W v [cvA]) => lay_no (st_stoW ht hm) 3 v [cvA] hS (by decide) st_small.2.2 (by rw [st_is.2]; exact st_lays.2.2))
  have KA2 := Lib.hid (fun tv W (ht : TreeV W tv soW) (hm : Ml W) => asOf_calls (st_stoW ht hm) st_is.2 [97] 2 (by decide))
  have KA3 := Lib.hid (fun tv W (ht : TreeV W tv soW) (hm : Ml W) => asOf_calls (st_stoW ht hm) st_is.2 [97] 3 (by decide))
  have KI2 := Lib.hid (fun tv W (ht : TreeV W tv soW) (hm : Ml W) => list_calls (st_stoW ht hm) st_is.2 [] 2 (by decide))
  have KI9 := Lib.hid (fun tv W (ht : TreeV W tv soW) (hm : Ml W) => list_calls (st_stoW ht hm) st_is.2 [] 9 (by decide))
  have KH := Lib.hid (fun tv W (ht : TreeV W tv soW) (hm : Ml W) => hist_calls (st_stoW ht hm) st_is.2 [97] (by decide))
  have KT := Lib.hid (fun tv W (ht : TreeV W tv soW) (hm : Ml W) => soLast_calls (st_stoW ht hm))
  have KS := Lib.hid (fun tv W (ht : TreeV W tv soW) (hm : Ml W) => soIs_calls (st_stoW ht hm))
  obtain ⟨e1, e2, e3, e4, e5, e6, e7⟩ := st_tells
  obtain ⟨f1, f2, f3, f4⟩ := st_lists
  rw [e1, e3] at KA2
  rw [e2, e4] at KA3
  rw [e5, if_pos rfl, f1] at KI2
  rw [e6, if_pos rfl, f2] at KI9
  rw [e7, if_pos rfl] at KH
  rw [f4] at KT
  rw [st_is.2] at KS
  dsimp only [enD, Option.getD, Option.isSome, EV] at KA2 KA3
  have HF := Lib.hid f3
  clear e1 e2 e3 e4 e5 e6 e7 f1 f2 f3 f4 hml
  go_enter Tryz.func23, Tryz.ntmps23
  go_wp2_with fail
  refine (KW.out _).mono ?_
  rintro e w1 ⟨v1, rfl, ht1, hB1⟩
  obtain ⟨p1, rfl⟩ := ht1.val
  have HT1 := Lib.hid (And.intro ht1 hB1)
  clear ht1 hB1
  go_wp2_with fail
  refine (KZ.out [97] 1 _).mono ?_
  rintro e w2 ⟨rfl, hB2⟩
  have HB2 := Lib.hid hB2
  clear hB2
  go_wp2_with fail
  refine (KZ.out [98] 1 _).mono ?_
  rintro e w3 ⟨rfl, hB3⟩
  have hBa := below_alloc w3 (.cells #[.string ⟨#[97]⟩, .bool false, .int .i64 1, .int .i64 0, .slice none 0 0, .string ⟨#[98]⟩, .bool false, .int .i64 1, .int .i64 0, .slice none 0 0] 62)
  have HB3 := Lib.hid (And.intro (HT1.out.1.below (below3 HB2.out hB3 hBa)) (below2 HT1.out.2 (below3 HB2.out hB3 hBa)))
  clear hB3 hBa
  go_wp2_with fail
  refine (KL1.out _ _ HB3.out.1 (HM.out.below HB3.out.2) _ (st_litAB w3)).mono ?_
  rintro e w4 ⟨v4, rfl, ht4, hB4⟩
  obtain ⟨p4, rfl⟩ := ht4.val
  have hBa := below_alloc w4 (.cells #[.string ⟨#[97]⟩, .bool true, .int .i64 0, .int .i64 0, .slice none 0 0] 62)
  have HT4 := Lib.hid (And.intro (ht4.below hBa) (below3 HB3.out.2 hB4 hBa))
  clear ht4 hB4 hBa
  go_wp2_with fail
  refine (KL2.out _ _ HT4.out.1 (HM.out.below HT4.out.2) _ (st_litG w4)).mono ?_
  rintro e w5 ⟨v5, rfl, ht5, hB5⟩
  obtain ⟨p5, rfl⟩ := ht5.val
  have HT5 := Lib.hid (And.intro ht5 (below2 HT4.out.2 hB5))
  clear ht5 hB5
  go_wp2_with fail
  refine (KA2.out _ _ HT5.out.1 (HM.out.below HT5.out.2)).mono ?_
  rintro e w6 ⟨v6, rfl, hI6, hB6⟩
  obtain ⟨a6, c6, rfl⟩ := (ints_own hI6).form
  have hBa := below_alloc w6 (.cells #[.string ⟨#[97]⟩, .int .i64 1, .int .i64 1, .int .i64 0, .slice a6 0 c6] 41)
  have HT6 := Lib.hid (And.intro (HT5.out.1.below (below2 hB6 hBa)) (below3 HT5.out.2 hB6 hBa))
  have HX6 := Lib.hid (Cx.new w6 41 [.string ⟨#[97]⟩, .int .i64 1, .int .i64 1, .int .i64 0, .slice a6 0 c6])
  clear hI6 hB6 hBa
  go_wp2_with fail
  refine (KA3.out _ _ HT6.out.1 (HM.out.below HT6.out.2)).mono ?_
  rintro e w7 ⟨v7, rfl, hI7, hB7⟩
  obtain ⟨a7, c7, rfl⟩ := (ints_own hI7).form
  have hBa := below_alloc w7 (.cells #[.string ⟨#[]⟩, .int .i64 0, .int .i64 0, .int .i64 0, .slice a7 0 c7] 41)
  have HT7 := Lib.hid (And.intro (HT6.out.1.below (below2 hB7 hBa)) (below3 HT6.out.2 hB7 hBa))
  have HX7 := Lib.hid ((HX6.out.below hB7).below hBa)
  clear hI7 hB7 hBa
  go_wp2_with fail
  refine (KI2.out _ _ HT7.out.1 (HM.out.below HT7.out.2)).mono ?_
  rintro e w8 ⟨v8, S8, rfl, ho8, he8, hB8⟩
  obtain ⟨a8, c8, rfl⟩ := ho8.form
  have HT8 := Lib.hid (And.intro (HT7.out.1.below hB8) (below2 HT7.out.2 hB8))
  have HX8 := Lib.hid (HX7.out.below hB8)
  have h8 : S8.length = 2 := by
    have := congrArg List.length he8
    simpa using this
  rw [h8]
  have HE8 := Lib.hid (And.intro ho8.ents (And.intro he8 h8))
  clear ho8 hB8 he8 h8
  go_wp2_with fail
  refine (KI9.out _ _ HT8.out.1 (HM.out.below HT8.out.2)).mono ?_
  rintro e w9 ⟨v9, S9, rfl, ho9, he9, hB9⟩
  obtain ⟨a9, c9, rfl⟩ := ho9.form
  have HT9 := Lib.hid (And.intro (HT8.out.1.below hB9) (below2 HT8.out.2 hB9))
  have HX9 := Lib.hid (HX8.out.below hB9)
  have h9 : S9.length = 1 := by
    have := congrArg List.length he9
    simpa using this
  rw [h9]
  have HE9 := Lib.hid (And.intro ho9.ents (And.intro he9 (And.intro h9 (HE8.out.1.below hB9))))
  clear ho9 hB9 he9 h9
  go_wp2_with fail
  refine (KZ.out [97] 1 _).mono ?_
  rintro e w10 ⟨rfl, hB10⟩
  have hBa := below_alloc w10 (.cells #[.string ⟨#[97]⟩, .bool false, .int .i64 1, .int .i64 0, .slice none 0 0] 62)
  have HT10 := Lib.hid (And.intro (HT9.out.1.below (below2 hB10 hBa)) (And.intro (below3 HT9.out.2 hB10 hBa) (below2 hB10 hBa)))
  clear hB10 hBa
  go_wp2_with fail
  refine (KL3.out _ _ HT10.out.1 (HM.out.below HT10.out.2.1) _ (st_litA w10)).mono ?_
  rintro e w11 ⟨rfl, hB11⟩
  have HT11 := Lib.hid (And.intro (HT10.out.1.below hB11) (And.intro (below2 HT10.out.2.1 hB11) (below2 HT10.out.2.2 hB11)))
  clear hB11
  go_wp2_with fail
  refine (KH.out _ _ HT11.out.1 (HM.out.below HT11.out.2.1)).mono ?_
  rintro e w12 ⟨v12, rfl, ho12, hB12⟩
  obtain ⟨a12, c12, rfl⟩ := (OwnP.prs ho12).form
  rw [HF.out]
  have HT12 := Lib.hid (And.intro (HT11.out.1.below hB12) (below2 HT11.out.2.1 hB12))
  have hB := below2 HT11.out.2.2 hB12
  obtain ⟨⟨x0, x1, x2, _, _⟩, _, _⟩ := (HX9.out.below hB).five2
  have hE8 := HE9.out.2.2.2.below hB
  have hE9 := HE9.out.1.below hB
  have h8 := HE8.out.2
  have h9 := HE9.out.2
  obtain ⟨b8, o8, rfl, ⟨q8, _⟩, _⟩ := hE8.at (k := 0) (by omega)
  obtain ⟨b9, o9, rfl, ⟨q9, _⟩, _⟩ := hE9.at (k := 0) (by omega)
  have g8 : S8[0].1.1 = [97] := by
    have e := ens_at h8.1 (k := 0) (by omega)
    simp at e
    rw [e]
  have g9 : S9[0].1.1 = [98] := by
    have e := ens_at h9.1 (k := 0) (by omega)
    simp at e
    rw [e]
  have k8 : w12.cell? ⟨b8, o8, none⟩ = some (.string ⟨#[97]⟩) := by
    rw [g8] at q8
    simpa using q8
  have k9 : w12.cell? ⟨b9, o9, none⟩ = some (.string ⟨#[98]⟩) := by
    rw [g9] at q9
    simpa using q9
  clear ho12 hB12 hB hE8 hE9
  go_wp2_with fail
  refine (KT.out _ _ HT12.out.1 (HM.out.below HT12.out.2)).mono ?_
  rintro e w13 ⟨rfl, hB13⟩
  have HT13 := Lib.hid (And.intro (HT12.out.1.below hB13) (below2 HT12.out.2 hB13))
  clear hB13
  go_wp2_with fail
  refine (KS.out _ _ HT13.out.1 (HM.out.below HT13.out.2)).mono ?_
  rintro e w14 ⟨rfl, hB14⟩
  have hB := below2 HT13.out.2 hB14
  go_wp2_with fail
  go_ret
  exact ⟨rfl, hB⟩

end Go.Proofs.YtbadbfmeoiclfaaGreatDoor

/-
  The law file's laid: batches are laid one behind the other.
-/
namespace Go.Proofs.YtbadbfmeoiclfaaGreatDoor
set_option maxRecDepth 100000
open Go.RowKit

/-- The batches that were taken, in their order; the pairs that are there. -/
def pairsK (K : List Lv) : List Pr := layR (lds K).reverse
def stepK (K : List Lv) (x : Lv) : List Lv := if layB (pairsK K) x.1.1 (chs x.2) then K ++ [x] else K
def tookS (S : List Lv) : List Lv := S.foldl stepK []
def TookK (K : List Lv) : Prop := TookR (lds K).reverse
theorem lds_snoc (K : List Lv) (x : Lv) : (lds (K ++ [x])).reverse = (x.1.1, chs x.2) :: (lds K).reverse := by
  unfold lds
  rw [List.map_append, List.reverse_append]
  rfl
theorem pairsK_snoc (K : List Lv) (x : Lv) : pairsK (K ++ [x]) = layP (pairsK K) x.1.1 (chs x.2) := by
  unfold pairsK
  rw [lds_snoc]
  rfl
theorem stepK_took {K : List Lv} (h : TookK K) (x : Lv) : TookK (stepK K x) := by
  unfold stepK
  split
  · rename_i hl
    unfold TookK
    rw [lds_snoc]
    exact ⟨h, hl⟩
  · exact h
theorem took_snoc {S : List Lv} {k : Nat} (h : k < S.length) : tookS (S.take (k + 1)) = stepK (tookS (S.take k)) S[k] := by
  have e : S.take (k + 1) = S.take k ++ [S[k]] := by rw [List.take_append_getElem]
  rw [e]
  unfold tookS
  rw [List.foldl_append]
  rfl
theorem took_facts : ∀ (S K : List Lv), TookK K → TookK (S.foldl stepK K) ∧ (S.foldl stepK K).length ≤ K.length + S.length ∧ ∀ y ∈ S.foldl stepK K, y ∈ K ∨ y ∈ S
  | [], K, h => ⟨h, Nat.le_refl _, fun y hy => .inl hy⟩
  | x :: r, K, h => by
    obtain ⟨h1, h2, h3⟩ := took_facts r (stepK K x) (stepK_took h x)
    have hl : (stepK K x).length ≤ K.length + 1 := by unfold stepK; split <;> simp
    refine ⟨h1, by rw [List.length_cons]; rw [List.foldl_cons]; omega, fun y hy => ?_⟩
    rcases h3 y hy with hy | hy
    · unfold stepK at hy
      split at hy
      · rcases List.mem_append.1 hy with hy | hy
        · exact .inl hy
        · obtain rfl := List.mem_singleton.1 hy
          exact .inr (by simp)
      · exact .inl hy
    · exact .inr (List.mem_cons_of_mem _ hy)
theorem took_all (S : List Lv) : TookK (tookS S) ∧ (tookS S).length ≤ S.length ∧ ∀ y ∈ tookS S, y ∈ S := by
  obtain ⟨h1, h2, h3⟩ := took_facts S [] trivial
  exact ⟨h1, by simpa [tookS] using h2, fun y hy => (h3 y hy).resolve_left (by simp)⟩
theorem pairsK_len {K : List Lv} (h : TookK K) : (pairsK K).length ≤ 20 * K.length := by
  have := layR_len h
  simpa [pairsK] using this
theorem pairsK_st {K : List Lv} (h : TookK K) : Rises (pairsK K) ∧ isSt (pairsK K) = true := layR_facts h
theorem pairsK_sto {w : World} {tv : Value} {K : List Lv} (h : TookK K) (hl : K.length ≤ 50) (ht : TreeV w tv (pairsK K)) (hm : Ml w) : Sto w tv (pairsK K) :=
  sto_took h (by have := pairsK_len h; unfold pairsK at this; omega) ht hm

set_option maxHeartbeats 8000000 in
theorem soLaid_calls (v : Value) (S : List Lv) (w : World) (h : Lds w v S) (hn : S.length ≤ 20) (hs : ∀ x ∈ S, SmallC (chs x.2) ∧ x.2.length ≤ 25) (hml : Ml w) :
    Calls Tryz.prog 28 #[v] w fun e w' => ∃ u v', e = .returned (.tuple #[u, v']) ∧ TreeV w' u (pairsK (tookS S)) ∧ OwnL2 w' w.heap.size v' (tookS S) ∧ Below w.heap.size w w' := by
  obtain ⟨ao, cap, rfl⟩ := h.form
  have HH := Lib.hid (And.intro h (And.intro hs hml))
  have KW := Lib.hid (fun W => new_calls W)
  clear h hs hml
  go_enter Tryz.func28, Tryz.ntmps28
  go_wp2_with fail
  refine (KW.out _).mono ?_
  rintro e w1 ⟨v1, rfl, ht1, hB1⟩
  obtain ⟨p1, rfl⟩ := ht1.val
  have HT1 := Lib.hid (And.intro ht1 hB1)
  clear ht1 hB1
  go_wp2_with fail
  go_loopw [4, 5, 6] (fun t r i wr => ∃ k : Nat, i = .int .i64 k ∧ k ≤ S.length ∧ TreeV wr t (pairsK (tookS (S.take k))) ∧ OwnL2 wr w.heap.size r (tookS (S.take k)) ∧ Below w.heap.size w wr) (fun _ _ i _ => S.length - (intOf i).toNat)
  case atStart => exact ⟨0, rfl, Nat.zero_le _, HT1.out.1, OwnL2.nil _ _, HT1.out.2⟩
  case round =>
    obtain ⟨k, rfl, hk, ht, hr, hB⟩ := hrel
    obtain ⟨tp, rfl⟩ := ht.val
    obtain ⟨a5, c5, rfl⟩ := hr.form
    obtain ⟨hK1, hK2, hK3⟩ := took_all (S.take k)
    obtain ⟨K, hK⟩ : ∃ K, tookS (S.take k) = K := ⟨_, rfl⟩
    obtain ⟨nK, hnK⟩ : ∃ n, K.length = n := ⟨_, rfl⟩
    have hsn := fun hlt => took_snoc (S := S) (k := k) hlt
    rw [hK] at ht hr hK1 hK2 hK3 hsn ⊢
    rw [hnK]
    have hlK : K.length ≤ 20 := by
      rw [List.length_take] at hK2
      omega
    have HR := Lib.hid (And.intro ht (And.intro hr (And.intro hB (And.intro hK1 (And.intro hlK (And.intro hnK hK3))))))
    by_cases hlt : k < S.length
    · have hlt2 : decide ((k : Int) < (S.length : Int)) = true := by rw [decide_eq_true_eq]; omega
      obtain ⟨b, off, rfl, ⟨c0, c1⟩, hC⟩ := (HH.out.1.below hB).at hlt
      have hsm := HH.out.2.1 _ (List.getElem_mem hlt)
      have hCw := HH.out.1.2 _ (List.getElem_mem hlt)
      have hsn2 := hsn hlt
      obtain ⟨⟨⟨n, u⟩, T⟩, hx⟩ : ∃ x, S[k] = x := ⟨_, rfl⟩
      rw [hx] at c0 c1 hC hCw hsm hsn2
      dsimp only at c0 c1 hC hCw hsm
      have hmr := HH.out.2.2.below hB
      have hst := pairsK_sto hK1 (by omega) ht hmr
      obtain ⟨s1, s3, rfl⟩ := hC.form
      obtain ⟨s2, hs2⟩ : ∃ n, T.length = n := ⟨_, rfl⟩
      have hbr : Below wr.heap.size wr wr.drew := drew_below _
      have HCELL : Hid (∀ W, Below wr.heap.size wr W → W.cell? ⟨b, off + k * 2, none⟩ = some (.int .i64 n) ∧ W.cell? ⟨b, off + k * 2 + 1, none⟩ = some (.slice s1 s2 s3)) := Lib.hid (fun W hW => ⟨look_below hW c0, hs2 ▸ look_below hW c1⟩)
      rw [hs2] at c1
      by_cases hly : layB (pairsK K) n (chs T) = true
      · have KL := Lib.hid (fun W (hW : Below wr.heap.size wr W) => lay_ok (hst.below hW) n _ T (hC.below hW) hsm.1 (pairsK_st hK1).2 hly)
        rw [hs2] at KL
        have hst2 : stepK K ((n, .slice s1 T.length s3), T) = K ++ [((n, .slice s1 T.length s3), T)] := by
          unfold stepK
          rw [if_pos hly]
        rw [hst2, hs2] at hsn2
        have HN := Lib.hid (And.intro hsn2 (And.intro hCw (And.intro (pairsK_snoc K ((n, .slice s1 T.length s3), T)) hs2)))
        clear hC hsm hx hst hst2 hmr hCw hsn hsn2 hs2 hly ht hr hB hK1 hK2 hK3 hlK hnK
        go_wp2_with fail
        go_region_held3 (fun w' => w'.cell? ⟨b, off + k * 2, none⟩ = some (.int .i64 n) ∧ w'.cell? ⟨b, off + k * 2 + 1, none⟩ = some (.slice s1 s2 s3)) (exact HCELL.out _ hbr) (first
          | (go_at_call 12; (with_reducible refine (KL.out _ hbr).mono ?_); rintro e w3 ⟨u3, rfl, ht3, hB3⟩; obtain ⟨p3, rfl⟩ := ht3.val; have hbr := below2 hbr hB3; have HT3 := Lib.hid ht3; clear ht3))
        all_goals
          obtain ⟨d0, d1⟩ := HCELL.out _ hbr
          have HO3 : Hid (OwnL2 w3 w.heap.size (.slice a5 nK c5) K) := Lib.hid (by have h1 := HR.out.2.1.stays hbr; rw [HR.out.2.2.2.2.2.1] at h1; exact h1)
          have HB4 := Lib.hid (below2 HR.out.2.2.1 hbr)
          have hs4 := HB4.out.size
          clear hbr
          go_wp2_with (at_builtin; refine app_laid (w0 := w) rfl _ _ rfl w.heap.size _ K rfl HO3.out n s1 s2 s3 T (HN.out.2.2.2 ▸ HN.out.2.1) (fun y hy => HH.out.1.2 y (List.mem_of_mem_take (HR.out.2.2.2.2.2.2 y hy))) HB4.out (Nat.le_refl _) rfl (by have := HR.out.2.2.2.2.1; omega) hs4 ?_; intro v' w' hv' hbw hstp; obtain ⟨av, cv, rfl⟩ := hv'.form; have HV := Lib.hid (And.intro hv' (And.intro (hbw _ HB4.out) hstp)); clear hv' hbw hstp)
          go_roundw
          case rel =>
            refine ⟨k + 1, by go_num, by omega, ?_, ?_, HV.out.2.1⟩
            · rw [HN.out.1, ← HN.out.2.2.2, HN.out.2.2.1]
              exact (HT3.out.below (below_alloc _ _)).step kind_ld HV.out.2.2
            · rw [HN.out.1]
              have h1 := HV.out.1
              simp only [List.length_append, List.length_cons, List.length_nil, Nat.zero_add] at h1
              exact h1
          case measure => simp [intOf]; omega
      · have hly2 : (isSt (pairsK K) && layB (pairsK K) n (chs T)) = false := by
          cases h : layB (pairsK K) n (chs T) with
          | false => simp
          | true => exact absurd h hly
        have KL := Lib.hid (fun W (hW : Below wr.heap.size wr W) => lay_no (hst.below hW) n _ T (hC.below hW) (by omega) hsm.1 hly2)
        rw [hs2] at KL
        have hst2 : stepK K ((n, .slice s1 T.length s3), T) = K := by
          unfold stepK
          rw [if_neg hly]
        rw [hst2] at hsn2
        have HN := Lib.hid hsn2
        clear hC hsm hx hst hst2 hmr hCw hsn hsn2 hs2 hly hly2 ht hr hB hK1 hK2 hK3 hlK hnK
        go_wp2_with fail
        go_region_held3 (fun w' => w'.cell? ⟨b, off + k * 2, none⟩ = some (.int .i64 n) ∧ w'.cell? ⟨b, off + k * 2 + 1, none⟩ = some (.slice s1 s2 s3)) (exact HCELL.out _ hbr) (first
          | (go_at_call 12; (with_reducible refine (KL.out _ hbr).mono ?_); rintro e w3 ⟨rfl, hB3⟩; have hbr := below2 hbr hB3))
        all_goals
          have HO3 := Lib.hid (HR.out.2.1.stays hbr)
          have HB4 := Lib.hid (below2 HR.out.2.2.1 hbr)
          have HT4 := Lib.hid (HR.out.1.below hbr)
          clear hbr
          go_wp2_with fail
          go_roundw
          case rel => exact ⟨k + 1, by go_num, by omega, by rw [HN.out]; exact HT4.out, by rw [HN.out, ← HR.out.2.2.2.2.2.1] at *; exact HO3.out, HB4.out⟩
          case measure => simp [intOf]; omega
    · obtain rfl : k = S.length := by omega
      have hlt2 : decide ((S.length : Int) < (S.length : Int)) = false := by simp
      rw [List.take_of_length_le (Nat.le_refl _)] at hK
      subst hK
      clear hK1 hK2 hK3 hsn hlK ht hr
      go_wp2_with fail
      go_ret2
      refine ⟨_, _, rfl, HR.out.1, ?_, HR.out.2.2.1⟩
      rw [← HR.out.2.2.2.2.2.1]
      exact HR.out.2.1

end Go.Proofs.YtbadbfmeoiclfaaGreatDoor

/-
  Batches that came in, opened.
-/
namespace Go.Proofs.YtbadbfmeoiclfaaGreatDoor
set_option maxRecDepth 100000
open Go.RowKit Go.Joins Go.ChangeShapes Go.WideShapes Go.Deep

theorem laidCells : Tryz.prog.cellsOf 27 = 2 := by kernel_rfl
/-- Two cells that are a batch, and its time. -/
theorem laid_trod {W : World} {n : Nat} {H : Type} {enc : TypeId × Value → H} {x : DataW H × List MemPlace} {c0 c1 : Value}
    (hf : DataW.trod enc Tryz.prog W 0 (fun _ => true) true n 27 [c0, c1] = some x) : ∃ y : Lv, (c0 = .int .i64 y.1.1 ∧ c1 = y.1.2) ∧ Cgs W y.1.2 y.2 ∧ y.2.length ≤ maxLen ∧ ∀ c ∈ chs y.2, c.1.length ≤ maxLen ∧ c.2.2.2.2.length ≤ maxLen := by
  have ki : Tryz.prog.cellsOf 3 = 1 := by kernel_rfl
  have kr : Tryz.prog.cellsOf 23 = 1 := by kernel_rfl
  obtain ⟨xs, k, _, _, _, hl, hc⟩ := DataW.trod_struct Tryz.underlying27 hf
  match xs, hl with
  | [x0, x1], _ =>
    have g0 := hc 0 _ rfl
    have g1 := hc 1 _ rfl
    simp [ki] at g0
    simp [kr] at g1
    obtain ⟨z, e0, _, _⟩ := DataW.trod_int Tryz.underlying3 g0
    obtain ⟨S, h1, h2, h3⟩ := changes_trod g1
    simp at e0
    subst e0
    exact ⟨((z, c1), S), ⟨rfl, rfl⟩, h1, h2, h3⟩

set_option maxHeartbeats 1000000 in
/-- A row of batches. -/
theorem laids_open {W : World} {base : Nat} {v : Value} {H : Type} {enc : TypeId × Value → H} {d : DataW H} {p : List MemPlace} (hv : Value.okWide Tryz.prog W .any base 28 v)
    (h : DataW.Trod enc Tryz.prog W 0 (fun _ => true) true 28 v d p) : ∃ S : List Lv, Lds W v S ∧ S.length ≤ maxLen ∧ ∀ x ∈ S, x.2.length ≤ maxLen ∧ ∀ c ∈ chs x.2, c.1.length ≤ maxLen ∧ c.2.2.2.2.length ≤ maxLen := by
  obtain ⟨a0, len0, cap0, rfl⟩ := okWide_slice Tryz.underlying28 hv
  obtain ⟨fuel, hf⟩ := h
  rcases open_slice Tryz.underlying28 hf with ⟨hcs, _⟩ | ⟨a, l, c, m, k, D, Pl, hcs, _, hl, hm, hz, _, hcell⟩
  · simp [Value.cells] at hcs
    obtain ⟨rfl, rfl, rfl⟩ := hcs
    exact ⟨[], Lds.nil W, by simp, fun x hx => by cases hx⟩
  · simp [Value.cells] at hcs
    obtain ⟨rfl, rfl, rfl⟩ := hcs
    have hz' : m = cap0 := by simpa using hz
    rw [laidCells] at hcell
    have each : ∀ i, i < m → ∃ y : Lv, (W.cell? (a.add (i * 2)) = some (.int .i64 y.1.1) ∧ W.cell? (a.add (i * 2 + 1)) = some y.1.2) ∧ Cgs W y.1.2 y.2 ∧ y.2.length ≤ maxLen ∧ ∀ c ∈ chs y.2, c.1.length ≤ maxLen ∧ c.2.2.2.2.length ≤ maxLen := by
      intro i hi
      obtain ⟨cs', h1, h2⟩ := hcell i hi
      obtain ⟨_, hlen, hc⟩ := World.cells?_some h1
      match cs', hlen with
      | [v0, v1], _ =>
        have e0 := hc 0 (by omega)
        have e1 := hc 1 (by omega)
        rw [add_add] at e0 e1
        obtain ⟨y, ⟨rfl, rfl⟩, hy⟩ := laid_trod h2
        exact ⟨y, ⟨by simpa using e0, by simpa using e1⟩, hy⟩
    obtain ⟨Y, hY⟩ := choose_lt each
    have hll : ((List.range len0).map Y).length = len0 := by simp
    refine ⟨(List.range len0).map Y, ⟨⟨lcells_len _, some a, cap0, by rw [hll], by rw [hll]; omega, ?_⟩, ?_⟩, by rw [hll]; omega, ?_⟩
    · by_cases h0 : len0 = 0
      · left; rw [hll]; exact h0
      · right
        obtain ⟨b, off, spot⟩ := a
        have hspot : spot = none := by simpa [Addr.add] using World.cell?_spot (hY 0 (by omega)).1.1
        subst hspot
        refine ⟨b, off, rfl, fun j hj => ?_⟩
        have hj2 : j < len0 * 2 := by rw [lcells_len, hll] at hj; exact hj
        have hq : j / 2 < len0 := by omega
        obtain ⟨e0, e1⟩ := lcells_at ((List.range len0).map Y) (j / 2) (by rw [hll]; exact hq)
        obtain ⟨⟨y0, y1⟩, _⟩ := hY (j / 2) (by omega)
        rw [Go.WideShapes.add_plain] at y0 y1
        simp only [List.getElem_map, List.getElem_range] at e0 e1
        rcases (by omega : j % 2 = 0 ∨ j % 2 = 1) with h | h
        · have ej : j / 2 * 2 = j := by omega
          rw [ej] at e0 y0
          rw [y0, ← e0, List.getElem?_eq_getElem hj]
        · have ej : j / 2 * 2 + 1 = j := by omega
          rw [ej] at e1 y1
          rw [y1, ← e1, List.getElem?_eq_getElem hj]
    · intro x hx
      obtain ⟨r, hr, rfl⟩ := List.mem_map.1 hx
      exact (hY r (by have := List.mem_range.1 hr; omega)).2.1
    · intro x hx
      obtain ⟨r, hr, rfl⟩ := List.mem_map.1 hx
      exact (hY r (by have := List.mem_range.1 hr; omega)).2.2

end Go.Proofs.YtbadbfmeoiclfaaGreatDoor

/-
  The document's own SameEntry and Same.
-/
namespace Go.Proofs.YtbadbfmeoiclfaaGreatDoor
set_option maxRecDepth 100000
open Go.RowKit

def sameE (x y : En) : Bool := (x.1 == y.1) && ((x.2.1 == y.2.1) && sameM x.2.2.1 x.2.2.2.1 x.2.2.2.2 y.2.2.1 y.2.2.2.1 y.2.2.2.2)
theorem sameE_iff {x y : En} : sameE x y = true ↔ x = y := by
  obtain ⟨a, b, c, d, e⟩ := x
  obtain ⟨a', b', c', d', e'⟩ := y
  simp [sameE, sameM]

set_option maxHeartbeats 4000000 in
theorem sameEntry_calls (x y : En) (u v : Value) (w : World) (hu : Ints w u x.2.2.2.2) (hv : Ints w v y.2.2.2.2) (hl : x.2.2.2.2.length ≤ 1000000) :
    Calls Tryz.prog 21 #[EV x u, EV y v] w fun e w' => e = .returned (.bool (sameE x y)) ∧ Below w.heap.size w w' := by
  obtain ⟨p, n, z, d, cs⟩ := x
  obtain ⟨q, m, z', d', cs'⟩ := y
  dsimp only [EV] at hu hv hl ⊢
  obtain ⟨au, cu, rfl⟩ := hu.form
  obtain ⟨av, cv, rfl⟩ := hv.form
  obtain ⟨nu, hnu⟩ : ∃ k, cs.length = k := ⟨_, rfl⟩
  obtain ⟨nv, hnv⟩ : ∃ k, cs'.length = k := ⟨_, rfl⟩
  rw [hnu] at hu ⊢
  rw [hnv] at hv ⊢
  obtain ⟨W0, hW0⟩ : ∃ x, x = (w.alloc (.cells #[.string ⟨p.toArray⟩, .int .i64 n, .int .i64 z, .int .i64 d, .slice au nu cu] 41)).alloc (.cells #[.string ⟨q.toArray⟩, .int .i64 m, .int .i64 z', .int .i64 d', .slice av nv cv] 41) := ⟨_, rfl⟩
  have hB : Below w.heap.size w W0 := by rw [hW0]; exact below_alloc2 w _ _
  have hx : Cx W0 w.heap.size 41 [.string ⟨p.toArray⟩, .int .i64 n, .int .i64 z, .int .i64 d, .slice au nu cu] := by
    rw [hW0]
    exact (Cx.new w _ _).below (below_alloc _ _)
  have hy : Cx W0 (w.heap.size + 1) 41 [.string ⟨q.toArray⟩, .int .i64 m, .int .i64 z', .int .i64 d', .slice av nv cv] := by
    rw [hW0]
    have := Cx.new (w.alloc (.cells #[.string ⟨p.toArray⟩, .int .i64 n, .int .i64 z, .int .i64 d, .slice au nu cu] 41)) 41 [.string ⟨q.toArray⟩, .int .i64 m, .int .i64 z', .int .i64 d', .slice av nv cv]
    rwa [World.size_alloc] at this
  have K := Lib.hid (mSame_calls z d _ cs z' d' _ cs' W0 (hu.below hB) (hv.below hB) hl)
  obtain ⟨⟨x0, x1, x2, x3, x4⟩, _, _⟩ := hx.five2
  obtain ⟨⟨y0, y1, y2, y3, y4⟩, _, _⟩ := hy.five2
  have HW := Lib.hid hW0
  have HB := Lib.hid hB
  rw [hW0] at x0 x1 x2 x3 x4 y0 y1 y2 y3 y4
  clear hu hv hl hnu hnv hx hy hB hW0
  by_cases h1 : p = q
  · by_cases h2 : n = m
    · have HR := Lib.hid (show sameE (p, n, z, d, cs) (q, m, z', d', cs') = sameM z d cs z' d' cs' by simp [sameE, h1, h2])
      rw [HR.out]
      have e1 : (p == q) = true := by simpa using h1
      have e2 : (n == m) = true := by simpa using h2
      clear h1 h2
      generalize sameM z d cs z' d' cs' = b at *
      go_enter Tryz.func21, Tryz.ntmps21
      go_wp2_with fail
      rw [← HW.out]
      refine K.out.mono ?_
      rintro e w1 ⟨rfl, hB1⟩
      go_wp2_with fail
      go_ret
      exact ⟨rfl, below2 HB.out hB1⟩
    · have HR := Lib.hid (show sameE (p, n, z, d, cs) (q, m, z', d', cs') = false by simp [sameE, h2])
      rw [HR.out]
      have e1 : (p == q) = true := by simpa using h1
      have e2 : (n == m) = false := by simpa using h2
      clear h1 h2
      go_enter Tryz.func21, Tryz.ntmps21
      go_wp2_with fail
      rw [← HW.out]
      go_ret
      exact ⟨rfl, HB.out⟩
  · have HR := Lib.hid (show sameE (p, n, z, d, cs) (q, m, z', d', cs') = false by simp [sameE, h1])
    rw [HR.out]
    have e1 : (p == q) = false := by simpa using h1
    clear h1
    go_enter Tryz.func21, Tryz.ntmps21
    go_wp2_with fail
    rw [← HW.out]
    go_ret
    exact ⟨rfl, HB.out⟩

/-- Are two rows of entries the same? -/
def sameEs (a b : List En) : Bool := decide (a = b)
theorem ens_upto {a b : List En} (hl : a.length = b.length) (h : ∀ (i : Nat) (h1 : i < a.length) (h2 : i < b.length), a[i] = b[i]) : a = b := List.ext_getElem hl h

set_option maxHeartbeats 8000000 in
theorem sameEs_calls (u v : Value) (S T : List Ev) (w : World) (hS : Ents w u S) (hT : Ents w v T) (hl : ∀ x ∈ S, x.1.2.2.2.2.length ≤ 1000000) (hn : S.length ≤ 1000000) :
    Calls Tryz.prog 22 #[u, v] w fun e w' => e = .returned (.bool (sameEs (ens S) (ens T))) ∧ Below w.heap.size w w' := by
  obtain ⟨au, cu, rfl⟩ := hS.form
  obtain ⟨av, cv, rfl⟩ := hT.form
  by_cases hne : S.length = T.length
  · have hd : ((S.length : Int) != (T.length : Int)) = false := by simp [hne]
    have HH := Lib.hid (And.intro hS (And.intro hT hl))
    obtain ⟨nT, hnT⟩ : ∃ k, T.length = k := ⟨_, rfl⟩
    have HN := Lib.hid (And.intro hne hnT)
    rw [hnT] at hd ⊢
    clear hS hT hl hne hnT
    go_enter Tryz.func22, Tryz.ntmps22
    go_wp2_with fail
    go_loopw [5] (fun i wr => ∃ k : Nat, i = .int .i64 k ∧ k ≤ S.length ∧ Hid (∀ (j : Nat) (h1 : j < S.length) (h2 : j < T.length), j < k → S[j].1 = T[j].1) ∧ Hid (Below w.heap.size w wr)) (fun i _ => S.length - (intOf i).toNat)
    case atStart => exact ⟨0, rfl, Nat.zero_le _, Lib.hid (fun _ _ _ h => absurd h (Nat.not_lt_zero _)), Lib.hid (Below.refl _ _)⟩
    case round =>
      obtain ⟨k, rfl, hk, hf, hB⟩ := hrel
      by_cases hlt : k < S.length
      · have hltT : k < T.length := by have := HN.out.1; omega
        have hd1 : decide ((k : Int) < (S.length : Int)) = true := by rw [decide_eq_true_eq]; omega
        have hkT : k < nT := by have := HN.out.2; omega
        have hS2 := HH.out.1.below hB.out
        have hT2 := HH.out.2.1.below hB.out
        rw [HN.out.2] at hT2
        obtain ⟨b, off, rfl, ⟨x0, x1, x2, x3, x4⟩, hI⟩ := hS2.at hlt
        obtain ⟨b', off', rfl, ⟨y0, y1, y2, y3, y4⟩, hJ⟩ := hT2.at hltT
        have hlx := HH.out.2.2 _ (List.getElem_mem hlt)
        have hgo : (S[k].1 = T[k].1) → ∀ (j : Nat) (h1 : j < S.length) (h2 : j < T.length), j < k + 1 → S[j].1 = T[j].1 := fun he j h1 h2 hj => by
          by_cases e : j = k
          · subst e; exact he
          · exact hf.out j h1 h2 (by omega)
        have hno : S[k].1 ≠ T[k].1 → sameEs (ens S) (ens T) = false := fun he => by
          unfold sameEs
          rw [decide_eq_false_iff_not]
          intro e
          have e1 : (ens S)[k]? = (ens T)[k]? := by rw [e]
          rw [List.getElem?_map, List.getElem?_map, List.getElem?_eq_getElem hlt, List.getElem?_eq_getElem hltT] at e1
          exact he (Option.some.inj e1)
        obtain ⟨⟨⟨p, n, z, d, cs⟩, vv⟩, hx⟩ : ∃ x, S[k] = x := ⟨_, rfl⟩
        obtain ⟨⟨⟨q, m, z', d', cs'⟩, vv'⟩, hy⟩ : ∃ x, T[k] = x := ⟨_, rfl⟩
        rw [hx] at x0 x1 x2 x3 x4 hI hlx hgo hno
        rw [hy] at y0 y1 y2 y3 y4 hJ hgo hno
        dsimp only at x0 x1 x2 x3 x4 hI hlx y0 y1 y2 y3 y4 hJ hgo hno
        obtain ⟨s1, s3, rfl⟩ := hI.form
        obtain ⟨t1, t3, rfl⟩ := hJ.form
        have KE := Lib.hid (fun W (hW : Below wr.heap.size wr W) => sameEntry_calls (p, n, z, d, cs) (q, m, z', d', cs') _ _ W (hI.below hW) (hJ.below hW) hlx)
        obtain ⟨s2, hs2⟩ : ∃ n, cs.length = n := ⟨_, rfl⟩
        obtain ⟨t2, ht2⟩ : ∃ n, cs'.length = n := ⟨_, rfl⟩
        rw [hs2] at x4 KE
        rw [ht2] at y4 KE
        dsimp only [EV] at KE
        have hbr : Below wr.heap.size wr wr.drew := drew_below _
        have HC : Hid (∀ W, Below wr.heap.size wr W → (W.cell? ⟨b, off + k * 5, none⟩ = some (.string ⟨p.toArray⟩) ∧ W.cell? ⟨b, off + k * 5 + 1, none⟩ = some (.int .i64 n) ∧ W.cell? ⟨b, off + k * 5 + 2, none⟩ = some (.int .i64 z) ∧ W.cell? ⟨b, off + k * 5 + 3, none⟩ = some (.int .i64 d) ∧ W.cell? ⟨b, off + k * 5 + 4, none⟩ = some (.slice s1 s2 s3)) ∧
            (W.cell? ⟨b', off' + k * 5, none⟩ = some (.string ⟨q.toArray⟩) ∧ W.cell? ⟨b', off' + k * 5 + 1, none⟩ = some (.int .i64 m) ∧ W.cell? ⟨b', off' + k * 5 + 2, none⟩ = some (.int .i64 z') ∧ W.cell? ⟨b', off' + k * 5 + 3, none⟩ = some (.int .i64 d') ∧ W.cell? ⟨b', off' + k * 5 + 4, none⟩ = some (.slice t1 t2 t3))) :=
          Lib.hid (fun W hW => ⟨⟨look_below hW x0, look_below hW x1, look_below hW x2, look_below hW x3, look_below hW x4⟩, ⟨look_below hW y0, look_below hW y1, look_below hW y2, look_below hW y3, look_below hW y4⟩⟩)
        cases hb : sameE (p, n, z, d, cs) (q, m, z', d', cs') with
        | true =>
          rw [hb] at KE
          have HG := Lib.hid (hgo (sameE_iff.1 hb))
          clear hgo hno hb hx hy hI hJ hlx hS2 hT2 hs2 ht2
          go_wp2_with fail
          go_region_held3 (fun W => (W.cell? ⟨b, off + k * 5, none⟩ = some (.string ⟨p.toArray⟩) ∧ W.cell? ⟨b, off + k * 5 + 1, none⟩ = some (.int .i64 n) ∧ W.cell? ⟨b, off + k * 5 + 2, none⟩ = some (.int .i64 z) ∧ W.cell? ⟨b, off + k * 5 + 3, none⟩ = some (.int .i64 d) ∧ W.cell? ⟨b, off + k * 5 + 4, none⟩ = some (.slice s1 s2 s3)) ∧
            (W.cell? ⟨b', off' + k * 5, none⟩ = some (.string ⟨q.toArray⟩) ∧ W.cell? ⟨b', off' + k * 5 + 1, none⟩ = some (.int .i64 m) ∧ W.cell? ⟨b', off' + k * 5 + 2, none⟩ = some (.int .i64 z') ∧ W.cell? ⟨b', off' + k * 5 + 3, none⟩ = some (.int .i64 d') ∧ W.cell? ⟨b', off' + k * 5 + 4, none⟩ = some (.slice t1 t2 t3))) (exact HC.out _ hbr) (first
            | (go_at_call 21; (with_reducible refine (KE.out _ hbr).mono ?_); rintro e w3 ⟨rfl, hB3⟩; have hbr := below2 hbr hB3))
          all_goals
            go_wp2_with fail
            go_roundw
            case rel => exact ⟨k + 1, by go_num, by omega, HG, Lib.hid (below2 hB.out hbr)⟩
            case measure => simp [intOf]; omega
        | false =>
          rw [hb] at KE
          have HG := Lib.hid (hno (fun e => by rw [sameE_iff.2 e] at hb; cases hb))
          clear hgo hno hb hx hy hI hJ hlx hS2 hT2 hs2 ht2
          go_wp2_with fail
          go_region_held3 (fun W => (W.cell? ⟨b, off + k * 5, none⟩ = some (.string ⟨p.toArray⟩) ∧ W.cell? ⟨b, off + k * 5 + 1, none⟩ = some (.int .i64 n) ∧ W.cell? ⟨b, off + k * 5 + 2, none⟩ = some (.int .i64 z) ∧ W.cell? ⟨b, off + k * 5 + 3, none⟩ = some (.int .i64 d) ∧ W.cell? ⟨b, off + k * 5 + 4, none⟩ = some (.slice s1 s2 s3)) ∧
            (W.cell? ⟨b', off' + k * 5, none⟩ = some (.string ⟨q.toArray⟩) ∧ W.cell? ⟨b', off' + k * 5 + 1, none⟩ = some (.int .i64 m) ∧ W.cell? ⟨b', off' + k * 5 + 2, none⟩ = some (.int .i64 z') ∧ W.cell? ⟨b', off' + k * 5 + 3, none⟩ = some (.int .i64 d') ∧ W.cell? ⟨b', off' + k * 5 + 4, none⟩ = some (.slice t1 t2 t3))) (exact HC.out _ hbr) (first
            | (go_at_call 21; (with_reducible refine (KE.out _ hbr).mono ?_); rintro e w3 ⟨rfl, hB3⟩; have hbr := below2 hbr hB3))
          all_goals
            go_wp2_with fail
            go_ret
            exact ⟨by rw [HG.out]; rfl, below2 hB.out hbr⟩
      · obtain rfl : k = S.length := by omega
        have hd1 : decide ((S.length : Int) < (S.length : Int)) = false := by simp
        have HG := Lib.hid (show sameEs (ens S) (ens T) = true by
          unfold sameEs
          rw [decide_eq_true_eq]
          refine ens_upto (by simp [HN.out.1]) fun i h1 h2 => ?_
          simp only [List.length_map] at h1 h2
          rw [List.getElem_map, List.getElem_map]
          exact hf.out i h1 h2 h1)
        go_wp2_with fail
        go_ret
        exact ⟨by rw [HG.out]; rfl, hB.out⟩
  · have hd : ((S.length : Int) != (T.length : Int)) = true := by simp; omega
    have HR := Lib.hid (show sameEs (ens S) (ens T) = false by
      unfold sameEs
      rw [decide_eq_false_iff_not]
      intro e
      have := congrArg List.length e
      simp at this
      exact hne this)
    rw [HR.out]
    clear hS hT hl hne
    go_enter Tryz.func22, Tryz.ntmps22
    go_wp2_with fail
    go_ret
    exact ⟨rfl, Below.refl _ _⟩

end Go.Proofs.YtbadbfmeoiclfaaGreatDoor

/-
  The law file's last: what was laid last of a path, till a time.
-/
namespace Go.Proofs.YtbadbfmeoiclfaaGreatDoor
set_option maxRecDepth 100000
open Go.RowKit

/-- What last tells. -/
def lastK (K : List Lv) (p : List UInt8) (n : Int) : Option (Int × Cg) := lastR (lds K).reverse p n
def lastD (o : Option (Int × Cg)) : Int × Cg := o.getD (0, [], false, 0, 0, [])
def lastB (o : Option (Int × Cg)) : Bool := match o with | none => false | some x => !x.2.2.1
theorem lastK_snoc {K : List Lv} {j : Nat} (h : j < K.length) (p : List UInt8) (n : Int) : lastK (K.take (j + 1)) p n = if K[j].1.1 ≤ n then (match findC (chs K[j].2) p with | some c => some (K[j].1.1, c) | none => lastK (K.take j) p n) else lastK (K.take j) p n := by
  have e : K.take (j + 1) = K.take j ++ [K[j]] := by rw [List.take_append_getElem]
  unfold lastK
  rw [e, lds_snoc]
  rfl
theorem find_first {T : List Cv} {p : List UInt8} {k : Nat} (hk : k < T.length) (h : ∀ (i : Nat) (hi : i < T.length), i < k → T[i].1.1 ≠ p) (hp : T[k].1.1 = p) : findC (chs T) p = some T[k].1 := by
  unfold findC
  rw [List.find?_eq_some_iff_append]
  refine ⟨by simpa using hp, chs (T.take k), chs (T.drop (k + 1)), ?_, fun c hc => ?_⟩
  · rw [← List.map_cons (f := Prod.fst), ← List.map_append, ← List.drop_eq_getElem_cons hk, List.take_append_drop]
  · obtain ⟨x, hx, rfl⟩ := List.mem_map.1 hc
    obtain ⟨i, hi, rfl⟩ := List.getElem_of_mem hx
    rw [List.length_take] at hi
    have := h i (by omega) (by omega)
    rw [List.getElem_take]
    simpa using this
theorem find_nowhere {T : List Cv} {p : List UInt8} (h : ∀ (i : Nat) (hi : i < T.length), T[i].1.1 ≠ p) : findC (chs T) p = none := by
  unfold findC
  rw [List.find?_eq_none]
  intro c hc
  obtain ⟨x, hx, rfl⟩ := List.mem_map.1 hc
  obtain ⟨i, hi, rfl⟩ := List.getElem_of_mem hx
  simpa using h i hi

set_option maxHeartbeats 8000000 in
theorem last_calls (v : Value) (K : List Lv) (p : List UInt8) (n : Int) (w : World) (h : Lds w v K) (hK : K.length ≤ 1000) (hs : ∀ x ∈ K, x.2.length ≤ 1000) :
    Calls Tryz.prog 29 #[v, .string ⟨p.toArray⟩, .int .i64 n] w fun e w' => ∃ u, e = .returned (.tuple #[.agg #[.string ⟨(lastD (lastK K p n)).2.1.toArray⟩, .bool (lastD (lastK K p n)).2.2.1, .int .i64 (lastD (lastK K p n)).2.2.2.1, .int .i64 (lastD (lastK K p n)).2.2.2.2.1, u], .int .i64 (lastD (lastK K p n)).1, .bool (lastB (lastK K p n))]) ∧ Ints w' u (lastD (lastK K p n)).2.2.2.2.2 ∧ Below w.heap.size w w' := by
  obtain ⟨ao, cap, rfl⟩ := h.form
  obtain ⟨o, ho⟩ : ∃ o, lastK K p n = o := ⟨_, rfl⟩
  rw [ho]
  have hBa := below_alloc w (.cells #[.string ⟨#[]⟩, .bool false, .int .i64 0, .int .i64 0, .slice none 0 0] 62)
  have HX := Lib.hid (Cx.new w 62 [.string ⟨#[]⟩, .bool false, .int .i64 0, .int .i64 0, .slice none 0 0])
  have HH := Lib.hid (And.intro h (And.intro hs hBa))
  have HO := Lib.hid ho
  clear h hs hBa ho
  go_enter Tryz.func29, Tryz.ntmps29
  go_wp2_with fail
  go_loop [9] (fun i => ∃ (j : Nat) (x0 : Int), i = .int .i64 x0 ∧ Hid (x0 = (j : Int) - 1) ∧ j ≤ K.length ∧ Hid (lastK (K.take j) p n = o)) (fun i => (intOf i + 1).toNat)
  case atStart => exact ⟨K.length, (K.length : Int) - 1, rfl, Lib.hid rfl, Nat.le_refl _, Lib.hid (by rw [List.take_of_length_le (Nat.le_refl _)]; exact HO.out)⟩
  case round =>
    obtain ⟨j, x0, rfl, hx0, hj, hl⟩ := hrel
    cases j with
    | zero =>
      obtain rfl : x0 = -1 := by have := hx0.out; omega
      have ho2 : o = none := by rw [← hl.out]; rfl
      subst ho2
      obtain ⟨c, f, hlt⟩ := HX.out.five2
      obtain ⟨c0, c1, c2, c3, c4⟩ := c
      obtain ⟨f0, f1, f2, f3, f4⟩ := f
      go_wp2_with fail
      exact ret_chg3 rfl rfl w.heap.size _ _ _ _ _ _ _ rfl rfl rfl HX.out ⟨_, rfl, Ints.nil _, HH.out.2.2⟩
    | succ j =>
      obtain rfl : x0 = (j : Int) := by have := hx0.out; omega
      have hjl : j < K.length := by omega
      have hd : decide ((0 : Int) ≤ (j : Int)) = true := by rw [decide_eq_true_eq]; omega
      obtain ⟨b, off, rfl, ⟨c0, c1⟩, hC⟩ := HH.out.1.at hjl
      have hTl := HH.out.2.1 _ (List.getElem_mem hjl)
      have hls := lastK_snoc hjl p n
      rw [hl.out] at hls
      obtain ⟨⟨⟨t, uu⟩, T⟩, hx⟩ : ∃ x, K[j] = x := ⟨_, rfl⟩
      rw [hx] at c0 c1 hC hTl hls
      dsimp only at c0 c1 hC hTl hls
      obtain ⟨s1, s3, rfl⟩ := hC.form
      obtain ⟨nT, hnT⟩ : ∃ k, T.length = k := ⟨_, rfl⟩
      have HC := Lib.hid (And.intro hC (And.intro hnT hls))
      rw [hnT] at c1 hTl
      have HW := Lib.hid (And.intro c0 c1)
      replace c0 := look_below HH.out.2.2 c0
      replace c1 := look_below HH.out.2.2 c1
      clear hC hnT hls hx hl hx0
      go_wp2_with fail
      go_loop [10] (fun q => ∃ k : Nat, q = .int .i64 k ∧ k ≤ nT ∧ Hid (∀ (i : Nat) (hi : i < T.length), i < k → t ≤ n → T[i].1.1 ≠ p)) (fun q => nT - (intOf q).toNat)
      case atStart => exact ⟨0, rfl, Nat.zero_le _, Lib.hid (fun _ _ h => absurd h (Nat.not_lt_zero _))⟩
      case round =>
        obtain ⟨k, rfl, hk, hf⟩ := hrel
        by_cases hkT : k < nT
        · have hkl : k < T.length := by have := HC.out.2.1; omega
          have hd2 : decide ((k : Int) < (nT : Int)) = true := by rw [decide_eq_true_eq]; omega
          have hC := HC.out.1
          rw [HC.out.2.1] at hC
          obtain ⟨b', off', rfl, ⟨d0, d1, d2, d3, d4⟩, hI⟩ := hC.at hkl
          have hnext : (t ≤ n → T[k].1.1 ≠ p) → ∀ (i : Nat) (hi : i < T.length), i < k + 1 → t ≤ n → T[i].1.1 ≠ p := fun he i hi hik hta => by
            by_cases e : i = k
            · subst e; exact he hta
            · exact hf.out i hi (by omega) hta
          have hmatch : t ≤ n → T[k].1.1 = p → o = some (t, T[k].1) := fun hta hp => by
            have h1 := HC.out.2.2
            rw [if_pos hta, find_first hkl (fun i hi hik => hf.out i hi hik hta) hp] at h1
            exact h1
          obtain ⟨⟨⟨q, g, z, d, cs⟩, vv⟩, hx⟩ : ∃ x, T[k] = x := ⟨_, rfl⟩
          rw [hx] at d0 d1 d2 d3 d4 hI hnext hmatch
          dsimp only at d0 d1 d2 d3 d4 hI hnext hmatch
          obtain ⟨r1, r3, rfl⟩ := hI.form
          obtain ⟨r2, hr2⟩ : ∃ n, cs.length = n := ⟨_, rfl⟩
          rw [hr2] at d4 hI
          have HD := Lib.hid (And.intro d0 (And.intro d1 (And.intro d2 (And.intro d3 d4))))
          replace d0 := look_below HH.out.2.2 d0
          replace d1 := look_below HH.out.2.2 d1
          replace d2 := look_below HH.out.2.2 d2
          replace d3 := look_below HH.out.2.2 d3
          replace d4 := look_below HH.out.2.2 d4
          by_cases hta : t ≤ n
          · have hdt : decide (t ≤ n) = true := decide_eq_true hta
            by_cases hq : q = p
            · have hqq : (q == p) = true := by simpa using hq
              have ho2 := hmatch hta hq
              subst ho2
              obtain ⟨c', f', hlt⟩ := HX.out.five2
              obtain ⟨z0, z1, z2, z3, z4⟩ := c'
              obtain ⟨f0, f1, f2, f3, f4⟩ := f'
              have hB2 := below_alloc w (.cells #[.string ⟨q.toArray⟩, .bool g, .int .i64 z, .int .i64 d, .slice r1 r2 r3] 62)
              have e0 := look_below hB2 HW.out.1
              have e1 := look_below hB2 HW.out.2
              have e2 := look_below hB2 HD.out.1
              have e3 := look_below hB2 HD.out.2.1
              have e4 := look_below hB2 HD.out.2.2.1
              have e5 := look_below hB2 HD.out.2.2.2.1
              have e6 := look_below hB2 HD.out.2.2.2.2
              have HI := Lib.hid (And.intro hI hB2)
              clear hB2
              clear hC hI hnext hmatch hx hta hq hr2 hf
              go_wp2_with fail
              go_region
              go_wp2_with fail
              have hN := Cx.new w 62 [.string ⟨q.toArray⟩, .bool g, .int .i64 z, .int .i64 d, .slice r1 r2 r3]
              have hB3 := below2 HI.out.2 (drew_below _)
              exact ret_chg3 rfl rfl w.heap.size _ _ _ _ _ _ _ rfl rfl rfl hN ⟨_, rfl, HI.out.1.below hB3, hB3⟩
            · have hqq : (q == p) = false := by simpa using hq
              have HG := Lib.hid (hnext fun _ => hq)
              clear hC hI hnext hmatch hx hta hq hr2 hf
              go_wp2_with fail
              go_round
              case rel => exact ⟨k + 1, by go_num, by omega, HG⟩
              case measure => simp [intOf] <;> omega
          · have hdt : decide (t ≤ n) = false := decide_eq_false hta
            have HG := Lib.hid (hnext fun h => absurd h hta)
            clear hC hI hnext hmatch hx hta hr2 hf
            go_wp2_with fail
            go_round
            case rel => exact ⟨k + 1, by go_num, by omega, HG⟩
            case measure => simp [intOf] <;> omega
        · obtain rfl : k = nT := by omega
          have hd2 : decide ((k : Int) < (k : Int)) = false := by simp
          have HG : Hid (lastK (K.take j) p n = o) := Lib.hid (by
            have h1 := HC.out.2.2
            by_cases hta : t ≤ n
            · rw [if_pos hta, find_nowhere (fun i hi => hf.out i hi (by have := HC.out.2.1; omega) hta)] at h1
              exact h1.symm
            · rw [if_neg hta] at h1
              exact h1.symm)
          clear hf
          go_wp2_with fail
          go_round
          case rel => exact ⟨j, (j : Int) - 1, by go_num, Lib.hid rfl, by omega, HG⟩
          case measure => simp [intOf] <;> omega

end Go.Proofs.YtbadbfmeoiclfaaGreatDoor
