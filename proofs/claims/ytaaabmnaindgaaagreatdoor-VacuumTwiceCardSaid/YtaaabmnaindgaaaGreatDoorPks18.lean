/-
  The texts of one folder in one: VaSpec, VaMore, VaSmall, VaTell, VaTellC, KkRow, Kks, VaOf, VaStep, VaRun, VaMade, KkSame, VaSwept, VaPlain, VaRefD, VaRefR, VaLaid, VaTook.
-/
import Derived.Test.YtaaabmnaindgaaaGreatDoorPks15
import Derived.Test.YtaaabmnaindgaaaGreatDoorPks09
import Derived.Test.YtaaabmnaindgaaaGreatDoorPks12
import Derived.Test.YtaaabmnaindgaaaGreatDoorPks10
import Derived.Test.YtaaabmnaindgaaaGreatDoorPkbase
import Derived.RangeFuncNested
import Derived.RangeFuncBound
import Derived.RangeFuncCalls
import Derived.RangeFuncLeaves
import Derived.RangeFuncBox
import Derived.Shelf.Abstract
import Derived.Shelf.RegionOpen
import Derived.OwnWalkIn
import Derived.TacticsInMore
import Derived.LoopNIn
import Derived.LoopIn
import Derived.Outline
import Derived.Test.YtaaabmnaindgaaaGreatDoorPks08
import Derived.Maps.AppendAt
import Derived.BigQuiet
import Derived.Deep.QuietTactic
import Derived.Deep.RegionHeld3

/-
  A vacuum in plain words: the versions that are dead at a time, and what stays. No program is named here.
-/
namespace Go.Proofs.YtaaabmnaindgaaaGreatDoor
set_option maxRecDepth 100000

/-- Is there a later version of its path, up to w? -/
def overB (U : List Pr) (w : Int) (x : Pr) : Bool := U.any fun y => (y.1.1 == x.1.1) && (decide (y.1.2 ≤ w) && decide (x.1.2 < y.1.2))
def deadB (U : List Pr) (w : Int) (x : Pr) : Bool := decide (x.1.2 ≤ w) && (overB U w x || redG x.2)
def deadL (U : List Pr) (w : Int) : List Pr := U.filter (deadB U w)
def liveL (U : List Pr) (w : Int) : List Pr := U.filter fun x => !deadB U w x
theorem over_iff {U : List Pr} {w : Int} {x : Pr} : overB U w x = true ↔ ∃ y ∈ U, y.1.1 = x.1.1 ∧ y.1.2 ≤ w ∧ x.1.2 < y.1.2 := by simp [overB]
theorem dead_iff {U : List Pr} {w : Int} {x : Pr} : deadB U w x = true ↔ x.1.2 ≤ w ∧ ((∃ y ∈ U, y.1.1 = x.1.1 ∧ y.1.2 ≤ w ∧ x.1.2 < y.1.2) ∨ redG x.2 = true) := by
  unfold deadB
  rw [Bool.and_eq_true, decide_eq_true_eq, Bool.or_eq_true, over_iff]
theorem mem_live {U : List Pr} {w : Int} {x : Pr} : x ∈ liveL U w ↔ x ∈ U ∧ deadB U w x = false := by
  unfold liveL
  rw [List.mem_filter]
  simp
theorem live_rises {U : List Pr} (h : Rises U) (w : Int) : Rises (liveL U w) := List.Pairwise.filter _ h
theorem live_isSt {U : List Pr} (h : isSt U = true) (w : Int) : isSt (liveL U w) = true :=
  List.all_eq_true.2 fun x hx => List.all_eq_true.1 h x (mem_live.1 hx).1
theorem live_length (U : List Pr) (w : Int) : (liveL U w).length + (deadL U w).length = U.length := by
  have h : ∀ (V : List Pr) (f : Pr → Bool), (V.filter fun x => !f x).length + (V.filter f).length = V.length := by
    intro V f
    induction V with
    | nil => rfl
    | cons x r ih =>
      rw [List.filter_cons, List.filter_cons]
      cases f x <;> simp <;> omega
  exact h U (deadB U w)
/-- What is dead at a time is dead at each later one. -/
theorem dead_mono {U : List Pr} {w m : Int} (h : w ≤ m) {x : Pr} (hx : deadB U w x = true) : deadB U m x = true := by
  obtain ⟨h1, h2⟩ := dead_iff.1 hx
  refine dead_iff.2 ⟨by omega, ?_⟩
  rcases h2 with ⟨y, hy, e, g1, g2⟩ | h2
  · exact .inl ⟨y, hy, e, by omega, g2⟩
  · exact .inr h2
theorem dead_more {U : List Pr} {w m : Int} (h : w ≤ m) : (deadL U w).length ≤ (deadL U m).length := by
  have g : ∀ (V : List Pr) (f k : Pr → Bool), (∀ x, f x = true → k x = true) → (V.filter f).length ≤ (V.filter k).length := by
    intro V f k hfk
    induction V with
    | nil => exact Nat.le_refl _
    | cons x r ih =>
      rw [List.filter_cons, List.filter_cons]
      cases hf : f x with
      | false => cases k x <;> simp <;> omega
      | true => rw [hfk x hf]; simpa using ih
  exact g U _ _ fun x hx => dead_mono h hx

/-- Nothing is told otherwise from w on. -/
theorem live_told {U : List Pr} (h : Rises U) {w n : Int} (hw : w ≤ n) (p : List UInt8) : told (asOf (liveL U w) p n) = told (asOf U p n) := by
  have hl := live_rises h w
  cases hU : asOf U p n with
  | none =>
    have : asOf (liveL U w) p n = none := asOf_none.2 fun x hx hp => asOf_none.1 hU x (mem_live.1 hx).1 hp
    rw [this]
  | some x =>
    obtain ⟨h1, h2, h3, h4⟩ := (asOf_iff h).1 hU
    cases hd : deadB U w x with
    | false =>
      have : asOf (liveL U w) p n = some x := (asOf_iff hl).2 ⟨mem_live.2 ⟨h1, hd⟩, h2, h3, fun y hy hp hn => h4 y (mem_live.1 hy).1 hp hn⟩
      rw [this]
    | true =>
      obtain ⟨g1, g2⟩ := dead_iff.1 hd
      have hg : redG x.2 = true := by
        rcases g2 with ⟨y, hy, e, k1, k2⟩ | g2
        · have := h4 y hy (e.trans h2) (by omega)
          omega
        · exact g2
      have : asOf (liveL U w) p n = none := asOf_none.2 fun z hz hp => by
        obtain ⟨z1, z2⟩ := mem_live.1 hz
        by_cases hzn : z.1.2 ≤ n
        · have hzx := h4 z z1 hp hzn
          by_cases e : z.1.2 = x.1.2
          · have : z = x := rises_one h z1 h1 (Prod.ext (hp.trans h2.symm) e)
            rw [this, hd] at z2
            cases z2
          · have : deadB U w z = true := dead_iff.2 ⟨by omega, .inl ⟨x, h1, h2.trans hp.symm, g1, by omega⟩⟩
            rw [this] at z2
            cases z2
        · omega
      rw [this]
      unfold told
      dsimp only
      rw [if_pos hg]
theorem live_list {U : List Pr} (h : Rises U) {w n : Int} (hw : w ≤ n) (d : List UInt8) : listL (liveL U w) d n = listL U d n :=
  riseE_same (list_rise (live_rises h w) d n) (list_rise h d n) fun e => by rw [mem_list (live_rises h w), mem_list h, live_told h hw]

/-- Of what lives at w, dead at a later time is what was dead of all. -/
theorem live_dead {U : List Pr} {w m : Int} (_hw : w ≤ m) {x : Pr} (hx : x ∈ liveL U w) : deadB (liveL U w) m x = deadB U m x := by
  obtain ⟨h1, h2⟩ := mem_live.1 hx
  have hiff : deadB (liveL U w) m x = true ↔ deadB U m x = true := by
    rw [dead_iff, dead_iff]
    constructor
    · rintro ⟨g1, ⟨y, hy, g2⟩ | g2⟩
      · exact ⟨g1, .inl ⟨y, (mem_live.1 hy).1, g2⟩⟩
      · exact ⟨g1, .inr g2⟩
    · rintro ⟨g1, ⟨y, hy, e, k1, k2⟩ | g2⟩
      · by_cases hyd : deadB U w y = true
        · obtain ⟨d1, _⟩ := dead_iff.1 hyd
          have : deadB U w x = true := dead_iff.2 ⟨by omega, .inl ⟨y, hy, e, d1, k2⟩⟩
          rw [this] at h2
          cases h2
        · exact ⟨g1, .inl ⟨y, mem_live.2 ⟨hy, by simpa using hyd⟩, e, k1, k2⟩⟩
      · exact ⟨g1, .inr g2⟩
  cases ha : deadB (liveL U w) m x with
  | true => exact (hiff.1 ha).symm
  | false =>
    cases hb : deadB U m x with
    | false => rfl
    | true => rw [hiff.2 hb] at ha; cases ha
theorem live_live {U : List Pr} {w m : Int} (hw : w ≤ m) : liveL (liveL U w) m = liveL U m := by
  have e : liveL (liveL U w) m = (liveL U w).filter fun x => !deadB U m x := by
    show (liveL U w).filter _ = _
    exact List.filter_congr fun x hx => by rw [live_dead hw hx]
  rw [e]
  unfold liveL
  rw [List.filter_filter]
  refine List.filter_congr fun x _ => ?_
  cases h : deadB U w x with
  | false => simp
  | true => rw [dead_mono hw h]; rfl
theorem live_again {U : List Pr} (w : Int) : deadL (liveL U w) w = [] := by
  unfold deadL
  rw [List.filter_eq_nil_iff]
  intro x hx
  rw [live_dead (Int.le_refl w) hx, (mem_live.1 hx).2]
  simp
/-- Of a path's old versions one is left at most. -/
theorem live_least {U : List Pr} {w : Int} {x : Pr} (hx : x ∈ liveL U w) (hw : x.1.2 ≤ w) : redG x.2 = false ∧ ∀ y ∈ liveL U w, y.1.1 = x.1.1 → y.1.2 ≤ w → y.1.2 ≤ x.1.2 := by
  obtain ⟨h1, h2⟩ := mem_live.1 hx
  constructor
  · cases hg : redG x.2 with
    | false => rfl
    | true =>
      rw [dead_iff.2 ⟨hw, .inr hg⟩] at h2
      cases h2
  · intro y hy e hyw
    by_cases hle : y.1.2 ≤ x.1.2
    · exact hle
    · rw [dead_iff.2 ⟨hw, .inl ⟨y, (mem_live.1 hy).1, e, hyw, by omega⟩⟩] at h2
      cases h2
theorem live_later {U : List Pr} {w : Int} {x : Pr} (hx : x ∈ U) (hw : w < x.1.2) : x ∈ liveL U w := by
  refine mem_live.2 ⟨hx, ?_⟩
  cases hd : deadB U w x with
  | false => rfl
  | true =>
    have := (dead_iff.1 hd).1
    omega

end Go.Proofs.YtaaabmnaindgaaaGreatDoor

/-
  A vacuum in plain words, more of it: the dead ones as one pass finds them; what is left when each is dropped; the numbers. No program is named here.
-/
namespace Go.Proofs.YtaaabmnaindgaaaGreatDoor
set_option maxRecDepth 100000

/-- The path of the last version up to w, of those that were gone through. -/
def pathT (w : Int) (pre : List Pr) : List UInt8 := pre.foldl (fun p x => if x.1.2 ≤ w then x.1.1 else p) []
theorem pathT_snoc (w : Int) (pre : List Pr) (x : Pr) : pathT w (pre ++ [x]) = if x.1.2 ≤ w then x.1.1 else pathT w pre := by
  unfold pathT
  rw [List.foldl_append]
  rfl
theorem take_snoc {α : Type} {U : List α} {k : Nat} (h : k < U.length) : U.take (k + 1) = U.take k ++ [U[k]] := (List.take_append_getElem h).symm
theorem ahead_less {U : List Pr} (h : Rises U) {k : Nat} (hk : k < U.length) {y : Pr} (hy : y ∈ U.take k) : lessK y.1 U[k].1 = true := by
  have e : U.take (k + 1) = U.take k ++ [U[k]] := take_snoc hk
  have h1 : Rises (U.take (k + 1)) := List.Pairwise.sublist (List.take_sublist _ _) h
  rw [e] at h1
  exact (List.pairwise_append.1 h1).2.2 y hy _ (by simp)
theorem pathT_facts {U : List Pr} (h : Rises U) (w : Int) : ∀ k, k ≤ U.length → (pathT w (U.take k) = [] ∨ ∃ z ∈ U.take k, z.1.1 = pathT w (U.take k) ∧ z.1.2 ≤ w) ∧ ∀ y ∈ U.take k, y.1.2 ≤ w → Op.bytesLess (pathT w (U.take k)) y.1.1 = false
  | 0, _ => ⟨.inl rfl, fun y hy => by simp at hy⟩
  | k + 1, hk => by
    have hk2 : k < U.length := by omega
    obtain ⟨h1, h2⟩ := pathT_facts h w k (by omega)
    rw [take_snoc hk2, pathT_snoc]
    by_cases hw : U[k].1.2 ≤ w
    · rw [if_pos hw]
      refine ⟨.inr ⟨U[k], List.mem_append_right _ (List.mem_singleton.2 rfl), rfl, hw⟩, fun y hy _ => ?_⟩
      rcases List.mem_append.1 hy with hy | hy
      · have hl := ahead_less h hk2 hy
        rw [lessK_eq, Bool.or_eq_true, Bool.and_eq_true, beq_iff_eq] at hl
        rcases hl with hl | ⟨e, _⟩
        · exact less_asymm hl
        · rw [e, less_irrefl]
      · rw [List.mem_singleton.1 hy, less_irrefl]
    · rw [if_neg hw]
      refine ⟨?_, fun y hy hyw => ?_⟩
      · rcases h1 with h1 | ⟨z, hz, h1⟩
        · exact .inl h1
        · exact .inr ⟨z, List.mem_append_left _ hz, h1⟩
      · rcases List.mem_append.1 hy with hy | hy
        · exact h2 y hy hyw
        · rw [List.mem_singleton.1 hy] at hyw
          exact absurd hyw hw
/-- Is there a later one up to w? The one pass tells it by the path. -/
theorem over_at {U : List Pr} (h : Rises U) {w : Int} {k : Nat} (hk : k < U.length) (hw : U[k].1.2 ≤ w) (hp : U[k].1.1 ≠ []) : overB U w U[k] = (U[k].1.1 == pathT w (U.take k)) := by
  obtain ⟨h1, h2⟩ := pathT_facts h w k (by omega)
  have hiff : overB U w U[k] = true ↔ (U[k].1.1 == pathT w (U.take k)) = true := by
    rw [over_iff, beq_iff_eq]
    constructor
    · rintro ⟨y, hy, e, g1, g2⟩
      have hyk : y ∈ U.take k := by
        obtain ⟨j, hj, rfl⟩ := List.getElem_of_mem hy
        by_cases hjk : j < k
        · exact List.mem_take_iff_getElem.2 ⟨j, by omega, rfl⟩
        · exfalso
          rcases Nat.lt_or_ge k j with hkj | hkj
          · have hl := List.pairwise_iff_getElem.1 h k j hk hj hkj
            rw [lessK_eq, e, less_irrefl] at hl
            simp at hl
            omega
          · obtain rfl : j = k := by omega
            omega
      have h3 := h2 y hyk g1
      rcases h1 with h1 | ⟨z, hz, h1, hzw⟩
      · rw [h1, e] at h3
        exfalso
        cases hu : U[k].1.1 with
        | nil => exact hp hu
        | cons a r => rw [hu] at h3; simp [Op.bytesLess] at h3
      · have hl := ahead_less h hk hz
        rw [lessK_eq, Bool.or_eq_true, Bool.and_eq_true, beq_iff_eq] at hl
        rcases hl with hl | ⟨e2, _⟩
        · rw [h1, ← e, h3] at hl
          cases hl
        · rw [← h1, e2]
    · intro e
      rcases h1 with h1 | ⟨z, hz, h1, hzw⟩
      · rw [h1] at e
        exact absurd e hp
      · have hl := ahead_less h hk hz
        rw [lessK_eq, h1, ← e, less_irrefl] at hl
        simp at hl
        exact ⟨z, List.mem_of_mem_take hz, h1.trans e.symm, hzw, hl⟩
  cases ha : overB U w U[k] with
  | true => exact (hiff.1 ha).symm
  | false =>
    cases hb : (U[k].1.1 == pathT w (U.take k)) with
    | false => rfl
    | true => rw [hiff.2 hb] at ha; cases ha
/-- The keys that were told of the first k. -/
def sweepL (U : List Pr) (w : Int) (k : Nat) : List Ky := ((U.take k).filter (deadB U w)).map Prod.fst
def deadK (U : List Pr) (w : Int) : List Ky := (deadL U w).map Prod.fst
theorem sweep_all (U : List Pr) (w : Int) {k : Nat} (h : U.length ≤ k) : sweepL U w k = deadK U w := by
  unfold sweepL deadK deadL
  rw [List.take_of_length_le h]
theorem sweep_len (U : List Pr) (w : Int) (k : Nat) : (sweepL U w k).length ≤ k := by
  unfold sweepL
  rw [List.length_map]
  exact Nat.le_trans (List.length_filter_le _ _) (by rw [List.length_take]; omega)
theorem sweep_snoc {U : List Pr} (w : Int) {k : Nat} (h : k < U.length) : sweepL U w (k + 1) = if deadB U w U[k] then sweepL U w k ++ [U[k].1] else sweepL U w k := by
  unfold sweepL
  rw [take_snoc h, List.filter_append, List.map_append, List.filter_cons, List.filter_nil]
  split <;> simp
theorem sweep_prefix (U : List Pr) (w : Int) (k : Nat) : sweepL U w k <+: deadK U w := by
  unfold sweepL deadK deadL
  exact List.IsPrefix.map _ (List.IsPrefix.filter _ (List.take_prefix _ _))
/-- A later time: nothing is told. -/
theorem sweep_late {U : List Pr} {w : Int} {k : Nat} (h : k < U.length) (hw : ¬ U[k].1.2 ≤ w) : sweepL U w (k + 1) = sweepL U w k ∧ pathT w (U.take (k + 1)) = pathT w (U.take k) := by
  rw [sweep_snoc w h, take_snoc h, pathT_snoc, if_neg hw]
  simp [deadB, hw]
theorem sweep_old {U : List Pr} (hr : Rises U) {w : Int} {k : Nat} (h : k < U.length) (hw : U[k].1.2 ≤ w) (hp : U[k].1.1 ≠ []) :
    sweepL U w (k + 1) = (if (U[k].1.1 == pathT w (U.take k)) || redG U[k].2 then sweepL U w k ++ [U[k].1] else sweepL U w k) ∧ pathT w (U.take (k + 1)) = U[k].1.1 := by
  rw [sweep_snoc w h, take_snoc h, pathT_snoc, if_pos hw]
  unfold deadB
  rw [over_at hr h hw hp, decide_eq_true hw, Bool.true_and]
  exact ⟨rfl, rfl⟩

/-! ### What is left when each is dropped -/

theorem drops_rise : ∀ (ks : List Ky) {U : List Pr}, Rises U → Rises (ks.foldl dropL U)
  | [], _, h => h
  | k :: r, _, h => drops_rise r (drop_rises h k)
theorem mem_drops : ∀ (ks : List Ky) {U : List Pr}, Rises U → ∀ x, x ∈ ks.foldl dropL U ↔ x ∈ U ∧ ∀ k ∈ ks, x.1 ≠ k
  | [], _, _, x => by simp
  | k :: r, U, h, x => by
    rw [List.foldl_cons, mem_drops r (drop_rises h k) x, mem_drop h]
    simp only [List.mem_cons, forall_eq_or_imp]
    constructor
    · rintro ⟨⟨h1, h2⟩, h3⟩
      exact ⟨h1, h2, h3⟩
    · rintro ⟨h1, h2, h3⟩
      exact ⟨⟨h1, h2⟩, h3⟩
theorem drops_len : ∀ (ks : List Ky) (U : List Pr), (ks.foldl dropL U).length ≤ U.length
  | [], _ => Nat.le_refl _
  | k :: r, U => by
    have h := drops_len r (dropL U k)
    have h2 : (dropL U k).length ≤ U.length := by rw [dropL_length]; split <;> omega
    rw [List.foldl_cons]
    omega
theorem drops_dead {U : List Pr} (h : Rises U) (w : Int) : (deadK U w).foldl dropL U = liveL U w := by
  refine rises_same (drops_rise _ h) (live_rises h w) fun x => ?_
  rw [mem_drops _ h, mem_live]
  constructor
  · rintro ⟨h1, h2⟩
    refine ⟨h1, ?_⟩
    cases hd : deadB U w x with
    | false => rfl
    | true => exact absurd rfl (h2 x.1 (List.mem_map.2 ⟨x, List.mem_filter.2 ⟨h1, hd⟩, rfl⟩))
  · rintro ⟨h1, h2⟩
    refine ⟨h1, fun k hk e => ?_⟩
    obtain ⟨y, hy, rfl⟩ := List.mem_map.1 hk
    obtain ⟨y1, y2⟩ := List.mem_filter.1 hy
    rw [rises_one h h1 y1 e, y2] at h2
    cases h2

/-! ### What is told, of any pairs -/

def vaE (U : List Pr) (w : Int) : Int := if isSt U = true ∧ 0 ≤ w then 0 else 1
theorem vaE_zero {U : List Pr} {w : Int} : vaE U w = 0 ↔ isSt U = true ∧ 0 ≤ w := by
  unfold vaE
  split <;> simp_all
theorem vaE_one {U : List Pr} {w : Int} (h : vaE U w ≠ 0) : vaE U w = 1 := by
  unfold vaE at *
  split
  · rename_i hh
    rw [if_pos hh] at h
    exact absurd rfl h
  · rfl
def vaK (U : List Pr) (w : Int) : List Ky := if vaE U w = 0 then deadK U w else []
def vaN (U : List Pr) (w : Int) : Nat := if vaE U w = 0 then (liveL U w).length else 0
def vaT (U : List Pr) (w : Int) : List Pr := if vaE U w = 0 then liveL U w else []
def vaM (U : List Pr) (n : Int) : Nat := (vaK U n).length
theorem deadK_len (U : List Pr) (w : Int) : (deadK U w).length = (deadL U w).length := List.length_map _
theorem live_nums (U : List Pr) (w : Int) : (liveL U w).length + (deadK U w).length = U.length := by rw [deadK_len]; exact live_length U w
theorem live_ok {U : List Pr} {w m : Int} (h : vaE U w = 0) (hm : w ≤ m) : vaE (liveL U w) m = 0 := by
  obtain ⟨h1, h2⟩ := vaE_zero.1 h
  exact vaE_zero.2 ⟨live_isSt h1 w, by omega⟩
theorem more_ok {U : List Pr} {w m : Int} (h : vaE U w = 0) (hm : w ≤ m) : vaE U m = 0 := by
  obtain ⟨h1, h2⟩ := vaE_zero.1 h
  exact vaE_zero.2 ⟨h1, by omega⟩
theorem deadK_again (U : List Pr) (w : Int) : deadK (liveL U w) w = [] := by
  unfold deadK
  rw [live_again]
  rfl
theorem deadK_more {U : List Pr} {w m : Int} (h : w ≤ m) : (deadK U w).length ≤ (deadK U m).length := by
  rw [deadK_len, deadK_len]
  exact dead_more h
theorem deadK_two {U : List Pr} {w m : Int} (h : w ≤ m) : (deadK U w).length + (deadK (liveL U w) m).length = (deadK U m).length := by
  have h1 := live_nums U w
  have h2 := live_nums (liveL U w) m
  have h3 := live_nums U m
  rw [live_live h] at h2
  omega
/-- How many are later than w. -/
def lateN (U : List Pr) (w : Int) : Nat := (U.filter fun x => decide (w < x.1.2)).length
theorem late_le (U : List Pr) (w : Int) : lateN U w ≤ (liveL U w).length := by
  have g : ∀ (V : List Pr) (f k : Pr → Bool), (∀ x, f x = true → k x = true) → (V.filter f).length ≤ (V.filter k).length := by
    intro V f k hfk
    induction V with
    | nil => exact Nat.le_refl _
    | cons x r ih =>
      rw [List.filter_cons, List.filter_cons]
      cases hf : f x with
      | false => cases k x <;> simp <;> omega
      | true => rw [hfk x hf]; simpa using ih
  refine g U _ _ fun x hx => ?_
  rw [decide_eq_true_eq] at hx
  have : deadB U w x = false := by
    cases hd : deadB U w x with
    | false => rfl
    | true =>
      have := (dead_iff.1 hd).1
      omega
  rw [this]
  rfl
theorem late_snoc {U : List Pr} (w : Int) {k : Nat} (h : k < U.length) : lateN (U.take (k + 1)) w = if w < U[k].1.2 then lateN (U.take k) w + 1 else lateN (U.take k) w := by
  unfold lateN
  rw [take_snoc h, List.filter_append, List.filter_cons, List.filter_nil, List.length_append]
  by_cases hw : w < U[k].1.2
  · simp [hw]
  · simp [hw]
/-- Two that stand side by side, both old: not of one path. -/
theorem live_beside {U : List Pr} (hr : Rises U) {w : Int} {i : Nat} (h : i + 1 < (liveL U w).length) (h1 : (liveL U w)[i].1.2 ≤ w) (h2 : (liveL U w)[i + 1].1.2 ≤ w) : (liveL U w)[i].1.1 ≠ (liveL U w)[i + 1].1.1 := by
  intro e
  have hl := List.pairwise_iff_getElem.1 (live_rises hr w) i (i + 1) (by omega) h (by omega)
  rw [lessK_eq, e, less_irrefl] at hl
  simp at hl
  have := (live_least (List.getElem_mem h) h2).2 _ (List.getElem_mem (by omega : i < _)) e h1
  omega
theorem live_gone {U : List Pr} {w : Int} {x : Pr} (hx : x ∈ liveL U w) (hw : x.1.2 ≤ w) : redG x.2 = false := (live_least hx hw).1
theorem live_here {U : List Pr} (hr : Rises U) {w : Int} {x : Pr} (hx : x ∈ U) (hw : w < x.1.2) : hereB (liveL U w) x.1 = true := (rises_mem (live_rises hr w) (live_later hx hw)).1

end Go.Proofs.YtaaabmnaindgaaaGreatDoor

/-
  vacuum: gone, refused, dead.
-/
namespace Go.Proofs.YtaaabmnaindgaaaGreatDoor
set_option maxRecDepth 100000
open Go.RowKit

set_option maxHeartbeats 2000000 in
theorem vaGone_calls (p : List UInt8) (m : Int) (s : List UInt8) (hs : s.length ≤ 4611686018427387904) (w : World) :
    Calls Tryz.prog 62 #[.agg #[.string ⟨p.toArray⟩, .int .i64 m, .string ⟨s.toArray⟩]] w fun e w' => e = .returned (.bool (redG s)) ∧ Below w.heap.size w w' := by
  have hB0 := below_alloc w (.cells #[.string ⟨p.toArray⟩, .int .i64 m, .string ⟨s.toArray⟩] 67)
  have K := Lib.hid (fun W => mRead_calls s hs W)
  have HB0 := Lib.hid hB0
  generalize (redM s).1 = z at *
  generalize (redM s).2.1 = d at *
  generalize (redM s).2.2 = cs at *
  generalize redE s = g at *
  generalize redG s = b at *
  clear hB0
  go_enter Tryz.func62, Tryz.ntmps62
  go_wp2_with fail
  refine (K.out _).mono ?_
  rintro e w1 ⟨v, rfl, hI, hB1⟩
  obtain ⟨ao, cap, rfl⟩ := (ints_own hI).form
  have hBa := below_alloc w1 (.cells #[.int .i64 z, .int .i64 d, .slice ao cs.length cap] 51)
  have HB1 := Lib.hid (below3 HB0.out hB1 hBa)
  clear hI hBa hB1
  go_wp2_with fail
  go_ret
  exact ⟨rfl, HB1.out⟩

set_option maxHeartbeats 2000000 in
theorem vaRefused_calls {tv : Value} {U : List Pr} {w : World} (h : Sto w tv U) (n : Int) :
    Calls Tryz.prog 34 #[tv, .int .i64 n] w fun e w' => e = .returned (.bool (vaE U n != 0)) ∧ Below w.heap.size w w' := by
  obtain ⟨tp, rfl⟩ := h.val
  have KI := Lib.hid (soIs_calls h)
  by_cases hn : n < 0
  · have hE : (vaE U n != 0) = true := by
      have : vaE U n ≠ 0 := fun e => by have := (vaE_zero.1 e).2; omega
      simpa using this
    rw [hE]
    have hd : decide (n < 0) = true := decide_eq_true hn
    clear h hE hn
    go_enter Tryz.func34, Tryz.ntmps34
    go_wp2_with fail
    go_ret
    exact ⟨rfl, Below.refl _ _⟩
  · have hE : (vaE U n != 0) = !isSt U := by
      cases hs : isSt U with
      | true =>
        have : vaE U n = 0 := vaE_zero.2 ⟨hs, by omega⟩
        rw [this]
        rfl
      | false =>
        have : vaE U n ≠ 0 := fun e => by rw [(vaE_zero.1 e).1] at hs; cases hs
        simpa using this
    rw [hE]
    have hd : decide (n < 0) = false := decide_eq_false hn
    generalize isSt U = b at *
    clear h hE hn
    go_enter Tryz.func34, Tryz.ntmps34
    go_wp2_with fail
    refine KI.out.mono ?_
    rintro e w1 ⟨rfl, hB⟩
    go_wp2_with fail
    go_ret
    exact ⟨rfl, hB⟩

set_option maxHeartbeats 2000000 in
theorem vaDead_calls (tp : Option Addr) (n : Int) (w : World) :
    Calls Tryz.prog 35 #[.pointer tp, .int .i64 n] w fun e w' => e = .returned (.func (.func 61) #[] #[.pointer (some ⟨w.heap.size, 0, none⟩), .pointer (some ⟨w.heap.size + 1, 0, none⟩)]) ∧
      Boxed w' w.heap.size 24 (.pointer tp) ∧ Boxed w' (w.heap.size + 1) 3 (.int .i64 n) ∧ Below w.heap.size w w' := by
  go_enter Tryz.func35, Tryz.ntmps35
  go_wp2_with fail
  go_ret
  have h1 := Boxed.new w 24 (.pointer tp)
  have h2 := Boxed.new (w.alloc (.cells #[.pointer tp] 24)) 3 (.int .i64 n)
  rw [World.size_alloc] at h2
  exact ⟨rfl, h1.alloc _, h2, below_alloc2 w _ _⟩

end Go.Proofs.YtaaabmnaindgaaaGreatDoor

/-
  vacuum.dead: the iterator tells the keys of the dead ones, by one pass.
-/
namespace Go.Proofs.YtaaabmnaindgaaaGreatDoor
set_option maxRecDepth 100000
open Go.RowKit Go.Shelf
attribute [local go_sem] Oper.semAt_some

/-- What a round is handed. -/
def encK (x : Ky) : Array Value := #[.agg #[.string ⟨x.1.toArray⟩, .int .i64 x.2]]
/-- What a round keeps: the box of w, and each block of pairs. -/
def Kv (Bn : Nat) (A B : World) : Prop := A.heap.size ≤ B.heap.size ∧ B.heap[Bn]? = A.heap[Bn]? ∧ ∀ (g : Nat) (cur : Array Value) (f : Nat × Nat), A.heap[g]? = some (.cells cur 67 f) → B.heap[g]? = A.heap[g]?
theorem Kv.refl (Bn : Nat) (A : World) : Kv Bn A A := ⟨Nat.le_refl _, rfl, fun _ _ _ _ => rfl⟩
theorem Kv.trans {Bn : Nat} {A B C : World} (h : Kv Bn A B) (k : Kv Bn B C) : Kv Bn A C :=
  ⟨Nat.le_trans h.1 k.1, k.2.1.trans h.2.1, fun g cur f hg => (k.2.2 g cur f ((h.2.2 g cur f hg).trans hg)).trans (h.2.2 g cur f hg)⟩
theorem Kv.below {Bn : Nat} {A B : World} (h : Below A.heap.size A B) (hb : Bn < A.heap.size) : Kv Bn A B :=
  ⟨h.size, h.block _ hb, fun g _ _ hg => h.block g (Array.getElem?_eq_some_iff.1 hg).1⟩
theorem Kv.putObj {Bn : Nat} {w : World} (hb : Bn < w.heap.size) (W : World) (l : Nat) (o o' : Obj) (hl : w.heap.size ≤ l) (h : W.heap[l]? = some o) (h1 : o.isCells = false) (_ : o.isWalk = false) : Kv Bn W (W.putObj l o') :=
  ⟨by simp, World.putObj_heap_other (by omega), fun g cur f hg => World.putObj_heap_other (fun e => by subst e; rw [h] at hg; cases hg; cases h1)⟩
theorem Kv.own {Bn base : Nat} {A B : World} (h : Kv Bn A B) {u : Value} {l : List Pr} (ho : OwnP A base u l) : OwnP B base u l := by
  refine ⟨ho.1, ho.2.imp id ?_⟩
  rintro ⟨g, cap, cur, hv, hb, hg, hr⟩
  exact ⟨g, cap, cur, hv, hb, (h.2.2 g cur _ hg).trans hg, hr⟩
theorem Kv.box {Bn : Nat} {A B : World} (h : Kv Bn A B) {t : TypeId} {v : Value} (hb : Boxed A Bn t v) : Boxed B Bn t v := h.2.1.trans hb

set_option maxHeartbeats 8000000 in
theorem dead_in (m : Nat) (hm : 2 ≤ m) (y Bt Bn : Nat) (tv : Value) (U : List Pr) (n : Int) (W : World) (h : Sto W tv U) (hs : isSt U = true) (hBt : Boxed W Bt 24 tv) (hBn : Boxed W Bn 3 (.int .i64 n))
    (J Jx : List Ky → World → Prop) (hJ : AbidesFrom W.heap.size J)
    (hY : ∀ pre x W1, J pre W1 → pre.length < 1000 → YieldAt Fence.wide (m - 1) Tryz.prog y (encK x) W1 fun e' W' =>
      (e' = .returned (.bool true) ∧ J (pre ++ [x]) W' ∧ Kv Bn W1 W') ∨ (e' = .returned (.bool false) ∧ Jx (pre ++ [x]) W'))
    (h0 : J [] W) :
    CallsIn Fence.wide m Tryz.prog 61 #[.func (.yield y) #[] #[], .pointer (some ⟨Bt, 0, none⟩), .pointer (some ⟨Bn, 0, none⟩)] W fun e' W' => (∃ v, e' = .returned v) ∧
      ((∃ ys, ys = deadK U n ∧ J ys W') ∨ (∃ pre, pre <+: deadK U n ∧ Jx pre W')) := by
  have hfw : ∀ f, Fence.wide.fn f := fun _ => trivial
  have hn1 : 1 ≤ m := by omega
  obtain ⟨tp, rfl⟩ := h.val
  have hbnl := hBn.lt
  have hti : Timed U := fun x hx => (h.2.1 x hx).2
  have KA := Lib.hid (all_calls _ U W h.1 (Nat.le_trans h.2.2.1 (by decide)) hti)
  have HS := Lib.hid (And.intro h.rises (And.intro (fun x hx => (st_times hs x hx).2.2.2.1 : ∀ x ∈ U, x.1.1 ≠ []) h.2.2.2.2.1))
  have HU := Lib.hid h.2.2.1
  have hc := hBt.cell
  clear h hs hti
  refine callsIn_of_wp Tryz.func61 rfl trivial ?_ rfl
  simp only [Tryz.ntmps61, List.size_toArray, List.length_cons, List.length_nil, Nat.reduceAdd, Nat.reduceSub, Array.replicate_succ, Array.replicate_zero, List.push_toArray, List.append_toArray, List.nil_append, List.cons_append]
  gi_wp2_with fail
  refine (callsIn_wide.2 KA.out).mono ?_
  rintro e w1 ⟨u, rfl, ho, hB1⟩
  obtain ⟨ao, cap, rfl⟩ := ho.form
  have hn1' := boxed_stays hBn hB1
  have HO := Lib.hid (And.intro ho (And.intro hn1' hB1))
  obtain ⟨nU, hnU⟩ : ∃ k, U.length = k := ⟨_, rfl⟩
  have HN := Lib.hid hnU
  have hnu : nU ≤ 1000 := by rw [← hnU]; exact HU.out
  rw [hnU]
  clear ho hn1' hB1 hc hBt hBn hnU
  gi_wp2_with fail
  gi_loopw [4, 11] (fun q p wr => ∃ k : Nat, q = .string ⟨(pathT n (U.take k)).toArray⟩ ∧ p = .int .i64 (k : Int) ∧ k ≤ nU ∧ J (sweepL U n k) wr ∧ W.heap.size ≤ wr.heap.size ∧ Boxed wr Bn 3 (.int .i64 n) ∧ OwnP wr W.heap.size (.slice ao nU cap) U) (fun _ p _ => nU - (intOf p).toNat)
  case atStart => exact ⟨0, rfl, rfl, Nat.zero_le _, hJ [] W w1 none h0 (below_grown HO.out.2.2) (fun r e => by cases e), HO.out.2.2.size, HO.out.2.1, HN.out ▸ HO.out.1⟩
  case round =>
    obtain ⟨k, rfl, rfl, hk, hj, hsz, hbn, ho⟩ := hrel
    by_cases hlt : k < nU
    · have hd : decide ((k : Int) < (nU : Int)) = true := by rw [decide_eq_true_eq]; omega
      have hkU : k < U.length := by rw [HN.out]; exact hlt
      obtain ⟨b, off, rfl, c0, c1, c2⟩ := ho.prs.at hkU
      have hpne := HS.out.2.1 _ (List.getElem_mem hkU)
      have hsl := HS.out.2.2 _ (List.getElem_mem hkU)
      have hlate := sweep_late (w := n) hkU
      have hold := fun hw => sweep_old HS.out.1 (w := n) hkU hw hpne
      have hsk := sweep_len U n k
      have hsk1 := sweep_prefix U n (k + 1)
      obtain ⟨⟨⟨p, t⟩, s⟩, hx⟩ : ∃ x, U[k] = x := ⟨_, rfl⟩
      rw [hx] at c0 c1 c2 hlate hold hsl
      dsimp only at c0 c1 c2 hlate hold hsl
      have hBa := below_alloc wr (.cells #[.string ⟨p.toArray⟩, .int .i64 t, .string ⟨s.toArray⟩] 67)
      have HX := Lib.hid (Cx.new wr 67 [.string ⟨p.toArray⟩, .int .i64 t, .string ⟨s.toArray⟩])
      have HR := Lib.hid (And.intro (boxed_stays hbn hBa) (And.intro (ho.stays hBa) (And.intro (Nat.le_trans hsz hBa.size) (hJ _ wr _ none hj (below_grown hBa) (fun r e => by cases e)))))
      have hk0 : (0 : Int) ≤ (k : Int) := by omega
      have hk5 : (k : Int) < (nU : Int) := by omega
      obtain ⟨q, hq⟩ : ∃ q, pathT n (U.take k) = q := ⟨_, rfl⟩
      rw [hq] at hlate hold ⊢
      have hbc := (boxed_stays hbn hBa).cell
      have HG := Lib.hid (fun A => vaGone_calls p t s hsl A)
      clear hpne hsl hx hq hj hbn ho hBa
      by_cases hw : t ≤ n
      · have hg : decide (n < t) = false := by rw [decide_eq_false_iff_not]; omega
        obtain ⟨h1, h2⟩ := hold hw
        clear hold hlate
        by_cases hpq : p = q
        · have e1 : (p == q) = true := beq_iff_eq.2 hpq
          rw [e1, Bool.true_or, if_pos rfl] at h1
          have HE := Lib.hid (And.intro h1 h2)
          clear h1 h2 hpq
          obtain ⟨x0, x1, x2, _⟩ := HX.out.three
          obtain ⟨fn, tmps, assign, body, hy, hR⟩ := hY _ (p, t) _ HR.out.2.2.2 (by omega)
          dsimp only [encK] at hy
          have HYR := Lib.hid hR
          clear hR
          gi_wp2_with fail
          refine HYR.out.mono ?_
          rintro e W3 (⟨rfl, hJ3, hk3⟩ | ⟨rfl, hJx3⟩)
          · have HJ3 := Lib.hid (And.intro hJ3 hk3)
            clear hJ3 hk3 x0 x1 x2
            gi_wp2_with fail
            go_roundw
            case rel => exact ⟨k + 1, by rw [HE.out.2], by go_num, by omega, by rw [HE.out.1]; exact HJ3.out.1, Nat.le_trans HR.out.2.2.1 HJ3.out.2.1, HJ3.out.2.box HR.out.1, HJ3.out.2.own HR.out.2.1⟩
            case measure => simp [intOf]; omega
          · have HJ3 := Lib.hid hJx3
            rw [HE.out.1] at hsk1
            clear hJx3 x0 x1 x2
            gi_wp2_with fail
            refine bodyPost_ret (results_none rfl _ _ _) rfl ?_
            exact ⟨⟨_, rfl⟩, .inr ⟨_, hsk1, HJ3.out⟩⟩
        · have e1 : (p == q) = false := by rw [beq_eq_false_iff_ne]; exact hpq
          rw [e1, Bool.false_or] at h1
          clear hpq
          cases hr : redG s with
          | false =>
            rw [hr, if_neg (by simp)] at h1
            rw [hr] at HG
            have HE := Lib.hid (And.intro h1 h2)
            clear h1 h2 hr
            gi_wp2_with fail
            refine (callsIn_wide.2 (HG.out _)).mono ?_
            rintro e w2 ⟨rfl, hB2⟩
            have HJ2 := Lib.hid (hJ _ _ w2 none HR.out.2.2.2 (below_grown hB2) (fun r e => by cases e))
            have hb2 := (boxed_stays HR.out.1 hB2)
            have ho2 := HR.out.2.1.stays hB2
            have hs2 := Nat.le_trans HR.out.2.2.1 hB2.size
            clear hB2 hbc
            gi_wp2_with fail
            go_roundw
            case rel => exact ⟨k + 1, by rw [HE.out.2], by go_num, by omega, by rw [HE.out.1]; exact HJ2.out, hs2, hb2, ho2⟩
            case measure => simp [intOf]; omega
          | true =>
            rw [hr, if_pos rfl] at h1
            rw [hr] at HG
            have HE := Lib.hid (And.intro h1 h2)
            clear h1 h2 hr
            gi_wp2_with fail
            refine (callsIn_wide.2 (HG.out _)).mono ?_
            rintro e w2 ⟨rfl, hB2⟩
            replace HX := Lib.hid (HX.out.below hB2)
            replace HR := Lib.hid (And.intro (boxed_stays HR.out.1 hB2) (And.intro (HR.out.2.1.stays hB2) (And.intro (Nat.le_trans HR.out.2.2.1 hB2.size) (hJ _ _ w2 none HR.out.2.2.2 (below_grown hB2) (fun r e => by cases e)))))
            clear hB2 hbc
            obtain ⟨x0, x1, x2, _⟩ := HX.out.three
            obtain ⟨fn, tmps, assign, body, hy, hR⟩ := hY _ (p, t) _ HR.out.2.2.2 (by omega)
            dsimp only [encK] at hy
            have HYR := Lib.hid hR
            clear hR
            gi_wp2_with fail
            refine HYR.out.mono ?_
            rintro e W3 (⟨rfl, hJ3, hk3⟩ | ⟨rfl, hJx3⟩)
            · have HJ3 := Lib.hid (And.intro hJ3 hk3)
              clear hJ3 hk3 x0 x1 x2
              gi_wp2_with fail
              go_roundw
              case rel => exact ⟨k + 1, by rw [HE.out.2], by go_num, by omega, by rw [HE.out.1]; exact HJ3.out.1, Nat.le_trans HR.out.2.2.1 HJ3.out.2.1, HJ3.out.2.box HR.out.1, HJ3.out.2.own HR.out.2.1⟩
              case measure => simp [intOf]; omega
            · have HJ3 := Lib.hid hJx3
              rw [HE.out.1] at hsk1
              clear hJx3 x0 x1 x2
              gi_wp2_with fail
              refine bodyPost_ret (results_none rfl _ _ _) rfl ?_
              exact ⟨⟨_, rfl⟩, .inr ⟨_, hsk1, HJ3.out⟩⟩
      · have hg : decide (n < t) = true := by rw [decide_eq_true_eq]; omega
        obtain ⟨h1, h2⟩ := hlate hw
        have HE := Lib.hid (And.intro h1 h2)
        clear hold hlate h1 h2
        gi_wp2_with fail
        go_roundw
        case rel => exact ⟨k + 1, by rw [HE.out.2], by go_num, by omega, by rw [HE.out.1]; exact HR.out.2.2.2, HR.out.2.2.1, HR.out.1, HR.out.2.1⟩
        case measure => simp [intOf]; omega
    · obtain rfl : k = nU := by omega
      have hd : decide ((k : Int) < (k : Int)) = false := by simp
      rw [sweep_all U n (Nat.le_of_eq HN.out)] at hj
      gi_wp2_with fail
      go_end0
      exact ⟨⟨_, rfl⟩, .inl ⟨_, rfl, hj⟩⟩

theorem dead_stops (m : Nat) (hm : 2 ≤ m) (Bt Bn : Nat) (tv : Value) (U : List Pr) (n : Int) (W0 : World) (h : Sto W0 tv U) (hs : isSt U = true) (hBt : Boxed W0 Bt 24 tv) (hBn : Boxed W0 Bn 3 (.int .i64 n)) :
    SeqStopsK Fence.wide m Tryz.prog 61 #[.pointer (some ⟨Bt, 0, none⟩), .pointer (some ⟨Bn, 0, none⟩)] encK (Kv Bn) (fun ys => ys = deadK U n) (fun pre => pre <+: deadK U n) 1000 W0 := fun y J Jx W hW hJ _ hY h0 =>
  dead_in m hm y Bt Bn tv U n W (h.below hW) hs (boxed_stays hBt hW) (boxed_stays hBn hW) J Jx hJ hY h0

end Go.Proofs.YtaaabmnaindgaaaGreatDoor

/-
  vacuum.dead: the iterator, called with Run's closure.
-/
namespace Go.Proofs.YtaaabmnaindgaaaGreatDoor
set_option maxRecDepth 100000
open Go.RowKit

set_option maxHeartbeats 8000000 in
theorem dead_calls (b1 b2 Bt Bn : Nat) (tv : Value) (U : List Pr) (n : Int) (W : World) (h : Sto W tv U) (hs : isSt U = true) (hBt : Boxed W Bt 24 tv) (hBn : Boxed W Bn 3 (.int .i64 n))
    (J : List Ky → World → Prop) (hJ : ∀ pre A B, J pre A → Below A.heap.size A B → J pre B)
    (hY : ∀ pre (x : Ky) W1, J pre W1 → pre.length < 1000 → Calls Tryz.prog 38 #[.agg #[.string ⟨x.1.toArray⟩, .int .i64 x.2], .pointer (some ⟨b1, 0, none⟩), .pointer (some ⟨b2, 0, none⟩)] W1 fun e' W' =>
      e' = .returned (.bool true) ∧ J (pre ++ [x]) W' ∧ Kv Bn W1 W')
    (h0 : J [] W) :
    Calls Tryz.prog 61 #[.func (.func 38) #[] #[.pointer (some ⟨b1, 0, none⟩), .pointer (some ⟨b2, 0, none⟩)], .pointer (some ⟨Bt, 0, none⟩), .pointer (some ⟨Bn, 0, none⟩)] W fun e' W' => (∃ v, e' = .returned v) ∧ J (deadK U n) W' := by
  obtain ⟨tp, rfl⟩ := h.val
  have hbnl := hBn.lt
  have hti : Timed U := fun x hx => (h.2.1 x hx).2
  have KA := Lib.hid (all_calls _ U W h.1 (Nat.le_trans h.2.2.1 (by decide)) hti)
  have HS := Lib.hid (And.intro h.rises (And.intro (fun x hx => (st_times hs x hx).2.2.2.1 : ∀ x ∈ U, x.1.1 ≠ []) h.2.2.2.2.1))
  have HU := Lib.hid h.2.2.1
  have hc := hBt.cell
  clear h hs hti
  go_enter Tryz.func61, Tryz.ntmps61
  go_wp2_with fail
  refine KA.out.mono ?_
  rintro e w1 ⟨u, rfl, ho, hB1⟩
  obtain ⟨ao, cap, rfl⟩ := ho.form
  have hn1' := boxed_stays hBn hB1
  have HO := Lib.hid (And.intro ho (And.intro hn1' hB1))
  obtain ⟨nU, hnU⟩ : ∃ k, U.length = k := ⟨_, rfl⟩
  have HN := Lib.hid hnU
  have hnu : nU ≤ 1000 := by rw [← hnU]; exact HU.out
  rw [hnU]
  clear ho hn1' hB1 hc hBt hBn hnU
  go_wp2_with fail
  go_loopw [4, 11] (fun q p wr => ∃ k : Nat, q = .string ⟨(pathT n (U.take k)).toArray⟩ ∧ p = .int .i64 (k : Int) ∧ k ≤ nU ∧ J (sweepL U n k) wr ∧ W.heap.size ≤ wr.heap.size ∧ Boxed wr Bn 3 (.int .i64 n) ∧ OwnP wr W.heap.size (.slice ao nU cap) U) (fun _ p _ => nU - (intOf p).toNat)
  case atStart => exact ⟨0, rfl, rfl, Nat.zero_le _, hJ [] W w1 h0 HO.out.2.2, HO.out.2.2.size, HO.out.2.1, HN.out ▸ HO.out.1⟩
  case round =>
    obtain ⟨k, rfl, rfl, hk, hj, hsz, hbn, ho⟩ := hrel
    by_cases hlt : k < nU
    · have hd : decide ((k : Int) < (nU : Int)) = true := by rw [decide_eq_true_eq]; omega
      have hkU : k < U.length := by rw [HN.out]; exact hlt
      obtain ⟨b, off, rfl, c0, c1, c2⟩ := ho.prs.at hkU
      have hpne := HS.out.2.1 _ (List.getElem_mem hkU)
      have hsl := HS.out.2.2 _ (List.getElem_mem hkU)
      have hlate := sweep_late (w := n) hkU
      have hold := fun hw => sweep_old HS.out.1 (w := n) hkU hw hpne
      have hsk := sweep_len U n k
      have hsk1 := sweep_prefix U n (k + 1)
      obtain ⟨⟨⟨p, t⟩, s⟩, hx⟩ : ∃ x, U[k] = x := ⟨_, rfl⟩
      rw [hx] at c0 c1 c2 hlate hold hsl
      dsimp only at c0 c1 c2 hlate hold hsl
      have hBa := below_alloc wr (.cells #[.string ⟨p.toArray⟩, .int .i64 t, .string ⟨s.toArray⟩] 67)
      have HX := Lib.hid (Cx.new wr 67 [.string ⟨p.toArray⟩, .int .i64 t, .string ⟨s.toArray⟩])
      have HR := Lib.hid (And.intro (boxed_stays hbn hBa) (And.intro (ho.stays hBa) (And.intro (Nat.le_trans hsz hBa.size) (hJ _ wr _ hj hBa))))
      have hk0 : (0 : Int) ≤ (k : Int) := by omega
      have hk5 : (k : Int) < (nU : Int) := by omega
      obtain ⟨q, hq⟩ : ∃ q, pathT n (U.take k) = q := ⟨_, rfl⟩
      rw [hq] at hlate hold ⊢
      have hbc := (boxed_stays hbn hBa).cell
      have HG := Lib.hid (fun A => vaGone_calls p t s hsl A)
      clear hpne hsl hx hq hj hbn ho hBa
      by_cases hw : t ≤ n
      · have hg : decide (n < t) = false := by rw [decide_eq_false_iff_not]; omega
        obtain ⟨h1, h2⟩ := hold hw
        clear hold hlate
        by_cases hpq : p = q
        · have e1 : (p == q) = true := beq_iff_eq.2 hpq
          rw [e1, Bool.true_or, if_pos rfl] at h1
          have HE := Lib.hid (And.intro h1 h2)
          clear h1 h2 hpq
          obtain ⟨x0, x1, x2, _⟩ := HX.out.three
          have KY := Lib.hid (hY _ (p, t) _ HR.out.2.2.2 (by omega))
          go_wp2_with fail
          refine KY.out.mono ?_
          rintro e W3 ⟨rfl, hJ3, hk3⟩
          have HJ3 := Lib.hid (And.intro hJ3 hk3)
          clear hJ3 hk3 x0 x1 x2
          go_wp2_with fail
          go_roundw
          case rel => exact ⟨k + 1, by rw [HE.out.2], by go_num, by omega, by rw [HE.out.1]; exact HJ3.out.1, Nat.le_trans HR.out.2.2.1 HJ3.out.2.1, HJ3.out.2.box HR.out.1, HJ3.out.2.own HR.out.2.1⟩
          case measure => simp [intOf]; omega
        · have e1 : (p == q) = false := by rw [beq_eq_false_iff_ne]; exact hpq
          rw [e1, Bool.false_or] at h1
          clear hpq
          cases hr : redG s with
          | false =>
            rw [hr, if_neg (by simp)] at h1
            rw [hr] at HG
            have HE := Lib.hid (And.intro h1 h2)
            clear h1 h2 hr
            go_wp2_with fail
            refine (HG.out _).mono ?_
            rintro e w2 ⟨rfl, hB2⟩
            have HJ2 := Lib.hid (hJ _ _ w2 HR.out.2.2.2 hB2)
            have hb2 := (boxed_stays HR.out.1 hB2)
            have ho2 := HR.out.2.1.stays hB2
            have hs2 := Nat.le_trans HR.out.2.2.1 hB2.size
            clear hB2 hbc
            go_wp2_with fail
            go_roundw
            case rel => exact ⟨k + 1, by rw [HE.out.2], by go_num, by omega, by rw [HE.out.1]; exact HJ2.out, hs2, hb2, ho2⟩
            case measure => simp [intOf]; omega
          | true =>
            rw [hr, if_pos rfl] at h1
            rw [hr] at HG
            have HE := Lib.hid (And.intro h1 h2)
            clear h1 h2 hr
            go_wp2_with fail
            refine (HG.out _).mono ?_
            rintro e w2 ⟨rfl, hB2⟩
            replace HX := Lib.hid (HX.out.below hB2)
            replace HR := Lib.hid (And.intro (boxed_stays HR.out.1 hB2) (And.intro (HR.out.2.1.stays hB2) (And.intro (Nat.le_trans HR.out.2.2.1 hB2.size) (hJ _ _ w2 HR.out.2.2.2 hB2))))
            clear hB2 hbc
            obtain ⟨x0, x1, x2, _⟩ := HX.out.three
            have KY := Lib.hid (hY _ (p, t) _ HR.out.2.2.2 (by omega))
            go_wp2_with fail
            refine KY.out.mono ?_
            rintro e W3 ⟨rfl, hJ3, hk3⟩
            have HJ3 := Lib.hid (And.intro hJ3 hk3)
            clear hJ3 hk3 x0 x1 x2
            go_wp2_with fail
            go_roundw
            case rel => exact ⟨k + 1, by rw [HE.out.2], by go_num, by omega, by rw [HE.out.1]; exact HJ3.out.1, Nat.le_trans HR.out.2.2.1 HJ3.out.2.1, HJ3.out.2.box HR.out.1, HJ3.out.2.own HR.out.2.1⟩
            case measure => simp [intOf]; omega
      · have hg : decide (n < t) = true := by rw [decide_eq_true_eq]; omega
        obtain ⟨h1, h2⟩ := hlate hw
        have HE := Lib.hid (And.intro h1 h2)
        clear hold hlate h1 h2
        go_wp2_with fail
        go_roundw
        case rel => exact ⟨k + 1, by rw [HE.out.2], by go_num, by omega, by rw [HE.out.1]; exact HR.out.2.2.2, HR.out.2.2.1, HR.out.1, HR.out.2.1⟩
        case measure => simp [intOf]; omega
    · obtain rfl : k = nU := by omega
      have hd : decide ((k : Int) < (k : Int)) = false := by simp
      rw [sweep_all U n (Nat.le_of_eq HN.out)] at hj
      go_wp2_with fail
      go_end0
      exact ⟨⟨_, rfl⟩, hj⟩

end Go.Proofs.YtaaabmnaindgaaaGreatDoor

/-
  Rows of sexton/api.Key: 2 cells each. No type is named here.
-/
namespace Go.Proofs.YtaaabmnaindgaaaGreatDoor
set_option maxRecDepth 100000
open Go.RowKit

def kkcell (x : Ky) : List Value := [.string ⟨x.1.toArray⟩, .int .i64 x.2]
theorem kkcell_k : CellsK kkcell 2 := ⟨by decide, fun _ => rfl⟩
theorem kkcell_o : CellsO kkcell := fun x u hu => by
  simp [kkcell] at hu
  rcases hu with rfl | rfl <;> rfl
abbrev Kks (w : World) (v : Value) (l : List Ky) : Prop := RowOf kkcell 2 w v l
theorem kks_at {w : World} {ao : Option Addr} {n cap : Nat} {l : List Ky} (h : Kks w (.slice ao n cap) l) {i : Nat} (hi : i < l.length) :
    ∃ b off, ao = some ⟨b, off, none⟩ ∧ w.cell? ⟨b, off + i * 2, none⟩ = some (.string ⟨l[i].1.toArray⟩) ∧ w.cell? ⟨b, off + i * 2 + 1, none⟩ = some (.int .i64 l[i].2) := by
  obtain ⟨b, off, e, hc⟩ := h.at kkcell_k hi
  exact ⟨b, off, e, hc 0 _ rfl, hc 1 _ rfl⟩

end Go.Proofs.YtaaabmnaindgaaaGreatDoor

/-
  Rows of sexton/api.Key of the call's own; appends; parts.
-/
namespace Go.Proofs.YtaaabmnaindgaaaGreatDoor
set_option maxRecDepth 100000
open Go.RowKit

abbrev OwnKk (w : World) (base : Nat) (v : Value) (l : List Ky) : Prop := OwnOf kkcell 2 65 w base v l
theorem infoKk : (Tryz.prog.info? 65).map (fun i => (i.zero, i.size, i.bytes)) = some (some (.agg #[.string ⟨#[]⟩, .int .i64 0]), 2, 24) := by kernel_rfl
/-- An append of one, which was laid for it. -/
theorem app_kk {w : World} {ops : Array Oper} {rest : List Oper} {o : Oper} {a : Act} {Q : Exit → Act → World → Prop} (hgd : o.guard = none) (s x : Operand)
    (ho : o.op = .call { callee := .builtin .append, args := #[s, x], argTypes := #[27, 27] })
    (base : Nat) (v : Value) (L : List Ky) (hs : a.eval s = v) (hown : OwnKk w base v L) (a0 : List UInt8) (a1 : Int) (hx : a.eval x = .slice (some ⟨w.heap.size, 0, none⟩) 1 1)
    (hn : L.length < 1000000) (hbase : base ≤ w.heap.size)
    (h : ∀ ao' cap' w', OwnKk w' base (.slice ao' (L.length + 1) cap') (L ++ [(a0, a1)]) → (∀ w0, Below base w0 w → Below base w0 w') → wpList Tryz.prog ops Q rest (a.put o.dst (.slice ao' (L.length + 1) cap')) w') :
    wpList Tryz.prog ops Q (o :: rest) a (w.alloc (.cells #[.string ⟨a0.toArray⟩, .int .i64 a1] 65)) := by
  obtain ⟨i0, hi, hz0, hz1, hz2⟩ := info_parts infoKk
  exact wpList_app_of kkcell_k kkcell_o hgd s x 27 ho i0 _ 24 Tryz.underlying27 hi hz0 hz1 hz2 rfl (by decide) base v L hs hown (a0, a1) _ rfl hx hn hbase h
end Go.Proofs.YtaaabmnaindgaaaGreatDoor

/-
  vacuum.Of: the keys gathered by a range over a function.
-/
namespace Go.Proofs.YtaaabmnaindgaaaGreatDoor
set_option maxRecDepth 100000
open Go.RowKit Go.Shelf
attribute [local go_sem] Oper.semAt_some

/-- A round that appends to a row of keys of the call's own, and lays it in its box. -/
theorem Kv.appended {Bn Bl base k : Nat} {t : TypeId} {A B C : World} {u x v v' : Value} {xs : List Value} (hAB : Below A.heap.size A B) (hrow : B.ownsRow base 65 2 v k xs) (hgrow : B.grownBy C v.ownBlock)
    (hbn : Boxed A Bn t x) (ht : t ≠ 65) (hl : Boxed A Bl 27 u) (hne : Bn ≠ Bl) : Kv Bn A (C.setCell ⟨Bl, 0, none⟩ v') := by
  have key : ∀ (g : Nat) (cur : Array Value) (T : TypeId) (f : Nat × Nat), T ≠ 65 → g ≠ Bl → A.heap[g]? = some (.cells cur T f) → (C.setCell ⟨Bl, 0, none⟩ v').heap[g]? = A.heap[g]? := by
    intro g cur T f hT hg hA
    have hlt : g < A.heap.size := (Array.getElem?_eq_some_iff.1 hA).1
    have hB := hAB.block g hlt
    have hltB : g < B.heap.size := Nat.lt_of_lt_of_le hlt hAB.size
    rw [heap_setCell_other C ⟨Bl, 0, none⟩ g v' hg, hgrow.block g hltB ?_, hB]
    intro e
    rcases hrow.2 with ⟨rfl, _⟩ | ⟨g', cap, c', rfl, _, hc', _⟩
    · cases e
    · simp [Value.ownBlock] at e
      subst e
      rw [hB, hA] at hc'
      cases hc'
      exact hT rfl
  refine ⟨?_, key Bn _ t _ ht hne hbn, fun g cur f hg => key g cur _ f (by decide) (fun e => ?_) hg⟩
  · have h1 := hAB.size
    have h2 := hgrow.size
    simp only [World.size_setCell]
    omega
  · subst e
    have := hl
    unfold Boxed at this
    rw [hg] at this
    cases this

theorem news_kk (w : World) (cs : List Value) (t : TypeId) : ∀ j u, cs[j]? = some u → (w.alloc (.cells cs.toArray t)).cell? ((⟨w.heap.size, 0, none⟩ : Addr).add j) = some u := by
  intro j u h
  rw [Go.WideShapes.add_plain, Nat.zero_add, World.cell?_alloc_new]
  simp [h]

set_option maxHeartbeats 8000000 in
theorem vaOf_ok {tv : Value} {U : List Pr} {w : World} (h : Sto w tv U) (n : Int) (hz : vaE U n = 0) :
    Calls Tryz.prog 11 #[tv, .int .i64 n] w fun e w' => ∃ v, e = .returned (.tuple #[v, .int .i64 0]) ∧ OwnKk w' w.heap.size v (deadK U n) ∧ Below w.heap.size w w' := by
  obtain ⟨i0, hi, hz0, hz1, hz2⟩ := info_parts infoKk
  obtain ⟨tp, rfl⟩ := h.val
  have K := Lib.hid (vaRefused_calls h n)
  rw [hz] at K
  have HS := Lib.hid (And.intro h (vaE_zero.1 hz).1)
  clear h hz
  refine (callsIn_wide (n := 6)).1 ?_
  refine callsIn_of_wp_marks Tryz.func11 rfl trivial ?_ rfl
  simp only [Tryz.ntmps11, List.size_toArray, List.length_cons, List.length_nil, Nat.reduceAdd, Nat.reduceSub, Array.replicate_succ, Array.replicate_zero, List.push_toArray, List.append_toArray, List.nil_append, List.cons_append]
  refine wpIn_wide.2 ?_
  go_wp2_with fail
  refine K.out.mono ?_
  rintro e w1 ⟨rfl, hB1⟩
  have hv1 := Boxed.new w1 27 (.slice none 0 0)
  have hBa := below_alloc w1 (.cells #[.slice none 0 0] 27)
  have hBBa := below2 hB1 hBa
  have hsz1 := hB1.size
  go_wp2_with fail
  refine (vaDead_calls tp n _).mono ?_
  rintro e w2 ⟨rfl, ht2, hn2, hB2⟩
  rw [World.size_alloc] at ht2 hn2
  have hv2 := boxed_stays hv1 hB2
  have hBB2 := below2 hBBa hB2
  have HST := Lib.hid (dead_stops 5 (by omega) _ _ _ U n w2 (HS.out.1.below hBB2) HS.out.2 ht2 hn2)
  have hl2 := hn2.lt
  have hl1 := hv2.lt
  clear hBa hBBa hB2 ht2 hv1
  go_wp2_with fail
  refine (wpIn_wide (n := 6)).1 ?_
  refine wpIn_rangeFunc_ownH rfl (by omega) (gf := 61) (lb := #[.pointer (some ⟨w1.heap.size + 1, 0, none⟩), .pointer (some ⟨w1.heap.size + 1 + 1, 0, none⟩)]) rfl trivial (enters_of Tryz.func61 (by kernel_rfl) rfl)
    HST.out Kv.trans (Kv.putObj hl2) (Below.refl _ _) (fun _ => rfl)
    (fun pre W => ((∃ v, Boxed W w1.heap.size 27 v ∧ W.ownsRow w.heap.size 65 2 v pre.length (pre.flatMap kkcell) ∧ True) ∧ Below w.heap.size w W) ∧ (w2.heap.size ≤ W.heap.size ∧ Boxed W (w1.heap.size + 1 + 1) 3 (.int .i64 n)))
    (fun _ _ _ => False)
    (OwnFrom.and (OwnFrom.and (Own.from (holdsRow_own w.heap.size w1.heap.size 27 65 2 (fun pre : List Ky => pre.length) (fun pre => pre.flatMap kkcell) (fun _ _ => True)) _) (ownFrom_below (Nat.le_refl _) hBB2.size))
      (fun _ _ _ row hs hg hr => ⟨Nat.le_trans hs.1 hg.size, (hg.block _ hs.2.lt (fun e => by obtain ⟨hb, _⟩ := hr _ e.symm; omega)).trans hs.2⟩))
    (fun _ _ _ _ _ hs _ _ => hs)
    ⟨⟨⟨_, hv2, World.ownsRow_nil _ _ _ _, trivial⟩, hBB2⟩, Nat.le_refl _, hn2⟩
    (fun x a' W => ∃ Br, w2.heap.size ≤ Br ∧ W.heap[Br]? = some (.cells (kkcell x).toArray 65 (0, 0)) ∧ a' = { tmps := #[.pointer tp, .int .i64 n, undef, undef, .slice none 0 0, .int .i64 0, .pointer (some ⟨w1.heap.size, 0, none⟩), .pointer (some ⟨Br, 0, none⟩), .pointer tp, .int .i64 n, .bool false, .pointer tp, .int .i64 n, .func (.func 61) #[] #[.pointer (some ⟨w1.heap.size + 1, 0, none⟩), .pointer (some ⟨w1.heap.size + 1 + 1, 0, none⟩)], .agg #[.string ⟨x.1.toArray⟩, .int .i64 x.2], undef, undef, undef, undef, undef], defers := [] })
    ?hAx ?assign ?body ?done ?stop
  case hAx =>
    rintro x a' u W W' row ⟨Br, h1, h2, h3⟩ hg hr
    refine ⟨Br, h1, ?_, h3⟩
    rw [hg.block Br (Array.getElem?_eq_some_iff.1 h2).1 (fun e => by obtain ⟨_, o, ho, hc⟩ := hr Br e.symm; rw [h2] at ho; cases ho; cases hc)]
    exact h2
  case assign =>
    rintro l pre ⟨p, t⟩ W K ⟨⟨⟨v, hv, hrow, _⟩, hBW⟩, hw2, hnW⟩ hK
    dsimp only [encK]
    gi_wp2
    have hBn := below_alloc W (.cells #[.string ⟨p.toArray⟩, .int .i64 t] 65)
    exact hK _ _ ((KeepsOthers.alloc _ _).from _) (Kv.below hBn hnW.lt) ⟨⟨⟨v, boxed_stays hv hBn, own_stays hrow hBn, trivial⟩, below2 hBW hBn⟩, by simp; omega, boxed_stays hnW hBn⟩ ⟨W.heap.size, hw2, heap_alloc_new W _, rfl⟩
  case body =>
    rintro l pre ⟨p, t⟩ a' W hl ⟨r, hr⟩ ⟨⟨⟨v, hv, hrow, _⟩, hBW⟩, hw2, hnW⟩ ⟨Br, hBr, bW, rfl⟩ hlt
    have hc := hv.cell
    have hszW := hBW.size
    have hfw : ∀ f, Fence.wide.fn f := fun _ => trivial
    have c0 : W.cell? ⟨Br, 0, none⟩ = some (.string ⟨p.toArray⟩) := cell_of_row W Br 0 _ _ _ bW
    have c1 : W.cell? ⟨Br, 1, none⟩ = some (.int .i64 t) := cell_of_row W Br 1 _ _ _ bW
    clear bW
    gi_wp2_with (gi_at_builtin; refine wpListIn_append_own _ rfl _ _ 27 rfl w.heap.size 65 i0 _ 2 24 Tryz.underlying27 hi hz0 hz1 hz2 rfl (by decide) _ _ _ rfl (hrow.alloc _) ⟨W.heap.size, 0, none⟩ 1 1 (kkcell (p, t)) rfl rfl (news_kk W _ _) (kkcell_o (p, t)) (by unfold maxLen; omega) (by omega) (by simp; omega) ?_; intro v' w3 hown' hgrow _; obtain ⟨g', cap', rfl⟩ := ownsRow_succ hown'; obtain ⟨hv1', hv2', hr2, hk2, hb2⟩ := hv.appended (by decide) hrow hszW (Nat.le_trans hB1.size (Nat.le_refl _)) hown' hgrow; have hc1 := hv1'.cell; have hf1 := hv1'.frozen)
    have hkv := Kv.appended (v' := .slice (some ⟨g', 0, none⟩) (pre.length + 1) cap') (below_alloc W (.cells #[.string ⟨p.toArray⟩, .int .i64 t] 65)) (hrow.alloc _) hgrow hnW (by decide) hv (by omega)
    have hr3 : (w3.setCell ⟨w1.heap.size, 0, none⟩ (.slice (some ⟨g', 0, none⟩) (pre.length + 1) cap')).ownsRow w.heap.size 65 2 (.slice (some ⟨g', 0, none⟩) (pre.length + 1) cap') (pre ++ [(p, t)]).length ((pre ++ [(p, t)]).flatMap kkcell) := by
      rw [List.length_append, List.flatMap_append]
      simpa using hr2
    exact ⟨hk2.from _, hkv, ⟨⟨_, hv2', hr3⟩, hBW.trans hb2⟩, by have := hkv.1; omega, hkv.box hnW⟩
  case done =>
    rintro D ys W hD rfl ⟨⟨⟨v, hv, hrow, _⟩, hBW⟩, hw2, _⟩ hK
    have hc := hv.cell
    go_wp2
    refine ⟨by simp, .inl ⟨_, _, rfl, run_takeDeferred hK, ?_⟩⟩
    exact ⟨_, results_tmp2 rfl _ _ _, v, rfl, ownsRow_putObj hrow _ hK rfl, hBW.trans (belowK_b (w := w2) (by omega) W D _ _ hD hK rfl rfl)⟩
  case stop =>
    rintro D c pre W _ _ h _
    exact h.elim

set_option maxHeartbeats 2000000 in
theorem vaOf_no {tv : Value} {U : List Pr} {w : World} (h : Sto w tv U) (n : Int) (hz : vaE U n ≠ 0) :
    Calls Tryz.prog 11 #[tv, .int .i64 n] w fun e w' => e = .returned (.tuple #[.slice none 0 0, .int .i64 1]) ∧ Below w.heap.size w w' := by
  obtain ⟨tp, rfl⟩ := h.val
  have K := Lib.hid (vaRefused_calls h n)
  rw [vaE_one hz] at K
  clear h hz
  go_enter Tryz.func11, Tryz.ntmps11
  go_wp2_with fail
  refine K.out.mono ?_
  rintro e w1 ⟨rfl, hB1⟩
  go_wp2_with fail
  go_ret2
  exact ⟨rfl, hB1⟩

theorem vaOf_calls {tv : Value} {U : List Pr} {w : World} (h : Sto w tv U) (n : Int) :
    Calls Tryz.prog 11 #[tv, .int .i64 n] w fun e w' => ∃ v, e = .returned (.tuple #[v, .int .i64 (vaE U n)]) ∧ OwnKk w' w.heap.size v (vaK U n) ∧ Below w.heap.size w w' := by
  by_cases hz : vaE U n = 0
  · unfold vaK
    rw [hz, if_pos rfl]
    exact vaOf_ok h n hz
  · unfold vaK
    rw [if_neg hz, vaE_one hz]
    exact (vaOf_no h n hz).mono fun e w' he => ⟨_, he.1, OwnOf.nil _ _, he.2⟩

end Go.Proofs.YtaaabmnaindgaaaGreatDoor

/-
  vacuum.Run's closure.
-/
namespace Go.Proofs.YtaaabmnaindgaaaGreatDoor
set_option maxRecDepth 100000
open Go.RowKit

def isI64 : Value → Bool | .int _ _ => true | _ => false
theorem kind_i64 : Kind isI64 := ⟨fun _ => rfl, fun _ _ => rfl, rfl⟩
theorem Boxed.stepK {A : World} {b : Nat} {t : TypeId} {x : Value} {K : Value → Bool} (h : Boxed A b t x) (hx : K x = true) (v : Value) : StepK K t A (A.setCell ⟨b, 0, none⟩ v) := by
  refine ⟨by simp, b, fun cur t' f hg => ?_, fun i hi _ => heap_setCell_other A ⟨b, 0, none⟩ i v hi⟩
  have h1 : A.heap[b]? = some (.cells #[x] t (0, 0)) := h
  rw [h1] at hg
  cases hg
  exact ⟨rfl, fun u hu => by simp at hu; rw [hu]; exact hx⟩
theorem Kv.set {Bn b : Nat} {A : World} {t : TypeId} {x : Value} (h : Boxed A b t x) (ht : t ≠ 67) (hne : Bn ≠ b) (v : Value) : Kv Bn A (A.setCell ⟨b, 0, none⟩ v) := by
  refine ⟨by simp, heap_setCell_other A ⟨b, 0, none⟩ Bn v hne, fun g cur f hg => heap_setCell_other A ⟨b, 0, none⟩ g v (fun e => ?_)⟩
  have h1 : A.heap[b]? = some (.cells #[x] t (0, 0)) := h
  rw [e, h1] at hg
  cases hg
  exact ht rfl

set_option maxHeartbeats 4000000 in
theorem vaStep_calls (b1 b2 : Nat) (hne : b1 ≠ b2) (tp : Option Addr) (l : List Pr) (c : Int) (p : List UInt8) (m : Int) (W : World) (ht : TreeV W (.pointer tp) l) (hl : l.length ≤ 99999) (h1 : Boxed W b1 24 (.pointer tp)) (h2 : Boxed W b2 3 (.int .i64 c)) (hc0 : 0 ≤ c) (hc1 : c ≤ 1000000) :
    Calls Tryz.prog 38 #[.agg #[.string ⟨p.toArray⟩, .int .i64 m], .pointer (some ⟨b1, 0, none⟩), .pointer (some ⟨b2, 0, none⟩)] W fun e W' => e = .returned (.bool true) ∧
      ∃ A u, Below W.heap.size W A ∧ TreeV A u (dropL l (p, m)) ∧ W' = (A.setCell ⟨b1, 0, none⟩ u).setCell ⟨b2, 0, none⟩ (.int .i64 (c + 1)) := by
  have hBa := below_alloc W (.cells #[.string ⟨p.toArray⟩, .int .i64 m] 65)
  have K := Lib.hid (tdrop_calls _ l p m _ (ht.below hBa) hl)
  have HB := Lib.hid (And.intro (boxed_stays h1 hBa) (And.intro (boxed_stays h2 hBa) hBa))
  have c1 := (boxed_stays h1 hBa).cell
  clear ht h1 h2 hBa
  go_enter Tryz.func38, Tryz.ntmps38
  go_wp2_with fail
  refine K.out.mono ?_
  rintro e w1 ⟨u, rfl, hu, hB1⟩
  obtain ⟨up, rfl⟩ := hu.val
  have h1 := boxed_stays HB.out.1 hB1
  have h2 := boxed_stays HB.out.2.1 hB1
  have HU := Lib.hid (And.intro hu (below2 HB.out.2.2 hB1))
  clear c1 hu hB1
  have c1 := h1.cell
  have f1 := h1.frozen
  have h3 := h2.other (B' := b1) (by omega) (.pointer up)
  have c2 := h3.cell
  have f2 := h3.frozen
  clear h1 h2 h3
  go_wp2_with fail
  go_ret
  exact ⟨rfl, _, _, HU.out.2, HU.out.1, rfl⟩

/-- What is so behind some dead ones. -/
def RnI (w w0 : World) (U : List Pr) (b1 b2 : Nat) (pre : List Ky) (A : World) : Prop :=
  ∃ tp, TreeV A (.pointer tp) (pre.foldl dropL U) ∧ Boxed A b1 24 (.pointer tp) ∧ Boxed A b2 3 (.int .i64 (pre.length : Int)) ∧ Below w.heap.size w A ∧ w0.heap.size ≤ A.heap.size
theorem RnI.below {w w0 : World} {U : List Pr} {b1 b2 : Nat} {pre : List Ky} {A B : World} (h : RnI w w0 U b1 b2 pre A) (hb : Below A.heap.size A B) : RnI w w0 U b1 b2 pre B := by
  obtain ⟨tp, h1, h2, h3, h4, h5⟩ := h
  exact ⟨tp, h1.below hb, boxed_stays h2 hb, boxed_stays h3 hb, below2 h4 hb, Nat.le_trans h5 hb.size⟩
theorem RnI.step {w w0 : World} {U : List Pr} {b1 b2 Bn : Nat} (hUl : U.length ≤ 99999) (hne : b1 ≠ b2) (hn1 : Bn ≠ b1) (hn2 : Bn ≠ b2) (hb1 : w.heap.size ≤ b1) (hb2 : w.heap.size ≤ b2) (hBn : Bn < w0.heap.size) (pre : List Ky) (x : Ky) (A : World) (h : RnI w w0 U b1 b2 pre A) (hl : pre.length < 1000) :
    Calls Tryz.prog 38 #[.agg #[.string ⟨x.1.toArray⟩, .int .i64 x.2], .pointer (some ⟨b1, 0, none⟩), .pointer (some ⟨b2, 0, none⟩)] A fun e B => e = .returned (.bool true) ∧ RnI w w0 U b1 b2 (pre ++ [x]) B ∧ Kv Bn A B := by
  obtain ⟨tp, h1, h2, h3, h4, h5⟩ := h
  obtain ⟨p, m⟩ := x
  refine (vaStep_calls b1 b2 hne tp _ _ p m A h1 (Nat.le_trans (drops_len _ _) hUl) h2 h3 (by omega) (by omega)).mono ?_
  rintro e B ⟨rfl, C, u, hB, hu, rfl⟩
  obtain ⟨up, rfl⟩ := hu.val
  have g2 := boxed_stays h2 hB
  have g3 := boxed_stays h3 hB
  have g4 := g3.other (B' := b1) (Ne.symm hne) (.pointer up)
  refine ⟨rfl, ⟨up, ?_, (g2.set _).other (B' := b2) hne _, ?_, (below2 h4 hB |>.setCell hb1 _).setCell hb2 _, ?_⟩, ((Kv.below hB (by omega)).trans (Kv.set g2 (by decide) hn1 _)).trans (Kv.set g4 (by decide) hn2 _)⟩
  · rw [List.foldl_append]
    exact (hu.step kind_ptr (Boxed.stepK g2 rfl _)).step kind_i64 (Boxed.stepK g4 rfl _)
  · have h6 := g4.set (.int .i64 ((pre.length : Int) + 1))
    rw [List.length_append]
    exact h6
  · have := hB.size
    simp only [World.size_setCell]
    omega

end Go.Proofs.YtaaabmnaindgaaaGreatDoor

/-
  vacuum.Run: each dead one is dropped, by a closure; Live.
-/
namespace Go.Proofs.YtaaabmnaindgaaaGreatDoor
set_option maxRecDepth 100000
open Go.RowKit

set_option maxHeartbeats 8000000 in
theorem vaRun_ok {tv : Value} {U : List Pr} {w : World} (h : Sto w tv U) (n : Int) (hz : vaE U n = 0) :
    Calls Tryz.prog 13 #[tv, .int .i64 n] w fun e w' => ∃ u, e = .returned (.tuple #[u, .int .i64 ((deadK U n).length : Int), .int .i64 0]) ∧ TreeV w' u (liveL U n) ∧ Below w.heap.size w w' := by
  obtain ⟨tp, rfl⟩ := h.val
  have K := Lib.hid (vaRefused_calls h n)
  rw [hz] at K
  have HS := Lib.hid (And.intro h (vaE_zero.1 hz).1)
  have HD := Lib.hid (drops_dead h.rises n)
  have hUl : U.length ≤ 99999 := Nat.le_trans h.2.2.1 (by decide)
  have HL := Lib.hid hUl
  have hnil : tp = none → U = [] := fun e => by
    subst e
    rcases h.1.2 with ⟨_, hl⟩ | ⟨g, u, hv, _⟩
    · exact hl
    · cases hv
  have HNil := Lib.hid hnil
  clear h hz hUl hnil
  go_enter Tryz.func13, Tryz.ntmps13
  go_wp2_with fail
  refine K.out.mono ?_
  rintro e w1 ⟨rfl, hB1⟩
  have g1 := (Boxed.new w1 24 (.pointer tp)).alloc (.cells #[.int .i64 0] 3)
  have g2 := Boxed.new (w1.alloc (.cells #[.pointer tp] 24)) 3 (.int .i64 0)
  rw [World.size_alloc] at g2
  have hBa := below2 hB1 (below_alloc2 w1 (.cells #[.pointer tp] 24) (.cells #[.int .i64 0] 3))
  have H1 := Lib.hid (And.intro g1 (And.intro g2 (And.intro hBa hB1.size)))
  clear g1 g2 hBa hB1
  have KR : Hid (∀ (W : World) (vp : Option Addr) (_ : TreeV W (.pointer vp) U) (_ : Boxed W w1.heap.size 24 (.pointer vp)) (_ : Boxed W (w1.heap.size + 1) 3 (.int .i64 0)) (_ : Below w.heap.size w W) (Bt Bn : Nat) (_ : Boxed W Bt 24 (.pointer tp)) (_ : Boxed W Bn 3 (.int .i64 n)) (_ : w1.heap.size + 1 < Bn),
      Calls Tryz.prog 61 #[.func (.func 38) #[] #[.pointer (some ⟨w1.heap.size, 0, none⟩), .pointer (some ⟨w1.heap.size + 1, 0, none⟩)], .pointer (some ⟨Bt, 0, none⟩), .pointer (some ⟨Bn, 0, none⟩)] W fun e W' => (∃ v, e = .returned v) ∧ RnI w W U w1.heap.size (w1.heap.size + 1) (deadK U n) W') :=
    Lib.hid (fun W vp ht hb1 hb2 hB Bt Bn hBt hBn hlt => dead_calls _ _ Bt Bn (.pointer tp) U n W (HS.out.1.below hB) HS.out.2 hBt hBn (RnI w W U w1.heap.size (w1.heap.size + 1)) (fun pre A B hj hb => hj.below hb)
      (fun pre x A hj hl => RnI.step HL.out (by omega) (by omega) (by omega) H1.out.2.2.2 (Nat.le_trans H1.out.2.2.2 (Nat.le_succ _)) hBn.lt pre x A hj hl) ⟨vp, ht, hb1, hb2, hB, Nat.le_refl _⟩)
  cases tp with
  | none =>
    obtain rfl := HNil.out rfl
    go_wp2_with fail
    refine (new_calls _).mono ?_
    rintro e w2 ⟨v2, rfl, ht2, hB2⟩
    obtain ⟨vp, rfl⟩ := ht2.val
    have g1 := boxed_stays H1.out.1 hB2
    have g2 := boxed_stays H1.out.2.1 hB2
    have c1 := g1.cell
    have f1 := g1.frozen
    have H2 := Lib.hid (And.intro (ht2.step kind_ptr (Boxed.stepK g1 rfl (.pointer vp))) (And.intro (g1.set (.pointer vp)) (And.intro (g2.other (B' := w1.heap.size) (by omega) (.pointer vp)) (And.intro ((below2 H1.out.2.2.1 hB2).setCell (p := ⟨w1.heap.size, 0, none⟩) H1.out.2.2.2 (.pointer vp)) (show w1.heap.size + 2 ≤ (w2.setCell ⟨w1.heap.size, 0, none⟩ (.pointer vp)).heap.size by have := hB2.size; simp at this ⊢; omega)))))
    clear g1 g2 ht2 hB2
    go_wp2_with fail
    obtain ⟨w3, hw3⟩ : ∃ x, x = w2.setCell ⟨w1.heap.size, 0, none⟩ (.pointer vp) := ⟨_, rfl⟩
    rw [← hw3] at H2 ⊢
    clear hw3 c1 f1
    refine (vaDead_calls none n _).mono ?_
    rintro e w4 ⟨rfl, ht4, hn4, hB4⟩
    have KC := Lib.hid (KR.out w4 vp (H2.out.1.below hB4) (boxed_stays H2.out.2.1 hB4) (boxed_stays H2.out.2.2.1 hB4) (below2 H2.out.2.2.2.1 hB4) _ _ ht4 hn4 (by have := H2.out.2.2.2.2; omega))
    clear ht4 hn4 hB4
    go_wp2_with fail
    refine KC.out.mono ?_
    rintro e w5 ⟨⟨v, rfl⟩, up, ht5, hb5, hn5, hB5, _⟩
    rw [HD.out] at ht5
    have H5 := Lib.hid (And.intro ht5 hB5)
    have c1 := hb5.cell
    have c2 := hn5.cell
    clear ht5 hb5 hn5 hB5
    go_wp2_with fail
    go_quiet (fail)
    all_goals
      go_wp2_with fail
      go_ret3
      exact ⟨_, rfl, H5.out.1.below (drewn_below _ _), below2 H5.out.2 (drewn_below _ _)⟩
  | some a =>
    have c1 := H1.out.1.cell
    go_wp2_with fail
    refine (vaDead_calls (some a) n _).mono ?_
    rintro e w4 ⟨rfl, ht4, hn4, hB4⟩
    rw [World.size_alloc, World.size_alloc] at ht4 hn4
    have KC := Lib.hid (KR.out w4 (some a) (HS.out.1.1.below (below2 H1.out.2.2.1 hB4)) (boxed_stays H1.out.1 hB4) (boxed_stays H1.out.2.1 hB4) (below2 H1.out.2.2.1 hB4) _ _ ht4 hn4 (by omega))
    clear ht4 hn4 hB4 c1
    go_wp2_with fail
    refine KC.out.mono ?_
    rintro e w5 ⟨⟨v, rfl⟩, up, ht5, hb5, hn5, hB5, _⟩
    rw [HD.out] at ht5
    have H5 := Lib.hid (And.intro ht5 hB5)
    have c1 := hb5.cell
    have c2 := hn5.cell
    clear ht5 hb5 hn5 hB5
    go_wp2_with fail
    go_quiet (fail)
    all_goals
      go_wp2_with fail
      go_ret3
      exact ⟨_, rfl, H5.out.1.below (drewn_below _ _), below2 H5.out.2 (drewn_below _ _)⟩

set_option maxHeartbeats 2000000 in
theorem vaRun_no {tv : Value} {U : List Pr} {w : World} (h : Sto w tv U) (n : Int) (hz : vaE U n ≠ 0) :
    Calls Tryz.prog 13 #[tv, .int .i64 n] w fun e w' => e = .returned (.tuple #[.pointer none, .int .i64 0, .int .i64 1]) ∧ Below w.heap.size w w' := by
  obtain ⟨tp, rfl⟩ := h.val
  have K := Lib.hid (vaRefused_calls h n)
  rw [vaE_one hz] at K
  clear h hz
  go_enter Tryz.func13, Tryz.ntmps13
  go_wp2_with fail
  refine K.out.mono ?_
  rintro e w1 ⟨rfl, hB1⟩
  go_wp2_with fail
  go_ret3
  exact ⟨rfl, hB1⟩

theorem vaRun_calls {tv : Value} {U : List Pr} {w : World} (h : Sto w tv U) (n : Int) :
    Calls Tryz.prog 13 #[tv, .int .i64 n] w fun e w' => ∃ p, e = .returned (.tuple #[.pointer p, .int .i64 (vaM U n : Int), .int .i64 (vaE U n)]) ∧ TreeV w' (.pointer p) (vaT U n) ∧ Below w.heap.size w w' := by
  by_cases hz : vaE U n = 0
  · unfold vaT vaM vaK
    rw [hz, if_pos rfl, if_pos rfl]
    refine (vaRun_ok h n hz).mono fun e w' he => ?_
    obtain ⟨u, rfl, ht, hB⟩ := he
    obtain ⟨p, rfl⟩ := ht.val
    exact ⟨p, rfl, ht, hB⟩
  · unfold vaT vaM vaK
    rw [if_neg hz, if_neg hz, vaE_one hz]
    exact (vaRun_no h n hz).mono fun e w' he => ⟨_, he.1, TreeV.none w', he.2⟩

set_option maxHeartbeats 4000000 in
theorem vaLive_calls {tv : Value} {U : List Pr} {w : World} (h : Sto w tv U) (n : Int) :
    Calls Tryz.prog 15 #[tv, .int .i64 n] w fun e w' => e = .returned (.tuple #[.int .i64 (vaN U n : Int), .int .i64 (vaE U n)]) ∧ Below w.heap.size w w' := by
  obtain ⟨tp, rfl⟩ := h.val
  have K := Lib.hid (vaOf_calls h n)
  have KL := Lib.hid (fun W (hB : Below w.heap.size w W) => tlen_calls _ U W (h.1.below hB))
  have hnum := live_nums U n
  have hul : U.length ≤ 1000 := h.2.2.1
  by_cases hz : vaE U n = 0
  · have hN : ((U.length : Int) - ((deadK U n).length : Int)) = (vaN U n : Int) := by
      unfold vaN
      rw [if_pos hz]
      omega
    have hK : vaK U n = deadK U n := if_pos hz
    rw [hz, hK] at K
    rw [hz, ← hN]
    have hd : (deadK U n).length ≤ 1000 := by omega
    generalize deadK U n = D at *
    obtain ⟨nd, hnd⟩ : ∃ k, D.length = k := ⟨_, rfl⟩
    obtain ⟨nu, hnu⟩ : ∃ k, U.length = k := ⟨_, rfl⟩
    rw [hnd] at hd ⊢
    rw [hnu] at KL hul ⊢
    have HND := Lib.hid hnd
    clear h hz hN hK hnum hnd hnu
    go_enter Tryz.func15, Tryz.ntmps15
    go_wp2_with fail
    refine K.out.mono ?_
    rintro e w1 ⟨v, rfl, ho, hB1⟩
    obtain ⟨ao, cap, rfl⟩ := ho.form
    rw [HND.out]
    have HB := Lib.hid hB1
    clear ho hB1
    go_wp2_with fail
    refine (KL.out _ HB.out).mono ?_
    rintro e w2 ⟨rfl, rfl⟩
    go_wp2_with fail
    go_ret2
    exact ⟨rfl, HB.out⟩
  · have hN : vaN U n = 0 := if_neg hz
    have hK : vaK U n = [] := if_neg hz
    rw [vaE_one hz, hK] at K
    rw [vaE_one hz, hN]
    clear h hz hN hK hnum
    go_enter Tryz.func15, Tryz.ntmps15
    go_wp2_with fail
    refine K.out.mono ?_
    rintro e w1 ⟨v, rfl, ho, hB1⟩
    obtain ⟨ao, cap, rfl⟩ := ho.form
    have HB := Lib.hid hB1
    clear ho hB1
    go_wp2_with fail
    go_ret2
    exact ⟨rfl, HB.out⟩

end Go.Proofs.YtaaabmnaindgaaaGreatDoor

/-
  The law file's made: a tree of some pairs.
-/
namespace Go.Proofs.YtaaabmnaindgaaaGreatDoor
set_option maxRecDepth 100000
open Go.RowKit

set_option maxHeartbeats 4000000 in
theorem vaMade_calls (v : Value) (l : List Pr) (w : World) (h : Prs w v l) (hn : l.length ≤ 1000) :
    Calls Tryz.prog 9 #[v] w fun e w' => ∃ u, e = .returned u ∧ TreeV w' u (madeL l) ∧ Below w.heap.size w w' := by
  obtain ⟨av, cv, rfl⟩ := h.form
  have HH := Lib.hid (And.intro h hn)
  clear h hn
  go_enter Tryz.func9, Tryz.ntmps9
  go_wp2_with fail
  refine (new_calls w).mono ?_
  rintro e w1 ⟨u, rfl, ht, hB⟩
  obtain ⟨tp, rfl⟩ := ht.val
  have HT := Lib.hid (And.intro ht hB)
  clear ht hB
  go_wp2_with fail
  go_loopw [3, 4] (fun t i wr => ∃ k : Nat, i = .int .i64 k ∧ k ≤ l.length ∧ l.length ≤ 1000 ∧ Hid (TreeV wr t (madeL (l.take k))) ∧ Hid (Below w.heap.size w wr)) (fun _ i _ => l.length - (intOf i).toNat)
  case atStart => exact ⟨0, rfl, Nat.zero_le _, HH.out.2, Lib.hid HT.out.1, Lib.hid HT.out.2⟩
  case round =>
    obtain ⟨k, rfl, hk, hn, ht, hB⟩ := hrel
    obtain ⟨tp, rfl⟩ := ht.out.val
    by_cases hlt : k < l.length
    · have hd : decide ((k : Int) < (l.length : Int)) = true := by rw [decide_eq_true_eq]; omega
      obtain ⟨b, off, rfl, c0, c1, c2⟩ := (HH.out.1.below hB.out).at hlt
      have hsn := Lib.hid (made_snoc hlt)
      have hle := (made_facts (l.take k)).2.1
      rw [List.length_take] at hle
      obtain ⟨⟨⟨q, m⟩, s⟩, hx⟩ : ∃ x, l[k] = x := ⟨_, rfl⟩
      rw [hx] at c0 c1 c2 hsn
      dsimp only at c0 c1 c2
      have KT := Lib.hid (tput_calls _ _ q m s wr ht.out (by omega))
      clear hle hx
      go_wp2_with fail
      refine KT.out.mono ?_
      rintro e w2 ⟨u, rfl, hu, hB2⟩
      obtain ⟨up, rfl⟩ := hu.val
      have HU := Lib.hid hu
      clear hu
      go_wp2_with fail
      go_roundw
      case rel => exact ⟨k + 1, by go_num, by omega, hn, Lib.hid (by rw [hsn.out]; exact HU.out), Lib.hid (below2 hB.out hB2)⟩
      case measure => simp [intOf]; omega
    · obtain rfl : k = l.length := by omega
      have hd : decide ((l.length : Int) < (l.length : Int)) = false := by simp
      have HT2 := Lib.hid (show TreeV wr (.pointer tp) (madeL l) by have h := ht.out; rw [List.take_length] at h; exact h)
      clear ht
      go_wp2_with fail
      go_ret
      exact ⟨_, rfl, HT2.out, hB.out⟩

end Go.Proofs.YtaaabmnaindgaaaGreatDoor

/-
  sexton/sextonref18.Keys: are two rows the same?
-/
namespace Go.Proofs.YtaaabmnaindgaaaGreatDoor
set_option maxRecDepth 100000
open Go.RowKit

theorem kksame_next {a b : List Ky} {k : Nat} (h : a.take k = b.take k) (ha : k < a.length) (hb : k < b.length) (he : a[k] = b[k]) : a.take (k + 1) = b.take (k + 1) := by
  rw [List.take_succ_eq_append_getElem ha, List.take_succ_eq_append_getElem hb, h, he]
theorem kksame_not {a b : List Ky} {k : Nat} (ha : k < a.length) (hb : k < b.length) (he : a[k] ≠ b[k]) : decide (a = b) = false := by
  rw [decide_eq_false_iff_not]
  intro e
  subst e
  exact he rfl
theorem kk_cases (x y : Ky) : (x = y ∧ (x.1 == y.1) = true ∧ (x.2 == y.2) = true) ∨ (x ≠ y ∧ (x.1 == y.1) = false) ∨ (x ≠ y ∧ (x.1 == y.1) = true ∧ (x.2 == y.2) = false) := by
  obtain ⟨p0, p1⟩ := x
  obtain ⟨q0, q1⟩ := y
  by_cases h0 : p0 = q0
  · by_cases h1 : p1 = q1
    · exact .inl ⟨by rw [h0, h1], by simp [h0], by simp [h1]⟩
    · exact .inr (.inr (⟨fun e => h1 (congrArg (fun z : Ky => z.2) e), by simp [h0], by simpa using h1⟩))
  · exact .inr (.inl ⟨fun e => h0 (congrArg (fun z : Ky => z.1) e), by simpa using h0⟩)

set_option maxHeartbeats 8000000 in
theorem refKksame_calls (va vb : Value) (a b : List Ky) (w : World) (ha : Kks w va a) (hb : Kks w vb b) (hla : a.length ≤ 1000000) :
    Calls Tryz.prog 18 #[va, vb] w fun e w' => e = .returned (.bool (decide (a = b))) ∧ Below w.heap.size w w' := by
  obtain ⟨aa, ca, rfl⟩ := ha.form
  obtain ⟨ab, cb, rfl⟩ := hb.form
  have HA := Lib.hid ha
  have HB := Lib.hid hb
  clear ha hb
  by_cases hl : a.length = b.length
  · have hne : ((a.length : Int) != (b.length : Int)) = false := by rw [bne_eq_false_iff_eq]; omega
    have HL := Lib.hid hl
    go_enter Tryz.func18, Tryz.ntmps18
    clear hl
    go_wp2_with fail
    go_loopw [5] (fun i wr => ∃ k : Nat, k ≤ a.length ∧ i = .int .i64 k ∧ Hid (a.take k = b.take k) ∧ Hid (Below w.heap.size w wr)) (fun i _ => a.length - (intOf i).toNat)
    case atStart => exact ⟨0, Nat.zero_le _, rfl, Lib.hid (by simp), Lib.hid (Below.refl _ _)⟩
    case round =>
      obtain ⟨k, hk, rfl, hf, hB⟩ := hrel
      by_cases hlt : k < a.length
      · have hlt2 : k < b.length := by have := HL.out; omega
        have hd : decide ((k : Int) < (a.length : Int)) = true := by rw [decide_eq_true_eq]; omega
        obtain ⟨ba, oa, rfl, x0, x1⟩ := kks_at (HA.out.below (hB.out.drew)) hlt
        obtain ⟨bb, ob, rfl, y0, y1⟩ := kks_at (HB.out.below (hB.out.drew)) hlt2
        have hn := fun h => kksame_next hf.out hlt hlt2 h
        have hx := fun h => kksame_not hlt hlt2 h
        generalize a[k] = x at *
        generalize b[k] = y at *
        rcases kk_cases x y with ⟨e, e0, e1⟩ | ⟨e, e0⟩ | ⟨e, e0, e1⟩
        · have HN := Lib.hid (hn e)
          clear hn hx e
          go_wp2_with fail
          go_region
          all_goals
            go_wp2_with fail
            go_roundw
            case rel => exact ⟨k + 1, by omega, by go_num, HN, Lib.hid (hB.out.drew)⟩
            case measure => simp [intOf]; omega
        · have HX := Lib.hid (hx e)
          clear hn hx e
          go_wp2_with fail
          go_region
          all_goals
            go_wp2_with fail
            go_ret
            exact ⟨by rw [HX.out]; rfl, hB.out.drew⟩
        · have HX := Lib.hid (hx e)
          clear hn hx e
          go_wp2_with fail
          go_region
          all_goals
            go_wp2_with fail
            go_ret
            exact ⟨by rw [HX.out]; rfl, hB.out.drew⟩
      · obtain rfl : k = a.length := by omega
        have hd : decide ((a.length : Int) < (a.length : Int)) = false := by simp
        have HS := Lib.hid (show decide (a = b) = true by
          have h := hf.out
          rw [List.take_length, HL.out, List.take_length] at h
          rw [decide_eq_true_eq]
          exact h)
        go_wp2_with fail
        go_ret
        exact ⟨by rw [HS.out]; rfl, hB.out⟩
  · have hne : ((a.length : Int) != (b.length : Int)) = true := by rw [bne_iff_ne]; omega
    have HX := Lib.hid (show decide (a = b) = false by rw [decide_eq_false_iff_not]; intro e; exact hl (by rw [e]))
    clear hl
    go_enter Tryz.func18, Tryz.ntmps18
    go_wp2_with fail
    go_ret
    exact ⟨by rw [HX.out]; rfl, Below.refl _ _⟩
theorem refKksame_self (va vb : Value) (l : List Ky) (w : World) (ha : Kks w va l) (hb : Kks w vb l) (hla : l.length ≤ 1000000) :
    Calls Tryz.prog 18 #[va, vb] w fun e w' => e = .returned (.bool true) ∧ Below w.heap.size w w' :=
  (refKksame_calls va vb l l w ha hb hla).mono fun e w' h => ⟨h.1.trans (by rw [decide_eq_true rfl]), h.2⟩

end Go.Proofs.YtaaabmnaindgaaaGreatDoor

/-
  The law file's key; the document's rows.
-/
namespace Go.Proofs.YtaaabmnaindgaaaGreatDoor
set_option maxRecDepth 100000
open Go.RowKit

set_option maxHeartbeats 1000000 in
theorem vaKey_calls (p : List UInt8) (m : Int) (w : World) :
    Calls Tryz.prog 41 #[.string ⟨p.toArray⟩, .int .i64 m] w fun e w' => e = .returned (.agg #[.string ⟨p.toArray⟩, .int .i64 m]) ∧ Below w.heap.size w w' := by
  obtain ⟨c0, c1, _⟩ := (Cx.new w 65 [.string ⟨p.toArray⟩, .int .i64 m]).two
  have HC := Lib.hid (And.intro c0 c1)
  clear c0 c1
  go_enter Tryz.func41, Tryz.ntmps41
  go_wp2_with fail
  exact ret_key rfl rfl w.heap.size _ _ rfl HC.out.1 HC.out.2 ⟨rfl, below_alloc _ _⟩

def vaV : List UInt8 := [1, 0, 0, 0]
def vaL : List Pr := [(([97], 1), vaV), (([97], 2), vaV), (([97], 5), vaV), (([98], 1), vaV), (([98], 2), [0])]
def vaU : List Pr := [(([97], 5), vaV), (([97], 2), vaV), (([97], 1), vaV), (([98], 2), [0]), (([98], 1), vaV)]
theorem va_val : valM 0 0 [] false = vaV ∧ valMe 0 0 [] false = 0 := ⟨rfl, rfl⟩
theorem va_made : madeL vaL = vaU := by rfl
theorem va_is : isSt vaU = true := by rfl
theorem va_errs : vaE vaU 3 = 0 ∧ vaE vaU 1 = 0 ∧ vaE vaU 9 = 0 ∧ vaE vaU (-1) = 1 :=
  ⟨vaE_zero.2 ⟨va_is, by decide⟩, vaE_zero.2 ⟨va_is, by decide⟩, vaE_zero.2 ⟨va_is, by decide⟩, vaE_one fun e => absurd (vaE_zero.1 e).2 (by decide)⟩
theorem va_keys : deadK vaU 3 = [([97], 1), ([98], 2), ([98], 1)] ∧ deadK vaU 1 = [] ∧ deadK vaU 9 = [([97], 2), ([97], 1), ([98], 2), ([98], 1)] ∧ (liveL vaU 3).length = 2 := ⟨rfl, rfl, rfl, rfl⟩
theorem va_told : vaK vaU 3 = [([97], 1), ([98], 2), ([98], 1)] ∧ vaK vaU 1 = [] ∧ vaK vaU 9 = [([97], 2), ([97], 1), ([98], 2), ([98], 1)] ∧ vaM vaU 3 = 3 ∧ vaN vaU 3 = 2 ∧ (vaT vaU 3).length = 2 := by
  obtain ⟨e1, e2, e3, _⟩ := va_errs
  obtain ⟨k1, k2, k3, k4⟩ := va_keys
  unfold vaM vaN vaT vaK
  rw [e1, e2, e3]
  simp only [if_true]
  rw [k1, k4]
  exact ⟨rfl, k2, k3, rfl, rfl, rfl⟩
theorem va_sto {w : World} {tv : Value} (ht : TreeV w tv vaU) (hm : Ml w) : Sto w tv vaU :=
  ⟨ht, (fun x hx => ⟨by have := (st_times va_is x hx).1; omega, by have := (st_times va_is x hx).2.1; omega⟩), (by decide), (by decide), (by decide), hm⟩

set_option maxHeartbeats 16000000 in
theorem swept_calls (w : World) (hml : Ml w) : Calls Tryz.prog 17 #[] w fun e w' => e = .returned (.bool true) ∧ Below w.heap.size w w' := by
  have HM := Lib.hid hml
  have KV := Lib.hid (fun W => mValue_there 0 0 (.slice none 0 0) [] W (Ints.nil W) (by decide))
  have KG := Lib.hid (fun W => mValue_gone 0 0 (.slice none 0 0) W 0 none 0 0 rfl rfl)
  have KK := Lib.hid (fun p m W => vaKey_calls p m W)
  have KM := Lib.hid (fun v W (h : Prs W v vaL) => vaMade_calls v vaL W h (by decide))
  rw [va_val.1, va_val.2] at KV
  rw [va_made] at KM
  obtain ⟨e1, e2, e3, e4⟩ := va_errs
  obtain ⟨k1, k2, k3, k4, k5, k6⟩ := va_told
  have K3 := Lib.hid (fun tv W (ht : TreeV W tv vaU) (hm : Ml W) => vaOf_calls (va_sto ht hm) 3)
  have K1 := Lib.hid (fun tv W (ht : TreeV W tv vaU) (hm : Ml W) => vaOf_calls (va_sto ht hm) 1)
  have K9 := Lib.hid (fun tv W (ht : TreeV W tv vaU) (hm : Ml W) => vaOf_calls (va_sto ht hm) 9)
  have KN := Lib.hid (fun tv W (ht : TreeV W tv vaU) (hm : Ml W) => vaOf_calls (va_sto ht hm) (-1))
  have KR := Lib.hid (fun tv W (ht : TreeV W tv vaU) (hm : Ml W) => vaRun_calls (va_sto ht hm) 3)
  have KL := Lib.hid (fun tv W (ht : TreeV W tv vaU) (hm : Ml W) => vaLive_calls (va_sto ht hm) 3)
  rw [e1, k1] at K3
  rw [e2, k2] at K1
  rw [e3, k3] at K9
  rw [e4] at KN
  rw [e1, k4] at KR
  rw [e1, k5] at KL
  have HT2 := Lib.hid k6
  obtain ⟨nn, hnn⟩ : ∃ x, vaK vaU (-1) = x := ⟨_, rfl⟩
  rw [hnn] at KN
  obtain ⟨T, hT⟩ : ∃ x, vaT vaU 3 = x := ⟨_, rfl⟩
  rw [hT] at KR HT2
  clear hml e1 e2 e3 e4 k1 k2 k3 k4 k5 k6 hnn hT
  go_enter Tryz.func17, Tryz.ntmps17
  go_wp2_with fail
  refine (KV.out _).mono ?_
  rintro e w1 ⟨rfl, hB⟩
  have HB1 := Lib.hid (hB)
  clear hB
  go_wp2_with fail
  refine (KG.out _).mono ?_
  rintro e w2 ⟨rfl, hB⟩
  have HB2 := Lib.hid (below2 HB1.out hB)
  clear hB
  go_wp2_with fail
  refine (KK.out [97] 1 _).mono ?_
  rintro e w3 ⟨rfl, hB⟩
  have HB3 := Lib.hid (below2 HB2.out hB)
  clear hB
  go_wp2_with fail
  refine (KK.out [97] 2 _).mono ?_
  rintro e w4 ⟨rfl, hB⟩
  have HB4 := Lib.hid (below2 HB3.out hB)
  clear hB
  go_wp2_with fail
  refine (KK.out [97] 5 _).mono ?_
  rintro e w5 ⟨rfl, hB⟩
  have HB5 := Lib.hid (below2 HB4.out hB)
  clear hB
  go_wp2_with fail
  refine (KK.out [98] 1 _).mono ?_
  rintro e w6 ⟨rfl, hB⟩
  have HB6 := Lib.hid (below2 HB5.out hB)
  clear hB
  go_wp2_with fail
  refine (KK.out [98] 2 _).mono ?_
  rintro e w7 ⟨rfl, hB⟩
  have hB := below2 hB (below_alloc w7 (.cells (pcells vaL).toArray 67))
  have HB7 := Lib.hid (below2 HB6.out hB)
  have HL := Lib.hid (prs_lit w7 vaL 67)
  clear hB
  go_wp2_with fail
  refine (KM.out _ _ HL.out).mono ?_
  rintro e w8 ⟨u, rfl, ht, hB⟩
  obtain ⟨tp, rfl⟩ := ht.val
  have HB8 := Lib.hid (below2 HB7.out hB)
  have HT := Lib.hid (ht)
  clear hB
  clear ht HL
  go_wp2_with fail
  refine (K3.out _ _ HT.out (HM.out.below HB8.out)).mono ?_
  rintro e w9 ⟨u, rfl, ho, hB⟩
  obtain ⟨_, _, rfl⟩ := ho.form
  have HB9 := Lib.hid (below2 HB8.out hB)
  replace HT := Lib.hid (HT.out.below hB)
  have RA := Lib.hid (ho.row)
  clear hB
  clear ho
  go_wp2_with fail
  refine (K1.out _ _ HT.out (HM.out.below HB9.out)).mono ?_
  rintro e w10 ⟨u, rfl, ho, hB⟩
  obtain ⟨_, _, rfl⟩ := ho.form
  have HB10 := Lib.hid (below2 HB9.out hB)
  replace HT := Lib.hid (HT.out.below hB)
  replace RA := Lib.hid (RA.out.below hB)
  have RB := Lib.hid (ho.row)
  clear hB
  clear ho
  go_wp2_with fail
  refine (K9.out _ _ HT.out (HM.out.below HB10.out)).mono ?_
  rintro e w11 ⟨u, rfl, ho, hB⟩
  obtain ⟨_, _, rfl⟩ := ho.form
  have HB11 := Lib.hid (below2 HB10.out hB)
  replace HT := Lib.hid (HT.out.below hB)
  replace RA := Lib.hid (RA.out.below hB)
  replace RB := Lib.hid (RB.out.below hB)
  have RC := Lib.hid (ho.row)
  clear hB
  clear ho
  go_wp2_with fail
  refine (KR.out _ _ HT.out (HM.out.below HB11.out)).mono ?_
  rintro e w12 ⟨up, rfl, ht, hB⟩
  have HB12 := Lib.hid (below2 HB11.out hB)
  replace HT := Lib.hid (HT.out.below hB)
  replace RA := Lib.hid (RA.out.below hB)
  replace RB := Lib.hid (RB.out.below hB)
  replace RC := Lib.hid (RC.out.below hB)
  have HU := Lib.hid (ht)
  clear hB
  clear ht
  go_wp2_with fail
  refine (KL.out _ _ HT.out (HM.out.below HB12.out)).mono ?_
  rintro e w13 ⟨rfl, hB⟩
  have HB13 := Lib.hid (below2 HB12.out hB)
  replace HT := Lib.hid (HT.out.below hB)
  replace RA := Lib.hid (RA.out.below hB)
  replace RB := Lib.hid (RB.out.below hB)
  replace RC := Lib.hid (RC.out.below hB)
  replace HU := Lib.hid (HU.out.below hB)
  clear hB
  go_wp2_with fail
  refine (KN.out _ _ HT.out (HM.out.below HB13.out)).mono ?_
  rintro e w14 ⟨u, rfl, ho, hB⟩
  obtain ⟨_, _, rfl⟩ := ho.form
  have HB14 := Lib.hid (below2 HB13.out hB)
  replace HT := Lib.hid (HT.out.below hB)
  replace RA := Lib.hid (RA.out.below hB)
  replace RB := Lib.hid (RB.out.below hB)
  replace RC := Lib.hid (RC.out.below hB)
  replace HU := Lib.hid (HU.out.below hB)
  have RN := Lib.hid (ho.row)
  clear hB
  clear ho
  go_wp2_with fail
  refine (KK.out [97] 1 _).mono ?_
  rintro e w15 ⟨rfl, hB⟩
  have HB15 := Lib.hid (below2 HB14.out hB)
  replace HT := Lib.hid (HT.out.below hB)
  replace RA := Lib.hid (RA.out.below hB)
  replace RC := Lib.hid (RC.out.below hB)
  replace HU := Lib.hid (HU.out.below hB)
  clear hB
  go_wp2_with fail
  refine (KK.out [98] 2 _).mono ?_
  rintro e w16 ⟨rfl, hB⟩
  have HB16 := Lib.hid (below2 HB15.out hB)
  replace HT := Lib.hid (HT.out.below hB)
  replace RA := Lib.hid (RA.out.below hB)
  replace RC := Lib.hid (RC.out.below hB)
  replace HU := Lib.hid (HU.out.below hB)
  clear hB
  go_wp2_with fail
  refine (KK.out [98] 1 _).mono ?_
  rintro e w17 ⟨rfl, hB⟩
  have hB := below2 hB (below_alloc w17 (.cells (cellsOf kkcell [([97], 1), ([98], 2), ([98], 1)]).toArray 65))
  have HB17 := Lib.hid (below2 HB16.out hB)
  replace HT := Lib.hid (HT.out.below hB)
  replace RA := Lib.hid (RA.out.below hB)
  replace RC := Lib.hid (RC.out.below hB)
  replace HU := Lib.hid (HU.out.below hB)
  have HL := Lib.hid (rowOf_lit kkcell_k w17 [([97], 1), ([98], 2), ([98], 1)] 65)
  clear hB
  go_wp2_with fail
  refine (refKksame_self _ _ [([97], 1), ([98], 2), ([98], 1)] _ RA.out HL.out (by decide)).mono ?_
  rintro e w18 ⟨rfl, hB⟩
  have HB18 := Lib.hid (below2 HB17.out hB)
  replace HT := Lib.hid (HT.out.below hB)
  replace RA := Lib.hid (RA.out.below hB)
  replace RC := Lib.hid (RC.out.below hB)
  replace HU := Lib.hid (HU.out.below hB)
  clear hB
  clear HL
  go_wp2_with fail
  refine (KK.out [97] 2 _).mono ?_
  rintro e w19 ⟨rfl, hB⟩
  have HB19 := Lib.hid (below2 HB18.out hB)
  replace HT := Lib.hid (HT.out.below hB)
  replace RA := Lib.hid (RA.out.below hB)
  replace RC := Lib.hid (RC.out.below hB)
  replace HU := Lib.hid (HU.out.below hB)
  clear hB
  go_wp2_with fail
  refine (KK.out [97] 1 _).mono ?_
  rintro e w20 ⟨rfl, hB⟩
  have HB20 := Lib.hid (below2 HB19.out hB)
  replace HT := Lib.hid (HT.out.below hB)
  replace RA := Lib.hid (RA.out.below hB)
  replace RC := Lib.hid (RC.out.below hB)
  replace HU := Lib.hid (HU.out.below hB)
  clear hB
  go_wp2_with fail
  refine (KK.out [98] 2 _).mono ?_
  rintro e w21 ⟨rfl, hB⟩
  have HB21 := Lib.hid (below2 HB20.out hB)
  replace HT := Lib.hid (HT.out.below hB)
  replace RA := Lib.hid (RA.out.below hB)
  replace RC := Lib.hid (RC.out.below hB)
  replace HU := Lib.hid (HU.out.below hB)
  clear hB
  go_wp2_with fail
  refine (KK.out [98] 1 _).mono ?_
  rintro e w22 ⟨rfl, hB⟩
  have hB := below2 hB (below_alloc w22 (.cells (cellsOf kkcell [([97], 2), ([97], 1), ([98], 2), ([98], 1)]).toArray 65))
  have HB22 := Lib.hid (below2 HB21.out hB)
  replace HT := Lib.hid (HT.out.below hB)
  replace RA := Lib.hid (RA.out.below hB)
  replace RC := Lib.hid (RC.out.below hB)
  replace HU := Lib.hid (HU.out.below hB)
  have HL := Lib.hid (rowOf_lit kkcell_k w22 [([97], 2), ([97], 1), ([98], 2), ([98], 1)] 65)
  clear hB
  go_wp2_with fail
  refine (refKksame_self _ _ [([97], 2), ([97], 1), ([98], 2), ([98], 1)] _ RC.out HL.out (by decide)).mono ?_
  rintro e w23 ⟨rfl, hB⟩
  have HB23 := Lib.hid (below2 HB22.out hB)
  replace HT := Lib.hid (HT.out.below hB)
  replace RA := Lib.hid (RA.out.below hB)
  replace RC := Lib.hid (RC.out.below hB)
  replace HU := Lib.hid (HU.out.below hB)
  clear hB
  clear HL
  go_wp2_with fail
  refine (tlen_calls _ T _ HU.out).mono ?_
  rintro e w24 ⟨rfl, rfl⟩
  rw [HT2.out]
  go_wp2_with fail
  go_ret
  exact ⟨rfl, HB23.out⟩

end Go.Proofs.YtaaabmnaindgaaaGreatDoor

/-
  What the laws share: bounds of what is told; a store of what lives.
-/
namespace Go.Proofs.YtaaabmnaindgaaaGreatDoor
set_option maxRecDepth 100000
open Go.RowKit

theorem live_le (U : List Pr) (n : Int) : (liveL U n).length ≤ U.length := List.length_filter_le _ _
theorem live_mem {U : List Pr} {n : Int} {x : Pr} (h : x ∈ liveL U n) : x ∈ U := (mem_live.1 h).1
theorem vaK_len (U : List Pr) (n : Int) : (vaK U n).length ≤ U.length := by
  unfold vaK
  split
  · have := live_nums U n
    omega
  · simp
theorem vaT_le (U : List Pr) (n : Int) : (vaT U n).length ≤ U.length := by
  unfold vaT
  split
  · exact live_le U n
  · simp
theorem vaT_mem {U : List Pr} {n : Int} {x : Pr} (h : x ∈ vaT U n) : x ∈ U := by
  unfold vaT at h
  split at h
  · exact live_mem h
  · cases h
theorem vaSame_self (va vb : Value) (a : List Pr) (w : World) (ha : Prs w va a) (hb : Prs w vb a) (hm : a.length ≤ 100000) :
    Calls Tryz.prog 19 #[va, vb] w fun e w' => e = .returned (.bool true) ∧ Below w.heap.size w w' :=
  (same_calls va vb a a w ha hb hm).mono fun e w' h => ⟨h.1.trans (by rw [decide_eq_true rfl]), h.2⟩
theorem sto_less {U T : List Pr} (hm : ∀ x ∈ T, x ∈ U) (hl : T.length ≤ U.length) (hU : TimesK U ∧ U.length ≤ 1000 ∧ (∀ x ∈ U, x.1.1.length ≤ 1000) ∧ (∀ x ∈ U, x.2.length ≤ 4611686018427387904)) : ∀ W tv, TreeV W tv T → Ml W → Sto W tv T :=
  fun _ _ ht hml => ⟨ht, fun x hx => hU.1 x (hm x hx), Nat.le_trans hl hU.2.1, fun x hx => hU.2.2.1 x (hm x hx), fun x hx => hU.2.2.2 x (hm x hx), hml⟩

end Go.Proofs.YtaaabmnaindgaaaGreatDoor

/-
  The document's own dead: by going through all pairs.
-/
namespace Go.Proofs.YtaaabmnaindgaaaGreatDoor
set_option maxRecDepth 100000
open Go.RowKit

/-- Of the first k pairs none is a later one of the path, up to n. -/
def OverTo (l : List Pr) (p : List UInt8) (m n : Int) (k : Nat) : Prop := ∀ (i : Nat) (hi : i < l.length), i < k → ¬ (l[i].1.1 = p ∧ l[i].1.2 ≤ n ∧ m < l[i].1.2)
theorem overTo_succ {l : List Pr} {p : List UInt8} {m n : Int} {k : Nat} (h : OverTo l p m n k) (hk : k < l.length) (hno : ¬ (l[k].1.1 = p ∧ l[k].1.2 ≤ n ∧ m < l[k].1.2)) : OverTo l p m n (k + 1) := by
  intro i hi hik
  by_cases e : i = k
  · subst e; exact hno
  · exact h i hi (by omega)
theorem overTo_all {l : List Pr} {p : List UInt8} {m n : Int} {s : List UInt8} (h : OverTo l p m n l.length) : overB l n ((p, m), s) = false := by
  cases ho : overB l n ((p, m), s) with
  | false => rfl
  | true =>
    obtain ⟨y, hy, e, h1, h2⟩ := over_iff.1 ho
    obtain ⟨i, hi, rfl⟩ := List.getElem_of_mem hy
    exact absurd ⟨e, h1, h2⟩ (h i hi hi)

set_option maxHeartbeats 16000000 in
theorem refDead_calls (v : Value) (l : List Pr) (k : Nat) (hk : k < l.length) (n : Int) (w : World) (h : Prs w v l) (hn : l.length ≤ 1000) (hs : ∀ x ∈ l, x.2.length ≤ 1000) :
    Calls Tryz.prog 37 #[v, .int .i64 (k : Int), .int .i64 n] w fun e w' => e = .returned (.bool (deadB l n l[k])) ∧ Below w.heap.size w w' := by
  obtain ⟨av, cv, rfl⟩ := h.form
  obtain ⟨b0, o0, rfl, z0, z1, z2⟩ := h.at hk
  have hsl := hs _ (List.getElem_mem hk)
  have hmem := List.getElem_mem hk
  obtain ⟨⟨⟨p, m⟩, s⟩, hx⟩ : ∃ x, l[k] = x := ⟨_, rfl⟩
  rw [hx] at z0 z1 z2 hsl hmem ⊢
  dsimp only at z0 z1 z2 hsl
  have hBa := below_alloc w (.cells #[.string ⟨p.toArray⟩, .int .i64 m] 65)
  have hX := Cx.new w 65 [.string ⟨p.toArray⟩, .int .i64 m]
  have HH := Lib.hid (And.intro (h.below hBa) (And.intro hX hBa))
  have HZ := Lib.hid (fun W (hW : Below w.heap.size w W) => look_below hW z2)
  obtain ⟨c0, c1, _⟩ := hX.two
  have hk0 : (0 : Int) ≤ (k : Int) := by omega
  obtain ⟨nl, hnl⟩ : ∃ j, l.length = j := ⟨_, rfl⟩
  have hkn : (k : Int) < (nl : Int) := by omega
  have HN := Lib.hid hnl
  rw [hnl] at hn ⊢
  by_cases hm : n < m
  · have hd : decide (n < m) = true := decide_eq_true hm
    have HD : Hid (deadB l n ((p, m), s) = false) := Lib.hid (by
      have : ¬ m ≤ n := by omega
      simp [deadB, this])
    rw [HD.out]
    clear h hx hs hsl hmem hBa hX hm hk hnl c0 c1
    go_enter Tryz.func37, Tryz.ntmps37
    go_wp2_with fail
    go_ret
    exact ⟨rfl, HH.out.2.2⟩
  · have hd : decide (n < m) = false := decide_eq_false hm
    have HD : Hid (∀ b, overB l n ((p, m), s) = b → deadB l n ((p, m), s) = (b || redG s)) := Lib.hid (fun b hb => by
      have : m ≤ n := by omega
      simp [deadB, hb, this])
    have HO : Hid (∀ (i : Nat) (hi : i < l.length), l[i].1.1 = p → l[i].1.2 ≤ n → m < l[i].1.2 → overB l n ((p, m), s) = true) := Lib.hid (fun i hi h1 h2 h3 => over_iff.2 ⟨_, List.getElem_mem hi, h1, h2, h3⟩)
    have KR := Lib.hid (fun W => rRead_calls s hsl W)
    obtain ⟨⟨z, d, cs⟩, hM⟩ : ∃ x, redM s = x := ⟨_, rfl⟩
    rw [hM] at KR
    dsimp only at KR
    generalize redE s = y at *
    obtain ⟨gg, hgg⟩ : ∃ g, redG s = g := ⟨_, rfl⟩
    rw [hgg] at KR HD
    clear h hx hs hsl hmem hBa hX hm hk hnl hM c0 c1 hgg
    go_enter Tryz.func37, Tryz.ntmps37
    go_wp2_with fail
    obtain ⟨w0, hw0⟩ : ∃ x, x = w.alloc (.cells #[.string ⟨p.toArray⟩, .int .i64 m] 65) := ⟨_, rfl⟩
    rw [← hw0] at HH ⊢
    clear hw0
    go_loopw [8] (fun j wr => ∃ i : Nat, j = .int .i64 i ∧ i ≤ nl ∧ Hid (Below w0.heap.size w0 wr) ∧ Hid (OverTo l p m n i)) (fun j _ => nl - (intOf j).toNat)
    case atStart => exact ⟨0, rfl, Nat.zero_le _, Lib.hid (Below.refl _ _), Lib.hid (fun _ _ h => absurd h (Nat.not_lt_zero _))⟩
    case round =>
      obtain ⟨i, rfl, hi, hB, hO⟩ := hrel
      by_cases hlt : i < nl
      · have hd1 : decide ((i : Int) < (nl : Int)) = true := by rw [decide_eq_true_eq]; omega
        have hil : i < l.length := by rw [HN.out]; exact hlt
        have hrow := HH.out.1.below hB.out
        rw [HN.out] at hrow
        obtain ⟨bb, off, hbb, a0, a1, _⟩ := hrow.at hil
        cases hbb
        obtain ⟨k0, k1, _⟩ := (HH.out.2.1.below hB.out).two
        have hsc := overTo_succ hO.out hil
        have hov := HO.out i hil
        obtain ⟨⟨⟨q, m'⟩, s'⟩, hx⟩ : ∃ x, l[i] = x := ⟨_, rfl⟩
        rw [hx] at a0 a1 hsc hov
        dsimp only at a0 a1 hsc hov
        have hbr : Below wr.heap.size wr wr.drew := drew_below _
        have HC := Lib.hid (fun W (hW : Below wr.heap.size wr W) => (⟨look_below hW a0, look_below hW a1, look_below hW k0, look_below hW k1⟩ : (fun W => W.cell? ⟨b0, o0 + i * 3, none⟩ = some (.string ⟨q.toArray⟩) ∧ W.cell? ⟨b0, o0 + i * 3 + 1, none⟩ = some (.int .i64 m') ∧ W.cell? ⟨w.heap.size, 0, none⟩ = some (.string ⟨p.toArray⟩) ∧ W.cell? ⟨w.heap.size, 1, none⟩ = some (.int .i64 m)) W))
        have hi0 : (0 : Int) ≤ (i : Int) := by omega
        have hi5 : (i : Int) < (nl : Int) := by omega
        clear hrow hx
        by_cases hq : q = p
        · have e1 : (q == p) = true := by simpa using hq
          by_cases hm2 : m' ≤ n
          · have e2 : decide (m' ≤ n) = true := decide_eq_true hm2
            by_cases hm3 : m < m'
            · have e3 : decide (m < m') = true := decide_eq_true hm3
              have HG := Lib.hid (HD.out _ (hov hq hm2 hm3))
              clear hsc hov hq hm2 hm3
              go_wp2_with fail
              go_region_held3 (fun W => W.cell? ⟨b0, o0 + i * 3, none⟩ = some (.string ⟨q.toArray⟩) ∧ W.cell? ⟨b0, o0 + i * 3 + 1, none⟩ = some (.int .i64 m') ∧ W.cell? ⟨w.heap.size, 0, none⟩ = some (.string ⟨p.toArray⟩) ∧ W.cell? ⟨w.heap.size, 1, none⟩ = some (.int .i64 m)) (exact HC.out _ hbr) (first | fail)
              all_goals
                have HB3 := Lib.hid (below2 hB.out hbr)
                clear hbr a0 a1 k0 k1
                go_wp2_with fail
                go_ret
                exact ⟨by rw [HG.out, Bool.true_or]; rfl, below2 HH.out.2.2 HB3.out⟩
            · have e3 : decide (m < m') = false := decide_eq_false hm3
              have HG := Lib.hid (hsc (fun h => hm3 h.2.2))
              clear hsc hov hq hm2 hm3
              go_wp2_with fail
              go_region_held3 (fun W => W.cell? ⟨b0, o0 + i * 3, none⟩ = some (.string ⟨q.toArray⟩) ∧ W.cell? ⟨b0, o0 + i * 3 + 1, none⟩ = some (.int .i64 m') ∧ W.cell? ⟨w.heap.size, 0, none⟩ = some (.string ⟨p.toArray⟩) ∧ W.cell? ⟨w.heap.size, 1, none⟩ = some (.int .i64 m)) (exact HC.out _ hbr) (first | fail)
              all_goals
                have HB3 := Lib.hid (below2 hB.out hbr)
                clear hbr a0 a1 k0 k1
                go_wp2_with fail
                go_roundw
                case rel => exact ⟨i + 1, by go_num, by omega, HB3, HG⟩
                case measure => simp [intOf]; omega
          · have e2 : decide (m' ≤ n) = false := decide_eq_false hm2
            have HG := Lib.hid (hsc (fun h => hm2 h.2.1))
            clear hsc hov hq hm2
            go_wp2_with fail
            refine held0 (S := (fun W => W.cell? ⟨b0, o0 + i * 3, none⟩ = some (.string ⟨q.toArray⟩) ∧ W.cell? ⟨b0, o0 + i * 3 + 1, none⟩ = some (.int .i64 m') ∧ W.cell? ⟨w.heap.size, 0, none⟩ = some (.string ⟨p.toArray⟩) ∧ W.cell? ⟨w.heap.size, 1, none⟩ = some (.int .i64 m))) (by kernel_rfl) (HC.out _ hbr) (fun hHeld => ?_)
            iterate 20 (refine heldT (oi := ⟨_, _, _, _, _, _⟩) (v := ?_) hHeld rfl rfl (by kernel_rfl) (by kernel_rfl) (by kernel_rfl) (fun _ _ _ h => h) ?_ ?_; rotate_left; (intro w hSw; (try dsimp only at hSw); go_simp; try with_reducible rfl); try simp only [Act.put, List.setIfInBounds_toArray, List.set_cons_zero, List.set_cons_succ])
            iterate 9 (refine heldU (oi := ⟨_, _, _, _, _, _⟩) hHeld rfl rfl (by kernel_rfl) (by kernel_rfl) (by kernel_rfl) (fun _ _ _ h => h) ?_; try simp only [Act.put, List.setIfInBounds_toArray, List.set_cons_zero, List.set_cons_succ])
            iterate 1 (refine heldT (oi := ⟨_, _, _, _, _, _⟩) (v := ?_) hHeld rfl rfl (by kernel_rfl) (by kernel_rfl) (by kernel_rfl) (fun _ _ _ h => h) ?_ ?_; rotate_left; (intro w hSw; (try dsimp only at hSw); go_simp; try with_reducible rfl); try simp only [Act.put, List.setIfInBounds_toArray, List.set_cons_zero, List.set_cons_succ])
            refine wpAnyH_done (by kernel_rfl) ?_ _
            have HB3 := Lib.hid (below2 hB.out hbr)
            clear hbr a0 a1 k0 k1
            go_wp2_with fail
            go_roundw
            case rel => exact ⟨i + 1, by go_num, by omega, HB3, HG⟩
            case measure => simp [intOf]; omega
        · have e1 : (q == p) = false := by simpa using hq
          have HG := Lib.hid (hsc (fun h => hq h.1))
          clear hsc hov hq
          go_wp2_with fail
          refine held0 (S := (fun W => W.cell? ⟨b0, o0 + i * 3, none⟩ = some (.string ⟨q.toArray⟩) ∧ W.cell? ⟨b0, o0 + i * 3 + 1, none⟩ = some (.int .i64 m') ∧ W.cell? ⟨w.heap.size, 0, none⟩ = some (.string ⟨p.toArray⟩) ∧ W.cell? ⟨w.heap.size, 1, none⟩ = some (.int .i64 m))) (by kernel_rfl) (HC.out _ hbr) (fun hHeld => ?_)
          iterate 10 (refine heldT (oi := ⟨_, _, _, _, _, _⟩) (v := ?_) hHeld rfl rfl (by kernel_rfl) (by kernel_rfl) (by kernel_rfl) (fun _ _ _ h => h) ?_ ?_; rotate_left; (intro w hSw; (try dsimp only at hSw); go_simp; try with_reducible rfl); try simp only [Act.put, List.setIfInBounds_toArray, List.set_cons_zero, List.set_cons_succ])
          iterate 8 (refine heldU (oi := ⟨_, _, _, _, _, _⟩) hHeld rfl rfl (by kernel_rfl) (by kernel_rfl) (by kernel_rfl) (fun _ _ _ h => h) ?_; try simp only [Act.put, List.setIfInBounds_toArray, List.set_cons_zero, List.set_cons_succ])
          iterate 2 (refine heldT (oi := ⟨_, _, _, _, _, _⟩) (v := ?_) hHeld rfl rfl (by kernel_rfl) (by kernel_rfl) (by kernel_rfl) (fun _ _ _ h => h) ?_ ?_; rotate_left; (intro w hSw; (try dsimp only at hSw); go_simp; try with_reducible rfl); try simp only [Act.put, List.setIfInBounds_toArray, List.set_cons_zero, List.set_cons_succ])
          iterate 9 (refine heldU (oi := ⟨_, _, _, _, _, _⟩) hHeld rfl rfl (by kernel_rfl) (by kernel_rfl) (by kernel_rfl) (fun _ _ _ h => h) ?_; try simp only [Act.put, List.setIfInBounds_toArray, List.set_cons_zero, List.set_cons_succ])
          iterate 1 (refine heldT (oi := ⟨_, _, _, _, _, _⟩) (v := ?_) hHeld rfl rfl (by kernel_rfl) (by kernel_rfl) (by kernel_rfl) (fun _ _ _ h => h) ?_ ?_; rotate_left; (intro w hSw; (try dsimp only at hSw); go_simp; try with_reducible rfl); try simp only [Act.put, List.setIfInBounds_toArray, List.set_cons_zero, List.set_cons_succ])
          refine wpAnyH_done (by kernel_rfl) ?_ _
          have HB3 := Lib.hid (below2 hB.out hbr)
          clear hbr a0 a1 k0 k1
          go_wp2_with fail
          go_roundw
          case rel => exact ⟨i + 1, by go_num, by omega, HB3, HG⟩
          case measure => simp [intOf]; omega
      · obtain rfl : i = nl := by omega
        have hd1 : decide ((i : Int) < (i : Int)) = false := by simp
        have HE := Lib.hid (HD.out _ (overTo_all (by rw [HN.out]; exact hO.out)))
        have HB3 := Lib.hid (below2 HH.out.2.2 hB.out)
        have c2 := HZ.out _ HB3.out
        clear hO hB
        go_wp2_with fail
        refine (KR.out _).mono ?_
        rintro e w3 ⟨u, rfl, hI, hB4⟩
        obtain ⟨am, cm, rfl⟩ := (ints_own hI).form
        have HB4 := Lib.hid (below3 HB3.out hB4 (below_alloc w3 (.cells #[.int .i64 z, .int .i64 d, .slice am cs.length cm] 51)))
        clear hI hB4 c2
        go_wp2_with fail
        go_ret
        exact ⟨by rw [HE.out, Bool.false_or]; rfl, HB4.out⟩

end Go.Proofs.YtaaabmnaindgaaaGreatDoor

/-
  The document's own Of, Run and Live.
-/
namespace Go.Proofs.YtaaabmnaindgaaaGreatDoor
set_option maxRecDepth 100000
open Go.RowKit

/-- What lives of the first k. -/
def liveTo (U : List Pr) (n : Int) (k : Nat) : List Pr := (U.take k).filter fun x => !deadB U n x
theorem liveTo_snoc {U : List Pr} (n : Int) {k : Nat} (h : k < U.length) : liveTo U n (k + 1) = if deadB U n U[k] then liveTo U n k else liveTo U n k ++ [U[k]] := by
  unfold liveTo
  rw [take_snoc h, List.filter_append, List.filter_cons, List.filter_nil]
  cases deadB U n U[k] <;> simp
theorem liveTo_len (U : List Pr) (n : Int) (k : Nat) : (liveTo U n k).length ≤ k := by
  unfold liveTo
  exact Nat.le_trans (List.length_filter_le _ _) (by rw [List.length_take]; omega)
theorem liveTo_all {U : List Pr} {n : Int} : liveTo U n U.length = liveL U n := by
  unfold liveTo liveL
  rw [List.take_length]
theorem app_pr {w : World} {ops : Array Oper} {rest : List Oper} {o : Oper} {a : Act} {Q : Exit → Act → World → Prop} (hgd : o.guard = none) (s x : Operand)
    (ho : o.op = .call { callee := .builtin .append, args := #[s, x], argTypes := #[22, 22] })
    (base : Nat) (v : Value) (L : List Pr) (hs : a.eval s = v) (hown : OwnP w base v L) (a0 : List UInt8) (a1 : Int) (a2 : List UInt8) (hx : a.eval x = .slice (some ⟨w.heap.size, 0, none⟩) 1 1)
    (hn : L.length < 1000000) (hbase : base ≤ w.heap.size)
    (h : ∀ ao' cap' w', OwnP w' base (.slice ao' (L.length + 1) cap') (L ++ [((a0, a1), a2)]) → (∀ w0, Below base w0 w → Below base w0 w') → wpList Tryz.prog ops Q rest (a.put o.dst (.slice ao' (L.length + 1) cap')) w') :
    wpList Tryz.prog ops Q (o :: rest) a (w.alloc (.cells #[.string ⟨a0.toArray⟩, .int .i64 a1, .string ⟨a2.toArray⟩] 67)) := by
  obtain ⟨i0, hi, hz0, hz1, hz2⟩ := info_parts infoP
  exact wpList_app_of (cell := pcell) (k := 3) ⟨by decide, fun _ => rfl⟩ (fun x u hu => by simp [pcell] at hu; rcases hu with rfl | rfl | rfl <;> rfl) hgd s x 22 ho i0 _ 40 Tryz.underlying22 hi hz0 hz1 hz2 rfl (by decide) base v L hs hown ((a0, a1), a2) _ rfl hx hn hbase h

set_option maxHeartbeats 8000000 in
theorem vaRefOf_calls (v : Value) (U : List Pr) (n : Int) (w : World) (h : Prs w v U) (hn : U.length ≤ 1000) (hs : ∀ x ∈ U, x.1.1.length ≤ 1000000 ∧ x.2.length ≤ 1000) :
    Calls Tryz.prog 12 #[v, .int .i64 n] w fun e w' => ∃ u, e = .returned (.tuple #[u, .int .i64 (vaE U n)]) ∧ OwnKk w' w.heap.size u (vaK U n) ∧ Below w.heap.size w w' := by
  obtain ⟨av, cv, rfl⟩ := h.form
  have KI := Lib.hid (refSt_calls _ U w h hn hs)
  have KD := Lib.hid (fun k (hk : k < U.length) W (hB : Below w.heap.size w W) => refDead_calls _ U k hk n W (h.below hB) hn (fun x hx => (hs x hx).2))
  have HH := Lib.hid h
  have HL := Lib.hid hn
  by_cases hz : vaE U n = 0
  · obtain ⟨hst, hn0⟩ := vaE_zero.1 hz
    have hd0 : decide (n < 0) = false := by rw [decide_eq_false_iff_not]; omega
    unfold vaK
    rw [hz, if_pos rfl]
    rw [hst] at KI
    have hln := live_nums U n
    obtain ⟨nU, hnU⟩ : ∃ k, U.length = k := ⟨_, rfl⟩
    have HN := Lib.hid hnU
    have HLN := Lib.hid hln
    rw [hnU] at hn KI ⊢
    clear h hs hz hst hn0 hnU hln
    go_enter Tryz.func12, Tryz.ntmps12
    go_wp2_with fail
    refine KI.out.mono ?_
    rintro e w1 ⟨rfl, hB1⟩
    have HB1 := Lib.hid hB1
    clear hB1
    go_wp2_with fail
    go_loopw [6, 7] (fun o i wr => ∃ k : Nat, i = .int .i64 k ∧ k ≤ nU ∧ (∃ D a1 c1, o = .slice a1 (D.length) c1 ∧ Hid (sweepL U n k = D) ∧ Hid (OwnKk wr w.heap.size (.slice a1 D.length c1) D)) ∧ Below w.heap.size w wr) (fun _ i _ => nU - (intOf i).toNat)
    case atStart => exact ⟨0, rfl, Nat.zero_le _, ⟨[], none, 0, rfl, Lib.hid rfl, Lib.hid (OwnOf.nil _ _)⟩, HB1.out⟩
    case round =>
      obtain ⟨k, rfl, hk, ⟨D, a1, c1, rfl, HD, HO⟩, hB⟩ := hrel
      have hDl : D.length ≤ k := by rw [← HD.out]; exact sweep_len U n k
      have HLD := Lib.hid hDl
      by_cases hlt : k < nU
      · have hd : decide ((k : Int) < (nU : Int)) = true := by rw [decide_eq_true_eq]; omega
        have hkU : k < U.length := by rw [HN.out]; exact hlt
        have hsn := sweep_snoc n hkU
        rw [HD.out] at hsn
        have K0 := KD.out k hkU wr hB
        have hrow := fun W (hW : Below wr.heap.size wr W) => HH.out.below (below2 hB hW)
        rw [HN.out] at hrow
        have HRW := Lib.hid hrow
        clear hrow
        cases hx : deadB U n U[k] with
        | false =>
          rw [hx] at K0 hsn
          rw [HN.out] at K0
          have K1 := Lib.hid K0
          clear K0
          simp only [Bool.false_eq_true, if_false] at hsn
          have HS := Lib.hid hsn
          clear hsn hx hDl
          go_wp2_with fail
          refine K1.out.mono ?_
          rintro e w2 ⟨rfl, hB2⟩
          have HB2 := Lib.hid (below2 hB hB2)
          have HO2 := Lib.hid (HO.out.stays hB2)
          clear hB2 hB
          go_wp2_with fail
          go_roundw
          case rel => exact ⟨k + 1, by go_num, by omega, ⟨D, a1, c1, rfl, HS, HO2⟩, HB2.out⟩
          case measure => simp [intOf]; omega
        | true =>
          rw [hx] at K0 hsn
          rw [HN.out] at K0
          have K1 := Lib.hid K0
          clear K0
          simp only [if_true] at hsn
          obtain ⟨⟨⟨p, m⟩, s⟩, he⟩ : ∃ x, U[k] = x := ⟨_, rfl⟩
          rw [he] at hsn
          try dsimp only at hsn
          have HS := Lib.hid hsn
          have HCE := Lib.hid he
          clear hsn hx hDl he
          go_wp2_with fail
          refine K1.out.mono ?_
          rintro e w2 ⟨rfl, hB2⟩
          obtain ⟨b, off, rfl, x0, x1, x2⟩ := (HRW.out w2 hB2).at hkU
          rw [HCE.out] at x0 x1 x2
          dsimp only at x0 x1 x2
          have HB2 := Lib.hid (below2 hB hB2)
          have HO2 := Lib.hid (HO.out.stays hB2)
          have hk0 : (0 : Int) ≤ (k : Int) := by omega
          have hk5 : (k : Int) < (nU : Int) := by omega
          clear hB2 hB
          go_wp2_with (at_builtin; refine app_kk rfl _ _ rfl w.heap.size _ D rfl HO2.out p m rfl (by have := HLD.out; omega) HB2.out.size ?_; intro a5 c5 w5 ho5 hg5; have hB5 := hg5 _ HB2.out; have HO5 := Lib.hid ho5; clear ho5 hg5)
          go_roundw
          case rel => exact ⟨k + 1, by go_num, by omega, ⟨D ++ [(p, m)], a5, c5, by rw [List.length_append]; rfl, HS, Lib.hid (by rw [List.length_append]; exact HO5.out)⟩, hB5⟩
          case measure => simp [intOf]; omega
      · obtain rfl : k = nU := by omega
        have hd : decide ((k : Int) < (k : Int)) = false := by simp
        obtain ⟨q, hq⟩ : ∃ q, D.length = q := ⟨_, rfl⟩
        have HO2 := Lib.hid (show OwnKk wr w.heap.size (.slice a1 q c1) (deadK U n) by
          have h1 := HD.out
          rw [sweep_all U n (Nat.le_of_eq HN.out)] at h1
          rw [h1, ← hq]
          exact HO.out)
        rw [hq]
        have HB2 := Lib.hid hB
        clear hB hDl
        go_wp2_with fail
        go_ret2
        exact ⟨_, rfl, HO2.out, HB2.out⟩
  · unfold vaK
    rw [if_neg hz, vaE_one hz]
    have hb : isSt U = true → n < 0 := fun h1 => by
      have h3 : ¬ (isSt U = true ∧ 0 ≤ n) := fun h2 => hz (vaE_zero.2 h2)
      by_cases h0 : n < 0
      · exact h0
      · exact absurd ⟨h1, by omega⟩ h3
    cases hst : isSt U with
    | false =>
      rw [hst] at KI
      clear h hs hz hst hb
      go_enter Tryz.func12, Tryz.ntmps12
      go_wp2_with fail
      refine KI.out.mono ?_
      rintro e w1 ⟨rfl, hB⟩
      go_wp2_with fail
      go_ret2
      exact ⟨_, rfl, OwnOf.nil _ _, hB⟩
    | true =>
      rw [hst] at KI
      have hd0 : decide (n < 0) = true := decide_eq_true (hb hst)
      clear h hs hz hst hb
      go_enter Tryz.func12, Tryz.ntmps12
      go_wp2_with fail
      refine KI.out.mono ?_
      rintro e w1 ⟨rfl, hB⟩
      go_wp2_with fail
      go_ret2
      exact ⟨_, rfl, OwnOf.nil _ _, hB⟩

set_option maxHeartbeats 8000000 in
theorem vaRefRun_calls (v : Value) (U : List Pr) (n : Int) (w : World) (h : Prs w v U) (hn : U.length ≤ 1000) (hs : ∀ x ∈ U, x.1.1.length ≤ 1000000 ∧ x.2.length ≤ 1000) :
    Calls Tryz.prog 14 #[v, .int .i64 n] w fun e w' => ∃ u, e = .returned (.tuple #[u, .int .i64 (vaM U n : Int), .int .i64 (vaE U n)]) ∧ OwnP w' w.heap.size u (vaT U n) ∧ Below w.heap.size w w' := by
  obtain ⟨av, cv, rfl⟩ := h.form
  have KI := Lib.hid (refSt_calls _ U w h hn hs)
  have KD := Lib.hid (fun k (hk : k < U.length) W (hB : Below w.heap.size w W) => refDead_calls _ U k hk n W (h.below hB) hn (fun x hx => (hs x hx).2))
  have HH := Lib.hid h
  have HL := Lib.hid hn
  by_cases hz : vaE U n = 0
  · obtain ⟨hst, hn0⟩ := vaE_zero.1 hz
    have hd0 : decide (n < 0) = false := by rw [decide_eq_false_iff_not]; omega
    unfold vaT vaM vaK
    rw [hz, if_pos rfl, if_pos rfl]
    rw [hst] at KI
    have hln := live_nums U n
    obtain ⟨nU, hnU⟩ : ∃ k, U.length = k := ⟨_, rfl⟩
    have HN := Lib.hid hnU
    have HLN := Lib.hid hln
    rw [hnU] at hn KI ⊢
    clear h hs hz hst hn0 hnU hln
    go_enter Tryz.func14, Tryz.ntmps14
    go_wp2_with fail
    refine KI.out.mono ?_
    rintro e w1 ⟨rfl, hB1⟩
    have HB1 := Lib.hid hB1
    clear hB1
    go_wp2_with fail
    go_loopw [7, 8] (fun o i wr => ∃ k : Nat, i = .int .i64 k ∧ k ≤ nU ∧ (∃ D a1 c1, o = .slice a1 (D.length) c1 ∧ Hid (liveTo U n k = D) ∧ Hid (OwnP wr w.heap.size (.slice a1 D.length c1) D)) ∧ Below w.heap.size w wr) (fun _ i _ => nU - (intOf i).toNat)
    case atStart => exact ⟨0, rfl, Nat.zero_le _, ⟨[], none, 0, rfl, Lib.hid rfl, Lib.hid (OwnP.nil _ _)⟩, HB1.out⟩
    case round =>
      obtain ⟨k, rfl, hk, ⟨D, a1, c1, rfl, HD, HO⟩, hB⟩ := hrel
      have hDl : D.length ≤ k := by rw [← HD.out]; exact liveTo_len U n k
      have HLD := Lib.hid hDl
      by_cases hlt : k < nU
      · have hd : decide ((k : Int) < (nU : Int)) = true := by rw [decide_eq_true_eq]; omega
        have hkU : k < U.length := by rw [HN.out]; exact hlt
        have hsn := liveTo_snoc n hkU
        rw [HD.out] at hsn
        have K0 := KD.out k hkU wr hB
        have hrow := fun W (hW : Below wr.heap.size wr W) => HH.out.below (below2 hB hW)
        rw [HN.out] at hrow
        have HRW := Lib.hid hrow
        clear hrow
        cases hx : deadB U n U[k] with
        | true =>
          rw [hx] at K0 hsn
          rw [HN.out] at K0
          have K1 := Lib.hid K0
          clear K0
          simp only [if_true] at hsn
          have HS := Lib.hid hsn
          clear hsn hx hDl
          go_wp2_with fail
          refine K1.out.mono ?_
          rintro e w2 ⟨rfl, hB2⟩
          have HB2 := Lib.hid (below2 hB hB2)
          have HO2 := Lib.hid (HO.out.stays hB2)
          clear hB2 hB
          go_wp2_with fail
          go_roundw
          case rel => exact ⟨k + 1, by go_num, by omega, ⟨D, a1, c1, rfl, HS, HO2⟩, HB2.out⟩
          case measure => simp [intOf]; omega
        | false =>
          rw [hx] at K0 hsn
          rw [HN.out] at K0
          have K1 := Lib.hid K0
          clear K0
          simp only [Bool.false_eq_true, if_false] at hsn
          obtain ⟨⟨⟨p, m⟩, s⟩, he⟩ : ∃ x, U[k] = x := ⟨_, rfl⟩
          rw [he] at hsn
          try dsimp only at hsn
          have HS := Lib.hid hsn
          have HCE := Lib.hid he
          clear hsn hx hDl he
          go_wp2_with fail
          refine K1.out.mono ?_
          rintro e w2 ⟨rfl, hB2⟩
          obtain ⟨b, off, rfl, x0, x1, x2⟩ := (HRW.out w2 hB2).at hkU
          rw [HCE.out] at x0 x1 x2
          dsimp only at x0 x1 x2
          have HB2 := Lib.hid (below2 hB hB2)
          have HO2 := Lib.hid (HO.out.stays hB2)
          have hk0 : (0 : Int) ≤ (k : Int) := by omega
          have hk5 : (k : Int) < (nU : Int) := by omega
          clear hB2 hB
          go_wp2_with (at_builtin; refine app_pr rfl _ _ rfl w.heap.size _ D rfl HO2.out p m s rfl (by have := HLD.out; omega) HB2.out.size ?_; intro a5 c5 w5 ho5 hg5; have hB5 := hg5 _ HB2.out; have HO5 := Lib.hid ho5; clear ho5 hg5)
          go_roundw
          case rel => exact ⟨k + 1, by go_num, by omega, ⟨D ++ [((p, m), s)], a5, c5, by rw [List.length_append]; rfl, HS, Lib.hid (by rw [List.length_append]; exact HO5.out)⟩, hB5⟩
          case measure => simp [intOf]; omega
      · obtain rfl : k = nU := by omega
        have hd : decide ((k : Int) < (k : Int)) = false := by simp
        have h1 := HD.out
        rw [← HN.out, liveTo_all] at h1
        obtain ⟨q, hq⟩ : ∃ q, D.length = q := ⟨_, rfl⟩
        have HO2 := Lib.hid (show OwnP wr w.heap.size (.slice a1 q c1) (liveL U n) by
          rw [h1, ← hq]
          exact HO.out)
        rw [hq] at hDl ⊢
        have hqq : (k : Int) - (q : Int) = ((deadK U n).length : Int) := by
          have h2 := HLN.out
          rw [h1, HN.out, hq] at h2
          omega
        have HQ := Lib.hid hqq
        have HB2 := Lib.hid hB
        clear hB hqq h1
        go_wp2_with fail
        go_ret3
        exact ⟨_, by rw [← HQ.out]; rfl, HO2.out, HB2.out⟩
  · unfold vaT vaM vaK
    rw [if_neg hz, if_neg hz, vaE_one hz]
    have hb : isSt U = true → n < 0 := fun h1 => by
      have h3 : ¬ (isSt U = true ∧ 0 ≤ n) := fun h2 => hz (vaE_zero.2 h2)
      by_cases h0 : n < 0
      · exact h0
      · exact absurd ⟨h1, by omega⟩ h3
    cases hst : isSt U with
    | false =>
      rw [hst] at KI
      clear h hs hz hst hb
      go_enter Tryz.func14, Tryz.ntmps14
      go_wp2_with fail
      refine KI.out.mono ?_
      rintro e w1 ⟨rfl, hB⟩
      go_wp2_with fail
      go_ret3
      exact ⟨_, rfl, OwnP.nil _ _, hB⟩
    | true =>
      rw [hst] at KI
      have hd0 : decide (n < 0) = true := decide_eq_true (hb hst)
      clear h hs hz hst hb
      go_enter Tryz.func14, Tryz.ntmps14
      go_wp2_with fail
      refine KI.out.mono ?_
      rintro e w1 ⟨rfl, hB⟩
      go_wp2_with fail
      go_ret3
      exact ⟨_, rfl, OwnP.nil _ _, hB⟩

theorem vaT_len (U : List Pr) (n : Int) : (vaT U n).length = vaN U n := by
  unfold vaT vaN
  split <;> rfl
set_option maxHeartbeats 4000000 in
theorem vaRefLive_calls (v : Value) (U : List Pr) (n : Int) (w : World) (h : Prs w v U) (hn : U.length ≤ 1000) (hs : ∀ x ∈ U, x.1.1.length ≤ 1000000 ∧ x.2.length ≤ 1000) :
    Calls Tryz.prog 16 #[v, .int .i64 n] w fun e w' => e = .returned (.tuple #[.int .i64 (vaN U n : Int), .int .i64 (vaE U n)]) ∧ Below w.heap.size w w' := by
  obtain ⟨av, cv, rfl⟩ := h.form
  have K := Lib.hid (vaRefRun_calls _ U n w h hn hs)
  have hl := vaT_len U n
  obtain ⟨q, hq⟩ : ∃ q, vaN U n = q := ⟨_, rfl⟩
  obtain ⟨E, hE⟩ : ∃ E, vaE U n = E := ⟨_, rfl⟩
  rw [hq] at hl ⊢
  rw [hE] at K ⊢
  have HL := Lib.hid hl
  clear h hs hl hq hE
  go_enter Tryz.func16, Tryz.ntmps16
  go_wp2_with fail
  refine K.out.mono ?_
  rintro e w1 ⟨u, rfl, ho, hB⟩
  obtain ⟨ao, cap, rfl⟩ := ho.form
  rw [HL.out]
  have HB := Lib.hid hB
  clear ho hB
  go_wp2_with fail
  go_ret2
  exact ⟨rfl, HB.out⟩

end Go.Proofs.YtaaabmnaindgaaaGreatDoor

/-
  The law file's laid: a store of batches.
-/
namespace Go.Proofs.YtaaabmnaindgaaaGreatDoor
set_option maxRecDepth 100000
open Go.RowKit

set_option maxHeartbeats 8000000 in
theorem vaLaid_calls (v : Value) (S : List Lv) (w : World) (h : Lds w v S) (hn : S.length ≤ 20) (hs : ∀ x ∈ S, SmallC (chs x.2) ∧ x.2.length ≤ 25) (hml : Ml w) :
    Calls Tryz.prog 21 #[v] w fun e w' => ∃ u, e = .returned u ∧ TreeV w' u (pairsK (tookS S)) ∧ Below w.heap.size w w' := by
  obtain ⟨ao, cap, rfl⟩ := h.form
  have HH := Lib.hid (And.intro h (And.intro hs hml))
  have KW := Lib.hid (fun W => new_calls W)
  clear h hs hml
  go_enter Tryz.func21, Tryz.ntmps21
  go_wp2_with fail
  refine (KW.out _).mono ?_
  rintro e w1 ⟨v1, rfl, ht1, hB1⟩
  obtain ⟨p1, rfl⟩ := ht1.val
  have HT1 := Lib.hid (And.intro ht1 hB1)
  clear ht1 hB1
  go_wp2_with fail
  go_loopw [3, 4] (fun t i wr => ∃ k : Nat, i = .int .i64 k ∧ k ≤ S.length ∧ TreeV wr t (pairsK (tookS (S.take k))) ∧ Below w.heap.size w wr) (fun _ i _ => S.length - (intOf i).toNat)
  case atStart => exact ⟨0, rfl, Nat.zero_le _, HT1.out.1, HT1.out.2⟩
  case round =>
    obtain ⟨k, rfl, hk, ht, hB⟩ := hrel
    obtain ⟨tp, rfl⟩ := ht.val
    obtain ⟨hK1, hK2, hK3⟩ := took_all (S.take k)
    obtain ⟨K, hK⟩ : ∃ K, tookS (S.take k) = K := ⟨_, rfl⟩
    have hsn := fun hlt => took_snoc (S := S) (k := k) hlt
    rw [hK] at ht hK1 hK2 hK3 hsn
    have hlK : K.length ≤ 20 := by
      rw [List.length_take] at hK2
      omega
    have HR := Lib.hid (And.intro ht hB)
    by_cases hlt : k < S.length
    · have hlt2 : decide ((k : Int) < (S.length : Int)) = true := by rw [decide_eq_true_eq]; omega
      obtain ⟨b, off, rfl, ⟨c0, c1⟩, hC⟩ := (HH.out.1.below hB).at hlt
      have hsm := HH.out.2.1 _ (List.getElem_mem hlt)
      have hsn2 := hsn hlt
      obtain ⟨⟨⟨n, u⟩, T⟩, hx⟩ : ∃ x, S[k] = x := ⟨_, rfl⟩
      rw [hx] at c0 c1 hC hsm hsn2
      dsimp only at c0 c1 hC hsm
      have hmr := HH.out.2.2.below hB
      have hst := pairsK_sto hK1 (by omega) ht hmr
      obtain ⟨s1, s3, rfl⟩ := hC.form
      obtain ⟨s2, hs2⟩ : ∃ n, T.length = n := ⟨_, rfl⟩
      have hbr : Below wr.heap.size wr wr.drew := drew_below _
      have HCELL : Hid (∀ W, Below wr.heap.size wr W → W.cell? ⟨b, off + k * 2, none⟩ = some (.int .i64 n) ∧ W.cell? ⟨b, off + k * 2 + 1, none⟩ = some (.slice s1 s2 s3)) := Lib.hid (fun W hW => ⟨look_below hW c0, hs2 ▸ look_below hW c1⟩)
      rw [hs2] at c1
      by_cases hly : layB (pairsK K) n (chs T) = true
      · have KL := Lib.hid (fun W (hW : Below wr.heap.size wr W) => lay_ok (hst.below hW) n _ T (hC.below hW) hsm.1 (pairsK_st hK1).2 hly)
        rw [hs2] at KL
        have hst2 : stepK K ((n, .slice s1 T.length s3), T) = K ++ [((n, .slice s1 T.length s3), T)] := by
          unfold stepK
          rw [if_pos hly]
        rw [hst2] at hsn2
        have HN := Lib.hid (show pairsK (tookS (S.take (k + 1))) = layP (pairsK K) n (chs T) by rw [hsn2, pairsK_snoc])
        clear hC hsm hx hst hst2 hmr hsn hsn2 hs2 hly ht hB hK1 hK2 hK3 hlK
        go_wp2_with fail
        go_region_held3 (fun w' => w'.cell? ⟨b, off + k * 2, none⟩ = some (.int .i64 n) ∧ w'.cell? ⟨b, off + k * 2 + 1, none⟩ = some (.slice s1 s2 s3)) (exact HCELL.out _ hbr) (first
          | (go_at_call 43; (with_reducible refine (KL.out _ hbr).mono ?_); rintro e w3 ⟨u3, rfl, ht3, hB3⟩; obtain ⟨p3, rfl⟩ := ht3.val; have hbr := below2 hbr hB3; have HT3 := Lib.hid ht3; clear ht3))
        all_goals
          have HB4 := Lib.hid (below2 HR.out.2 hbr)
          clear hbr
          go_wp2_with fail
          go_roundw
          case rel => exact ⟨k + 1, by go_num, by omega, by rw [HN.out]; exact HT3.out, HB4.out⟩
          case measure => simp [intOf]; omega
      · have hly2 : (isSt (pairsK K) && layB (pairsK K) n (chs T)) = false := by
          cases h : layB (pairsK K) n (chs T) with
          | false => simp
          | true => exact absurd h hly
        have KL := Lib.hid (fun W (hW : Below wr.heap.size wr W) => lay_no (hst.below hW) n _ T (hC.below hW) (by omega) hsm.1 hly2)
        rw [hs2] at KL
        have hst2 : stepK K ((n, .slice s1 T.length s3), T) = K := by
          unfold stepK
          rw [if_neg hly]
        rw [hst2] at hsn2
        have HN := Lib.hid hsn2
        clear hC hsm hx hst hst2 hmr hsn hsn2 hs2 hly hly2 ht hB hK1 hK2 hK3 hlK
        go_wp2_with fail
        go_region_held3 (fun w' => w'.cell? ⟨b, off + k * 2, none⟩ = some (.int .i64 n) ∧ w'.cell? ⟨b, off + k * 2 + 1, none⟩ = some (.slice s1 s2 s3)) (exact HCELL.out _ hbr) (first
          | (go_at_call 43; (with_reducible refine (KL.out _ hbr).mono ?_); rintro e w3 ⟨rfl, hB3⟩; have hbr := below2 hbr hB3))
        all_goals
          have HB4 := Lib.hid (below2 HR.out.2 hbr)
          have HT4 := Lib.hid (HR.out.1.below hbr)
          clear hbr
          go_wp2_with fail
          go_roundw
          case rel => exact ⟨k + 1, by go_num, by omega, by rw [HN.out]; exact HT4.out, HB4.out⟩
          case measure => simp [intOf]; omega
    · obtain rfl : k = S.length := by omega
      have hlt2 : decide ((S.length : Int) < (S.length : Int)) = false := by simp
      rw [List.take_of_length_le (Nat.le_refl _)] at hK
      subst hK
      clear hK1 hK2 hK3 hsn hlK ht
      go_wp2_with fail
      go_ret
      exact ⟨_, rfl, HR.out.1, HR.out.2⟩

end Go.Proofs.YtaaabmnaindgaaaGreatDoor

/-
  What batches lay is small.
-/
namespace Go.Proofs.YtaaabmnaindgaaaGreatDoor
set_option maxRecDepth 100000
open Go.RowKit

theorem took_small {K : List Lv} (h : TookK K) (_hl : K.length ≤ 50) : TimesK (pairsK K) ∧ (∀ x ∈ pairsK K, x.1.1.length ≤ 1000) ∧ (∀ x ∈ pairsK K, x.2.length ≤ 4611686018427387904) := by
  have hs := st_times (pairsK_st h).2
  refine ⟨fun x hx => ⟨?_, ?_⟩, fun x hx => ?_, fun x hx => ?_⟩
  · have := (hs x hx).1
    omega
  · have := (hs x hx).2.1
    omega
  · have := isP_len (hs x hx).2.2.1
    omega
  · have := took_vals h x hx
    omega

end Go.Proofs.YtaaabmnaindgaaaGreatDoor
