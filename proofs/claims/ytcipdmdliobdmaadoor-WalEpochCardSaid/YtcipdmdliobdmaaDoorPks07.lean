/-
  The texts of one folder in one: WaSpec, WaMath, WaLaw, WaCheck, WaHear, WaTell, WaRoom, WaFrame, WaApp, WaAll, WaRefR, WaRefO, WaRefA, WaRefL, WaRow, WaOpen, Logged, WaFront.
-/
import Derived.Test.YtcipdmdliobdmaaDoorPks04
import Derived.Test.YtcipdmdliobdmaaDoorPks03
import Derived.Test.YtcipdmdliobdmaaDoorPks01
import Derived.RangeFuncNested
import Derived.RangeFuncBound
import Derived.RangeFuncCalls
import Derived.RangeFuncLeaves
import Derived.RangeFuncBox
import Derived.Shelf.Abstract
import Derived.Shelf.RegionOpen
import Derived.OwnWalkIn
import Derived.TacticsInMore
import Derived.LoopNIn
import Derived.LoopIn
import Derived.Outline
import Derived.Deep.RegionWith
import Derived.Deep.RegionHeld3
import Derived.Maps.AppendAt

/-
  wal in plain words: what a block says, a log's records, what the calls answer.
-/
namespace Go.Proofs.YtcipdmdliobdmaaDoor
open Go.RowKit

/-- A block's record: its epoch, its place and its text. -/
def hearR (s : List UInt8) : Option (Nat × Nat × List UInt8) :=
  match getF s with
  | none => none
  | some (t, r) => if r = [] then
      match getN t with
      | none => none
      | some (e, m) =>
        match getN m with
        | none => none
        | some (p, x) => if x.length ≤ 200 then some (e, p, x) else none
    else none
/-- A record of an epoch at a place. -/
def recB (e p : Nat) (s : List UInt8) : List UInt8 := frameB (numB e ++ (numB p ++ s))
/-- The text of the epoch's record at a place that a block says. -/
def recAt (s : List UInt8) (e p : Int) : Option (List UInt8) :=
  match hearR s with
  | none => none
  | some (a, b, x) => if (a : Int) = e ∧ (b : Int) = p then some x else none
/-- The places and texts of the records that blocks say, from a place on. -/
def tellL (e : Int) : Nat → List (List UInt8) → List (Nat × List UInt8)
  | _, [] => []
  | k, s :: r =>
    match recAt s e k with
    | none => []
    | some x => (k, x) :: tellL e (k + 1) r
/-- The blocks of a log. -/
def logD (bs : List (List UInt8)) (ws : List Wr) (i : Int) : List (List UInt8) := (layL bs ws).drop i.toNat
/-- A log's texts. -/
def walL (bs : List (List UInt8)) (ws : List Wr) (i e : Int) : List (List UInt8) := (tellL e 0 (logD bs ws i)).map Prod.snd
def waE (bs : List (List UInt8)) (ws : List Wr) (i e : Int) : Int :=
  if rightB bs ws = true ∧ 0 ≤ e ∧ e ≤ 1000000000 then (if hasB bs.length i = true then 0 else 40) else 1
def openL (bs : List (List UInt8)) (ws : List Wr) (i e : Int) : List (List UInt8) := if waE bs ws i e = 0 then walL bs ws i e else []
def roomN (bs : List (List UInt8)) (ws : List Wr) (i e : Int) : Int := if waE bs ws i e = 0 then (bs.length : Int) - i - (walL bs ws i e).length else 0
def appE (bs : List (List UInt8)) (ws : List Wr) (i e : Int) (s : List UInt8) : Int :=
  if waE bs ws i e = 0 then (if s.length ≤ 200 then (if roomN bs ws i e = 0 then 41 else writeE bs ws (i + (walL bs ws i e).length) (recB e.toNat (walL bs ws i e).length s)) else 2) else waE bs ws i e
def appBs (bs : List (List UInt8)) (ws : List Wr) (i e : Int) (s : List UInt8) : List (List UInt8) := if appE bs ws i e s = 0 then bs else []
def appWs (bs : List (List UInt8)) (ws : List Wr) (i e : Int) (s : List UInt8) : List Wr := if appE bs ws i e s = 0 then ws ++ [(i + (walL bs ws i e).length, recB e.toNat (walL bs ws i e).length s)] else []
/-- Texts are appended, one behind the other: the error, and the disk. -/
def runA (i e : Int) : List (List UInt8) → List (List UInt8) → List Wr → Int × List (List UInt8) × List Wr
  | [], bs, ws => (0, bs, ws)
  | s :: r, bs, ws => if appE bs ws i e s = 0 then runA i e r bs (appWs bs ws i e s) else (appE bs ws i e s, [], [])
/-- Are all deeds done? -/
def fullB (l : List (List UInt8)) (k : Int) : Bool := decide (k < 0 ∨ (l.length : Int) < k)
/-- The texts that are appended. -/
def takeA (l : List (List UInt8)) (k : Int) : List (List UInt8) := if fullB l k = true then l else l.take k.toNat
def allE (bs : List (List UInt8)) (ws : List Wr) (i e : Int) (l : List (List UInt8)) (k : Int) : Int :=
  if waE bs ws i e = 0 then (runA i e (takeA l k) bs ws).1 else waE bs ws i e
def allBs (bs : List (List UInt8)) (ws : List Wr) (i e : Int) (l : List (List UInt8)) (k : Int) : List (List UInt8) :=
  if allE bs ws i e l k = 0 then (if fullB l k = true then layL bs (runA i e (takeA l k) bs ws).2.2 else bs) else []
def allWs (bs : List (List UInt8)) (ws : List Wr) (i e : Int) (l : List (List UInt8)) (k : Int) : List Wr :=
  if allE bs ws i e l k = 0 then (if fullB l k = true then [] else (runA i e (takeA l k) bs ws).2.2) else []
def allD (bs : List (List UInt8)) (ws : List Wr) (i e : Int) (l : List (List UInt8)) (k : Int) : Bool := decide (allE bs ws i e l k = 0) && fullB l k

theorem rec_len (e p : Nat) (s : List UInt8) (hp : p ≤ 255) (hs : s.length ≤ 200) : (recB e p s).length ≤ 256 := by
  have h1 := wid_le e
  have h2 : wid p ≤ 1 := by
    have := wid_mono (show p ≤ 255 from hp)
    have e1 : wid 255 = 1 := by decide
    omega
  have h3 : (numB e ++ (numB p ++ s)).length ≤ 300 := by simp only [List.length_append, numB_length]; omega
  have h4 := wid_mono (show (numB e ++ (numB p ++ s)).length ≤ 65535 by omega)
  have e2 : wid 65535 = 2 := by decide
  rw [recB, frameB_length]
  simp only [List.length_append, numB_length] at h3 h4 ⊢
  omega
theorem hear_rec (e p : Nat) (s : List UInt8) (he : e ≤ 4294967295) (hp : p ≤ 4294967295) (hs : s.length ≤ 200) : hearR (recB e p s) = some (e, p, s) := by
  have h1 := wid_le e
  have h2 := wid_le p
  have hl : (numB e ++ (numB p ++ s)).length ≤ 4000 := by simp only [List.length_append, numB_length]; omega
  have g : getF (recB e p s) = some (numB e ++ (numB p ++ s), []) := by
    have := laid_getF (numB e ++ (numB p ++ s)) hl []
    rwa [List.append_nil] at this
  have g1 : getN (numB e ++ (numB p ++ s)) = some (e, numB p ++ s) := laid_getN e he _
  have g2 : getN (numB p ++ s) = some (p, s) := laid_getN p hp _
  simp only [hearR, g, g1, g2, if_true, if_pos hs]
theorem hearR_nil : hearR [] = none := by
  have : getF [] = none := getF_short (by simp)
  simp [hearR, this]
theorem hearR_bounds {s : List UInt8} {a b : Nat} {x : List UInt8} (h : hearR s = some (a, b, x)) : a ≤ 4294967295 ∧ b ≤ 4294967295 ∧ x.length ≤ 200 := by
  unfold hearR at h
  split at h
  · cases h
  · split at h
    · split at h
      · cases h
      · rename_i hn
        split at h
        · cases h
        · rename_i hm
          split at h
          · rename_i hx
            simp only [Option.some.injEq, Prod.mk.injEq] at h
            obtain ⟨rfl, rfl, rfl⟩ := h
            exact ⟨(getN_bounds hn).1, (getN_bounds hm).1, hx⟩
          · cases h
    · cases h
theorem recAt_rec (e p : Nat) (s : List UInt8) (he : e ≤ 4294967295) (hp : p ≤ 4294967295) (hs : s.length ≤ 200) (e' p' : Int) : recAt (recB e p s) e' p' = if (e : Int) = e' ∧ (p : Int) = p' then some s else none := by
  simp only [recAt, hear_rec e p s he hp hs]
theorem recAt_nil (e p : Int) : recAt [] e p = none := by simp [recAt, hearR_nil]
theorem recAt_len {s : List UInt8} {e p : Int} {x : List UInt8} (h : recAt s e p = some x) : x.length ≤ 200 := by
  unfold recAt at h
  split at h
  · cases h
  · rename_i hq
    split at h
    · cases h
      exact (hearR_bounds hq).2.2
    · cases h
theorem tell_len (e : Int) : ∀ (k : Nat) (l : List (List UInt8)), (tellL e k l).length ≤ l.length
  | _, [] => by simp [tellL]
  | k, s :: r => by
    have := tell_len e (k + 1) r
    unfold tellL
    split <;> simp <;> omega
theorem tell_none {e : Int} {k : Nat} {l : List (List UInt8)} (h : k < l.length) (hn : recAt l[k] e k = none) : tellL e k (l.drop k) = [] := by
  rw [List.drop_eq_getElem_cons h, tellL, hn]
theorem tell_some {e : Int} {k : Nat} {l : List (List UInt8)} (h : k < l.length) {x : List UInt8} (hn : recAt l[k] e k = some x) : tellL e k (l.drop k) = (k, x) :: tellL e (k + 1) (l.drop (k + 1)) := by
  rw [List.drop_eq_getElem_cons h, tellL, hn]
theorem tell_end {e : Int} {k : Nat} {l : List (List UInt8)} (h : l.length ≤ k) : tellL e k (l.drop k) = [] := by
  rw [List.drop_of_length_le h, tellL]
theorem logD_len (bs : List (List UInt8)) (ws : List Wr) (i : Int) : (logD bs ws i).length = bs.length - i.toNat := by simp [logD, layL_len]
theorem wal_len (bs : List (List UInt8)) (ws : List Wr) (i e : Int) : (walL bs ws i e).length ≤ bs.length - i.toNat := by
  have := tell_len e 0 (logD bs ws i)
  rw [logD_len] at this
  simpa [walL] using this
/-- What the block at a place of a log says. -/
theorem logD_at {bs : List (List UInt8)} {ws : List Wr} {i : Int} (hi : 0 ≤ i) {k : Nat} (hk : k < (logD bs ws i).length) : (logD bs ws i)[k] = saysL bs ws (i + k) := by
  have hl := logD_len bs ws i
  have hl2 := layL_len bs ws
  have e : (i + (k : Int)).toNat = i.toNat + k := by omega
  simp only [logD, saysL, e, List.getElem_drop]
  rw [List.getD_eq_getElem?_getD, List.getElem?_eq_getElem (by omega)]
  rfl
theorem wa_ok {bs : List (List UInt8)} {ws : List Wr} {i e : Int} : waE bs ws i e = 0 ↔ (rightB bs ws = true ∧ 0 ≤ e ∧ e ≤ 1000000000 ∧ 0 ≤ i ∧ i < bs.length) := by
  unfold waE
  constructor
  · intro h
    split at h
    · rename_i h1
      split at h
      · rename_i h2
        exact ⟨h1.1, h1.2.1, h1.2.2, hasB_iff.1 h2⟩
      · omega
    · omega
  · rintro ⟨h1, h2, h3, h4⟩
    rw [if_pos ⟨h1, h2, h3⟩, if_pos (hasB_iff.2 h4)]
theorem wa_cases (bs : List (List UInt8)) (ws : List Wr) (i e : Int) : waE bs ws i e = 0 ∨ waE bs ws i e = 1 ∨ waE bs ws i e = 40 := by
  unfold waE; repeat' split
  all_goals omega
theorem runA_bs (i e : Int) : ∀ (l bs : List (List UInt8)) (ws : List Wr), (runA i e l bs ws).1 = 0 → (runA i e l bs ws).2.1 = bs
  | [], _, _, _ => rfl
  | s :: r, bs, ws, h => by
    unfold runA at h ⊢
    split at h
    · rename_i h1
      rw [if_pos h1]
      exact runA_bs i e r bs _ h
    · rename_i h1
      exact absurd h h1
theorem runA_err (i e : Int) : ∀ (l bs : List (List UInt8)) (ws : List Wr), (runA i e l bs ws).1 ≠ 0 → (runA i e l bs ws).2 = ([], [])
  | [], _, _, h => absurd rfl h
  | s :: r, bs, ws, h => by
    unfold runA at h ⊢
    split at h
    · rename_i h1
      rw [if_pos h1]
      exact runA_err i e r bs _ h
    · rename_i h1
      rw [if_neg h1]
theorem app_ok {bs : List (List UInt8)} {ws : List Wr} {i e : Int} {s : List UInt8} (h : appE bs ws i e s = 0) : waE bs ws i e = 0 ∧ s.length ≤ 200 ∧ roomN bs ws i e ≠ 0 ∧ writeE bs ws (i + (walL bs ws i e).length) (recB e.toNat (walL bs ws i e).length s) = 0 := by
  unfold appE at h
  split at h
  · rename_i h1
    split at h
    · rename_i h2
      split at h
      · omega
      · rename_i h3
        exact ⟨h1, h2, h3, h⟩
    · omega
  · omega

end Go.Proofs.YtcipdmdliobdmaaDoor

/-
  What follows of a log's words: texts that are appended to a new disk are its records; a crash leaves a beginning; another epoch has none.
-/
namespace Go.Proofs.YtcipdmdliobdmaaDoor
open Go.RowKit

/-- The writes that append texts from a place on. -/
def recsW (i : Int) (e : Nat) : Nat → List (List UInt8) → List Wr
  | _, [] => []
  | k, s :: r => (i + (k : Int), recB e k s) :: recsW i e (k + 1) r
theorem recsW_len (i : Int) (e : Nat) : ∀ (k : Nat) (l : List (List UInt8)), (recsW i e k l).length = l.length
  | _, [] => rfl
  | k, s :: r => by simp [recsW, recsW_len i e (k + 1) r]
theorem recsW_snoc (i : Int) (e : Nat) : ∀ (k : Nat) (l : List (List UInt8)) (s : List UInt8), recsW i e k (l ++ [s]) = recsW i e k l ++ [(i + ((k + l.length : Nat) : Int), recB e (k + l.length) s)]
  | k, [], s => by simp [recsW]
  | k, t :: r, s => by
    have h := recsW_snoc i e (k + 1) r s
    simp only [List.cons_append, recsW, h, List.length_cons]
    have e1 : k + 1 + r.length = k + (r.length + 1) := by omega
    rw [e1]

/-- A block says a record of its place, or nothing. -/
def SaysAt (e : Nat) (l : List (List UInt8)) (D : List (List UInt8)) : Prop :=
  ∀ j, D[j]? = none ∨ D[j]? = some [] ∨ ∃ h : j < l.length, D[j]? = some (recB e j l[j])
/-- Each text's record is there. -/
def AllAt (e : Nat) (l : List (List UInt8)) (D : List (List UInt8)) : Prop :=
  ∀ j (h : j < l.length), D[j]? = some (recB e j l[j])

theorem tell_cons {e : Int} {k : Nat} {D : List (List UInt8)} {s : List UInt8} (h : D[k]? = some s) : tellL e k (D.drop k) = match recAt s e k with | none => [] | some x => (k, x) :: tellL e (k + 1) (D.drop (k + 1)) := by
  obtain ⟨hk, hs⟩ := List.getElem?_eq_some_iff.1 h
  rw [List.drop_eq_getElem_cons hk, hs, tellL]
  all_goals (cases recAt s e k <;> rfl)
theorem tell_out {e : Int} {k : Nat} {D : List (List UInt8)} (h : D[k]? = none) : tellL e k (D.drop k) = [] := tell_end (List.getElem?_eq_none_iff.1 h)
theorem tell_front (e : Nat) (he : e ≤ 4294967295) (l D : List (List UInt8)) (hs : ∀ s ∈ l, s.length ≤ 200) (hD : D.length ≤ 4294967295) (h : SaysAt e l D) : ∀ (m k : Nat), D.length - k = m → ((tellL e k (D.drop k)).map Prod.snd) <+: l.drop k := by
  intro m
  induction m with
  | zero =>
    intro k hk
    rw [tell_end (by omega)]
    exact List.nil_prefix
  | succ m ih =>
    intro k hk
    rcases h k with h1 | h1 | ⟨h2, h1⟩
    · rw [tell_out h1]; exact List.nil_prefix
    · rw [tell_cons h1, recAt_nil]; exact List.nil_prefix
    · rw [tell_cons h1, recAt_rec e k _ he (by omega) (hs _ (List.getElem_mem h2)), if_pos ⟨rfl, rfl⟩, List.drop_eq_getElem_cons h2]
      simp only [List.map_cons]
      exact (List.prefix_cons_inj _).2 (ih (k + 1) (by omega))
theorem tell_whole (e : Nat) (he : e ≤ 4294967295) (l D : List (List UInt8)) (hs : ∀ s ∈ l, s.length ≤ 200) (hD : D.length ≤ 4294967295) (h : SaysAt e l D) (ha : AllAt e l D) : ∀ (m k : Nat), l.length - k = m → ((tellL e k (D.drop k)).map Prod.snd) = l.drop k := by
  intro m
  induction m with
  | zero =>
    intro k hk
    rw [show l.drop k = [] from List.drop_of_length_le (by omega)]
    rcases h k with h1 | h1 | ⟨h2, h1⟩
    · rw [tell_out h1]; rfl
    · rw [tell_cons h1, recAt_nil]; rfl
    · omega
  | succ m ih =>
    intro k hk
    have h2 : k < l.length := by omega
    have h1 := ha k h2
    have h3 : k < D.length := (List.getElem?_eq_some_iff.1 h1).1
    rw [tell_cons h1, recAt_rec e k _ he (by omega) (hs _ (List.getElem_mem h2)), if_pos ⟨rfl, rfl⟩, List.drop_eq_getElem_cons h2]
    simp only [List.map_cons]
    rw [ih (k + 1) (by omega)]
theorem tell_other (e e' : Nat) (hne : (e : Int) ≠ e') (he : e ≤ 4294967295) (l D : List (List UInt8)) (hs : ∀ s ∈ l, s.length ≤ 200) (hD : D.length ≤ 4294967295) (h : SaysAt e l D) (k : Nat) : tellL e' k (D.drop k) = [] := by
  rcases h k with h1 | h1 | ⟨h2, h1⟩
  · exact tell_out h1
  · rw [tell_cons h1, recAt_nil]
  · have h3 : k < D.length := (List.getElem?_eq_some_iff.1 h1).1
    rw [tell_cons h1, recAt_rec e k _ he (by omega) (hs _ (List.getElem_mem h2)), if_neg (fun q => hne q.1)]

/-- What a block says behind some of these writes. -/
theorem lay_recs (i : Int) (hi : 0 ≤ i) (e : Nat) : ∀ (l : List (List UInt8)) (k : Nat) (bs : List (List UInt8)) (ks : List Bool) (q : Nat),
    (layL bs (keptL (recsW i e k l) ks))[q]? = bs[q]? ∨ ∃ (j : Nat) (h : j < l.length), q = i.toNat + (k + j) ∧ ks[j]? = some true ∧ q < bs.length ∧ (layL bs (keptL (recsW i e k l) ks))[q]? = some (recB e (k + j) l[j])
  | [], k, bs, ks, q => by
    left
    rw [recsW, keptL_none]
    rfl
  | s :: r, k, bs, [], q => by
    left
    rw [keptL_nil]
    rfl
  | s :: r, k, bs, false :: ks, q => by
    have h := lay_recs i hi e r (k + 1) bs ks q
    rw [recsW, keptL]
    simp only [Bool.false_eq_true, if_false]
    rcases h with h | ⟨j, hj, h1, h2, h3, h4⟩
    · exact .inl h
    · exact .inr ⟨j + 1, by simpa using hj, by omega, by simpa using h2, h3, by rw [h4]; simp only [List.getElem_cons_succ]; rw [show k + 1 + j = k + (j + 1) by omega]⟩
  | s :: r, k, bs, true :: ks, q => by
    have h := lay_recs i hi e r (k + 1) (bs.set (i + (k : Int)).toNat (recB e k s)) ks q
    rw [recsW, keptL]
    simp only [if_true]
    have e1 : layL bs ((i + (k : Int), recB e k s) :: keptL (recsW i e (k + 1) r) ks) = layL (bs.set (i + (k : Int)).toNat (recB e k s)) (keptL (recsW i e (k + 1) r) ks) := rfl
    have e2 : (i + (k : Int)).toNat = i.toNat + k := by omega
    rw [e1]
    rcases h with h | ⟨j, hj, h1, h2, h3, h4⟩
    · rw [h, e2, List.getElem?_set]
      by_cases hq : i.toNat + k = q
      · by_cases hl : q < bs.length
        · exact .inr ⟨0, by simp, by omega, by simp, hl, by subst hq; simp [hl]⟩
        · left
          rw [if_pos hq, if_neg (by omega), List.getElem?_eq_none (by omega)]
      · left
        rw [if_neg hq]
    · exact .inr ⟨j + 1, by simpa using hj, by omega, by simpa using h2, by simpa using h3, by rw [h4]; simp only [List.getElem_cons_succ]; rw [show k + 1 + j = k + (j + 1) by omega]⟩
/-- What a block at a place of the log says behind all of these writes. -/
theorem lay_recs_at (i : Int) (hi : 0 ≤ i) (e : Nat) : ∀ (l : List (List UInt8)) (k : Nat) (bs : List (List UInt8)) (j : Nat) (h : j < l.length), i.toNat + (k + j) < bs.length → (layL bs (recsW i e k l))[i.toNat + (k + j)]? = some (recB e (k + j) l[j])
  | [], k, bs, j, h, _ => by simp at h
  | s :: r, k, bs, j, h, hb => by
    have e1 : layL bs (recsW i e k (s :: r)) = layL (bs.set (i + (k : Int)).toNat (recB e k s)) (recsW i e (k + 1) r) := rfl
    have e2 : (i + (k : Int)).toNat = i.toNat + k := by omega
    rw [e1]
    cases j with
    | zero =>
      have h1 := lay_recs i hi e r (k + 1) (bs.set (i + (k : Int)).toNat (recB e k s)) (List.replicate (recsW i e (k + 1) r).length true) (i.toNat + (k + 0))
      rw [keptL_true] at h1
      rcases h1 with h1 | ⟨j, _, h2, _⟩
      · rw [h1, e2, List.getElem?_set, if_pos (by omega), if_pos (by omega)]
        rfl
      · omega
    | succ j =>
      have h1 := lay_recs_at i hi e r (k + 1) (bs.set (i + (k : Int)).toNat (recB e k s)) j (by simpa using h) (by simp; omega)
      rw [show k + (j + 1) = k + 1 + j by omega, h1]
      simp

/-- A new disk. -/
theorem new_at (n : Nat) (j : Nat) : (List.replicate n ([] : List UInt8))[j]? = none ∨ (List.replicate n ([] : List UInt8))[j]? = some [] := by
  rw [List.getElem?_replicate]
  split
  · exact .inr rfl
  · exact .inl rfl
/-- Behind a crash that keeps some of the writes of a new disk each block says its record, or nothing. -/
theorem says_kept (n : Nat) (i : Int) (hi : 0 ≤ i) (e : Nat) (l : List (List UInt8)) (ks : List Bool) : SaysAt e l ((layL (List.replicate n []) (keptL (recsW i e 0 l) ks)).drop i.toNat) := by
  intro j
  rw [List.getElem?_drop]
  rcases lay_recs i hi e l 0 (List.replicate n []) ks (i.toNat + j) with h | ⟨j', hj, h1, h2, h3, h4⟩
  · rw [h]
    rcases new_at n (i.toNat + j) with h | h
    · exact .inl h
    · exact .inr (.inl h)
  · obtain rfl : j' = j := by omega
    right; right
    refine ⟨hj, ?_⟩
    rw [h4]
    simp
theorem says_all (n : Nat) (i : Int) (hi : 0 ≤ i) (e : Nat) (l : List (List UInt8)) : SaysAt e l ((layL (List.replicate n []) (recsW i e 0 l)).drop i.toNat) := by
  have h := says_kept n i hi e l (List.replicate (recsW i e 0 l).length true)
  rwa [keptL_true] at h
theorem all_at (n : Nat) (i : Int) (hi : 0 ≤ i) (e : Nat) (l : List (List UInt8)) (hl : i.toNat + l.length ≤ n) : AllAt e l ((layL (List.replicate n []) (recsW i e 0 l)).drop i.toNat) := by
  intro j hj
  rw [List.getElem?_drop]
  have h := lay_recs_at i hi e l 0 (List.replicate n []) j hj (by simp; omega)
  rw [Nat.zero_add] at h
  exact h

/-- What is appended to a new disk. -/
structure Grown (n : Nat) (i e : Int) (l : List (List UInt8)) : Prop where
  ws : rightB (List.replicate n []) (recsW i e.toNat 0 l) = true
  he : 0 ≤ e ∧ e ≤ 1000000000
  hi : 0 ≤ i ∧ i < n
  hl : i.toNat + l.length ≤ n
  hs : ∀ s ∈ l, s.length ≤ 200
theorem Grown.wal {n : Nat} {i e : Int} {l : List (List UInt8)} (h : Grown n i e l) : walL (List.replicate n []) (recsW i e.toNat 0 l) i e = l := by
  have hn : n ≤ 200 := by have := (right_parts h.ws).2.1; simpa using this
  have h1 := tell_whole e.toNat (by have := h.he; omega) l _ h.hs (by simp [layL_len]; omega) (says_all n i h.hi.1 e.toNat l) (all_at n i h.hi.1 e.toNat l h.hl) l.length 0 rfl
  rw [List.drop_zero, List.drop_zero, show ((e.toNat : Nat) : Int) = e by have := h.he; omega] at h1
  exact h1
theorem Grown.zero {n : Nat} {i e : Int} (h : waE (List.replicate n []) [] i e = 0) : Grown n i e [] := by
  obtain ⟨h1, h2, h3, h4, h5⟩ := wa_ok.1 h
  simp only [List.length_replicate] at h5
  exact ⟨h1, ⟨h2, h3⟩, ⟨h4, h5⟩, by simp; omega, by simp⟩
theorem Grown.more {n : Nat} {i e : Int} {l : List (List UInt8)} {s : List UInt8} (h : Grown n i e l) (ha : appE (List.replicate n []) (recsW i e.toNat 0 l) i e s = 0) :
    Grown n i e (l ++ [s]) ∧ appWs (List.replicate n []) (recsW i e.toNat 0 l) i e s = recsW i e.toNat 0 (l ++ [s]) := by
  obtain ⟨h1, h2, h3, h4⟩ := app_ok ha
  have hw := h.wal
  rw [hw] at h4
  have hr := right_more h4
  have e1 : recsW i e.toNat 0 (l ++ [s]) = recsW i e.toNat 0 l ++ [(i + (l.length : Int), recB e.toNat l.length s)] := by
    rw [recsW_snoc]; simp
  have hroom : i.toNat + (l ++ [s]).length ≤ n := by
    have := (write_ok h4).2.1
    have := hasB_iff.1 this
    simp only [List.length_replicate] at this
    have := h.hi
    simp
    omega
  refine ⟨⟨by rw [e1]; exact hr, h.he, h.hi, hroom, ?_⟩, ?_⟩
  · intro t ht
    rcases List.mem_append.1 ht with q | q
    · exact h.hs t q
    · obtain rfl := List.mem_singleton.1 q
      exact h2
  · rw [appWs, if_pos ha, hw, e1]
theorem Grown.run {n : Nat} {i e : Int} : ∀ (r : List (List UInt8)) {l : List (List UInt8)} (_ : Grown n i e l), (runA i e r (List.replicate n []) (recsW i e.toNat 0 l)).1 = 0 →
    Grown n i e (l ++ r) ∧ (runA i e r (List.replicate n []) (recsW i e.toNat 0 l)).2.2 = recsW i e.toNat 0 (l ++ r)
  | [], l, h, _ => by rw [List.append_nil]; exact ⟨h, rfl⟩
  | s :: r, l, h, hr => by
    unfold runA at hr ⊢
    by_cases ha : appE (List.replicate n []) (recsW i e.toNat 0 l) i e s = 0
    · rw [if_pos ha] at hr ⊢
      obtain ⟨h1, h2⟩ := h.more ha
      rw [h2] at hr ⊢
      have := Grown.run r h1 hr
      rwa [List.append_assoc] at this
    · rw [if_neg ha] at hr
      exact absurd hr ha
/-- All on a new disk. -/
theorem all_new {n : Nat} {i e : Int} {l : List (List UInt8)} {k : Int} (h : allE (List.replicate n []) [] i e l k = 0) : Grown n i e (takeA l k) ∧
    allBs (List.replicate n []) [] i e l k = (if fullB l k = true then layL (List.replicate n []) (recsW i e.toNat 0 (takeA l k)) else List.replicate n []) ∧
    allWs (List.replicate n []) [] i e l k = (if fullB l k = true then [] else recsW i e.toNat 0 (takeA l k)) ∧ allD (List.replicate n []) [] i e l k = fullB l k := by
  have hz : waE (List.replicate n []) [] i e = 0 := by
    by_cases hz : waE (List.replicate n []) [] i e = 0
    · exact hz
    · exfalso
      simp [allE, hz] at h
  have hr : (runA i e (takeA l k) (List.replicate n []) []).1 = 0 := by simpa [allE, hz] using h
  obtain ⟨h1, h2⟩ := Grown.run (takeA l k) (Grown.zero hz) hr
  rw [List.nil_append] at h1 h2
  refine ⟨h1, ?_, ?_, ?_⟩
  · rw [allBs, if_pos h, show (runA i e (takeA l k) (List.replicate n []) []).2.2 = _ from h2]
  · rw [allWs, if_pos h, show (runA i e (takeA l k) (List.replicate n []) []).2.2 = _ from h2]
  · simp [allD, h]

theorem lay_nil (bs : List (List UInt8)) : layL bs [] = bs := rfl
theorem crash_wal {n : Nat} {i e : Int} {l : List (List UInt8)} (h : Grown n i e l) (ks : List Bool) : walL (layL (List.replicate n []) (keptL (recsW i e.toNat 0 l) ks)) [] i e <+: l ∧ waE (layL (List.replicate n []) (keptL (recsW i e.toNat 0 l) ks)) [] i e = 0 := by
  have hn : n ≤ 200 := by have := (right_parts h.ws).2.1; simpa using this
  have h1 := tell_front e.toNat (by have := h.he; omega) l ((layL (List.replicate n []) (keptL (recsW i e.toNat 0 l) ks)).drop i.toNat) h.hs (by simp [layL_len]; omega) (says_kept n i h.hi.1 e.toNat l ks) _ 0 rfl
  rw [List.drop_zero, List.drop_zero, show ((e.toNat : Nat) : Int) = e by have := h.he; omega] at h1
  refine ⟨h1, wa_ok.2 ⟨right_lay h.ws (fun x hx => keptL_mem hx), h.he.1, h.he.2, h.hi.1, by rw [layL_len]; simpa using h.hi.2⟩⟩
theorem synced_wal {n : Nat} {i e : Int} {l : List (List UInt8)} (h : Grown n i e l) : walL (layL (List.replicate n []) (recsW i e.toNat 0 l)) [] i e = l ∧ waE (layL (List.replicate n []) (recsW i e.toNat 0 l)) [] i e = 0 := by
  have hn : n ≤ 200 := by have := (right_parts h.ws).2.1; simpa using this
  have h1 := h.wal
  refine ⟨h1, wa_ok.2 ⟨right_lay h.ws (fun x hx => hx), h.he.1, h.he.2, h.hi.1, by rw [layL_len]; simpa using h.hi.2⟩⟩

end Go.Proofs.YtcipdmdliobdmaaDoor

/-
  What the law file asks besides: far, front.
-/
namespace Go.Proofs.YtcipdmdliobdmaaDoor
open Go.RowKit

/-- Is something more than is looked at? -/
def wfarB (bs : List (List UInt8)) (ws : List Wr) (l : List (List UInt8)) : Bool :=
  (l.any fun s => decide (300 < s.length)) || ((bigB bs ws || (decide (20 < bs.length) && decide (bs.length ≤ 200))) || decide (30 < l.length))
theorem wfar_not {bs : List (List UInt8)} {ws : List Wr} {l : List (List UInt8)} (h : wfarB bs ws l = false) : l.length ≤ 30 ∧ bigB bs ws = false := by
  simp only [wfarB, Bool.or_eq_false_iff, decide_eq_false_iff_not] at h
  exact ⟨by omega, h.2.1.1⟩
theorem wfar_long {bs : List (List UInt8)} {ws : List Wr} {l : List (List UInt8)} {k : Nat} (hk : k < l.length) (h : 300 < l[k].length) : wfarB bs ws l = true := by
  have : (l.any fun s => decide (300 < s.length)) = true := List.any_eq_true.2 ⟨_, List.getElem_mem hk, by simpa using h⟩
  simp [wfarB, this]
theorem wfar_low {bs : List (List UInt8)} {ws : List Wr} {l : List (List UInt8)} (h2 : ∀ s ∈ l, ¬ 300 < s.length) : wfarB bs ws l = ((bigB bs ws || (decide (20 < bs.length) && decide (bs.length ≤ 200))) || decide (30 < l.length)) := by
  have : (l.any fun s => decide (300 < s.length)) = false := List.any_eq_false.2 (fun s hs => by simpa using h2 s hs)
  simp [wfarB, this]

set_option maxRecDepth 100000 in
set_option maxHeartbeats 8000000 in
theorem wfar_calls (vb vw v : Value) (bs : List (List UInt8)) (ws : List Wr) (l : List (List UInt8)) (w : World) (hb : Txts w vb bs) (hw : Wrs w vw ws) (hl : Txts w v l) (hlm : l.length ≤ maxLen) :
    Calls Tryd.prog 6 #[.agg #[vb, vw], v] w fun e w' => e = .returned (.bool (wfarB bs ws l)) ∧ Below w.heap.size w w' := by
  obtain ⟨ab, cb, rfl⟩ := hb.strs.form
  obtain ⟨aw, cw, rfl⟩ := hw.form
  obtain ⟨al, cl, rfl⟩ := hl.strs.form
  have hx0 := Bx.new w (.slice ab bs.length cb) (.slice aw ws.length cw)
  have hB0 := below_alloc w (.cells #[.slice ab bs.length cb, .slice aw ws.length cw] 25)
  have CB := big_calls _ _ bs ws _ (hb.below hB0) (hw.below hB0)
  have hl0 := hl.below hB0
  have hlm' : l.length ≤ 9223372036854775807 := by unfold maxLen at hlm; omega
  clear hb hw hlm
  have hcases : bigB bs ws = true ∨ (bigB bs ws = false ∧ bs.length ≤ 20) ∨ (bigB bs ws = false ∧ 20 < bs.length ∧ bs.length ≤ 200) ∨ (bigB bs ws = false ∧ 200 < bs.length) := by
    cases bigB bs ws with
    | true => exact .inl rfl
    | false => simp; omega
  go_enter Tryd.func6, Tryd.ntmps6
  go_wp2_with fail
  go_loop [5] (fun i => ∃ k : Nat, k ≤ l.length ∧ i = .int .i64 k ∧ (∀ s ∈ l.take k, ¬ 300 < s.length)) (fun i => l.length - (intOf i).toNat)
  case atStart => exact ⟨0, Nat.zero_le _, rfl, by simp⟩
  case round =>
    obtain ⟨k, hk, rfl, hno⟩ := hrel
    by_cases hlt : k < l.length
    · obtain ⟨b, off, hat, hcell⟩ := hl0.strs.at hlt
      subst hat
      have hbl := World.block_lt_of_cell? _ _ hcell
      by_cases h3 : 300 < l[k].length
      · have HF := Lib.hid (wfar_long (bs := bs) (ws := ws) hlt h3)
        generalize l[k] = s at hcell h3
        have d3 : decide ((300 : Int) < (s.length : Int)) = true := by simp; omega
        clear hno CB hcases h3
        go_wp2_with fail
        go_ret
        exact ⟨by rw [HF.out]; rfl, hB0⟩
      · have HN : Hid (∀ s ∈ l.take (k + 1), ¬ 300 < s.length) := Lib.hid (by
          rw [List.take_succ_eq_append_getElem hlt]
          intro s hs
          rcases List.mem_append.1 hs with q | q
          · exact hno s q
          · obtain rfl := List.mem_singleton.1 q
            exact h3)
        generalize l[k] = s at hcell h3
        have d3 : decide ((300 : Int) < (s.length : Int)) = false := by simp; omega
        clear hno CB hcases h3
        go_wp2_with fail
        go_round
        case rel => exact ⟨k + 1, by omega, by go_num, HN.out⟩
        case measure => simp [intOf]; omega
    · obtain rfl : k = l.length := by omega
      rw [List.take_length] at hno
      have HL := Lib.hid (wfar_low (bs := bs) (ws := ws) hno)
      clear hno
      by_cases h30 : 30 < l.length
      · have d30 : decide ((30 : Int) < (l.length : Int)) = true := by simp; omega
        have HR := Lib.hid (show wfarB bs ws l = true by rw [HL.out]; simp [h30])
        rcases hcases with hB | ⟨hB, h20⟩ | ⟨hB, h20, h200⟩ | ⟨hB, h200⟩
        · rw [hB] at CB
          have K := Lib.hid CB
          clear CB hB
          go_wp2_with fail
          refine K.out.mono ?_
          rintro e w1 ⟨rfl, hB1⟩
          obtain ⟨f0, f1, ff0, ff1, fl⟩ := (hx0.below hB1).cells
          go_wp2_with fail
          go_ret
          exact ⟨by rw [HR.out]; rfl, below2 hB0 hB1⟩
        · rw [hB] at CB
          have d1 : decide ((20 : Int) < bs.length) = false := by simp; omega
          have K := Lib.hid CB
          clear CB hB
          go_wp2_with fail
          refine K.out.mono ?_
          rintro e w1 ⟨rfl, hB1⟩
          obtain ⟨f0, f1, ff0, ff1, fl⟩ := (hx0.below hB1).cells
          go_wp2_with fail
          go_ret
          exact ⟨by rw [HR.out]; rfl, below2 hB0 hB1⟩
        · rw [hB] at CB
          have d1 : decide ((20 : Int) < bs.length) = true := by simp; omega
          have d2 : decide ((bs.length : Int) ≤ 200) = true := by simp; omega
          have K := Lib.hid CB
          clear CB hB
          go_wp2_with fail
          refine K.out.mono ?_
          rintro e w1 ⟨rfl, hB1⟩
          obtain ⟨f0, f1, ff0, ff1, fl⟩ := (hx0.below hB1).cells
          go_wp2_with fail
          go_ret
          exact ⟨by rw [HR.out]; rfl, below2 hB0 hB1⟩
        · rw [hB] at CB
          have d1 : decide ((20 : Int) < bs.length) = true := by simp; omega
          have d2 : decide ((bs.length : Int) ≤ 200) = false := by simp; omega
          have K := Lib.hid CB
          clear CB hB
          go_wp2_with fail
          refine K.out.mono ?_
          rintro e w1 ⟨rfl, hB1⟩
          obtain ⟨f0, f1, ff0, ff1, fl⟩ := (hx0.below hB1).cells
          go_wp2_with fail
          go_ret
          exact ⟨by rw [HR.out]; rfl, below2 hB0 hB1⟩
      · have d30 : decide ((30 : Int) < (l.length : Int)) = false := by simp; omega
        have d30' : decide (30 < l.length) = false := by simp; omega
        rcases hcases with hB | ⟨hB, h20⟩ | ⟨hB, h20, h200⟩ | ⟨hB, h200⟩
        · have HR := Lib.hid (show wfarB bs ws l = true by rw [HL.out, hB]; rfl)
          rw [hB] at CB
          have K := Lib.hid CB
          clear CB hB d30'
          go_wp2_with fail
          refine K.out.mono ?_
          rintro e w1 ⟨rfl, hB1⟩
          obtain ⟨f0, f1, ff0, ff1, fl⟩ := (hx0.below hB1).cells
          go_wp2_with fail
          go_ret
          exact ⟨by rw [HR.out]; rfl, below2 hB0 hB1⟩
        · have d1 : decide ((20 : Int) < bs.length) = false := by simp; omega
          have HR := Lib.hid (show wfarB bs ws l = false by rw [HL.out, hB, d30', show decide (20 < bs.length) = false by simp; omega]; rfl)
          rw [hB] at CB
          have K := Lib.hid CB
          clear CB hB d30'
          go_wp2_with fail
          refine K.out.mono ?_
          rintro e w1 ⟨rfl, hB1⟩
          obtain ⟨f0, f1, ff0, ff1, fl⟩ := (hx0.below hB1).cells
          go_wp2_with fail
          go_ret
          exact ⟨by rw [HR.out]; rfl, below2 hB0 hB1⟩
        · have d1 : decide ((20 : Int) < bs.length) = true := by simp; omega
          have d2 : decide ((bs.length : Int) ≤ 200) = true := by simp; omega
          have HR := Lib.hid (show wfarB bs ws l = true by rw [HL.out, hB]; simp [h20, h200])
          rw [hB] at CB
          have K := Lib.hid CB
          clear CB hB d30'
          go_wp2_with fail
          refine K.out.mono ?_
          rintro e w1 ⟨rfl, hB1⟩
          obtain ⟨f0, f1, ff0, ff1, fl⟩ := (hx0.below hB1).cells
          go_wp2_with fail
          go_ret
          exact ⟨by rw [HR.out]; rfl, below2 hB0 hB1⟩
        · have d1 : decide ((20 : Int) < bs.length) = true := by simp; omega
          have d2 : decide ((bs.length : Int) ≤ 200) = false := by simp; omega
          have HR := Lib.hid (show wfarB bs ws l = false by rw [HL.out, hB, d30', show decide (bs.length ≤ 200) = false by simp; omega]; simp)
          rw [hB] at CB
          have K := Lib.hid CB
          clear CB hB d30'
          go_wp2_with fail
          refine K.out.mono ?_
          rintro e w1 ⟨rfl, hB1⟩
          obtain ⟨f0, f1, ff0, ff1, fl⟩ := (hx0.below hB1).cells
          go_wp2_with fail
          go_ret
          exact ⟨by rw [HR.out]; rfl, below2 hB0 hB1⟩

end Go.Proofs.YtcipdmdliobdmaaDoor

/-
  wal: check, copied, and records up to its closure.
-/
namespace Go.Proofs.YtcipdmdliobdmaaDoor
open Go.RowKit

set_option maxRecDepth 100000 in
set_option maxHeartbeats 2000000 in
theorem wacheck_calls (vb vw : Value) (bs : List (List UInt8)) (ws : List Wr) (i e : Int) (w : World) (hb : Txts w vb bs) (hw : Wrs w vw ws) :
    Calls Tryd.prog 24 #[.agg #[vb, vw], .int .i64 i, .int .i64 e] w fun e' w' => e' = .returned (.int .i64 (waE bs ws i e)) ∧ Below w.heap.size w w' := by
  obtain ⟨ab, cb, rfl⟩ := hb.strs.form
  obtain ⟨aw, cw, rfl⟩ := hw.form
  have hx0 := Bx.new w (.slice ab bs.length cb) (.slice aw ws.length cw)
  have hB0 := below_alloc w (.cells #[.slice ab bs.length cb, .slice aw ws.length cw] 25)
  have C1 := check_calls _ _ bs ws _ (hb.below hB0) (hw.below hB0)
  cases hR : rightB bs ws with
  | false =>
    have E := Lib.hid (show waE bs ws i e = 1 by simp [waE, hR])
    rw [hR] at C1
    have K := Lib.hid C1
    clear C1 hR
    go_enter Tryd.func24, Tryd.ntmps24
    go_wp2_with fail
    refine K.out.mono ?_
    rintro e w1 ⟨rfl, hB1⟩
    go_wp2_with fail
    go_ret
    exact ⟨by rw [E.out]; rfl, below2 hB0 hB1⟩
  | true =>
    have hR' := Lib.hid hR
    rw [hR] at C1
    have K := Lib.hid C1
    clear C1 hR
    by_cases h1 : e < 0
    · have d1 : decide (e < 0) = true := by simp [h1]
      have E := Lib.hid (show waE bs ws i e = 1 by unfold waE; rw [if_neg (by omega)])
      go_enter Tryd.func24, Tryd.ntmps24
      go_wp2_with fail
      refine K.out.mono ?_
      rintro e w1 ⟨rfl, hB1⟩
      go_wp2_with fail
      go_ret
      exact ⟨by rw [E.out]; rfl, below2 hB0 hB1⟩
    · have d1 : decide (e < 0) = false := by simp; omega
      by_cases h2 : 1000000000 < e
      · have d2 : decide (1000000000 < e) = true := by simp [h2]
        have E := Lib.hid (show waE bs ws i e = 1 by unfold waE; rw [if_neg (by omega)])
        go_enter Tryd.func24, Tryd.ntmps24
        go_wp2_with fail
        refine K.out.mono ?_
        rintro e w1 ⟨rfl, hB1⟩
        go_wp2_with fail
        go_ret
        exact ⟨by rw [E.out]; rfl, below2 hB0 hB1⟩
      · have d2 : decide (1000000000 < e) = false := by simp; omega
        by_cases h3 : i < 0
        · have d3 : decide (i < 0) = true := by simp [h3]
          have E := Lib.hid (show waE bs ws i e = 40 by
            unfold waE
            rw [if_pos ⟨hR'.out, by omega, by omega⟩, if_neg (by simp [hasB]; omega)])
          go_enter Tryd.func24, Tryd.ntmps24
          go_wp2_with fail
          refine K.out.mono ?_
          rintro e w1 ⟨rfl, hB1⟩
          obtain ⟨p0, p1, _⟩ := (hx0.below hB1).cells
          go_wp2_with fail
          go_ret
          exact ⟨by rw [E.out]; rfl, below2 hB0 hB1⟩
        · have d3 : decide (i < 0) = false := by simp; omega
          by_cases h4 : (bs.length : Int) ≤ i
          · have d4 : decide ((bs.length : Int) ≤ i) = true := by simp [h4]
            have E := Lib.hid (show waE bs ws i e = 40 by
              unfold waE
              rw [if_pos ⟨hR'.out, by omega, by omega⟩, if_neg (by simp [hasB]; omega)])
            go_enter Tryd.func24, Tryd.ntmps24
            go_wp2_with fail
            refine K.out.mono ?_
            rintro e w1 ⟨rfl, hB1⟩
            obtain ⟨p0, p1, _⟩ := (hx0.below hB1).cells
            go_wp2_with fail
            go_ret
            exact ⟨by rw [E.out]; rfl, below2 hB0 hB1⟩
          · have d4 : decide ((bs.length : Int) ≤ i) = false := by simp; omega
            have E := Lib.hid (show waE bs ws i e = 0 by
              unfold waE
              rw [if_pos ⟨hR'.out, by omega, by omega⟩, if_pos (by simp [hasB]; omega)])
            go_enter Tryd.func24, Tryd.ntmps24
            go_wp2_with fail
            refine K.out.mono ?_
            rintro e w1 ⟨rfl, hB1⟩
            obtain ⟨p0, p1, _⟩ := (hx0.below hB1).cells
            go_wp2_with fail
            go_ret
            exact ⟨by rw [E.out]; rfl, below2 hB0 hB1⟩

set_option maxHeartbeats 1000000 in
theorem records_calls (vb vw : Value) (i e : Int) (w : World) :
    Calls Tryd.prog 25 #[.agg #[vb, vw], .int .i64 i, .int .i64 e] w fun e' w' => e' = .returned (.func (.func 41) #[] #[.pointer (some ⟨w.heap.size, 0, none⟩), .pointer (some ⟨w.heap.size + 1, 0, none⟩), .pointer (some ⟨w.heap.size + 1 + 1, 0, none⟩)]) ∧
      Bx w' w.heap.size vb vw ∧ Boxed w' (w.heap.size + 1) 3 (.int .i64 i) ∧ Boxed w' (w.heap.size + 1 + 1) 3 (.int .i64 e) ∧ Below w.heap.size w w' := by
  go_enter Tryd.func25, Tryd.ntmps25
  go_wp2_with fail
  go_ret
  have h1 := Bx.new w vb vw
  have h2 := Boxed.new (w.alloc (.cells #[vb, vw] 25)) 3 (.int .i64 i)
  have h3 := Boxed.new ((w.alloc (.cells #[vb, vw] 25)).alloc (.cells #[.int .i64 i] 3)) 3 (.int .i64 e)
  rw [World.size_alloc] at h2
  rw [World.size_alloc, World.size_alloc] at h3
  exact ⟨rfl, (h1.below (below_alloc _ _)).below (below_alloc _ _), h2.alloc _, h3, (below_alloc2 w _ _).alloc (by simp; omega) _⟩

set_option maxRecDepth 100000 in
set_option maxHeartbeats 4000000 in
theorem wacopied_calls (vb vw : Value) (bs : List (List UInt8)) (ws : List Wr) (w : World) (hb : Txts w vb bs) (hw : Wrs w vw ws) (hbl : bs.length ≤ 1000) (hwl : ws.length ≤ 1000) :
    Calls Tryd.prog 33 #[.agg #[vb, vw]] w fun e w' => ∃ vb' vw', e = .returned (.agg #[vb', vw']) ∧ OwnD w' w.heap.size vb' bs vw' ws ∧ Below w.heap.size w w' := by
  obtain ⟨i9, hi9, ht0, ht1, ht2⟩ := info_parts info9
  obtain ⟨i0, hi, hz0, hz1, hz2⟩ := info_parts infoW
  obtain ⟨ab, cb, rfl⟩ := hb.strs.form
  obtain ⟨aw, cw, rfl⟩ := hw.form
  obtain ⟨hx0, hr0, hB0⟩ := entry2 w (.slice ab bs.length cb) (.slice aw ws.length cw)
  have HX := Lib.hid (fun (W : World) (hB : Below w.heap.size w W) => (And.intro (Rw.txts (hb.below hB)) (hw.below hB)))
  clear hb hw
  go_enter Tryd.func33, Tryd.ntmps33
  go_wp2_with fail
  obtain ⟨p0, p1, pf0, pf1, pl⟩ := hx0.cells
  go_region_law (first
    | (refine step_append_nil rfl (.const (.slice none 0 0)) (.tmp 4) 22 rfl (w.heap.size + 2) 9 i9 (.string ⟨#[]⟩) 1 16 Tryd.underlying22 hi9 ht0 ht1 ht2 rfl (by decide) rfl ab bs.length cb (bs.map SV) (by simp [Act.eval]) (HX.out _ (below2 hB0 (drew_below _))).1 (texts_one bs) hbl (by omega) (by simp) ?_; intro a1 c1 w1 ho1 hB1; have hBB1 := below3 hB0 (drew_below _) hB1; have hx1 := (hx0.below (drew_below _)).below hB1; have hr1 := (hr0.below (drew_below _)).below hB1; obtain ⟨p10, p11, pf10, pf11, pl1⟩ := hx1.cells; have hzw : w.heap.size + 2 ≤ w1.heap.size := (by have := hB1.size; simp at this; omega))
    | (refine step_append_nil rfl (.const (.slice none 0 0)) (.tmp 7) 23 rfl (w.heap.size + 2) 63 i0 (.agg #[.int .i64 0, .string ⟨#[]⟩]) 2 24 Tryd.underlying23 hi hz0 hz1 hz2 rfl (by decide) rfl aw ws.length cw (wcells ws) (by simp [Act.eval]) (HX.out _ hBB1).2 (wcells_one ws) hwl (by omega) hzw ?_; intro a2 c2 w2 ho2 hB2; have hBB2 := below2 hBB1 hB2; have hx2 := hx1.below hB2; have hr2 := hr1.below hB2; have hoo := own_stays ho1 hB2; obtain ⟨q20, q21, qf20, qf21, ql2⟩ := hr2.cells))
  all_goals
    go_wp2_with fail
    obtain ⟨r1, r2⟩ := ret_own (w := w) (x := .slice a1 bs.length c1) (y := .slice a2 ws.length c2) (show OwnD w2 (w.heap.size + 2) (.slice a1 bs.length c1) bs (.slice a2 ws.length c2) ws from ⟨hoo, ho2⟩) (Nat.le_refl _) hBB2
    have hr3 := bx_set hr2 (.slice a1 bs.length c1) (.slice a2 ws.length c2)
    refine ret_disk (p := 2) (by kernel_rfl) rfl (w.heap.size + 1) _ _ rfl hr3.cells.1 hr3.cells.2.1 ?_
    exact ⟨_, _, rfl, r1, r2⟩

end Go.Proofs.YtcipdmdliobdmaaDoor

/-
  wal: hear (what a block says).
-/
namespace Go.Proofs.YtcipdmdliobdmaaDoor
open Go.RowKit

theorem rec_agg (w : World) : (isAgg 53).run Tryd.prog w = .ok true w := by simp [isAgg, run_underlying Tryd.underlying53]
theorem rec_size : (Tryd.prog.info? 53).map (·.size) = some 3 := by kernel_rfl
/-- A record and a bool are what comes out of a call. -/
theorem ret_rec2 {fn : Func} {p q : Tmp} {R : Ending → World → Prop} {a : Act} {w : World} (h : fn.results = #[.cell p 53, .tmp q]) (hd : a.defers = []) (g : Nat) (t : TypeId) (v0 v1 v2 x : Value)
    (hp : a.tmps.getD p undef = .pointer (some ⟨g, 0, none⟩)) (hq : a.tmps.getD q undef = x) (hc : w.heap[g]? = some (.cells #[v0, v1, v2] t (0, 0))) (hR : R (.returned (.tuple #[.agg #[v0, v1, v2], x])) w) : bodyPost Tryd.prog fn R .ret a w := by
  refine bodyPost_ret (v := .tuple #[.agg #[v0, v1, v2], x]) ?_ hd hR
  have hp' : a.tmps[p]?.getD undef = .pointer (some ⟨g, 0, none⟩) := by simpa using hp
  have hq' : a.tmps[q]?.getD undef = x := by simpa using hq
  have hl := load_many (cs := [v0, v1, v2]) (rec_agg w) rec_size (cells_box (cs := [v0, v1, v2]) hc)
  simp [results, h, hp', hq', asAddr, hl]
/-- A record as the program's struct. -/
def recV (a b : Int) (x : List UInt8) : Value := .agg #[.int .i64 a, .int .i64 b, .string ⟨x.toArray⟩]
/-- What a block says, as what comes out of hear. -/
def hearV : Option (Nat × Nat × List UInt8) → Value
  | some (a, b, x) => .tuple #[recV a b x, .bool true]
  | none => .tuple #[recV 0 0 [], .bool false]

set_option maxRecDepth 100000 in
set_option maxHeartbeats 2000000 in
theorem hearR_calls (s : List UInt8) (hm : s.length ≤ 4611686018427387904) (w : World) (hT : TabOk w) :
    Calls Tryd.prog 43 #[.string ⟨s.toArray⟩] w fun e w' => e = .returned (hearV (hearR s)) ∧ Below w.heap.size w w' := by
  have hx0 := Cx.new w 53 [.int .i64 0, .int .i64 0, .string ⟨#[]⟩]
  have hB0 := below_alloc w (.cells #[.int .i64 0, .int .i64 0, .string ⟨#[]⟩] 53)
  have hT1 := hT.below hB0
  cases hg : getF s with
  | none =>
    have E := Lib.hid (show hearR s = none by simp [hearR, hg])
    have G := Lib.hid hg
    clear hg
    go_enter Tryd.func43, Tryd.ntmps43
    go_wp2_with fail
    refine (get_none s hm G.out _ hT1).mono ?_
    rintro e w1 ⟨rfl, hB1⟩
    have hx1 := hx0.below hB1
    obtain ⟨c0, c1, c2, f0, f1, f2, hlt⟩ := hx1.three
    go_wp2_with fail
    have hx2 := ((hx1.set 0 (.int .i64 0)).set 1 (.int .i64 0)).set 2 (.string ⟨#[]⟩)
    refine ret_rec2 (p := 2) (q := 3) (by kernel_rfl) rfl w.heap.size 53 (.int .i64 0) (.int .i64 0) (.string ⟨#[]⟩) (.bool false) rfl rfl hx2 ?_
    exact ⟨by rw [E.out]; rfl, (((below2 hB0 hB1).setCell (by simp) _).setCell (by simp) _).setCell (by simp) _⟩
  | some x =>
    obtain ⟨t, r⟩ := x
    have hb := getF_bounds hg
    have G := Lib.hid hg
    by_cases hr : r = []
    · subst hr
      cases hn : getN t with
      | none =>
        have E := Lib.hid (show hearR s = none by simp [hearR, hg, hn])
        have N := Lib.hid hn
        clear hg hn
        go_enter Tryd.func43, Tryd.ntmps43
        go_wp2_with fail
        refine (get_some s hm G.out _ hT1).mono ?_
        rintro e w1 ⟨rfl, hB1⟩
        go_wp2_with fail
        refine (GetNumber_none t (by omega) N.out _).mono ?_
        rintro e w2 ⟨rfl, hB2⟩
        have hx1 := (hx0.below hB1).below hB2
        obtain ⟨c0, c1, c2, f0, f1, f2, hlt⟩ := hx1.three
        go_wp2_with fail
        have hx2 := ((hx1.set 0 (.int .i64 0)).set 1 (.int .i64 0)).set 2 (.string ⟨#[]⟩)
        refine ret_rec2 (p := 2) (q := 3) (by kernel_rfl) rfl w.heap.size 53 (.int .i64 0) (.int .i64 0) (.string ⟨#[]⟩) (.bool false) rfl rfl hx2 ?_
        exact ⟨by rw [E.out]; rfl, (((below3 hB0 hB1 hB2).setCell (by simp) _).setCell (by simp) _).setCell (by simp) _⟩
      | some y =>
        obtain ⟨n, m⟩ := y
        have hnb := getN_bounds hn
        have N := Lib.hid hn
        cases hq : getN m with
        | none =>
          have E := Lib.hid (show hearR s = none by simp [hearR, hg, hn, hq])
          have M := Lib.hid hq
          clear hg hn hq
          go_enter Tryd.func43, Tryd.ntmps43
          go_wp2_with fail
          refine (get_some s hm G.out _ hT1).mono ?_
          rintro e w1 ⟨rfl, hB1⟩
          go_wp2_with fail
          refine (GetNumber_some t (by omega) N.out _).mono ?_
          rintro e w2 ⟨rfl, hB2⟩
          go_wp2_with fail
          refine (GetNumber_none m (by omega) M.out _).mono ?_
          rintro e w3 ⟨rfl, hB3⟩
          have hx1 := ((hx0.below hB1).below hB2).below hB3
          obtain ⟨c0, c1, c2, f0, f1, f2, hlt⟩ := hx1.three
          go_wp2_with fail
          have hx2 := ((hx1.set 0 (.int .i64 0)).set 1 (.int .i64 0)).set 2 (.string ⟨#[]⟩)
          refine ret_rec2 (p := 2) (q := 3) (by kernel_rfl) rfl w.heap.size 53 (.int .i64 0) (.int .i64 0) (.string ⟨#[]⟩) (.bool false) rfl rfl hx2 ?_
          exact ⟨by rw [E.out]; rfl, (((below2 (below3 hB0 hB1 hB2) hB3).setCell (by simp) _).setCell (by simp) _).setCell (by simp) _⟩
        | some z =>
          obtain ⟨p, x⟩ := z
          have M := Lib.hid hq
          by_cases hx : x.length ≤ 200
          · have d : decide ((200 : Int) < x.length) = false := by simp; omega
            have E := Lib.hid (show hearR s = some (n, p, x) by simp [hearR, hg, hn, hq, hx])
            clear hg hn hq
            go_enter Tryd.func43, Tryd.ntmps43
            go_wp2_with fail
            refine (get_some s hm G.out _ hT1).mono ?_
            rintro e w1 ⟨rfl, hB1⟩
            go_wp2_with fail
            refine (GetNumber_some t (by omega) N.out _).mono ?_
            rintro e w2 ⟨rfl, hB2⟩
            go_wp2_with fail
            refine (GetNumber_some m (by omega) M.out _).mono ?_
            rintro e w3 ⟨rfl, hB3⟩
            have hx1 := ((hx0.below hB1).below hB2).below hB3
            obtain ⟨c0, c1, c2, f0, f1, f2, hlt⟩ := hx1.three
            go_wp2_with fail
            have hx2 := ((hx1.set 0 (.int .i64 (n : Int))).set 1 (.int .i64 (p : Int))).set 2 (.string ⟨x.toArray⟩)
            refine ret_rec2 (p := 2) (q := 3) (by kernel_rfl) rfl w.heap.size 53 (.int .i64 (n : Int)) (.int .i64 (p : Int)) (.string ⟨x.toArray⟩) (.bool true) rfl rfl hx2 ?_
            exact ⟨by rw [E.out]; rfl, (((below2 (below3 hB0 hB1 hB2) hB3).setCell (by simp) _).setCell (by simp) _).setCell (by simp) _⟩
          · have d : decide ((200 : Int) < x.length) = true := by simp; omega
            have E := Lib.hid (show hearR s = none by simp [hearR, hg, hn, hq, hx])
            clear hg hn hq
            go_enter Tryd.func43, Tryd.ntmps43
            go_wp2_with fail
            refine (get_some s hm G.out _ hT1).mono ?_
            rintro e w1 ⟨rfl, hB1⟩
            go_wp2_with fail
            refine (GetNumber_some t (by omega) N.out _).mono ?_
            rintro e w2 ⟨rfl, hB2⟩
            go_wp2_with fail
            refine (GetNumber_some m (by omega) M.out _).mono ?_
            rintro e w3 ⟨rfl, hB3⟩
            have hx1 := ((hx0.below hB1).below hB2).below hB3
            obtain ⟨c0, c1, c2, f0, f1, f2, hlt⟩ := hx1.three
            go_wp2_with fail
            have hx2 := ((hx1.set 0 (.int .i64 0)).set 1 (.int .i64 0)).set 2 (.string ⟨#[]⟩)
            refine ret_rec2 (p := 2) (q := 3) (by kernel_rfl) rfl w.heap.size 53 (.int .i64 0) (.int .i64 0) (.string ⟨#[]⟩) (.bool false) rfl rfl hx2 ?_
            exact ⟨by rw [E.out]; rfl, (((below2 (below3 hB0 hB1 hB2) hB3).setCell (by simp) _).setCell (by simp) _).setCell (by simp) _⟩
    · have hrb : (r == []) = false := by simp [hr]
      have E := Lib.hid (show hearR s = none by simp [hearR, hg, hr])
      clear hg hr
      go_enter Tryd.func43, Tryd.ntmps43
      go_wp2_with fail
      refine (get_some s hm G.out _ hT1).mono ?_
      rintro e w1 ⟨rfl, hB1⟩
      have hx1 := hx0.below hB1
      obtain ⟨c0, c1, c2, f0, f1, f2, hlt⟩ := hx1.three
      go_wp2_with fail
      have hx2 := ((hx1.set 0 (.int .i64 0)).set 1 (.int .i64 0)).set 2 (.string ⟨#[]⟩)
      refine ret_rec2 (p := 2) (q := 3) (by kernel_rfl) rfl w.heap.size 53 (.int .i64 0) (.int .i64 0) (.string ⟨#[]⟩) (.bool false) rfl rfl hx2 ?_
      exact ⟨by rw [E.out]; rfl, (((below2 hB0 hB1).setCell (by simp) _).setCell (by simp) _).setCell (by simp) _⟩

end Go.Proofs.YtcipdmdliobdmaaDoor

/-
  wal.records: the iterator tells a log's records, one by one.
-/
namespace Go.Proofs.YtcipdmdliobdmaaDoor
open Go.RowKit Go.Shelf
attribute [local go_sem] Oper.semAt_some

/-- What a round is handed. -/
def encR (e : Int) (x : Nat × List UInt8) : Array Value := #[.agg #[.int .i64 e, .int .i64 (x.1 : Int), .string ⟨x.2.toArray⟩]]
theorem read_says {bs : List (List UInt8)} {ws : List Wr} {i e : Int} (h : waE bs ws i e = 0) {k : Nat} (hk : k < (logD bs ws i).length) : readE bs ws (i + k) = 0 ∧ readT bs ws (i + k) = (logD bs ws i)[k] := by
  obtain ⟨h1, _, _, h4, h5⟩ := wa_ok.1 h
  have hl := logD_len bs ws i
  have e0 : readE bs ws (i + k) = 0 := read_ok.2 ⟨h1, hasB_iff.2 (by omega)⟩
  refine ⟨e0, ?_⟩
  rw [readT, if_pos e0, logD_at h4 hk]
theorem lay_small {bs : List (List UInt8)} {ws : List Wr} (h : rightB bs ws = true) : ∀ s ∈ layL bs ws, s.length ≤ 256 := by
  have h1 := right_lay (xs := ws) h (fun x hx => hx)
  have := (right_parts h1).2.2.2.1
  exact this
theorem logD_small {bs : List (List UInt8)} {ws : List Wr} {i : Int} (h : rightB bs ws = true) {k : Nat} (hk : k < (logD bs ws i).length) : ((logD bs ws i)[k]).length ≤ 256 :=
  lay_small h _ (List.mem_of_mem_drop (List.getElem_mem hk))

/-- What the iterator reads: its three boxes; what lay at the function's beginning. -/
def Tl (w0 : World) (Bd Bi Be : Nat) (vb vw : Value) (i e : Int) (W : World) : Prop :=
  Below w0.heap.size w0 W ∧ Bx W Bd vb vw ∧ Boxed W Bi 3 (.int .i64 i) ∧ Boxed W Be 3 (.int .i64 e)
/-- What a round keeps. -/
def Tk (n0 Bd Bi Be : Nat) (A B : World) : Prop := Below n0 A B ∧ B.heap[Bd]? = A.heap[Bd]? ∧ B.heap[Bi]? = A.heap[Bi]? ∧ B.heap[Be]? = A.heap[Be]?
theorem Tk.trans {n0 Bd Bi Be : Nat} {A B C : World} (h : Tk n0 Bd Bi Be A B) (k : Tk n0 Bd Bi Be B C) : Tk n0 Bd Bi Be A C :=
  ⟨h.1.trans k.1, Eq.trans k.2.1 h.2.1, Eq.trans k.2.2.1 h.2.2.1, Eq.trans k.2.2.2 h.2.2.2⟩
theorem Tk.putObj {n0 Bd Bi Be : Nat} {w : World} (h0 : n0 ≤ w.heap.size) (hd : Bd < w.heap.size) (hi : Bi < w.heap.size) (he : Be < w.heap.size) (W : World) (l : Nat) (o o' : Obj) (hl : w.heap.size ≤ l) (h : W.heap[l]? = some o) (h1 : o.isCells = false) (h2 : o.isWalk = false) : Tk n0 Bd Bi Be W (W.putObj l o') :=
  ⟨belowK_b h0 W l o o' hl h h1 h2, World.putObj_heap_other (by omega), World.putObj_heap_other (by omega), World.putObj_heap_other (by omega)⟩
theorem Tl.kept {w0 : World} {Bd Bi Be : Nat} {vb vw : Value} {i e : Int} {A B : World} (h : Tl w0 Bd Bi Be vb vw i e A) (k : Tk w0.heap.size Bd Bi Be A B) : Tl w0 Bd Bi Be vb vw i e B :=
  ⟨h.1.trans k.1, Eq.trans k.2.1 h.2.1, Eq.trans k.2.2.1 h.2.2.1, Eq.trans k.2.2.2 h.2.2.2⟩
theorem Tl.below {w0 : World} {Bd Bi Be : Nat} {vb vw : Value} {i e : Int} {A B : World} (h : Tl w0 Bd Bi Be vb vw i e A) (k : Below A.heap.size A B) : Tl w0 Bd Bi Be vb vw i e B :=
  ⟨h.1.trans (k.mono h.1.size), h.2.1.below k, boxed_below h.2.2.1 k, boxed_below h.2.2.2 k⟩
theorem Tl.nc {w0 : World} {Bd Bi Be : Nat} {vb vw : Value} {i e : Int} {W W' : World} {row : Option Nat} (h : Tl w0 Bd Bi Be vb vw i e W) (hg : W.grownBy W' row) (hr : ∀ r, row = some r → w0.heap.size ≤ r ∧ ∃ o : Obj, W.heap[r]? = some o ∧ o.isCells = false) : Tl w0 Bd Bi Be vb vw i e W' :=
  ⟨h.1.grown hg h.1.size (fun j e => (hr j e).1), bx_nc h.2.1 hg (fun r e => (hr r e).2), boxed_nc h.2.2.1 hg (fun r e => (hr r e).2), boxed_nc h.2.2.2 hg (fun r e => (hr r e).2)⟩
theorem Tl.from {α : Type} {w0 : World} {Bd Bi Be : Nat} {vb vw : Value} {i e : Int} {B : Nat} (hB : w0.heap.size ≤ B) : OwnFrom B (fun (_ : α) W => Tl w0 Bd Bi Be vb vw i e W) :=
  fun _ _ _ _ h hg hr => h.nc hg (fun r e => ⟨Nat.le_trans hB (hr r e).1, (hr r e).2⟩)
theorem Tk.below {n0 Bd Bi Be : Nat} {A B : World} (h : Below A.heap.size A B) (h0 : n0 ≤ A.heap.size) (hd : Bd < A.heap.size) (hi : Bi < A.heap.size) (he : Be < A.heap.size) : Tk n0 Bd Bi Be A B :=
  ⟨h.mono h0, h.block _ hd, h.block _ hi, h.block _ he⟩
/-- A round that appends to a row of the call's own, and lays it in its box. -/
theorem Tl.appended {w0 : World} {Bd Bi Be Bl k : Nat} {vb vw v v' : Value} {i e : Int} {el : TypeId} {xs : List Value} {A B C : World} (h : Tl w0 Bd Bi Be vb vw i e A) (hAB : Below A.heap.size A B) (hrow : B.ownsRow w0.heap.size el 1 v k xs) (hgrow : B.grownBy C v.ownBlock)
    (h1 : el ≠ 25) (h2 : 3 ≠ el) (hd : Bd ≠ Bl) (hi : Bi ≠ Bl) (he : Be ≠ Bl) (hlow : Below w0.heap.size A (C.setCell ⟨Bl, 0, none⟩ v')) :
    Tl w0 Bd Bi Be vb vw i e (C.setCell ⟨Bl, 0, none⟩ v') ∧ Tk w0.heap.size Bd Bi Be A (C.setCell ⟨Bl, 0, none⟩ v') := by
  have hb := h.below hAB
  have k1 : Bx (C.setCell ⟨Bl, 0, none⟩ v') Bd vb vw := bx_one (hb.2.1.kept hgrow (hb.2.1.not_row hrow h1)) hd _
  have k2 : Boxed (C.setCell ⟨Bl, 0, none⟩ v') Bi 3 (.int .i64 i) := (hb.2.2.1.kept hgrow (hb.2.2.1.not_row h2 hrow)).other hi _
  have k3 : Boxed (C.setCell ⟨Bl, 0, none⟩ v') Be 3 (.int .i64 e) := (hb.2.2.2.kept hgrow (hb.2.2.2.not_row h2 hrow)).other he _
  exact ⟨⟨h.1.trans hlow, k1, k2, k3⟩, hlow, Eq.trans k1 h.2.1.symm, Eq.trans k2 h.2.2.1.symm, Eq.trans k3 h.2.2.2.symm⟩

set_option maxRecDepth 100000 in
set_option maxHeartbeats 4000000 in
theorem tell_in (n : Nat) (hn : 2 ≤ n) (y Bd Bi Be : Nat) (vb vw : Value) (bs : List (List UInt8)) (ws : List Wr) (i e : Int) (w : World) (hb : Txts w vb bs) (hw : Wrs w vw ws) (hT : TabOk w)
    (hwa : waE bs ws i e = 0) (J Jx : List (Nat × List UInt8) → World → Prop) (W : World) (hJ : AbidesFrom W.heap.size J)
    (hY : ∀ pre x W, J pre W → pre.length < 200 → YieldAt Fence.wide (n - 1) Tryd.prog y (encR e x) W fun e' W' =>
      (e' = .returned (.bool true) ∧ J (pre ++ [x]) W' ∧ Tk w.heap.size Bd Bi Be W W') ∨ (e' = .returned (.bool false) ∧ Jx (pre ++ [x]) W'))
    (hB : Tl w Bd Bi Be vb vw i e W) (h0 : J [] W) :
    CallsIn Fence.wide n Tryd.prog 41 #[.func (.yield y) #[] #[], .pointer (some ⟨Bd, 0, none⟩), .pointer (some ⟨Bi, 0, none⟩), .pointer (some ⟨Be, 0, none⟩)] W fun e' W' => (∃ v, e' = .returned v) ∧
      ((∃ ys, ys = tellL e 0 (logD bs ws i) ∧ J ys W') ∨ (∃ pre, pre <+: tellL e 0 (logD bs ws i) ∧ Jx pre W')) := by
  obtain ⟨ab, cb, rfl⟩ := hb.strs.form
  obtain ⟨aw, cw, rfl⟩ := hw.form
  obtain ⟨hr, he1, he2, hi1, hi2⟩ := wa_ok.1 hwa
  have hl200 := (right_parts hr).2.1
  have hlen := logD_len bs ws i
  have hfw : ∀ f, Fence.wide.fn f := fun _ => trivial
  have hn1 : 1 ≤ n := by omega
  have KR := Lib.hid (fun (W' : World) (hB' : Below w.heap.size w W') (k : Nat) (hk : k < (logD bs ws i).length) => read_calls _ _ bs ws (i + k) W' (hb.below hB') (hw.below hB'))
  have HT := Lib.hid hT
  have HR := Lib.hid hr
  have HWA := Lib.hid hwa
  obtain ⟨D, hD⟩ : ∃ D, logD bs ws i = D := ⟨_, rfl⟩
  have HD := Lib.hid hD
  rw [hD] at hlen
  have HLD := Lib.hid hlen
  have hlD : (D.length : Int) = (bs.length : Int) - i := by omega
  obtain ⟨p0, p1, _⟩ := hB.2.1.cells
  have hic := hB.2.2.1.cell
  clear hb hw hT hr hwa hlen
  rw [hD]
  clear hD
  refine callsIn_of_wp Tryd.func41 rfl trivial ?_ rfl
  simp only [Tryd.ntmps41, List.size_toArray, List.length_cons, List.length_nil, Nat.reduceAdd, Nat.reduceSub, Array.replicate_succ, Array.replicate_zero, List.push_toArray, List.append_toArray, List.nil_append, List.cons_append]
  gi_wp2_with fail
  gi_loopw [15] (fun p wr => ∃ (pre : List (Nat × List UInt8)) (k : Nat), p = .int .i64 (k : Int) ∧ k ≤ D.length ∧ pre.length = k ∧ pre ++ tellL e k (D.drop k) = tellL e 0 D ∧ Tl w Bd Bi Be (.slice ab bs.length cb) (.slice aw ws.length cw) i e wr ∧ W.heap.size ≤ wr.heap.size ∧ J pre wr)
    (fun p _ => D.length - (intOf p).toNat)
  case atStart =>
    exact ⟨[], 0, rfl, Nat.zero_le _, rfl, rfl, hB, Nat.le_refl _, h0⟩
  case round =>
    obtain ⟨pre, k, rfl, hk, hpl, hp, hb, hsz, hJs⟩ := hrel
    clear p0 p1 hic
    by_cases hlt : k < D.length
    · have dk : decide ((k : Int) < (bs.length : Int) - i) = true := by simp; omega
      have hple : pre.length < 200 := by omega
      have hkD : k < (logD bs ws i).length := by rw [HD.out]; exact hlt
      have hs := read_says HWA.out hkD
      have hsl := logD_small HR.out hkD
      have hcell : (logD bs ws i)[k] = D[k] := by simp only [HD.out]
      rw [hcell] at hs hsl
      obtain ⟨s, hse⟩ : ∃ s, D[k] = s := ⟨_, rfl⟩
      rw [hse] at hs hsl
      have K1 := KR.out wr hb.1 k hkD
      rw [hs.1, hs.2] at K1
      have HSE := Lib.hid hse
      have HK1 := Lib.hid K1
      obtain ⟨p0, p1, _⟩ := hb.2.1.cells
      have hic := hb.2.2.1.cell
      have HP := Lib.hid hp
      clear hs hcell hse K1 hp hkD
      gi_wp2_with fail
      refine (callsIn_wide.2 HK1.out).mono ?_
      rintro e' w1 ⟨rfl, hB1⟩
      have hb1 := hb.below hB1
      clear p0 p1 hic
      gi_wp2_with fail
      refine (callsIn_wide.2 (hearR_calls s (by omega) _ (HT.out.below hb1.1))).mono ?_
      rintro e' w2 ⟨rfl, hB2⟩
      have hb2 := hb1.below hB2
      have hBr2 := below2 hB1 hB2
      have hec := hb2.2.2.2.cell
      have hecl := hb2.2.2.2.lt
      cases hh : hearR s with
      | none =>
        have HT0 : Hid (pre = tellL e 0 D) := Lib.hid (by
          have h := HP.out
          rw [tell_none hlt (by rw [HSE.out, recAt, hh]), List.append_nil] at h
          exact h)
        simp only [hearV, recV]
        clear hh HP
        gi_wp2_with fail
        refine bodyPost_ret (results_none rfl _ _ _) rfl ?_
        exact ⟨⟨_, rfl⟩, .inl ⟨pre, HT0.out, hJ pre wr _ none hJs (below_grown (below2 hBr2 (below_alloc _ _))) (fun r e => by cases e)⟩⟩
      | some z =>
        obtain ⟨a, b, x⟩ := z
        have hbd := hearR_bounds hh
        simp only [hearV, recV]
        by_cases hab : (a : Int) = e ∧ (b : Int) = k
        · obtain ⟨rfl, hbk⟩ := hab
          obtain rfl : b = k := by omega
          have hra : recAt D[b] a b = some x := by rw [HSE.out]; simp only [recAt, hh]; rw [if_pos ⟨trivial, trivial⟩]
          have HP2 : Hid (pre ++ (b, x) :: tellL a (b + 1) (D.drop (b + 1)) = tellL a 0 D) := Lib.hid (by
            have h := HP.out
            rw [tell_some hlt hra] at h
            exact h)
          clear hh HP hra hbk
          have hJ2 : J pre (w2.alloc (.cells #[.int .i64 a, .int .i64 b, .string ⟨x.toArray⟩] 53)) := hJ pre wr _ none hJs (below_grown (below2 hBr2 (below_alloc _ _))) (fun r e => by cases e)
          have hb3 := hb2.below (below_alloc w2 (.cells #[.int .i64 a, .int .i64 b, .string ⟨x.toArray⟩] 53))
          obtain ⟨fn, tmps, assign, body, hy, hR⟩ := hY pre (b, x) _ hJ2 hple
          clear hY
          dsimp only [encR] at hy
          have e1 : ((a : Int) == (a : Int)) = true := by simp
          have e2 : ((b : Int) == (b : Int)) = true := by simp
          have e3 : (x == x) = true := by simp
          gi_wp2_with fail
          refine hR.mono ?_
          rintro e' W3 (⟨rfl, hJ3, hk3⟩ | ⟨rfl, hJx3⟩)
          · gi_wp2_with fail
            go_roundw
            case rel => exact ⟨_, b + 1, by go_num, by omega, by simp; omega, by rw [← HP2.out]; simp, hb3.kept hk3, by have := hBr2.size; have := hk3.1.size; simp at this; omega, hJ3⟩
            case measure => simp [intOf]; omega
          · gi_wp2_with fail
            refine bodyPost_ret (results_none rfl _ _ _) rfl ?_
            exact ⟨⟨_, rfl⟩, .inr ⟨_, ⟨_, by rw [← HP2.out]; simp; rfl⟩, hJx3⟩⟩
        · have HT0 : Hid (pre = tellL e 0 D) := Lib.hid (by
            have h := HP.out
            rw [tell_none hlt (by rw [HSE.out]; simp only [recAt, hh]; rw [if_neg hab]), List.append_nil] at h
            exact h)
          clear hh HP
          rcases (by by_cases q : (a : Int) = e; exact .inr ⟨by simp [q], by simpa using fun h => hab ⟨q, h⟩⟩; exact .inl (by simpa using q) : ((a : Int) == e) = false ∨ (((a : Int) == e) = true ∧ ((b : Int) == k) = false)) with q | ⟨q1, q2⟩
          · clear hab
            gi_wp2_with fail
            refine bodyPost_ret (results_none rfl _ _ _) rfl ?_
            exact ⟨⟨_, rfl⟩, .inl ⟨pre, HT0.out, hJ pre wr _ none hJs (below_grown (below2 hBr2 (below_alloc _ _))) (fun r e => by cases e)⟩⟩
          · clear hab
            gi_wp2_with fail
            refine bodyPost_ret (results_none rfl _ _ _) rfl ?_
            exact ⟨⟨_, rfl⟩, .inl ⟨pre, HT0.out, hJ pre wr _ none hJs (below_grown (below2 hBr2 (below_alloc _ _))) (fun r e => by cases e)⟩⟩
    · obtain rfl : k = D.length := by omega
      have dk : decide ((D.length : Int) < (bs.length : Int) - i) = false := by simp; omega
      have HT0 : Hid (pre = tellL e 0 D) := Lib.hid (by
        rw [tell_end (Nat.le_refl _), List.append_nil] at hp
        exact hp)
      clear hp
      gi_wp2_with fail
      go_end0
      exact ⟨⟨_, rfl⟩, .inl ⟨pre, HT0.out, hJs⟩⟩

theorem tell_stops (n : Nat) (hn : 2 ≤ n) (Bd Bi Be : Nat) (vb vw : Value) (bs : List (List UInt8)) (ws : List Wr) (i e : Int) (w W0 : World) (hb : Txts w vb bs) (hw : Wrs w vw ws) (hT : TabOk w)
    (hwa : waE bs ws i e = 0) (hTl : Tl w Bd Bi Be vb vw i e W0) :
    SeqStopsK Fence.wide n Tryd.prog 41 #[.pointer (some ⟨Bd, 0, none⟩), .pointer (some ⟨Bi, 0, none⟩), .pointer (some ⟨Be, 0, none⟩)] (encR e) (Tk w.heap.size Bd Bi Be) (fun ys => ys = tellL e 0 (logD bs ws i)) (fun pre => pre <+: tellL e 0 (logD bs ws i)) 200 W0 := fun y J Jx W hW hJ _ hY h0 =>
  tell_in n hn y Bd Bi Be vb vw bs ws i e w hb hw hT hwa J Jx W hJ hY (hTl.below hW) h0

end Go.Proofs.YtcipdmdliobdmaaDoor

/-
  wal: Room.
-/
namespace Go.Proofs.YtcipdmdliobdmaaDoor
open Go.RowKit Go.Shelf
attribute [local go_sem] Oper.semAt_some

set_option maxRecDepth 100000 in
set_option maxHeartbeats 4000000 in
theorem room_calls (vb vw : Value) (bs : List (List UInt8)) (ws : List Wr) (i e : Int) (w : World) (hb : Txts w vb bs) (hw : Wrs w vw ws) (hT : TabOk w) :
    Calls Tryd.prog 15 #[.agg #[vb, vw], .int .i64 i, .int .i64 e] w fun e' w' => e' = .returned (.tuple #[.int .i64 (roomN bs ws i e), .int .i64 (waE bs ws i e)]) ∧ Below w.heap.size w w' := by
  obtain ⟨ab, cb, rfl⟩ := hb.strs.form
  obtain ⟨aw, cw, rfl⟩ := hw.form
  have hx0 := Bx.new w (.slice ab bs.length cb) (.slice aw ws.length cw)
  have hB0 := below_alloc w (.cells #[.slice ab bs.length cb, .slice aw ws.length cw] 25)
  have C1 := wacheck_calls _ _ bs ws i e _ (hb.below hB0) (hw.below hB0)
  by_cases hz : waE bs ws i e = 0
  · rw [hz] at C1 ⊢
    have K := Lib.hid C1
    have HZ := Lib.hid hz
    obtain ⟨hr, he1, he2, hi1, hi2⟩ := wa_ok.1 hz
    have hl200 := (right_parts hr).2.1
    clear C1
    refine (callsIn_wide (n := 6)).1 ?_
    refine callsIn_of_wp_marks Tryd.func15 rfl trivial ?_ rfl
    simp only [Tryd.ntmps15, List.size_toArray, List.length_cons, List.length_nil, Nat.reduceAdd, Nat.reduceSub, Array.replicate_succ, Array.replicate_zero, List.push_toArray, List.append_toArray, List.nil_append, List.cons_append]
    refine wpIn_wide.2 ?_
    go_wp2_with fail
    refine K.out.mono ?_
    rintro e' w1 ⟨rfl, hB1⟩
    have hx1 := hx0.below hB1
    obtain ⟨p0, p1, _⟩ := hx1.cells
    have hBB1 := below2 hB0 hB1
    have hv1 := Boxed.new w1 3 (.int .i64 ((bs.length : Int) - i))
    have hBBa := below2 hBB1 (below_alloc w1 (.cells #[.int .i64 ((bs.length : Int) - i)] 3))
    have hsz1 := hBB1.size
    go_wp2_with fail
    refine (records_calls _ _ _ _ _).mono ?_
    rintro e' w2 ⟨rfl, hd2, hi2', he2', hB2⟩
    rw [World.size_alloc] at hd2 hi2' he2'
    have hv2 := boxed_below hv1 hB2
    have hBB2 := below2 hBBa hB2
    have hTl : Tl w (w1.heap.size + 1) (w1.heap.size + 1 + 1) (w1.heap.size + 1 + 1 + 1) (.slice ab bs.length cb) (.slice aw ws.length cw) i e w2 := ⟨hBB2, hd2, hi2', he2'⟩
    have hl1 := hd2.cells.2.2.2.2
    have hl2 := hi2'.lt
    have hl3 := he2'.lt
    clear p0 p1 hx1 hd2 hi2' he2' hB2
    go_wp2_with fail
    refine (wpIn_wide (n := 6)).1 ?_
    refine wpIn_rangeFunc_ownG rfl (by omega) (gf := 41) (lb := #[.pointer (some ⟨w1.heap.size + 1, 0, none⟩), .pointer (some ⟨w1.heap.size + 1 + 1, 0, none⟩), .pointer (some ⟨w1.heap.size + 1 + 1 + 1, 0, none⟩)]) rfl trivial (enters_of Tryd.func41 (by kernel_rfl) rfl)
      (tell_stops 5 (by omega) _ _ _ _ _ bs ws i e w w2 hb hw hT HZ.out hTl) Tk.trans (Tk.putObj hBB2.size hl1 hl2 hl3) (Below.refl _ _) (fun _ => rfl)
      (fun pre W => Boxed W w1.heap.size 3 (.int .i64 ((bs.length : Int) - i - (pre.length : Int))) ∧ Below w.heap.size w W)
      (fun _ _ _ => False)
      (OwnFrom.and (Own.from (boxed_own _ _ (fun pre : List (Nat × List UInt8) => Value.int .i64 ((bs.length : Int) - i - (pre.length : Int)))) _) (ownFrom_below (Nat.le_refl _) hBB2.size))
      (fun _ _ _ _ _ hs _ _ => hs)
      ⟨by simpa using hv2, hBB2⟩
      (fun x => { tmps := #[.agg #[.slice ab bs.length cb, .slice aw ws.length cw], .int .i64 i, .int .i64 e, .pointer (some ⟨w.heap.size, 0, none⟩), undef, undef, .int .i64 0, .int .i64 0, .int .i64 0, .pointer (some ⟨w1.heap.size, 0, none⟩), .agg #[.slice ab bs.length cb, .slice aw ws.length cw], .int .i64 i, .int .i64 e, .int .i64 0, .int .i64 0, .bool false, undef, .pointer (some ⟨w.heap.size, 0, none⟩), .slice ab bs.length cb, .int .i64 bs.length, .int .i64 i, .int .i64 ((bs.length : Int) - i), .agg #[.slice ab bs.length cb, .slice aw ws.length cw], .int .i64 i, .int .i64 e, .func (.func 41) #[] #[.pointer (some ⟨w1.heap.size + 1, 0, none⟩), .pointer (some ⟨w1.heap.size + 1 + 1, 0, none⟩), .pointer (some ⟨w1.heap.size + 1 + 1 + 1, 0, none⟩)], .agg #[.int .i64 e, .int .i64 (x.1 : Int), .string ⟨x.2.toArray⟩], undef, undef, undef], defers := [] }) ?assign ?body ?done ?stop
    case assign =>
      rintro l ⟨k, x⟩ W K hK
      dsimp only [encR]
      gi_wp2
      exact hK
    case body =>
      rintro l pre ⟨k, x⟩ W ⟨hv, hB⟩ hlt
      have hc := hv.cell
      have hf := hv.frozen
      gi_wp2
      refine ⟨(KeepsOthers.setCell _ _ _).from _, ⟨(Below.refl _ _).setCell (by simp; omega) _, ?_, ?_, ?_⟩, ?_, hB.setCell (by simp; omega) _⟩
      · exact heap_setCell_other _ _ _ _ (by simp <;> omega)
      · exact heap_setCell_other _ _ _ _ (by simp <;> omega)
      · exact heap_setCell_other _ _ _ _ (by simp <;> omega)
      · have h := hv.set (.int .i64 ((bs.length : Int) - i - (pre.length : Int) - 1))
        rw [show (bs.length : Int) - i - ((pre ++ [(k, x)]).length : Int) = (bs.length : Int) - i - (pre.length : Int) - 1 by simp; omega]
        exact h
    case done =>
      rintro D ys W hD rfl ⟨hv, hB⟩ hK
      have hc := hv.cell
      go_wp2
      refine ⟨by simp, .inl ⟨_, _, rfl, run_takeDeferred hK, ?_⟩⟩
      refine ⟨_, results_tmp2 rfl _ _ _, ?_, hB.trans (belowK_b (w := w2) hBB2.size W D _ _ hD hK rfl rfl)⟩
      have E : roomN bs ws i e = (bs.length : Int) - i - ((tellL e 0 (logD bs ws i)).length : Int) := by simp [roomN, HZ.out, walL]
      rw [E]
      rfl
    case stop =>
      rintro D c pre W _ _ h _
      exact h.elim
  · have E := Lib.hid (show roomN bs ws i e = 0 by simp [roomN, hz])
    obtain ⟨E0, hE0⟩ : ∃ E0, waE bs ws i e = E0 := ⟨_, rfl⟩
    rw [hE0] at C1 hz ⊢
    have hzb : (E0 == 0) = false := by simpa using hz
    have hzb2 : (E0 != 0) = true := by simpa using hz
    have K := Lib.hid C1
    clear C1 hE0 hz
    go_enter Tryd.func15, Tryd.ntmps15
    go_wp2_with fail
    refine K.out.mono ?_
    rintro e' w1 ⟨rfl, hB1⟩
    go_wp2_with fail
    go_ret2
    exact ⟨by rw [E.out]; rfl, below2 hB0 hB1⟩

end Go.Proofs.YtcipdmdliobdmaaDoor

/-
  wal: frame (a record).
-/
namespace Go.Proofs.YtcipdmdliobdmaaDoor
open Go.RowKit
attribute [local go_sem] app_mk

set_option maxRecDepth 100000 in
set_option maxHeartbeats 1000000 in
/-- A record of an epoch, a place and a text. -/
theorem frameR_calls (n p : Nat) (hn : n ≤ 4294967295) (hp : p ≤ 4294967295) (s : List UInt8) (hs : s.length ≤ 200) (w : World) (hT : TabOk w) :
    Calls Tryd.prog 30 #[recV n p s] w fun e w' => e = .returned (.string ⟨(recB n p s).toArray⟩) ∧ Below w.heap.size w w' := by
  have h1 := wid_le n
  have h2 := numB_length n
  have h3 := wid_le p
  have h4 := numB_length p
  have hx0 := Cx.new w 53 [.int .i64 n, .int .i64 p, .string ⟨s.toArray⟩]
  have hB0 := below_alloc w (.cells #[.int .i64 n, .int .i64 p, .string ⟨s.toArray⟩] 53)
  have N1 := Lib.hid (number_ok n hn)
  have N2 := Lib.hid (number_ok p hp)
  unfold recV recB
  generalize numB n = a at N1 h2 ⊢
  generalize numB p = b at N2 h4 ⊢
  have ha : a.length ≤ 5 := by omega
  have hb : b.length ≤ 5 := by omega
  have hl : (a ++ (b ++ s)).length ≤ 4000 := by simp only [List.length_append]; omega
  have PP := Lib.hid (put_ok (a ++ (b ++ s)) hl)
  clear h1 h2 h3 h4 hn hp hl
  go_enter Tryd.func30, Tryd.ntmps30
  go_wp2_with fail
  refine (N1.out _).mono ?_
  rintro e w1 ⟨rfl, hB1⟩
  obtain ⟨c0, c1, c2, f0, f1, f2, hlt⟩ := (hx0.below hB1).three
  go_wp2_with fail
  refine (N2.out _).mono ?_
  rintro e w2 ⟨rfl, hB2⟩
  clear c0 c1 c2 f0 f1 f2 hlt
  obtain ⟨c0, c1, c2, f0, f1, f2, hlt⟩ := ((hx0.below hB1).below hB2).three
  have hT2 := hT.below (below3 hB0 hB1 hB2)
  clear c0 c1 f0 f1 f2
  go_wp2_with fail
  refine (PP.out _ hT2).mono ?_
  rintro e w3 ⟨rfl, hB3⟩
  go_wp2_with fail
  go_ret
  exact ⟨rfl, below2 (below3 hB0 hB1 hB2) hB3⟩

end Go.Proofs.YtcipdmdliobdmaaDoor

/-
  wal: Append.
-/
namespace Go.Proofs.YtcipdmdliobdmaaDoor
open Go.RowKit

theorem wrap_in (x : Int) (h1 : -1000000 ≤ x) (h2 : x ≤ 1000000) : IntKind.i64.wrap x = x := by
  simp [IntKind.wrap, IntKind.bits, IntKind.signed]
  omega

set_option maxRecDepth 100000 in
set_option maxHeartbeats 1000000 in
theorem append_calls (vb vw : Value) (bs : List (List UInt8)) (ws : List Wr) (i e : Int) (s : List UInt8) (w : World) (hb : Txts w vb bs) (hw : Wrs w vw ws) (hT : TabOk w) :
    Calls Tryd.prog 11 #[.agg #[vb, vw], .int .i64 i, .int .i64 e, .string ⟨s.toArray⟩] w fun e' w' => ∃ vb' vw', e' = .returned (.tuple #[.agg #[vb', vw'], .int .i64 (appE bs ws i e s)]) ∧ OwnD w' w.heap.size vb' (appBs bs ws i e s) vw' (appWs bs ws i e s) ∧ Below w.heap.size w w' := by
  obtain ⟨ab, cb, rfl⟩ := hb.strs.form
  obtain ⟨aw, cw, rfl⟩ := hw.form
  obtain ⟨hx0, hr0, hB0⟩ := entry2 w (.slice ab bs.length cb) (.slice aw ws.length cw)
  have C1 := room_calls _ _ bs ws i e _ (hb.below hB0) (hw.below hB0) (hT.below hB0)
  by_cases hz : waE bs ws i e = 0
  · obtain ⟨hr, he1, he2, hi1, hi2⟩ := wa_ok.1 hz
    have hl200 := (right_parts hr).2.1
    have hwl := wal_len bs ws i e
    obtain ⟨m, hm⟩ : ∃ m, (walL bs ws i e).length = m := ⟨_, rfl⟩
    obtain ⟨R, hR⟩ : ∃ R, roomN bs ws i e = R := ⟨_, rfl⟩
    have hRm : R = (bs.length : Int) - i - (m : Int) := by rw [← hR, ← hm]; simp [roomN, hz]
    rw [hm] at hwl
    rw [hz, hR] at C1
    by_cases h200 : s.length ≤ 200
    · have d1 : decide ((200 : Int) < s.length) = false := by simp; omega
      by_cases h0 : R = 0
      · have E := Lib.hid (show appE bs ws i e s = 41 by simp [appE, hz, h200, hR, h0])
        have E2 := Lib.hid (show appBs bs ws i e s = [] ∧ appWs bs ws i e s = [] by simp [appBs, appWs, E.out])
        subst h0
        have K := Lib.hid C1
        clear C1 hz hr hRm hR hm
        go_enter Tryd.func11, Tryd.ntmps11
        go_wp2_with fail
        refine K.out.mono ?_
        rintro e' w1 ⟨rfl, hB1⟩
        obtain ⟨q0, q1, q2, q3, q4⟩ := (hr0.below hB1).cells
        go_wp2_with fail
        obtain ⟨r1, r2⟩ := ret_own (w := w) (x := .slice none 0 0) (y := .slice none 0 0) (nil_own w1 (w.heap.size + 2)) (Nat.le_refl _) (below2 hB0 hB1)
        refine ret_disk2 (p := 8) (q := 9) (by kernel_rfl) rfl (w.heap.size + 1) (.slice none 0 0) (.slice none 0 0) (.int .i64 41) rfl rfl (by go_simp) (by go_simp) ?_
        exact ⟨_, _, by rw [E.out], by rw [E2.out.1, E2.out.2]; exact r1, r2⟩
      · have d2 : (R == 0) = false := by simpa using h0
        have hat : (bs.length : Int) - R = i + (m : Int) := by omega
        have E := Lib.hid (show appE bs ws i e s = writeE bs ws ((bs.length : Int) - R) (recB e.toNat m s) by simp only [appE, hz, hR, if_pos h200, if_neg h0, hm, hat, if_true])
        have E2 := Lib.hid (show appBs bs ws i e s = writeBs bs ws ((bs.length : Int) - R) (recB e.toNat m s) by simp only [appBs, writeBs, E.out])
        have E3 := Lib.hid (show appWs bs ws i e s = writeWs bs ws ((bs.length : Int) - R) (recB e.toNat m s) by simp only [appWs, writeWs, E.out, hm, hat])
        have FR : ∀ W, Below w.heap.size w W → Calls Tryd.prog 30 #[.agg #[.int .i64 e, .int .i64 (IntKind.i64.wrap ((bs.length : Int) - R - i)), .string ⟨s.toArray⟩]] W fun e' w' => e' = .returned (.string ⟨(recB e.toNat m s).toArray⟩) ∧ Below W.heap.size W w' := by
          intro W hW
          have h := frameR_calls e.toNat m (by omega) (by omega) s h200 W (hT.below hW)
          rw [show ((e.toNat : Nat) : Int) = e by omega, show (m : Int) = IntKind.i64.wrap ((bs.length : Int) - R - i) by rw [wrap_in _ (by omega) (by omega)]; omega] at h
          exact h
        obtain ⟨rb, hrb⟩ : ∃ rb, recB e.toNat m s = rb := ⟨_, rfl⟩
        rw [hrb] at E E2 E3
        rw [E.out, E2.out, E3.out]
        simp only [hrb] at FR
        have WR : ∀ W, Below w.heap.size w W → Calls Tryd.prog 29 #[.agg #[.slice ab bs.length cb, .slice aw ws.length cw], .int .i64 ((bs.length : Int) - R), .string ⟨rb.toArray⟩] W fun e' w' => ∃ vb' vw', e' = .returned (.tuple #[.agg #[vb', vw'], .int .i64 (writeE bs ws ((bs.length : Int) - R) rb)]) ∧ OwnD w' W.heap.size vb' (writeBs bs ws ((bs.length : Int) - R) rb) vw' (writeWs bs ws ((bs.length : Int) - R) rb) ∧ Below W.heap.size W w' :=
          fun W hW => write_calls _ _ bs ws _ rb W (hb.below hW) (hw.below hW)
        generalize writeE bs ws ((bs.length : Int) - R) rb = cE at WR ⊢
        generalize writeBs bs ws ((bs.length : Int) - R) rb = cB at WR ⊢
        generalize writeWs bs ws ((bs.length : Int) - R) rb = cW at WR ⊢
        have HFR := Lib.hid FR
        have HWR := Lib.hid WR
        have K := Lib.hid C1
        have hR1 : 0 ≤ R := by omega
        have hR2 : R ≤ (bs.length : Int) := by omega
        clear C1 hz hr hR hm FR WR E E2 E3 hrb h0 hb hw hRm hat hwl
        go_enter Tryd.func11, Tryd.ntmps11
        go_wp2_with fail
        refine K.out.mono ?_
        rintro e' w1 ⟨rfl, hB1⟩
        have hx1 := hx0.below hB1
        have hr1 := hr0.below hB1
        obtain ⟨p0, p1, p2, p3, p4⟩ := hx1.cells
        have hBB1 := below2 hB0 hB1
        have hBd := below2 hBB1 (drew_below _)
        go_wp2_with fail
        go_region_with (first | (go_at_call 30; refine (HFR.out _ hBd).mono ?_; rintro e' w2 ⟨rfl, hB2⟩; have hx2 := (hx1.below (drew_below _)).below hB2; have hr2 := (hr1.below (drew_below _)).below hB2; obtain ⟨p0', p1', p2', p3', p4'⟩ := hx2.cells; have hBB2 := below2 hBd hB2) | (go_at_call 29; refine (HWR.out _ hBB2).mono ?_; rintro e' w3 ⟨vb3, vw3, rfl, ho3, hB3⟩; have hr3 := hr2.below hB3; have hBB3 := below2 hBB2 hB3; obtain ⟨ab3, nb3, cb3, aw3, nw3, cw3, rfl, rfl, hnb3, hnw3⟩ := ho3.forms; clear hnb3 hnw3; obtain ⟨q0, q1, q2, q3, q4⟩ := hr3.cells))
        all_goals
          go_wp2_with fail
          obtain ⟨r1, r2⟩ := ret_own (w := w) (x := .slice ab3 nb3 cb3) (y := .slice aw3 nw3 cw3) ho3 (by have := hBB2.size; have := hB1.size; have := hB2.size; simp at *; omega) hBB3
          refine ret_disk2 (p := 8) (q := 9) (by kernel_rfl) rfl (w.heap.size + 1) (.slice ab3 nb3 cb3) (.slice aw3 nw3 cw3) (.int .i64 cE) rfl rfl (by go_simp) (by go_simp) ?_
          exact ⟨_, _, rfl, r1, r2⟩
    · have d1 : decide ((200 : Int) < s.length) = true := by simp; omega
      have E := Lib.hid (show appE bs ws i e s = 2 by simp [appE, hz, h200])
      have E2 := Lib.hid (show appBs bs ws i e s = [] ∧ appWs bs ws i e s = [] by simp [appBs, appWs, E.out])
      have K := Lib.hid C1
      clear C1 hz hr hRm hR hm
      go_enter Tryd.func11, Tryd.ntmps11
      go_wp2_with fail
      refine K.out.mono ?_
      rintro e' w1 ⟨rfl, hB1⟩
      obtain ⟨q0, q1, q2, q3, q4⟩ := (hr0.below hB1).cells
      go_wp2_with fail
      obtain ⟨r1, r2⟩ := ret_own (w := w) (x := .slice none 0 0) (y := .slice none 0 0) (nil_own w1 (w.heap.size + 2)) (Nat.le_refl _) (below2 hB0 hB1)
      refine ret_disk2 (p := 8) (q := 9) (by kernel_rfl) rfl (w.heap.size + 1) (.slice none 0 0) (.slice none 0 0) (.int .i64 2) rfl rfl (by go_simp) (by go_simp) ?_
      exact ⟨_, _, by rw [E.out], by rw [E2.out.1, E2.out.2]; exact r1, r2⟩
  · have E := Lib.hid (show appE bs ws i e s = waE bs ws i e by simp [appE, hz])
    obtain ⟨E0, hE0⟩ : ∃ E0, waE bs ws i e = E0 := ⟨_, rfl⟩
    rw [hE0] at C1 hz E
    have E2 := Lib.hid (show appBs bs ws i e s = [] ∧ appWs bs ws i e s = [] by simp [appBs, appWs, E.out, hz])
    have hzb2 : (E0 != 0) = true := by simpa using hz
    have K := Lib.hid C1
    clear C1 hE0 hz
    go_enter Tryd.func11, Tryd.ntmps11
    go_wp2_with fail
    refine K.out.mono ?_
    rintro e' w1 ⟨rfl, hB1⟩
    obtain ⟨q0, q1, q2, q3, q4⟩ := (hr0.below hB1).cells
    go_wp2_with fail
    obtain ⟨r1, r2⟩ := ret_own (w := w) (x := .slice none 0 0) (y := .slice none 0 0) (nil_own w1 (w.heap.size + 2)) (Nat.le_refl _) (below2 hB0 hB1)
    refine ret_disk2 (p := 8) (q := 9) (by kernel_rfl) rfl (w.heap.size + 1) (.slice none 0 0) (.slice none 0 0) (.int .i64 E0) rfl rfl (by go_simp) (by go_simp) ?_
    exact ⟨_, _, by rw [E.out], by rw [E2.out.1, E2.out.2]; exact r1, r2⟩

end Go.Proofs.YtcipdmdliobdmaaDoor

/-
  wal: All.
-/
namespace Go.Proofs.YtcipdmdliobdmaaDoor
open Go.RowKit

/-- The texts appended so far: what is left makes of the disk what all make. -/
def RanTo (i e : Int) (bs : List (List UInt8)) (ws : List Wr) (l : List (List UInt8)) (k : Nat) (cw : List Wr) : Prop :=
  runA i e (l.drop k) bs cw = runA i e l bs ws ∧ rightB bs cw = true
theorem RanTo.zero {i e : Int} {bs : List (List UInt8)} {ws : List Wr} (l : List (List UInt8)) (hr : rightB bs ws = true) : RanTo i e bs ws l 0 ws := ⟨rfl, hr⟩
theorem RanTo.good {i e : Int} {bs : List (List UInt8)} {ws : List Wr} {l : List (List UInt8)} {k : Nat} {cw : List Wr} (h : RanTo i e bs ws l k cw) (hk : k < l.length) (ha : appE bs cw i e l[k] = 0) : RanTo i e bs ws l (k + 1) (appWs bs cw i e l[k]) := by
  refine ⟨?_, ?_⟩
  · rw [← h.1, List.drop_eq_getElem_cons hk, runA, if_pos ha]
  · rw [appWs, if_pos ha]
    exact right_more (app_ok ha).2.2.2
theorem RanTo.bad {i e : Int} {bs : List (List UInt8)} {ws : List Wr} {l : List (List UInt8)} {k : Nat} {cw : List Wr} (h : RanTo i e bs ws l k cw) (hk : k < l.length) (ha : ¬ appE bs cw i e l[k] = 0) : runA i e l bs ws = (appE bs cw i e l[k], [], []) := by
  rw [← h.1, List.drop_eq_getElem_cons hk, runA, if_neg ha]
theorem RanTo.whole {i e : Int} {bs : List (List UInt8)} {ws : List Wr} {l : List (List UInt8)} {cw : List Wr} (h : RanTo i e bs ws l l.length cw) : runA i e l bs ws = (0, bs, cw) := by
  rw [← h.1, List.drop_length, runA]
theorem all_bad {bs : List (List UInt8)} {ws : List Wr} {i e : Int} {l : List (List UInt8)} {k : Int} {E : Int} (hz : waE bs ws i e = 0) (h : runA i e (takeA l k) bs ws = (E, [], [])) (hE : E ≠ 0) : allE bs ws i e l k = E ∧ allBs bs ws i e l k = [] ∧ allWs bs ws i e l k = [] ∧ allD bs ws i e l k = false := by
  have h1 : allE bs ws i e l k = E := by simp [allE, hz, h]
  simp [h1, allBs, allWs, allD, hE]
theorem all_part {bs : List (List UInt8)} {ws : List Wr} {i e : Int} {l : List (List UInt8)} {k : Int} {cw : List Wr} (hz : waE bs ws i e = 0) (h : runA i e (takeA l k) bs ws = (0, bs, cw)) (hf : fullB l k = false) : allE bs ws i e l k = 0 ∧ allBs bs ws i e l k = bs ∧ allWs bs ws i e l k = cw ∧ allD bs ws i e l k = false := by
  have h1 : allE bs ws i e l k = 0 := by simp [allE, hz, h]
  simp [h1, allBs, allWs, allD, hf, h]
theorem all_full {bs : List (List UInt8)} {ws : List Wr} {i e : Int} {l : List (List UInt8)} {k : Int} {cw : List Wr} (hz : waE bs ws i e = 0) (h : runA i e (takeA l k) bs ws = (0, bs, cw)) (hf : fullB l k = true) : allE bs ws i e l k = 0 ∧ allBs bs ws i e l k = layL bs cw ∧ allWs bs ws i e l k = [] ∧ allD bs ws i e l k = true := by
  have h1 : allE bs ws i e l k = 0 := by simp [allE, hz, h]
  simp [h1, allBs, allWs, allD, hf, h]
theorem all_refused {bs : List (List UInt8)} {ws : List Wr} {i e : Int} {l : List (List UInt8)} {k : Int} (hz : ¬ waE bs ws i e = 0) : allE bs ws i e l k = waE bs ws i e ∧ allBs bs ws i e l k = [] ∧ allWs bs ws i e l k = [] ∧ allD bs ws i e l k = false := by
  have h1 : allE bs ws i e l k = waE bs ws i e := by simp [allE, hz]
  simp [h1, allBs, allWs, allD, hz]

set_option maxRecDepth 100000 in
set_option maxHeartbeats 4000000 in
theorem all_part_calls (vb vw v : Value) (bs : List (List UInt8)) (ws : List Wr) (i e : Int) (l : List (List UInt8)) (k : Int) (w : World) (hb : Txts w vb bs) (hw : Wrs w vw ws) (hl : Txts w v l) (hlm : l.length ≤ 1000000) (hT : TabOk w) (hz : waE bs ws i e = 0) (h0 : 0 ≤ k) (h1 : k ≤ l.length) :
    Calls Tryd.prog 13 #[.agg #[vb, vw], .int .i64 i, .int .i64 e, v, .int .i64 k] w fun e' w' => ∃ vb' vw', e' = .returned (.tuple #[.agg #[vb', vw'], .bool (allD bs ws i e l k), .int .i64 (allE bs ws i e l k)]) ∧ OwnD w' w.heap.size vb' (allBs bs ws i e l k) vw' (allWs bs ws i e l k) ∧ Below w.heap.size w w' := by
  obtain ⟨ab, cb, rfl⟩ := hb.strs.form
  obtain ⟨aw, cw, rfl⟩ := hw.form
  obtain ⟨al, cl, hv, hcl, _⟩ := id hl
  subst hv
  obtain ⟨hx0, hr0, hB0⟩ := entry2 w (.slice ab bs.length cb) (.slice aw ws.length cw)
  have C1 := wacheck_calls _ _ bs ws i e _ (hb.below hB0) (hw.below hB0)
  obtain ⟨hr, he1, he2, hi1, hi2⟩ := wa_ok.1 hz
  obtain ⟨hl1, hl2, hl3, _⟩ := right_parts hr
  obtain ⟨n, rfl⟩ : ∃ n : Nat, k = (n : Int) := ⟨k.toNat, by omega⟩
  have hnl : n ≤ l.length := by omega
  have hfb : fullB l (n : Int) = false := by simp [fullB]; omega
  have HFB := Lib.hid hfb
  have t1 : decide ((n : Int) < 0) = false := by simp
  have t2 : decide (l.length < n) = false := by simp; omega
  obtain ⟨L, hL⟩ : ∃ L, takeA l (n : Int) = L := ⟨_, rfl⟩
  have HLT := Lib.hid hL
  have hLn : L.length = n := by rw [← hL]; simp [takeA, hfb]; omega
  have HLL : Hid (Txts w (.slice al n cl) L) := Lib.hid (by rw [← hL]; simpa [takeA, hfb] using hl.take n hnl)
  have HLN := Lib.hid hLn
  have hcl' : n ≤ cl := by omega
  clear hfb hL
  have HZ := Lib.hid hz
  have HR0 := Lib.hid (RanTo.zero (i := i) (e := e) (bs := bs) (ws := ws) L hr)
  rw [hz] at C1
  have K := Lib.hid C1
  have HC := Lib.hid (fun (W : World) (hB : Below w.heap.size w W) => wacopied_calls _ _ bs ws W (hb.below hB) (hw.below hB) (by omega) (by omega))
  have HT := Lib.hid hT
  clear C1 hz hr hb hw hl hT he1 he2 hi1 hi2
  go_enter Tryd.func13, Tryd.ntmps13
  go_wp2_with fail
  refine K.out.mono ?_
  rintro e' w1 ⟨rfl, hB1⟩
  have hx1 := hx0.below hB1
  have hr1 := hr0.below hB1
  obtain ⟨p0, p1, p2, p3, p4⟩ := hx1.cells
  have hBB1 := below2 hB0 hB1
  go_wp2_with fail
  refine (HC.out _ hBB1).mono ?_
  rintro e' w2 ⟨vb2, vw2, rfl, ho2, hB2⟩
  obtain ⟨ab2, nb2, cb2, aw2, nw2, cw2, rfl, rfl, hnb2, hnw2⟩ := ho2.forms
  clear hnb2 hnw2
  have hr2 := hr1.below hB2
  have hBB2 := below2 hBB1 hB2
  have hBB2s := hBB2.size
  have hB1s := hB1.size
  have hf3 := Bx.new w2 (.slice ab2 nb2 cb2) (.slice aw2 nw2 cw2)
  have hB3 := below_alloc w2 (.cells #[.slice ab2 nb2 cb2, .slice aw2 nw2 cw2] 25)
  have hr3 := hr2.below hB3
  have ho3 := OwnD.below ho2 hB3
  have hBB3 := below2 hBB2 hB3
  have hlow : w.heap.size + 2 ≤ w1.heap.size := by simpa using hB1s
  have hw12 := hB2.size
  have HI := Lib.hid (And.intro hf3 (And.intro hr3 (And.intro ho3 hBB3)))
  clear p0 p1 p2 p3 p4 hx1 hr1 hr2 ho2 hf3 hr3 ho3 hBB3 hx0 hr0 hBB1
  go_wp2_with fail
  go_loopw [44] (fun p wr => ∃ (q : Nat) (c : List Wr) (aX nX cX aY nY cY : _), p = .int .i64 (q : Int) ∧ q ≤ L.length ∧ RanTo i e bs ws L q c ∧ Bx wr w2.heap.size (.slice aX nX cX) (.slice aY nY cY) ∧ OwnD wr (w.heap.size + 2) (.slice aX nX cX) bs (.slice aY nY cY) c ∧ Bx wr (w.heap.size + 1) (.slice none 0 0) (.slice none 0 0) ∧ Below w.heap.size w wr)
    (fun p _ => L.length - (intOf p).toNat)
  case atStart => exact ⟨0, ws, _, _, _, _, _, _, rfl, Nat.zero_le _, HR0.out, HI.out.1, ⟨own_weak HI.out.2.2.1.1 hlow, own_weak HI.out.2.2.1.2 hlow⟩, HI.out.2.1, HI.out.2.2.2⟩
  case round =>
    obtain ⟨q, c, aX, nX, cX, aY, nY, cY, rfl, hq, hran, hf, ho, hrr, hB⟩ := hrel
    clear HI
    obtain ⟨f0, f1, ff0, ff1, fl⟩ := hf.cells
    have hfl := fl
    have htx := ho.texts
    have hwr := ho.wrs
    have hBs := hB.size
    by_cases hlt : q < L.length
    · have dq : decide ((q : Int) < ((L.length : Nat) : Int)) = true := by simp; omega
      obtain ⟨b4, o4, hat, hcell⟩ := (HLL.out.below hB).strs.at hlt
      subst hat
      have hcb := World.block_lt_of_cell? wr _ hcell
      obtain ⟨s, hs⟩ : ∃ s, L[q] = s := ⟨_, rfl⟩
      have CA := append_calls _ _ bs c i e s wr htx hwr (HT.out.below hB)
      by_cases ha : appE bs c i e s = 0
      · have hg : RanTo i e bs ws L (q + 1) (appWs bs c i e s) := by
          have := hran.good hlt (by rw [hs]; exact ha)
          rwa [hs] at this
        have hab : appBs bs c i e s = bs := by rw [appBs, if_pos ha]
        rw [ha, hab] at CA
        rw [hs] at hcell
        generalize appWs bs c i e s = c' at hg CA
        have HG := Lib.hid hg
        have KA := Lib.hid CA
        clear CA hg hab ha hs hran htx hwr
        go_wp2_with fail
        refine KA.out.mono ?_
        rintro e' w4 ⟨vb4, vw4, rfl, ho4, hB4⟩
        obtain ⟨ab4, nb4, cb4, aw4, nw4, cw4, rfl, rfl, hnb4, hnw4⟩ := ho4.forms
        clear hnb4 hnw4 f0 f1 ff0 ff1 fl
        have hf4 := hf.below hB4
        have hrr4 := hrr.below hB4
        have hB4' := below2 hB hB4
        obtain ⟨f0, f1, ff0, ff1, fl⟩ := hf4.cells
        have HO := Lib.hid ho4
        clear ho4 ho
        go_wp2_with fail
        have o5 := own_sets2 HO.out hf4 (.slice ab4 nb4 cb4) (.slice aw4 nw4 cw4)
        go_roundw
        case rel => exact ⟨q + 1, c', _, _, _, _, _, _, by go_num, by omega, HG.out, bx_set hf4 _ _, ⟨own_weak o5.1 (by omega), own_weak o5.2 (by omega)⟩, bx_other hrr4 (by omega) _ _, (hB4'.setCell (by simp; omega) _).setCell (by simp; omega) _⟩
        case measure => simp [intOf]; omega
      · have hg := hran.bad hlt (by rw [hs]; exact ha)
        rw [hs] at hg
        have HA := Lib.hid (all_bad (l := l) (k := (n : Int)) HZ.out (by rw [HLT.out]; exact hg) ha)
        have hwn : appBs bs c i e s = [] ∧ appWs bs c i e s = [] := by simp [appBs, appWs, ha]
        rw [hwn.1, hwn.2] at CA
        rw [hs] at hcell
        generalize appE bs c i e s = cE at CA HA ha
        have dE : (cE != 0) = true := by simpa using ha
        have KA := Lib.hid CA
        clear CA hg hwn ha hs hran htx hwr ho
        go_wp2_with fail
        refine KA.out.mono ?_
        rintro e' w4 ⟨vb4, vw4, rfl, ho4, hB4⟩
        obtain ⟨ab4, nb4, cb4, aw4, nw4, cw4, rfl, rfl, hnb4, hnw4⟩ := ho4.forms
        clear hnb4 hnw4 f0 f1 ff0 ff1 fl ho4
        have hf4 := hf.below hB4
        have hrr4 := hrr.below hB4
        have hB4' := below2 hB hB4
        obtain ⟨f0, f1, ff0, ff1, fl⟩ := hf4.cells
        obtain ⟨g0, g1, gf0, gf1, gl⟩ := hrr4.cells
        go_wp2_with fail
        have z1 := bx_set (bx_other hrr4 (B' := w2.heap.size) (by omega) (.slice ab4 nb4 cb4) (.slice aw4 nw4 cw4)) (.slice none 0 0) (.slice none 0 0)
        refine ret_disk3 (p := 10) (q := 11) (r := 12) (by kernel_rfl) rfl (w.heap.size + 1) (.slice none 0 0) (.slice none 0 0) (.bool false) (.int .i64 cE) rfl rfl rfl z1.cells.1 z1.cells.2.1 ?_
        exact ⟨_, _, by rw [HA.out.1, HA.out.2.2.2], by rw [HA.out.2.1, HA.out.2.2.1]; exact nil_own _ _, (((hB4'.setCell (by simp; omega) _).setCell (by simp; omega) _).setCell (by simp) _).setCell (by simp) _⟩
    · obtain rfl : q = L.length := by omega
      have dq : decide (((L.length : Nat) : Int) < ((L.length : Nat) : Int)) = false := by simp
      obtain ⟨g0, g1, gf0, gf1, gl⟩ := hrr.cells
      have hrw := hran.whole
      have HA := Lib.hid (all_part (l := l) (k := (n : Int)) HZ.out (by rw [HLT.out]; exact hrw) HFB.out)
      have HO := Lib.hid ho
      clear hran htx hwr hrw ho
      go_wp2_with fail
      have z1 := bx_set hrr (.slice aX nX cX) (.slice aY nY cY)
      have z2 := own_sets2 HO.out hrr (.slice aX nX cX) (.slice aY nY cY)
      refine ret_disk3 (p := 10) (q := 11) (r := 12) (by kernel_rfl) rfl (w.heap.size + 1) (.slice aX nX cX) (.slice aY nY cY) (.bool false) (.int .i64 0) rfl rfl rfl z1.cells.1 z1.cells.2.1 ?_
      exact ⟨_, _, by rw [HA.out.1, HA.out.2.2.2], by rw [HA.out.2.1, HA.out.2.2.1]; exact ⟨own_weak z2.1 (by omega), own_weak z2.2 (by omega)⟩, (hB.setCell (by simp) _).setCell (by simp) _⟩

set_option maxRecDepth 100000 in
set_option maxHeartbeats 4000000 in
theorem all_full_calls (vb vw v : Value) (bs : List (List UInt8)) (ws : List Wr) (i e : Int) (l : List (List UInt8)) (k : Int) (w : World) (hb : Txts w vb bs) (hw : Wrs w vw ws) (hl : Txts w v l) (hlm : l.length ≤ 1000000) (hT : TabOk w) (hz : waE bs ws i e = 0) (h0 : k < 0 ∨ (l.length : Int) < k) :
    Calls Tryd.prog 13 #[.agg #[vb, vw], .int .i64 i, .int .i64 e, v, .int .i64 k] w fun e' w' => ∃ vb' vw', e' = .returned (.tuple #[.agg #[vb', vw'], .bool (allD bs ws i e l k), .int .i64 (allE bs ws i e l k)]) ∧ OwnD w' w.heap.size vb' (allBs bs ws i e l k) vw' (allWs bs ws i e l k) ∧ Below w.heap.size w w' := by
  obtain ⟨ab, cb, rfl⟩ := hb.strs.form
  obtain ⟨aw, cw, rfl⟩ := hw.form
  obtain ⟨al, cl, hv, hcl, _⟩ := id hl
  subst hv
  obtain ⟨hx0, hr0, hB0⟩ := entry2 w (.slice ab bs.length cb) (.slice aw ws.length cw)
  have C1 := wacheck_calls _ _ bs ws i e _ (hb.below hB0) (hw.below hB0)
  obtain ⟨hr, he1, he2, hi1, hi2⟩ := wa_ok.1 hz
  obtain ⟨hl1, hl2, hl3, _⟩ := right_parts hr
  have hfb : fullB l k = true := by simp [fullB]; omega
  have HFB := Lib.hid hfb
  have ht : decide (k < 0) = true ∨ (decide (k < 0) = false ∧ decide (((l.length : Nat) : Int) < k) = true) := by
    by_cases h : k < 0
    · left; simp [h]
    · right; simp; omega
  obtain ⟨n, hn⟩ : ∃ n, l.length = n := ⟨_, rfl⟩
  obtain ⟨L, hL⟩ : ∃ L, takeA l k = L := ⟨_, rfl⟩
  have HLT := Lib.hid hL
  have hLn : L.length = n := by rw [← hL, ← hn]; simp [takeA, hfb]
  have HLL : Hid (Txts w (.slice al n cl) L) := Lib.hid (by rw [← hL, ← hn]; simpa [takeA, hfb] using hl)
  have HLN := Lib.hid hLn
  rw [hn] at hl hlm hcl ht ⊢
  clear hfb hL h0
  have HZ := Lib.hid hz
  have HR0 := Lib.hid (RanTo.zero (i := i) (e := e) (bs := bs) (ws := ws) L hr)
  rw [hz] at C1
  have K := Lib.hid C1
  have HC := Lib.hid (fun (W : World) (hB : Below w.heap.size w W) => wacopied_calls _ _ bs ws W (hb.below hB) (hw.below hB) (by omega) (by omega))
  have HT := Lib.hid hT
  clear C1 hz hr hb hw hl hT he1 he2 hi1 hi2
  rcases ht with t1 | ⟨t1, t2⟩
  all_goals
    go_enter Tryd.func13, Tryd.ntmps13
    go_wp2_with fail
    refine K.out.mono ?_
    rintro e' w1 ⟨rfl, hB1⟩
    have hx1 := hx0.below hB1
    have hr1 := hr0.below hB1
    obtain ⟨p0, p1, p2, p3, p4⟩ := hx1.cells
    have hBB1 := below2 hB0 hB1
    go_wp2_with fail
    refine (HC.out _ hBB1).mono ?_
    rintro e' w2 ⟨vb2, vw2, rfl, ho2, hB2⟩
    obtain ⟨ab2, nb2, cb2, aw2, nw2, cw2, rfl, rfl, hnb2, hnw2⟩ := ho2.forms
    clear hnb2 hnw2
    have hr2 := hr1.below hB2
    have hBB2 := below2 hBB1 hB2
    have hBB2s := hBB2.size
    have hB1s := hB1.size
    have hf3 := Bx.new w2 (.slice ab2 nb2 cb2) (.slice aw2 nw2 cw2)
    have hB3 := below_alloc w2 (.cells #[.slice ab2 nb2 cb2, .slice aw2 nw2 cw2] 25)
    have hr3 := hr2.below hB3
    have ho3 := OwnD.below ho2 hB3
    have hBB3 := below2 hBB2 hB3
    have hlow : w.heap.size + 2 ≤ w1.heap.size := by simpa using hB1s
    have hw12 := hB2.size
    have HI := Lib.hid (And.intro hf3 (And.intro hr3 (And.intro ho3 hBB3)))
    clear p0 p1 p2 p3 p4 hx1 hr1 hr2 ho2 hf3 hr3 ho3 hBB3 hx0 hr0 hBB1
    go_wp2_with fail
    go_loopw [44] (fun p wr => ∃ (q : Nat) (c : List Wr) (aX nX cX aY nY cY : _), p = .int .i64 (q : Int) ∧ q ≤ L.length ∧ RanTo i e bs ws L q c ∧ Bx wr w2.heap.size (.slice aX nX cX) (.slice aY nY cY) ∧ OwnD wr (w.heap.size + 2) (.slice aX nX cX) bs (.slice aY nY cY) c ∧ Bx wr (w.heap.size + 1) (.slice none 0 0) (.slice none 0 0) ∧ Below w.heap.size w wr)
      (fun p _ => L.length - (intOf p).toNat)
    case atStart => exact ⟨0, ws, _, _, _, _, _, _, rfl, Nat.zero_le _, HR0.out, HI.out.1, ⟨own_weak HI.out.2.2.1.1 hlow, own_weak HI.out.2.2.1.2 hlow⟩, HI.out.2.1, HI.out.2.2.2⟩
    case round =>
      obtain ⟨q, c, aX, nX, cX, aY, nY, cY, rfl, hq, hran, hf, ho, hrr, hB⟩ := hrel
      clear HI
      obtain ⟨f0, f1, ff0, ff1, fl⟩ := hf.cells
      have hfl := fl
      have htx := ho.texts
      have hwr := ho.wrs
      have hBs := hB.size
      by_cases hlt : q < L.length
      · have dq : decide ((q : Int) < ((L.length : Nat) : Int)) = true := by simp; omega
        obtain ⟨b4, o4, hat, hcell⟩ := (HLL.out.below hB).strs.at hlt
        subst hat
        have hcb := World.block_lt_of_cell? wr _ hcell
        obtain ⟨s, hs⟩ : ∃ s, L[q] = s := ⟨_, rfl⟩
        have CA := append_calls _ _ bs c i e s wr htx hwr (HT.out.below hB)
        by_cases ha : appE bs c i e s = 0
        · have hg : RanTo i e bs ws L (q + 1) (appWs bs c i e s) := by
            have := hran.good hlt (by rw [hs]; exact ha)
            rwa [hs] at this
          have hab : appBs bs c i e s = bs := by rw [appBs, if_pos ha]
          rw [ha, hab] at CA
          rw [hs] at hcell
          generalize appWs bs c i e s = c' at hg CA
          have HG := Lib.hid hg
          have KA := Lib.hid CA
          clear CA hg hab ha hs hran htx hwr
          go_wp2_with fail
          refine KA.out.mono ?_
          rintro e' w4 ⟨vb4, vw4, rfl, ho4, hB4⟩
          obtain ⟨ab4, nb4, cb4, aw4, nw4, cw4, rfl, rfl, hnb4, hnw4⟩ := ho4.forms
          clear hnb4 hnw4 f0 f1 ff0 ff1 fl
          have hf4 := hf.below hB4
          have hrr4 := hrr.below hB4
          have hB4' := below2 hB hB4
          obtain ⟨f0, f1, ff0, ff1, fl⟩ := hf4.cells
          have HO := Lib.hid ho4
          clear ho4 ho
          go_wp2_with fail
          have o5 := own_sets2 HO.out hf4 (.slice ab4 nb4 cb4) (.slice aw4 nw4 cw4)
          go_roundw
          case rel => exact ⟨q + 1, c', _, _, _, _, _, _, by go_num, by omega, HG.out, bx_set hf4 _ _, ⟨own_weak o5.1 (by omega), own_weak o5.2 (by omega)⟩, bx_other hrr4 (by omega) _ _, (hB4'.setCell (by simp; omega) _).setCell (by simp; omega) _⟩
          case measure => simp [intOf]; omega
        · have hg := hran.bad hlt (by rw [hs]; exact ha)
          rw [hs] at hg
          have HA := Lib.hid (all_bad (l := l) (k := k) HZ.out (by rw [HLT.out]; exact hg) ha)
          have hwn : appBs bs c i e s = [] ∧ appWs bs c i e s = [] := by simp [appBs, appWs, ha]
          rw [hwn.1, hwn.2] at CA
          rw [hs] at hcell
          generalize appE bs c i e s = cE at CA HA ha
          have dE : (cE != 0) = true := by simpa using ha
          have KA := Lib.hid CA
          clear CA hg hwn ha hs hran htx hwr ho
          go_wp2_with fail
          refine KA.out.mono ?_
          rintro e' w4 ⟨vb4, vw4, rfl, ho4, hB4⟩
          obtain ⟨ab4, nb4, cb4, aw4, nw4, cw4, rfl, rfl, hnb4, hnw4⟩ := ho4.forms
          clear hnb4 hnw4 f0 f1 ff0 ff1 fl ho4
          have hf4 := hf.below hB4
          have hrr4 := hrr.below hB4
          have hB4' := below2 hB hB4
          obtain ⟨f0, f1, ff0, ff1, fl⟩ := hf4.cells
          obtain ⟨g0, g1, gf0, gf1, gl⟩ := hrr4.cells
          go_wp2_with fail
          have z1 := bx_set (bx_other hrr4 (B' := w2.heap.size) (by omega) (.slice ab4 nb4 cb4) (.slice aw4 nw4 cw4)) (.slice none 0 0) (.slice none 0 0)
          refine ret_disk3 (p := 10) (q := 11) (r := 12) (by kernel_rfl) rfl (w.heap.size + 1) (.slice none 0 0) (.slice none 0 0) (.bool false) (.int .i64 cE) rfl rfl rfl z1.cells.1 z1.cells.2.1 ?_
          exact ⟨_, _, by rw [HA.out.1, HA.out.2.2.2], by rw [HA.out.2.1, HA.out.2.2.1]; exact nil_own _ _, (((hB4'.setCell (by simp; omega) _).setCell (by simp; omega) _).setCell (by simp) _).setCell (by simp) _⟩
      · obtain rfl : q = L.length := by omega
        have dq : decide (((L.length : Nat) : Int) < ((L.length : Nat) : Int)) = false := by simp
        obtain ⟨g0, g1, gf0, gf1, gl⟩ := hrr.cells
        have hrw := hran.whole
        have HA := Lib.hid (all_full (l := l) (k := k) HZ.out (by rw [HLT.out]; exact hrw) HFB.out)
        have hrc := hran.2
        have CS := sync_calls _ _ bs c wr htx hwr
        rw [show syncE bs c = 0 by simp [syncE, hrc], show syncBs bs c = layL bs c by simp [syncBs, hrc]] at CS
        generalize layL bs c = cL at CS HA
        have KS := Lib.hid CS
        clear hran htx hwr hrw ho hrc CS
        go_wp2_with fail
        refine KS.out.mono ?_
        rintro e' w4 ⟨vb4, vw4, rfl, ho4, hB4⟩
        obtain ⟨ab4, nb4, cb4, aw4, nw4, cw4, rfl, rfl, hnb4, hnw4⟩ := ho4.forms
        clear hnb4 hnw4 f0 f1 ff0 ff1 fl g0 g1 gf0 gf1 gl
        have hf4 := hf.below hB4
        have hrr4 := hrr.below hB4
        have hB4' := below2 hB hB4
        obtain ⟨f0, f1, ff0, ff1, fl⟩ := hf4.cells
        obtain ⟨g0, g1, gf0, gf1, gl⟩ := hrr4.cells
        have HO := Lib.hid ho4
        clear ho4
        go_wp2_with fail
        have y1 := bx_other hrr4 (B' := w2.heap.size) (by omega) (.slice ab4 nb4 cb4) (.slice aw4 nw4 cw4)
        have z1 := bx_set y1 (.slice ab4 nb4 cb4) (.slice aw4 nw4 cw4)
        have z2 := own_sets2 (own_sets2 HO.out hf4 (.slice ab4 nb4 cb4) (.slice aw4 nw4 cw4)) y1 (.slice ab4 nb4 cb4) (.slice aw4 nw4 cw4)
        refine ret_disk3 (p := 10) (q := 11) (r := 12) (by kernel_rfl) rfl (w.heap.size + 1) (.slice ab4 nb4 cb4) (.slice aw4 nw4 cw4) (.bool true) (.int .i64 0) rfl rfl rfl z1.cells.1 z1.cells.2.1 ?_
        exact ⟨_, _, by rw [HA.out.1, HA.out.2.2.2], by rw [HA.out.2.1, HA.out.2.2.1]; exact ⟨own_weak z2.1 (by omega), own_weak z2.2 (by omega)⟩, (((hB4'.setCell (by simp; omega) _).setCell (by simp; omega) _).setCell (by simp) _).setCell (by simp) _⟩


set_option maxRecDepth 100000 in
set_option maxHeartbeats 4000000 in
theorem walAll_calls (vb vw v : Value) (bs : List (List UInt8)) (ws : List Wr) (i e : Int) (l : List (List UInt8)) (k : Int) (w : World) (hb : Txts w vb bs) (hw : Wrs w vw ws) (hl : Txts w v l) (hlm : l.length ≤ 1000000) (hT : TabOk w) :
    Calls Tryd.prog 13 #[.agg #[vb, vw], .int .i64 i, .int .i64 e, v, .int .i64 k] w fun e' w' => ∃ vb' vw', e' = .returned (.tuple #[.agg #[vb', vw'], .bool (allD bs ws i e l k), .int .i64 (allE bs ws i e l k)]) ∧ OwnD w' w.heap.size vb' (allBs bs ws i e l k) vw' (allWs bs ws i e l k) ∧ Below w.heap.size w w' := by
  obtain ⟨ab, cb, rfl⟩ := hb.strs.form
  obtain ⟨aw, cw, rfl⟩ := hw.form
  obtain ⟨hx0, hr0, hB0⟩ := entry2 w (.slice ab bs.length cb) (.slice aw ws.length cw)
  have C1 := wacheck_calls _ _ bs ws i e _ (hb.below hB0) (hw.below hB0)
  by_cases hz : waE bs ws i e = 0
  · by_cases h : k < 0 ∨ (l.length : Int) < k
    · exact all_full_calls _ _ _ bs ws i e l k w hb hw hl hlm hT hz h
    · exact all_part_calls _ _ _ bs ws i e l k w hb hw hl hlm hT hz (by omega) (by omega)
  · have HA := Lib.hid (all_refused (l := l) (k := k) hz)
    generalize waE bs ws i e = cE at C1 HA hz
    have dE : (cE != 0) = true := by simpa using hz
    have K := Lib.hid C1
    clear C1 hz
    go_enter Tryd.func13, Tryd.ntmps13
    go_wp2_with fail
    refine K.out.mono ?_
    rintro e' w1 ⟨rfl, hB1⟩
    have hr1 := hr0.below hB1
    obtain ⟨g0, g1, gf0, gf1, gl⟩ := hr1.cells
    go_wp2_with fail
    have z1 := bx_set hr1 (.slice none 0 0) (.slice none 0 0)
    refine ret_disk3 (p := 10) (q := 11) (r := 12) (by kernel_rfl) rfl (w.heap.size + 1) (.slice none 0 0) (.slice none 0 0) (.bool false) (.int .i64 cE) rfl rfl rfl z1.cells.1 z1.cells.2.1 ?_
    exact ⟨_, _, by rw [HA.out.1, HA.out.2.2.2], by rw [HA.out.2.1, HA.out.2.2.1]; exact nil_own _ _, ((below2 hB0 hB1).setCell (by simp) _).setCell (by simp) _⟩

end Go.Proofs.YtcipdmdliobdmaaDoor

/-
  The document's own wal: Record, read, open.
-/
namespace Go.Proofs.YtcipdmdliobdmaaDoor
open Go.RowKit
attribute [local go_sem] app_mk

set_option maxRecDepth 100000 in
set_option maxHeartbeats 1000000 in
theorem refRecord_calls (n p : Nat) (hn : n ≤ 4294967295) (hp : p ≤ 4294967295) (s : List UInt8) (hs : s.length ≤ 200) (w : World) :
    Calls Tryd.prog 32 #[.int .i64 n, .int .i64 p, .string ⟨s.toArray⟩] w fun e w' => e = .returned (.string ⟨(recB n p s).toArray⟩) ∧ Below w.heap.size w w' := by
  have h1 := wid_le n
  have h2 := numB_length n
  have h3 := wid_le p
  have h4 := numB_length p
  have N1 := Lib.hid (refNumber_ok n hn)
  have N2 := Lib.hid (refNumber_ok p hp)
  unfold recB
  generalize numB n = a at N1 h2 ⊢
  generalize numB p = b at N2 h4 ⊢
  have ha : a.length ≤ 5 := by omega
  have hb : b.length ≤ 5 := by omega
  have hl : (a ++ (b ++ s)).length ≤ 4000 := by simp only [List.length_append]; omega
  have PP := Lib.hid (refPut_ok (a ++ (b ++ s)) hl)
  clear h1 h2 h3 h4 hn hp hl
  go_enter Tryd.func32, Tryd.ntmps32
  go_wp2_with fail
  refine (N1.out _).mono ?_
  rintro e w1 ⟨rfl, hB1⟩
  go_wp2_with fail
  refine (N2.out _).mono ?_
  rintro e w2 ⟨rfl, hB2⟩
  go_wp2_with fail
  refine (PP.out _).mono ?_
  rintro e w3 ⟨rfl, hB3⟩
  go_wp2_with fail
  go_ret
  exact ⟨rfl, below3 hB1 hB2 hB3⟩

/-- What a block says, as the document's own words answer. -/
def RdPost (w : World) (o : Option (List UInt8)) (e : Ending) (w' : World) : Prop :=
  (∃ t : List UInt8, e = .returned (.tuple #[.string ⟨t.toArray⟩, .bool o.isSome]) ∧ ∀ x, o = some x → t = x) ∧ Below w.heap.size w w'

set_option maxRecDepth 100000 in
set_option maxHeartbeats 4000000 in
theorem refReadR_calls (s : List UInt8) (hm : s.length ≤ 4611686018427387904) (e p : Int) (w : World) :
    Calls Tryd.prog 28 #[.string ⟨s.toArray⟩, .int .i64 e, .int .i64 p] w (RdPost w (recAt s e p)) := by
  cases hg : getF s with
  | none =>
    have E := Lib.hid (show recAt s e p = none by simp [recAt, hearR, hg])
    have G := Lib.hid hg
    clear hg
    go_enter Tryd.func28, Tryd.ntmps28
    go_wp2_with fail
    refine (refGet_none s hm G.out _).mono ?_
    rintro e w1 ⟨rfl, hB1⟩
    go_wp2_with fail
    go_ret2
    exact ⟨⟨_, by rw [E.out]; rfl, fun x h => by rw [E.out] at h; cases h⟩, hB1⟩
  | some x =>
    obtain ⟨t, r⟩ := x
    have hb := getF_bounds hg
    have G := Lib.hid hg
    by_cases hr : r = []
    · subst hr
      cases hn : getN t with
      | none =>
        have E := Lib.hid (show recAt s e p = none by simp [recAt, hearR, hg, hn])
        have N := Lib.hid hn
        have e0 : getN [] = none := rfl
        clear hg hn
        go_enter Tryd.func28, Tryd.ntmps28
        go_wp2_with fail
        refine (refGet_some s hm G.out _).mono ?_
        rintro e w1 ⟨rfl, hB1⟩
        go_wp2_with fail
        refine (refGetNumber_none t (by omega) N.out _).mono ?_
        rintro e w2 ⟨rfl, hB2⟩
        go_wp2_with fail
        refine (refGetNumber_none [] (by simp) e0 _).mono ?_
        rintro e w3 ⟨rfl, hB3⟩
        go_wp2_with fail
        go_ret2
        exact ⟨⟨_, by rw [E.out]; rfl, fun x h => by rw [E.out] at h; cases h⟩, below3 hB1 hB2 hB3⟩
      | some y =>
        obtain ⟨n, m⟩ := y
        have hnb := getN_bounds hn
        have N := Lib.hid hn
        cases hq : getN m with
        | none =>
          have E := Lib.hid (show recAt s e p = none by simp [recAt, hearR, hg, hn, hq])
          have M := Lib.hid hq
          clear hg hn hq
          go_enter Tryd.func28, Tryd.ntmps28
          go_wp2_with fail
          refine (refGet_some s hm G.out _).mono ?_
          rintro e w1 ⟨rfl, hB1⟩
          go_wp2_with fail
          refine (refGetNumber_some t (by omega) N.out _).mono ?_
          rintro e w2 ⟨rfl, hB2⟩
          go_wp2_with fail
          refine (refGetNumber_none m (by omega) M.out _).mono ?_
          rintro e w3 ⟨rfl, hB3⟩
          go_wp2_with fail
          go_ret2
          exact ⟨⟨_, by rw [E.out]; rfl, fun x h => by rw [E.out] at h; cases h⟩, below3 hB1 hB2 hB3⟩
        | some z =>
          obtain ⟨q, x⟩ := z
          have M := Lib.hid hq
          have hE : recAt s e p = if x.length ≤ 200 then (if (n : Int) = e ∧ (q : Int) = p then some x else none) else none := by
            simp only [recAt, hearR, hg, hn, hq, if_true]
            by_cases hx : x.length ≤ 200
            · simp only [if_pos hx]
            · simp only [if_neg hx]
          obtain ⟨b1, hb1⟩ : ∃ b, ((n : Int) == e) = b := ⟨_, rfl⟩
          obtain ⟨b2, hb2⟩ : ∃ b, ((q : Int) == p) = b := ⟨_, rfl⟩
          obtain ⟨b3, hb3⟩ : ∃ b, decide ((x.length : Int) ≤ 200) = b := ⟨_, rfl⟩
          have E : Hid (recAt s e p = if b1 && b2 && b3 then some x else none) := Lib.hid (by
            rw [hE, ← hb1, ← hb2, ← hb3]
            by_cases h1 : x.length ≤ 200
            · by_cases h2 : (n : Int) = e
              · by_cases h3 : (q : Int) = p
                · rw [if_pos h1, if_pos ⟨h2, h3⟩]
                  simp [h2, h3]
                  omega
                · rw [if_pos h1, if_neg (fun z => h3 z.2)]
                  simp [h3]
              · rw [if_pos h1, if_neg (fun z => h2 z.1)]
                simp [h2]
            · rw [if_neg h1]
              have : decide ((x.length : Int) ≤ 200) = false := by simp; omega
              rw [this]
              simp)
          clear hE hg hn hq
          cases b1 <;> cases b2 <;> cases b3
          all_goals
            go_enter Tryd.func28, Tryd.ntmps28
            go_wp2_with fail
            refine (refGet_some s hm G.out _).mono ?_
            rintro e w1 ⟨rfl, hB1⟩
            go_wp2_with fail
            refine (refGetNumber_some t (by omega) N.out _).mono ?_
            rintro e w2 ⟨rfl, hB2⟩
            go_wp2_with fail
            refine (refGetNumber_some m (by omega) M.out _).mono ?_
            rintro e w3 ⟨rfl, hB3⟩
            go_wp2_with fail
            go_ret2
            exact ⟨⟨x, by rw [E.out]; rfl, fun y h => by rw [E.out] at h; first | exact Option.some.inj h | cases h⟩, below3 hB1 hB2 hB3⟩
    · have hrb : (r == []) = false := by simp [hr]
      have E := Lib.hid (show recAt s e p = none by simp [recAt, hearR, hg, hr])
      clear hg hr
      go_enter Tryd.func28, Tryd.ntmps28
      go_wp2_with fail
      refine (refGet_some s hm G.out _).mono ?_
      rintro e w1 ⟨rfl, hB1⟩
      go_wp2_with fail
      go_ret2
      exact ⟨⟨_, by rw [E.out]; rfl, fun x h => by rw [E.out] at h; cases h⟩, hB1⟩

end Go.Proofs.YtcipdmdliobdmaaDoor

/-
  The document's own wal: open, Open, Room.
-/
namespace Go.Proofs.YtcipdmdliobdmaaDoor
open Go.RowKit

set_option maxRecDepth 100000 in
set_option maxHeartbeats 2000000 in
theorem refopen_calls (vb vw : Value) (bs : List (List UInt8)) (ws : List Wr) (i e : Int) (w : World) (hb : Txts w vb bs) (hw : Wrs w vw ws) :
    Calls Tryd.prog 26 #[.agg #[vb, vw], .int .i64 i, .int .i64 e] w fun e' w' => e' = .returned (.int .i64 (waE bs ws i e)) ∧ Below w.heap.size w w' := by
  obtain ⟨ab, cb, rfl⟩ := hb.strs.form
  obtain ⟨aw, cw, rfl⟩ := hw.form
  have hx0 := Bx.new w (.slice ab bs.length cb) (.slice aw ws.length cw)
  have hB0 := below_alloc w (.cells #[.slice ab bs.length cb, .slice aw ws.length cw] 25)
  have C1 := refCheck_calls _ _ bs ws _ (hb.below hB0) (hw.below hB0)
  cases hR : rightB bs ws with
  | false =>
    have E := Lib.hid (show waE bs ws i e = 1 by simp [waE, hR])
    rw [hR] at C1
    have K := Lib.hid C1
    clear C1 hR
    go_enter Tryd.func26, Tryd.ntmps26
    go_wp2_with fail
    refine K.out.mono ?_
    rintro e w1 ⟨rfl, hB1⟩
    go_wp2_with fail
    go_ret
    exact ⟨by rw [E.out]; rfl, below2 hB0 hB1⟩
  | true =>
    have hR' := Lib.hid hR
    rw [hR] at C1
    have K := Lib.hid C1
    clear C1 hR
    by_cases h1 : e < 0
    · have d1 : decide (e < 0) = true := by simp [h1]
      have E := Lib.hid (show waE bs ws i e = 1 by unfold waE; rw [if_neg (by omega)])
      go_enter Tryd.func26, Tryd.ntmps26
      go_wp2_with fail
      refine K.out.mono ?_
      rintro e w1 ⟨rfl, hB1⟩
      go_wp2_with fail
      go_ret
      exact ⟨by rw [E.out]; rfl, below2 hB0 hB1⟩
    · have d1 : decide (e < 0) = false := by simp; omega
      by_cases h2 : 1000000000 < e
      · have d2 : decide (1000000000 < e) = true := by simp [h2]
        have E := Lib.hid (show waE bs ws i e = 1 by unfold waE; rw [if_neg (by omega)])
        go_enter Tryd.func26, Tryd.ntmps26
        go_wp2_with fail
        refine K.out.mono ?_
        rintro e w1 ⟨rfl, hB1⟩
        go_wp2_with fail
        go_ret
        exact ⟨by rw [E.out]; rfl, below2 hB0 hB1⟩
      · have d2 : decide (1000000000 < e) = false := by simp; omega
        by_cases h3 : i < 0
        · have d3 : decide (i < 0) = true := by simp [h3]
          have E := Lib.hid (show waE bs ws i e = 40 by
            unfold waE
            rw [if_pos ⟨hR'.out, by omega, by omega⟩, if_neg (by simp [hasB]; omega)])
          go_enter Tryd.func26, Tryd.ntmps26
          go_wp2_with fail
          refine K.out.mono ?_
          rintro e w1 ⟨rfl, hB1⟩
          obtain ⟨p0, p1, _⟩ := (hx0.below hB1).cells
          go_wp2_with fail
          go_ret
          exact ⟨by rw [E.out]; rfl, below2 hB0 hB1⟩
        · have d3 : decide (i < 0) = false := by simp; omega
          by_cases h4 : (bs.length : Int) ≤ i
          · have d4 : decide ((bs.length : Int) ≤ i) = true := by simp [h4]
            have E := Lib.hid (show waE bs ws i e = 40 by
              unfold waE
              rw [if_pos ⟨hR'.out, by omega, by omega⟩, if_neg (by simp [hasB]; omega)])
            go_enter Tryd.func26, Tryd.ntmps26
            go_wp2_with fail
            refine K.out.mono ?_
            rintro e w1 ⟨rfl, hB1⟩
            obtain ⟨p0, p1, _⟩ := (hx0.below hB1).cells
            go_wp2_with fail
            go_ret
            exact ⟨by rw [E.out]; rfl, below2 hB0 hB1⟩
          · have d4 : decide ((bs.length : Int) ≤ i) = false := by simp; omega
            have E := Lib.hid (show waE bs ws i e = 0 by
              unfold waE
              rw [if_pos ⟨hR'.out, by omega, by omega⟩, if_pos (by simp [hasB]; omega)])
            go_enter Tryd.func26, Tryd.ntmps26
            go_wp2_with fail
            refine K.out.mono ?_
            rintro e w1 ⟨rfl, hB1⟩
            obtain ⟨p0, p1, _⟩ := (hx0.below hB1).cells
            go_wp2_with fail
            go_ret
            exact ⟨by rw [E.out]; rfl, below2 hB0 hB1⟩

set_option maxRecDepth 100000 in
set_option maxHeartbeats 4000000 in
theorem refOpen_calls (vb vw : Value) (bs : List (List UInt8)) (ws : List Wr) (i e : Int) (w : World) (hb : Txts w vb bs) (hw : Wrs w vw ws) :
    Calls Tryd.prog 10 #[.agg #[vb, vw], .int .i64 i, .int .i64 e] w fun e' w' => ∃ v, e' = .returned (.tuple #[v, .int .i64 (waE bs ws i e)]) ∧ w'.ownsRow w.heap.size 9 1 v (openL bs ws i e).length ((openL bs ws i e).map SV) ∧ Below w.heap.size w w' := by
  obtain ⟨i0, hi0, hz0, hz1, hz2⟩ := info_parts info9
  obtain ⟨ab, cb, rfl⟩ := hb.strs.form
  obtain ⟨aw, cw, rfl⟩ := hw.form
  have hx0 := Bx.new w (.slice ab bs.length cb) (.slice aw ws.length cw)
  have hB0 := below_alloc w (.cells #[.slice ab bs.length cb, .slice aw ws.length cw] 25)
  have C1 := refopen_calls _ _ bs ws i e _ (hb.below hB0) (hw.below hB0)
  by_cases hz : waE bs ws i e = 0
  · have E : openL bs ws i e = (tellL e 0 (logD bs ws i)).map Prod.snd := by simp [openL, hz, walL]
    rw [hz] at C1 ⊢
    rw [E]
    obtain ⟨hr, he1, he2, hi1, hi2⟩ := wa_ok.1 hz
    have hl200 := (right_parts hr).2.1
    have hlen := logD_len bs ws i
    have KR := Lib.hid (fun (W' : World) (hB' : Below w.heap.size w W') (k : Nat) (_ : k < (logD bs ws i).length) => refRead_calls _ _ bs ws (i + k) W' (hb.below hB') (hw.below hB'))
    have HR := Lib.hid hr
    have HWA := Lib.hid hz
    obtain ⟨D, hD⟩ : ∃ D, logD bs ws i = D := ⟨_, rfl⟩
    have HD := Lib.hid hD
    rw [hD] at hlen ⊢
    have hlD : (D.length : Int) = (bs.length : Int) - i := by omega
    have K := Lib.hid C1
    clear C1 E hD hlen hr hz hb hw
    go_enter Tryd.func10, Tryd.ntmps10
    go_wp2_with fail
    refine K.out.mono ?_
    rintro e' w1 ⟨rfl, hB1⟩
    have hx1 := hx0.below hB1
    obtain ⟨p0, p1, p2, p3, p4⟩ := hx1.cells
    have hBB1 := below2 hB0 hB1
    have H1 := Lib.hid (And.intro hx1 hBB1)
    go_wp2_with fail
    go_loopw [9, 10] (fun v p wr => ∃ (ts : List (Nat × List UInt8)) (k : Nat), p = .int .i64 (i + (k : Int)) ∧ k ≤ D.length ∧ ts.length = k ∧ ts ++ tellL e k (D.drop k) = tellL e 0 D ∧ wr.ownsRow w.heap.size 9 1 v ts.length (ts.map fun x => SV x.2) ∧ Bx wr w.heap.size (.slice ab bs.length cb) (.slice aw ws.length cw) ∧ Below w.heap.size w wr)
      (fun _ p _ => (bs.length : Int).toNat - (intOf p).toNat)
    case atStart => exact ⟨[], 0, by simp, Nat.zero_le _, rfl, rfl, World.ownsRow_nil _ _ _ _, H1.out.1, H1.out.2⟩
    case round =>
      obtain ⟨ts, k, rfl, hk, htl, hp, hown, hx, hB⟩ := hrel
      clear H1 p0 p1 p2 p3 p4
      obtain ⟨p0, p1, p2, p3, p4⟩ := hx.cells
      have hBs := hB.size
      by_cases hlt : k < D.length
      · have dk : decide (i + (k : Int) < (bs.length : Int)) = true := by simp; omega
        have hkD : k < (logD bs ws i).length := by rw [HD.out]; exact hlt
        have hs := read_says HWA.out hkD
        have hsl := logD_small HR.out hkD
        have hcell : (logD bs ws i)[k] = D[k] := by simp only [HD.out]
        rw [hcell] at hs hsl
        obtain ⟨s, hse⟩ : ∃ s, D[k] = s := ⟨_, rfl⟩
        rw [hse] at hs hsl
        have K1 := KR.out wr hB k hkD
        rw [hs.1, hs.2] at K1
        have HSE := Lib.hid hse
        have HK1 := Lib.hid K1
        have HP := Lib.hid hp
        clear hs hcell hse K1 hp hkD
        go_wp2_with fail
        refine HK1.out.mono ?_
        rintro e' w2 ⟨rfl, hB2⟩
        have hb2 := below2 hB hB2
        have hik : i + (k : Int) - i = (k : Int) := by omega
        have K2 := refReadR_calls s (by omega) e (i + (k : Int) - i) w2
        have e2 : recAt s e (i + (k : Int) - i) = recAt s e k := by rw [hik]
        rw [e2] at K2
        have HK2 := Lib.hid K2
        clear K2 e2 hik
        have hown2 := own_below hown hB2
        have hx2 := hx.below hB2
        cases hh : recAt s e k with
        | none =>
          rw [hh] at HK2
          have HT0 : Hid (ts = tellL e 0 D) := Lib.hid (by
            have h := HP.out
            rw [tell_none hlt (by rw [HSE.out]; exact hh), List.append_nil] at h
            exact h)
          clear hh HP
          go_wp2_with fail
          refine HK2.out.mono ?_
          rintro e' w3 ⟨⟨t, rfl, _⟩, hB3⟩
          have hown3 := own_below hown2 hB3
          go_wp2_with fail
          go_ret2
          exact ⟨_, rfl, by rw [← HT0.out]; simpa [Function.comp_def] using hown3, below2 hb2 hB3⟩
        | some x =>
          rw [hh] at HK2
          have HP2 : Hid (ts ++ (k, x) :: tellL e (k + 1) (D.drop (k + 1)) = tellL e 0 D) := Lib.hid (by
            have h := HP.out
            rw [tell_some hlt (by rw [HSE.out]; exact hh)] at h
            exact h)
          clear hh HP
          go_wp2_with fail
          refine HK2.out.mono ?_
          rintro e' w3 ⟨⟨t, rfl, ht⟩, hB3⟩
          obtain rfl := ht x rfl
          have hown3 := own_below hown2 hB3
          have hx3 := hx2.below hB3
          have hb3 := below2 hb2 hB3
          have hb3s := hb3.size
          go_wp2_with (at_builtin; refine wpList_append_own _ rfl _ _ 22 rfl w.heap.size 9 i0 (.string ⟨#[]⟩) 1 16 Tryd.underlying22 hi0 hz0 hz1 hz2 rfl (by decide) _ _ _ rfl (hown3.alloc _) ⟨w3.heap.size, 0, none⟩ 1 1 [.string ⟨t.toArray⟩] rfl rfl (cell_one_new _ _ _) (by simp [Value.oneCell']) (by unfold maxLen; omega) (by omega) (by simp; omega) ?_; intro v4 w4 hown4 hg4 _; have hx4 := (hx3.below (below_alloc _ _)).kept hg4 (by have := (hx3.below (below_alloc w3 (.cells #[.string ⟨t.toArray⟩] 9))).not_row (hown3.alloc (.cells #[.string ⟨t.toArray⟩] 9)) (by decide); exact this); have hb4 := (hb3.alloc hb3s (.cells #[.string ⟨t.toArray⟩] 9)).grown hg4 (by simp; omega) (fun j e => (hown3.lt j e).1))
          go_roundw
          case rel => exact ⟨ts ++ [(k, t)], k + 1, by go_num, by omega, by simp; omega, by rw [← HP2.out]; simp, by simpa [SV] using hown4, hx4, hb4⟩
          case measure => simp [intOf]; omega
      · obtain rfl : k = D.length := by omega
        have dk : decide (i + (D.length : Int) < (bs.length : Int)) = false := by simp; omega
        have HT0 : Hid (ts = tellL e 0 D) := Lib.hid (by
          rw [tell_end (Nat.le_refl _), List.append_nil] at hp
          exact hp)
        clear hp
        go_wp2_with fail
        go_ret2
        exact ⟨_, rfl, by rw [← HT0.out]; simpa [Function.comp_def] using hown, hB⟩
  · have E := Lib.hid (show openL bs ws i e = [] by simp [openL, hz])
    obtain ⟨E0, hE0⟩ : ∃ E0, waE bs ws i e = E0 := ⟨_, rfl⟩
    rw [hE0] at C1 hz ⊢
    rw [E.out]
    have hzb2 : (E0 != 0) = true := by simpa using hz
    have K := Lib.hid C1
    clear C1 hE0 hz
    go_enter Tryd.func10, Tryd.ntmps10
    go_wp2_with fail
    refine K.out.mono ?_
    rintro e' w1 ⟨rfl, hB1⟩
    go_wp2_with fail
    go_ret2
    exact ⟨_, rfl, World.ownsRow_nil _ _ _ _, below2 hB0 hB1⟩

set_option maxRecDepth 100000 in
set_option maxHeartbeats 4000000 in
theorem refRoom_calls (vb vw : Value) (bs : List (List UInt8)) (ws : List Wr) (i e : Int) (w : World) (hb : Txts w vb bs) (hw : Wrs w vw ws) :
    Calls Tryd.prog 16 #[.agg #[vb, vw], .int .i64 i, .int .i64 e] w fun e' w' => e' = .returned (.tuple #[.int .i64 (roomN bs ws i e), .int .i64 (waE bs ws i e)]) ∧ Below w.heap.size w w' := by
  obtain ⟨ab, cb, rfl⟩ := hb.strs.form
  obtain ⟨aw, cw, rfl⟩ := hw.form
  have hx0 := Bx.new w (.slice ab bs.length cb) (.slice aw ws.length cw)
  have hB0 := below_alloc w (.cells #[.slice ab bs.length cb, .slice aw ws.length cw] 25)
  have C1 := refOpen_calls _ _ bs ws i e _ (hb.below hB0) (hw.below hB0)
  by_cases hz : waE bs ws i e = 0
  · obtain ⟨hr, he1, he2, hi1, hi2⟩ := wa_ok.1 hz
    have hl200 := (right_parts hr).2.1
    have hwl := wal_len bs ws i e
    have E : openL bs ws i e = walL bs ws i e := by simp [openL, hz]
    have E2 := Lib.hid (show roomN bs ws i e = (bs.length : Int) - i - ((walL bs ws i e).length : Int) by simp [roomN, hz])
    rw [hz, E] at C1
    rw [hz]
    generalize walL bs ws i e = L at C1 hwl E2
    have K := Lib.hid C1
    clear C1 E hr hz
    go_enter Tryd.func16, Tryd.ntmps16
    go_wp2_with fail
    refine K.out.mono ?_
    rintro e' w1 ⟨v, rfl, ho, hB1⟩
    obtain ⟨al, cl, rfl⟩ := (Txts.own ho).strs.form
    have hx1 := hx0.below hB1
    obtain ⟨p0, p1, p2, p3, p4⟩ := hx1.cells
    go_wp2_with fail
    go_ret2
    exact ⟨by rw [E2.out]; rfl, below2 hB0 hB1⟩
  · have E := Lib.hid (show roomN bs ws i e = 0 by simp [roomN, hz])
    obtain ⟨E0, hE0⟩ : ∃ E0, waE bs ws i e = E0 := ⟨_, rfl⟩
    rw [hE0] at C1 hz ⊢
    have hzb2 : (E0 != 0) = true := by simpa using hz
    have K := Lib.hid C1
    clear C1 hE0 hz
    go_enter Tryd.func16, Tryd.ntmps16
    go_wp2_with fail
    refine K.out.mono ?_
    rintro e' w1 ⟨v, rfl, ho, hB1⟩
    obtain ⟨al, nl, cl, hv⟩ := own_form ho
    subst hv
    go_wp2_with fail
    go_ret2
    exact ⟨by rw [E.out]; rfl, below2 hB0 hB1⟩

end Go.Proofs.YtcipdmdliobdmaaDoor

/-
  The document's own wal: Append.
-/
namespace Go.Proofs.YtcipdmdliobdmaaDoor
open Go.RowKit

set_option maxRecDepth 100000 in
set_option maxHeartbeats 2000000 in
theorem refAppend_calls (vb vw : Value) (bs : List (List UInt8)) (ws : List Wr) (i e : Int) (s : List UInt8) (w : World) (hb : Txts w vb bs) (hw : Wrs w vw ws) :
    Calls Tryd.prog 12 #[.agg #[vb, vw], .int .i64 i, .int .i64 e, .string ⟨s.toArray⟩] w fun e' w' => ∃ vb' vw', e' = .returned (.tuple #[.agg #[vb', vw'], .int .i64 (appE bs ws i e s)]) ∧ OwnD w' w.heap.size vb' (appBs bs ws i e s) vw' (appWs bs ws i e s) ∧ Below w.heap.size w w' := by
  obtain ⟨ab, cb, rfl⟩ := hb.strs.form
  obtain ⟨aw, cw, rfl⟩ := hw.form
  obtain ⟨hx0, hr0, hB0⟩ := entry2 w (.slice ab bs.length cb) (.slice aw ws.length cw)
  have C1 := refOpen_calls _ _ bs ws i e _ (hb.below hB0) (hw.below hB0)
  by_cases hz : waE bs ws i e = 0
  · obtain ⟨hr, he1, he2, hi1, hi2⟩ := wa_ok.1 hz
    have hl200 := (right_parts hr).2.1
    have hwl := wal_len bs ws i e
    have EO : openL bs ws i e = walL bs ws i e := by simp [openL, hz]
    obtain ⟨L, hL⟩ : ∃ L, walL bs ws i e = L := ⟨_, rfl⟩
    have hR : roomN bs ws i e = (bs.length : Int) - i - (L.length : Int) := by rw [← hL]; simp [roomN, hz]
    rw [EO, hz] at C1
    rw [hL] at C1 hwl
    by_cases h200 : s.length ≤ 200
    · have d1 : decide ((200 : Int) < s.length) = false := by simp; omega
      by_cases h0 : (bs.length : Int) ≤ i + (L.length : Int)
      · have d2 : decide ((bs.length : Int) ≤ i + (L.length : Int)) = true := by simpa using h0
        have E := Lib.hid (show appE bs ws i e s = 41 by rw [appE, if_pos hz, if_pos h200, if_pos (by rw [hR]; omega)])
        have E2 := Lib.hid (show appBs bs ws i e s = [] ∧ appWs bs ws i e s = [] by simp [appBs, appWs, E.out])
        have K := Lib.hid C1
        clear C1 hz hr hR hL EO h0
        go_enter Tryd.func12, Tryd.ntmps12
        go_wp2_with fail
        refine K.out.mono ?_
        rintro e' w1 ⟨v, rfl, ho, hB1⟩
        obtain ⟨al, cl, hv⟩ := (Txts.own ho).strs.form
        subst hv
        obtain ⟨q0, q1, q2, q3, q4⟩ := (hr0.below hB1).cells
        obtain ⟨p0, p1, p2, p3, p4⟩ := (hx0.below hB1).cells
        go_wp2_with fail
        obtain ⟨r1, r2⟩ := ret_own (w := w) (x := .slice none 0 0) (y := .slice none 0 0) (nil_own w1 (w.heap.size + 2)) (Nat.le_refl _) (below2 hB0 hB1)
        refine ret_disk2 (p := 8) (q := 9) (by kernel_rfl) rfl (w.heap.size + 1) (.slice none 0 0) (.slice none 0 0) (.int .i64 41) rfl rfl (by go_simp) (by go_simp) ?_
        exact ⟨_, _, by rw [E.out], by rw [E2.out.1, E2.out.2]; exact r1, r2⟩
      · have d2 : decide ((bs.length : Int) ≤ i + (L.length : Int)) = false := by simpa using h0
        have hR0 : ¬ roomN bs ws i e = 0 := by rw [hR]; omega
        have hat : IntKind.i64.wrap (i + (L.length : Int)) = i + (L.length : Int) := wrap_in _ (by omega) (by omega)
        have E := Lib.hid (show appE bs ws i e s = writeE bs ws (i + (L.length : Int)) (recB e.toNat L.length s) by rw [appE, if_pos hz, if_pos h200, if_neg hR0, hL])
        have E2 := Lib.hid (show appBs bs ws i e s = writeBs bs ws (i + (L.length : Int)) (recB e.toNat L.length s) by simp only [appBs, writeBs, E.out])
        have E3 := Lib.hid (show appWs bs ws i e s = writeWs bs ws (i + (L.length : Int)) (recB e.toNat L.length s) by simp only [appWs, writeWs, E.out, hL])
        have FR : ∀ W, Calls Tryd.prog 32 #[.int .i64 e, .int .i64 (L.length : Nat), .string ⟨s.toArray⟩] W fun e' w' => e' = .returned (.string ⟨(recB e.toNat L.length s).toArray⟩) ∧ Below W.heap.size W w' := by
          intro W
          have h := refRecord_calls e.toNat L.length (by omega) (by omega) s h200 W
          rw [show ((e.toNat : Nat) : Int) = e by omega] at h
          exact h
        obtain ⟨rb, hrb⟩ : ∃ rb, recB e.toNat L.length s = rb := ⟨_, rfl⟩
        rw [hrb] at E E2 E3
        rw [E.out, E2.out, E3.out]
        simp only [hrb] at FR
        have WR : ∀ W, Below w.heap.size w W → Calls Tryd.prog 31 #[.agg #[.slice ab bs.length cb, .slice aw ws.length cw], .int .i64 (IntKind.i64.wrap (i + (L.length : Int))), .string ⟨rb.toArray⟩] W fun e' w' => ∃ vb' vw', e' = .returned (.tuple #[.agg #[vb', vw'], .int .i64 (writeE bs ws (i + (L.length : Int)) rb)]) ∧ OwnD w' W.heap.size vb' (writeBs bs ws (i + (L.length : Int)) rb) vw' (writeWs bs ws (i + (L.length : Int)) rb) ∧ Below W.heap.size W w' := by
          intro W hW
          rw [hat]
          exact refWrite_calls _ _ bs ws _ rb W (hb.below hW) (hw.below hW)
        generalize writeE bs ws (i + (L.length : Int)) rb = cE at WR ⊢
        generalize writeBs bs ws (i + (L.length : Int)) rb = cB at WR ⊢
        generalize writeWs bs ws (i + (L.length : Int)) rb = cW at WR ⊢
        have HFR := Lib.hid FR
        have HWR := Lib.hid WR
        have K := Lib.hid C1
        clear C1 hz hr hR hL EO FR WR E E2 E3 hrb h0 hb hw hat hR0
        go_enter Tryd.func12, Tryd.ntmps12
        go_wp2_with fail
        refine K.out.mono ?_
        rintro e' w1 ⟨v, rfl, ho, hB1⟩
        obtain ⟨al, cl, hv⟩ := (Txts.own ho).strs.form
        subst hv
        clear ho
        have hx1 := hx0.below hB1
        have hr1 := hr0.below hB1
        obtain ⟨p0, p1, p2, p3, p4⟩ := hx1.cells
        have hBB1 := below2 hB0 hB1
        have hBd := below2 hBB1 (drew_below _)
        go_wp2_with fail
        go_region_with (first | (go_at_call 32; refine (HFR.out _).mono ?_; rintro e' w2 ⟨rfl, hB2⟩; have hx2 := (hx1.below (drew_below _)).below hB2; have hr2 := (hr1.below (drew_below _)).below hB2; obtain ⟨p0', p1', p2', p3', p4'⟩ := hx2.cells; have hBB2 := below2 hBd hB2) | (go_at_call 31; refine (HWR.out _ hBB2).mono ?_; rintro e' w3 ⟨vb3, vw3, rfl, ho3, hB3⟩; have hr3 := hr2.below hB3; have hBB3 := below2 hBB2 hB3; obtain ⟨ab3, nb3, cb3, aw3, nw3, cw3, rfl, rfl, hnb3, hnw3⟩ := ho3.forms; clear hnb3 hnw3; obtain ⟨q0, q1, q2, q3, q4⟩ := hr3.cells))
        all_goals
          go_wp2_with fail
          obtain ⟨r1, r2⟩ := ret_own (w := w) (x := .slice ab3 nb3 cb3) (y := .slice aw3 nw3 cw3) ho3 (by have := hBB2.size; have := hB1.size; have := hB2.size; simp at *; omega) hBB3
          refine ret_disk2 (p := 8) (q := 9) (by kernel_rfl) rfl (w.heap.size + 1) (.slice ab3 nb3 cb3) (.slice aw3 nw3 cw3) (.int .i64 cE) rfl rfl (by go_simp) (by go_simp) ?_
          exact ⟨_, _, rfl, r1, r2⟩
    · have d1 : decide ((200 : Int) < s.length) = true := by simp; omega
      have E := Lib.hid (show appE bs ws i e s = 2 by simp [appE, hz, h200])
      have E2 := Lib.hid (show appBs bs ws i e s = [] ∧ appWs bs ws i e s = [] by simp [appBs, appWs, E.out])
      have K := Lib.hid C1
      clear C1 hz hr hR hL EO
      go_enter Tryd.func12, Tryd.ntmps12
      go_wp2_with fail
      refine K.out.mono ?_
      rintro e' w1 ⟨v, rfl, ho, hB1⟩
      obtain ⟨al, cl, hv⟩ := (Txts.own ho).strs.form
      subst hv
      obtain ⟨q0, q1, q2, q3, q4⟩ := (hr0.below hB1).cells
      go_wp2_with fail
      obtain ⟨r1, r2⟩ := ret_own (w := w) (x := .slice none 0 0) (y := .slice none 0 0) (nil_own w1 (w.heap.size + 2)) (Nat.le_refl _) (below2 hB0 hB1)
      refine ret_disk2 (p := 8) (q := 9) (by kernel_rfl) rfl (w.heap.size + 1) (.slice none 0 0) (.slice none 0 0) (.int .i64 2) rfl rfl (by go_simp) (by go_simp) ?_
      exact ⟨_, _, by rw [E.out], by rw [E2.out.1, E2.out.2]; exact r1, r2⟩
  · have E := Lib.hid (show appE bs ws i e s = waE bs ws i e by simp [appE, hz])
    obtain ⟨E0, hE0⟩ : ∃ E0, waE bs ws i e = E0 := ⟨_, rfl⟩
    rw [hE0] at C1 hz E
    have E2 := Lib.hid (show appBs bs ws i e s = [] ∧ appWs bs ws i e s = [] by simp [appBs, appWs, E.out, hz])
    have hzb2 : (E0 != 0) = true := by simpa using hz
    have K := Lib.hid C1
    clear C1 hE0 hz
    go_enter Tryd.func12, Tryd.ntmps12
    go_wp2_with fail
    refine K.out.mono ?_
    rintro e' w1 ⟨v, rfl, ho, hB1⟩
    obtain ⟨al, nl, cl, hv⟩ := own_form ho
    subst hv
    obtain ⟨q0, q1, q2, q3, q4⟩ := (hr0.below hB1).cells
    go_wp2_with fail
    obtain ⟨r1, r2⟩ := ret_own (w := w) (x := .slice none 0 0) (y := .slice none 0 0) (nil_own w1 (w.heap.size + 2)) (Nat.le_refl _) (below2 hB0 hB1)
    refine ret_disk2 (p := 8) (q := 9) (by kernel_rfl) rfl (w.heap.size + 1) (.slice none 0 0) (.slice none 0 0) (.int .i64 E0) rfl rfl (by go_simp) (by go_simp) ?_
    exact ⟨_, _, by rw [E.out], by rw [E2.out.1, E2.out.2]; exact r1, r2⟩

end Go.Proofs.YtcipdmdliobdmaaDoor

/-
  The document's own wal: All.
-/
namespace Go.Proofs.YtcipdmdliobdmaaDoor
open Go.RowKit

theorem take_get {l L : List (List UInt8)} {n q : Nat} (h : L = l.take n) (hq : q < L.length) (hq' : q < l.length) : l[q] = L[q] := by
  subst h
  simp
/-- Between two Appends: the box of the disk, and the one that goes out. -/
def StA (w : World) (Bn : Nat) (bs : List (List UInt8)) (c : List Wr) (W : World) : Prop :=
  ∃ aX nX cX aY nY cY, Bx W Bn (.slice aX nX cX) (.slice aY nY cY) ∧ OwnD W (w.heap.size + 2) (.slice aX nX cX) bs (.slice aY nY cY) c ∧ Bx W (w.heap.size + 1) (.slice none 0 0) (.slice none 0 0) ∧ Below w.heap.size w W
theorem StA.one {w wr w7 : World} {Bn base : Nat} {bs : List (List UInt8)} {c c' : List Wr} {a1 a2 : Option Addr} {n1 c1 n2 c2 : Nat} (h : StA w Bn bs c wr) (hBn : w.heap.size + 2 ≤ Bn) (hb : Below wr.heap.size wr w7) (ho : OwnD w7 base (.slice a1 n1 c1) bs (.slice a2 n2 c2) c') (hbase : w.heap.size + 2 ≤ base) :
    StA w Bn bs c' (((w7.setCell ⟨Bn, 0, none⟩ (.slice a1 n1 c1)).setCell ⟨Bn, 1, none⟩ (.slice a2 n2 c2)).alloc (.cells #[.slice a1 n1 c1, .slice a2 n2 c2] 25)) := by
  obtain ⟨aX, nX, cX, aY, nY, cY, hx, _, hr, hB⟩ := h
  have hba := below_alloc ((w7.setCell ⟨Bn, 0, none⟩ (.slice a1 n1 c1)).setCell ⟨Bn, 1, none⟩ (.slice a2 n2 c2)) (.cells #[.slice a1 n1 c1, .slice a2 n2 c2] 25)
  have o1 := OwnD.below (own_sets2 ho (hx.below hb) (.slice a1 n1 c1) (.slice a2 n2 c2)) hba
  exact ⟨_, _, _, _, _, _, (bx_set (hx.below hb) _ _).below hba, ⟨own_weak o1.1 hbase, own_weak o1.2 hbase⟩, (bx_other (hr.below hb) (by omega) _ _).below hba, below2 (((below2 hB hb).setCell (by simp; omega) _).setCell (by simp; omega) _) hba⟩
theorem StA.two {w wr w7 : World} {Bn base B9 : Nat} {p q : Value} {bs : List (List UInt8)} {c c' : List Wr} {a1 a2 : Option Addr} {n1 c1 n2 c2 : Nat} (h : StA w Bn bs c wr) (hBn : w.heap.size + 2 ≤ Bn) (h9 : B9 = wr.heap.size) (hb : Below wr.heap.size wr w7) (hx9 : Bx w7 B9 p q) (ho : OwnD w7 base (.slice a1 n1 c1) bs (.slice a2 n2 c2) c') (hbase : w.heap.size + 2 ≤ base) :
    StA w Bn bs c' ((((w7.setCell ⟨B9, 0, none⟩ (.slice a1 n1 c1)).setCell ⟨B9, 1, none⟩ (.slice a2 n2 c2)).setCell ⟨Bn, 0, none⟩ (.slice a1 n1 c1)).setCell ⟨Bn, 1, none⟩ (.slice a2 n2 c2)) := by
  obtain ⟨aX, nX, cX, aY, nY, cY, hx, _, hr, hB⟩ := h
  have hlt := hx.cells.2.2.2.2
  have hlr := hr.cells.2.2.2.2
  have hBs := hB.size
  have o1 := own_sets2 ho hx9 (.slice a1 n1 c1) (.slice a2 n2 c2)
  have x1 := bx_other (hx.below hb) (B' := B9) (by omega) (.slice a1 n1 c1) (.slice a2 n2 c2)
  have o2 := own_sets2 o1 x1 (.slice a1 n1 c1) (.slice a2 n2 c2)
  exact ⟨_, _, _, _, _, _, bx_set x1 _ _, ⟨own_weak o2.1 hbase, own_weak o2.2 hbase⟩, bx_other (bx_other (hr.below hb) (B' := B9) (by omega) _ _) (by omega) _ _, ((((below2 hB hb).setCell (by simp; omega) _).setCell (by simp; omega) _).setCell (by simp; omega) _).setCell (by simp; omega) _⟩

set_option maxRecDepth 100000 in
set_option maxHeartbeats 8000000 in
theorem refall_part (vb vw v : Value) (bs : List (List UInt8)) (ws : List Wr) (i e : Int) (l : List (List UInt8)) (k : Int) (w : World) (hb : Txts w vb bs) (hw : Wrs w vw ws) (hl : Txts w v l) (hlm : l.length ≤ 1000000) (hz : waE bs ws i e = 0) (h0 : 0 ≤ k) (h1 : k ≤ l.length) :
    Calls Tryd.prog 14 #[.agg #[vb, vw], .int .i64 i, .int .i64 e, v, .int .i64 k] w fun e' w' => ∃ vb' vw', e' = .returned (.tuple #[.agg #[vb', vw'], .bool (allD bs ws i e l k), .int .i64 (allE bs ws i e l k)]) ∧ OwnD w' w.heap.size vb' (allBs bs ws i e l k) vw' (allWs bs ws i e l k) ∧ Below w.heap.size w w' := by
  obtain ⟨ab, cb, rfl⟩ := hb.strs.form
  obtain ⟨aw, cw, rfl⟩ := hw.form
  obtain ⟨al, cl, hv, hcl, _⟩ := id hl
  subst hv
  obtain ⟨hx0, hr0, hB0⟩ := entry2 w (.slice ab bs.length cb) (.slice aw ws.length cw)
  have C1 := refopen_calls _ _ bs ws i e _ (hb.below hB0) (hw.below hB0)
  obtain ⟨hr, he1, he2, hi1, hi2⟩ := wa_ok.1 hz
  obtain ⟨hl1, hl2, hl3, _⟩ := right_parts hr
  obtain ⟨n, rfl⟩ : ∃ n : Nat, k = (n : Int) := ⟨k.toNat, by omega⟩
  have hnl : n ≤ l.length := by omega
  have hfb : fullB l (n : Int) = false := by simp [fullB]; omega
  have HFB := Lib.hid hfb
  have t1 : decide ((n : Int) < 0) = false := by simp
  have t2 : decide ((l.length : Int) + 1 < (n : Int)) = false := by simp; omega
  have t3 : decide (n ≤ l.length) = true := by simpa using hnl
  obtain ⟨L, hL⟩ : ∃ L, takeA l (n : Int) = L := ⟨_, rfl⟩
  have HLT := Lib.hid hL
  have hLn : L.length = n := by rw [← hL]; simp [takeA, hfb]; omega
  have HLe := Lib.hid (show L = l.take n by rw [← hL]; simp [takeA, hfb])
  clear hfb hL h0 h1
  subst hLn
  have HZ := Lib.hid hz
  have HR0 := Lib.hid (RanTo.zero (i := i) (e := e) (bs := bs) (ws := ws) L hr)
  rw [hz] at C1
  have K := Lib.hid C1
  have HC := Lib.hid (fun (W : World) (hB : Below w.heap.size w W) => refOwn_calls _ _ bs ws W (hb.below hB) (hw.below hB) (by omega) (by omega))
  clear C1 hz hr hb hw he1 he2 hi1 hi2
  go_enter Tryd.func14, Tryd.ntmps14
  go_wp2_with fail
  refine K.out.mono ?_
  rintro e' w1 ⟨rfl, hB1⟩
  have hx1 := hx0.below hB1
  have hr1 := hr0.below hB1
  obtain ⟨p0, p1, p2, p3, p4⟩ := hx1.cells
  have hBB1 := below2 hB0 hB1
  go_wp2_with fail
  refine (HC.out _ hBB1).mono ?_
  rintro e' w2 ⟨vb2, vw2, rfl, ho2, hB2⟩
  obtain ⟨ab2, nb2, cb2, aw2, nw2, cw2, rfl, rfl, hnb2, hnw2⟩ := ho2.forms
  clear hnb2 hnw2
  have hr2 := hr1.below hB2
  have hBB2 := below2 hBB1 hB2
  have hBB2s := hBB2.size
  have hB1s := hB1.size
  have hf3 := Bx.new w2 (.slice ab2 nb2 cb2) (.slice aw2 nw2 cw2)
  have hB3 := below_alloc w2 (.cells #[.slice ab2 nb2 cb2, .slice aw2 nw2 cw2] 25)
  have hr3 := hr2.below hB3
  have ho3 := OwnD.below ho2 hB3
  have hBB3 := below2 hBB2 hB3
  have hlow : w.heap.size + 2 ≤ w1.heap.size := by simpa using hB1s
  have hw12 := hB2.size
  have hBn : w.heap.size + 2 ≤ w2.heap.size := by omega
  have HI := Lib.hid (show StA w w2.heap.size bs ws (w2.alloc (.cells #[.slice ab2 nb2 cb2, .slice aw2 nw2 cw2] 25)) from ⟨_, _, _, _, _, _, hf3, ⟨own_weak ho3.1 hlow, own_weak ho3.2 hlow⟩, hr3, hBB3⟩)
  clear p0 p1 p2 p3 p4 hx1 hr1 hr2 ho2 hf3 hr3 ho3 hBB3 hx0 hr0 hBB1
  go_wp2_with fail
  go_loopw [15] (fun p wr => ∃ (q : Nat) (c : List Wr), p = .int .i64 (q : Int) ∧ q ≤ L.length ∧ RanTo i e bs ws L q c ∧ StA w w2.heap.size bs c wr)
    (fun p _ => L.length - (intOf p).toNat)
  case atStart => exact ⟨0, ws, rfl, Nat.zero_le _, HR0.out, HI.out⟩
  case round =>
    obtain ⟨q, c, rfl, hq, hran, hst⟩ := hrel
    clear HI
    have HST := Lib.hid hst
    obtain ⟨aX, nX, cX, aY, nY, cY, hf, ho, hrr, hB⟩ := hst
    obtain ⟨f0, f1, ff0, ff1, fl⟩ := hf.cells
    have hfl := fl
    have htx := ho.texts
    have hwr := ho.wrs
    have hBs := hB.size
    by_cases hlt : q < L.length
    · have hql : q < l.length := by omega
      have dq1 : decide (q < l.length) = true := by simp; omega
      have dq2 : decide (q < L.length) = true := by simp; omega
      obtain ⟨b4, o4, hat, hcell⟩ := (hl.below hB).strs.at (k := q) (by omega)
      subst hat
      have hcb := World.block_lt_of_cell? wr _ hcell
      obtain ⟨s, hs⟩ : ∃ s, L[q] = s := ⟨_, rfl⟩
      rw [show l[q]'(by omega) = s by rw [← hs]; exact take_get HLe.out hlt _] at hcell
      have CA := Lib.hid (fun (W : World) (hb : Below wr.heap.size wr W) => refAppend_calls _ _ bs c i e s W (htx.below hb) (hwr.below hb))
      have HS := Lib.hid (fun (W : World) (hb : Below wr.heap.size wr W) => And.intro (look_below hb f0) (And.intro (look_below hb f1) (look_below hb hcell)))
      have hb1 : Below wr.heap.size wr wr.drew := drew_below _
      have hb2 : Below wr.heap.size wr (wr.alloc (.cells #[.slice none 0 0, .slice none 0 0] 25)).drew := below2 (below_alloc _ _) (drew_below _)
      have hn9 : Bx (wr.alloc (.cells #[.slice none 0 0, .slice none 0 0] 25)).drew wr.heap.size (.slice none 0 0) (.slice none 0 0) := (Bx.new wr _ _).below (drew_below _)
      by_cases ha : appE bs c i e s = 0
      · have hg : RanTo i e bs ws L (q + 1) (appWs bs c i e s) := by
          have := hran.good hlt (by rw [hs]; exact ha)
          rwa [hs] at this
        have hab : appBs bs c i e s = bs := by rw [appBs, if_pos ha]
        simp only [ha, hab] at CA
        generalize appWs bs c i e s = c' at hg CA
        have HG := Lib.hid hg
        clear hg hab ha hs hran htx hwr ho
        go_wp2_with fail
        go_region_held3 (fun w' => w'.cell? ⟨w2.heap.size, 0, none⟩ = some (.slice aX nX cX) ∧ w'.cell? ⟨w2.heap.size, 1, none⟩ = some (.slice aY nY cY) ∧ w'.cell? ⟨b4, o4 + q, none⟩ = some (.string ⟨s.toArray⟩)) (first | exact HS.out _ hb1 | exact HS.out _ hb2 | exact HS.out _ hbx7 | exact HS.out _ (below2 hbx7 (below_alloc _ _)) | exact HS.out _ ((hbx7.setCell (Nat.le_refl _) _).setCell (Nat.le_refl _) _) | exact HS.out _ (below2 hb1 (below_alloc _ _))) (first | (go_at_call 12; (first | ((with_reducible refine (CA.out _ hb1).mono ?_); rintro e' w7 ⟨vb7, vw7, rfl, ho7, hB7⟩; have hbx7 := below2 hb1 hB7) | ((with_reducible refine (CA.out _ hb2).mono ?_); rintro e' w7 ⟨vb7, vw7, rfl, ho7, hB7⟩; have hbx7 := below2 hb2 hB7; have hx9 := hn9.below hB7; have g0 := hx9.cells.1; have g1 := hx9.cells.2.1; have g2 := hx9.cells.2.2.1; have g3 := hx9.cells.2.2.2.1)); obtain ⟨ab7, nb7, cb7, aw7, nw7, cw7, rfl, rfl, hnb7, hnw7⟩ := ho7.forms; clear hnb7 hnw7; obtain ⟨u0, u1, uf0, uf1, ul⟩ := (hf.below hbx7).cells))
        all_goals
          go_wp2_with fail
          go_roundw
          case rel =>
            refine ⟨q + 1, c', by go_num, by omega, HG.out, ?_⟩
            first
              | (with_reducible refine HST.out.one hBn hbx7 ho7 ?_; have := hb1.size; omega)
              | (with_reducible refine HST.out.two hBn rfl hbx7 hx9 ho7 ?_; have := hb2.size; omega)
          case measure => simp [intOf]; omega
      · have hg := hran.bad hlt (by rw [hs]; exact ha)
        rw [hs] at hg
        have HA := Lib.hid (all_bad (l := l) (k := (L.length : Int)) HZ.out (by rw [HLT.out]; exact hg) ha)
        have hwn : appBs bs c i e s = [] ∧ appWs bs c i e s = [] := by simp [appBs, appWs, ha]
        simp only [hwn.1, hwn.2] at CA
        generalize appE bs c i e s = cE at CA HA ha
        have dE : (cE != 0) = true := by simpa using ha
        clear hg hwn ha hs hran htx hwr ho
        go_wp2_with fail
        go_region_held3 (fun w' => w'.cell? ⟨w2.heap.size, 0, none⟩ = some (.slice aX nX cX) ∧ w'.cell? ⟨w2.heap.size, 1, none⟩ = some (.slice aY nY cY) ∧ w'.cell? ⟨b4, o4 + q, none⟩ = some (.string ⟨s.toArray⟩)) (first | exact HS.out _ hb1 | exact HS.out _ hb2 | exact HS.out _ hbx7 | exact HS.out _ (below2 hbx7 (below_alloc _ _)) | exact HS.out _ ((hbx7.setCell (Nat.le_refl _) _).setCell (Nat.le_refl _) _) | exact HS.out _ (below2 hb1 (below_alloc _ _))) (first | (go_at_call 12; (first | ((with_reducible refine (CA.out _ hb1).mono ?_); rintro e' w7 ⟨vb7, vw7, rfl, ho7, hB7⟩; have hbx7 := below2 hb1 hB7) | ((with_reducible refine (CA.out _ hb2).mono ?_); rintro e' w7 ⟨vb7, vw7, rfl, ho7, hB7⟩; have hbx7 := below2 hb2 hB7; have hx9 := hn9.below hB7; have g0 := hx9.cells.1; have g1 := hx9.cells.2.1; have g2 := hx9.cells.2.2.1; have g3 := hx9.cells.2.2.2.1)); obtain ⟨ab7, nb7, cb7, aw7, nw7, cw7, rfl, rfl, hnb7, hnw7⟩ := ho7.forms; clear hnb7 hnw7; obtain ⟨u0, u1, uf0, uf1, ul⟩ := (hf.below hbx7).cells))
        all_goals
          obtain ⟨g0, g1, gf0, gf1, gl⟩ := (hrr.below hbx7).cells
          go_wp2_with fail
          have zA := (bx_set (hrr.below hbx7) (.slice none 0 0) (.slice none 0 0)).below (below_alloc _ (.cells #[.slice ab7 nb7 cb7, .slice aw7 nw7 cw7] 25))
          have zB := bx_set (bx_other (hrr.below hbx7) (B' := wr.heap.size) (by have := hrr.cells.2.2.2.2; omega) (.slice ab7 nb7 cb7) (.slice aw7 nw7 cw7)) (.slice none 0 0) (.slice none 0 0)
          have bA := below2 (((below2 hB hbx7).setCell (p := ⟨w.heap.size + 1, 0, none⟩) (by simp) (.slice none 0 0)).setCell (p := ⟨w.heap.size + 1, 1, none⟩) (by simp) (.slice none 0 0)) (below_alloc _ (.cells #[.slice ab7 nb7 cb7, .slice aw7 nw7 cw7] 25))
          have bB := ((((below2 hB hbx7).setCell (p := ⟨wr.heap.size, 0, none⟩) (by simpa using hBs) (.slice ab7 nb7 cb7)).setCell (p := ⟨wr.heap.size, 1, none⟩) (by simpa using hBs) (.slice aw7 nw7 cw7)).setCell (p := ⟨w.heap.size + 1, 0, none⟩) (by simp) (.slice none 0 0)).setCell (p := ⟨w.heap.size + 1, 1, none⟩) (by simp) (.slice none 0 0)
          have hcz : ∀ W : World, Bx W (w.heap.size + 1) (.slice none 0 0) (.slice none 0 0) → Below w.heap.size w W → ∀ a : Act, a.defers = [] → a.tmps.getD 10 undef = .pointer (some ⟨w.heap.size + 1, 0, none⟩) → a.tmps.getD 11 undef = .bool false → a.tmps.getD 12 undef = .int .i64 cE →
              bodyPost Tryd.prog Tryd.f14 (fun e' w' => ∃ vb' vw', e' = .returned (.tuple #[.agg #[vb', vw'], .bool (allD bs ws i e l (L.length : Int)), .int .i64 (allE bs ws i e l (L.length : Int))]) ∧ OwnD w' w.heap.size vb' (allBs bs ws i e l (L.length : Int)) vw' (allWs bs ws i e l (L.length : Int)) ∧ Below w.heap.size w w') .ret a W := by
            intro W hW hBW a h1 h2 h3 h4
            refine ret_disk3 (p := 10) (q := 11) (r := 12) (by kernel_rfl) h1 (w.heap.size + 1) (.slice none 0 0) (.slice none 0 0) (.bool false) (.int .i64 cE) h2 h3 h4 hW.cells.1 hW.cells.2.1 ?_
            exact ⟨_, _, by rw [HA.out.1, HA.out.2.2.2], by rw [HA.out.2.1, HA.out.2.2.1]; exact nil_own _ _, hBW⟩
          first
            | (with_reducible refine hcz _ zA bA _ rfl rfl rfl rfl)
            | (with_reducible refine hcz _ zB bB _ rfl rfl rfl rfl)
    · obtain rfl : q = L.length := by omega
      have dq : decide (L.length < l.length) = false ∨ (decide (L.length < l.length) = true ∧ decide (L.length < L.length) = false) := by
        by_cases h : L.length < l.length
        · right; simp; omega
        · left; simpa using h
      obtain ⟨g0, g1, gf0, gf1, gl⟩ := hrr.cells
      have hrw := hran.whole
      have HA := Lib.hid (all_part (l := l) (k := (L.length : Int)) HZ.out (by rw [HLT.out]; exact hrw) HFB.out)
      have HO := Lib.hid ho
      clear hran htx hwr hrw ho
      rcases dq with dq | ⟨dq, dq'⟩
      all_goals
        go_wp2_with fail
        have z1 := bx_set hrr (.slice aX nX cX) (.slice aY nY cY)
        have z2 := own_sets2 HO.out hrr (.slice aX nX cX) (.slice aY nY cY)
        refine ret_disk3 (p := 10) (q := 11) (r := 12) (by kernel_rfl) rfl (w.heap.size + 1) (.slice aX nX cX) (.slice aY nY cY) (.bool false) (.int .i64 0) rfl rfl rfl z1.cells.1 z1.cells.2.1 ?_
        exact ⟨_, _, by rw [HA.out.1, HA.out.2.2.2], by rw [HA.out.2.1, HA.out.2.2.1]; exact ⟨own_weak z2.1 (by omega), own_weak z2.2 (by omega)⟩, (hB.setCell (by simp) _).setCell (by simp) _⟩

set_option maxRecDepth 100000 in
set_option maxHeartbeats 8000000 in
theorem refall_full (vb vw v : Value) (bs : List (List UInt8)) (ws : List Wr) (i e : Int) (l : List (List UInt8)) (k : Int) (w : World) (hb : Txts w vb bs) (hw : Wrs w vw ws) (hl : Txts w v l) (hlm : l.length ≤ 1000000) (hz : waE bs ws i e = 0) (h0 : k < 0 ∨ (l.length : Int) + 1 < k) :
    Calls Tryd.prog 14 #[.agg #[vb, vw], .int .i64 i, .int .i64 e, v, .int .i64 k] w fun e' w' => ∃ vb' vw', e' = .returned (.tuple #[.agg #[vb', vw'], .bool (allD bs ws i e l k), .int .i64 (allE bs ws i e l k)]) ∧ OwnD w' w.heap.size vb' (allBs bs ws i e l k) vw' (allWs bs ws i e l k) ∧ Below w.heap.size w w' := by
  obtain ⟨ab, cb, rfl⟩ := hb.strs.form
  obtain ⟨aw, cw, rfl⟩ := hw.form
  obtain ⟨al, cl, hv, hcl, _⟩ := id hl
  subst hv
  obtain ⟨hx0, hr0, hB0⟩ := entry2 w (.slice ab bs.length cb) (.slice aw ws.length cw)
  have C1 := refopen_calls _ _ bs ws i e _ (hb.below hB0) (hw.below hB0)
  obtain ⟨hr, he1, he2, hi1, hi2⟩ := wa_ok.1 hz
  obtain ⟨hl1, hl2, hl3, _⟩ := right_parts hr
  have hfb : fullB l k = true := by simp [fullB]; omega
  have ht : decide (k < 0) = true ∨ (decide (k < 0) = false ∧ decide ((l.length : Int) + 1 < k) = true) := by
    by_cases h : k < 0
    · left; simpa using h
    · right; exact ⟨by simpa using h, by simp; omega⟩
  clear h0
  have t3 : decide ((l.length : Int) + 1 ≤ (l.length : Int)) = false := decide_eq_false (by omega)
  have HFB := Lib.hid hfb
  have HLT := Lib.hid (show takeA l (k) = l by simp [takeA, hfb])
  clear hfb
  have HZ := Lib.hid hz
  have HR0 := Lib.hid (RanTo.zero (i := i) (e := e) (bs := bs) (ws := ws) l hr)
  rw [hz] at C1
  have K := Lib.hid C1
  have HC := Lib.hid (fun (W : World) (hB : Below w.heap.size w W) => refOwn_calls _ _ bs ws W (hb.below hB) (hw.below hB) (by omega) (by omega))
  clear C1 hz hr hb hw he1 he2 hi1 hi2
  rcases ht with t1 | ⟨t1, t2⟩
  all_goals
    go_enter Tryd.func14, Tryd.ntmps14
    go_wp2_with fail
    refine K.out.mono ?_
    rintro e' w1 ⟨rfl, hB1⟩
    have hx1 := hx0.below hB1
    have hr1 := hr0.below hB1
    obtain ⟨p0, p1, p2, p3, p4⟩ := hx1.cells
    have hBB1 := below2 hB0 hB1
    go_wp2_with fail
    refine (HC.out _ hBB1).mono ?_
    rintro e' w2 ⟨vb2, vw2, rfl, ho2, hB2⟩
    obtain ⟨ab2, nb2, cb2, aw2, nw2, cw2, rfl, rfl, hnb2, hnw2⟩ := ho2.forms
    clear hnb2 hnw2
    have hr2 := hr1.below hB2
    have hBB2 := below2 hBB1 hB2
    have hBB2s := hBB2.size
    have hB1s := hB1.size
    have hf3 := Bx.new w2 (.slice ab2 nb2 cb2) (.slice aw2 nw2 cw2)
    have hB3 := below_alloc w2 (.cells #[.slice ab2 nb2 cb2, .slice aw2 nw2 cw2] 25)
    have hr3 := hr2.below hB3
    have ho3 := OwnD.below ho2 hB3
    have hBB3 := below2 hBB2 hB3
    have hlow : w.heap.size + 2 ≤ w1.heap.size := by simpa using hB1s
    have hw12 := hB2.size
    have hBn : w.heap.size + 2 ≤ w2.heap.size := by omega
    have HI := Lib.hid (show StA w w2.heap.size bs ws (w2.alloc (.cells #[.slice ab2 nb2 cb2, .slice aw2 nw2 cw2] 25)) from ⟨_, _, _, _, _, _, hf3, ⟨own_weak ho3.1 hlow, own_weak ho3.2 hlow⟩, hr3, hBB3⟩)
    clear p0 p1 p2 p3 p4 hx1 hr1 hr2 ho2 hf3 hr3 ho3 hBB3 hx0 hr0 hBB1
    go_wp2_with fail
    go_loopw [15] (fun p wr => ∃ (q : Nat) (c : List Wr), p = .int .i64 (q : Int) ∧ q ≤ l.length ∧ RanTo i e bs ws l q c ∧ StA w w2.heap.size bs c wr)
      (fun p _ => l.length - (intOf p).toNat)
    case atStart => exact ⟨0, ws, rfl, Nat.zero_le _, HR0.out, HI.out⟩
    case round =>
      obtain ⟨q, c, rfl, hq, hran, hst⟩ := hrel
      clear HI
      have HST := Lib.hid hst
      obtain ⟨aX, nX, cX, aY, nY, cY, hf, ho, hrr, hB⟩ := hst
      obtain ⟨f0, f1, ff0, ff1, fl⟩ := hf.cells
      have hfl := fl
      have htx := ho.texts
      have hwr := ho.wrs
      have hBs := hB.size
      by_cases hlt : q < l.length
      · have dq1 : decide (q < l.length) = true := by simp; omega
        have dq2 : decide ((q : Int) < (l.length : Int) + 1) = true := by simp; omega
        obtain ⟨b4, o4, hat, hcell⟩ := (hl.below hB).strs.at (k := q) (by omega)
        subst hat
        have hcb := World.block_lt_of_cell? wr _ hcell
        obtain ⟨s, hs⟩ : ∃ s, l[q] = s := ⟨_, rfl⟩
        rw [hs] at hcell
        have CA := Lib.hid (fun (W : World) (hb : Below wr.heap.size wr W) => refAppend_calls _ _ bs c i e s W (htx.below hb) (hwr.below hb))
        have HS := Lib.hid (fun (W : World) (hb : Below wr.heap.size wr W) => And.intro (look_below hb f0) (And.intro (look_below hb f1) (look_below hb hcell)))
        have hb1 : Below wr.heap.size wr wr.drew := drew_below _
        have hb2 : Below wr.heap.size wr (wr.alloc (.cells #[.slice none 0 0, .slice none 0 0] 25)).drew := below2 (below_alloc _ _) (drew_below _)
        have hn9 : Bx (wr.alloc (.cells #[.slice none 0 0, .slice none 0 0] 25)).drew wr.heap.size (.slice none 0 0) (.slice none 0 0) := (Bx.new wr _ _).below (drew_below _)
        by_cases ha : appE bs c i e s = 0
        · have hg : RanTo i e bs ws l (q + 1) (appWs bs c i e s) := by
            have := hran.good hlt (by rw [hs]; exact ha)
            rwa [hs] at this
          have hab : appBs bs c i e s = bs := by rw [appBs, if_pos ha]
          simp only [ha, hab] at CA
          generalize appWs bs c i e s = c' at hg CA
          have HG := Lib.hid hg
          clear hg hab ha hs hran htx hwr ho
          go_wp2_with fail
          go_region_held3 (fun w' => w'.cell? ⟨w2.heap.size, 0, none⟩ = some (.slice aX nX cX) ∧ w'.cell? ⟨w2.heap.size, 1, none⟩ = some (.slice aY nY cY) ∧ w'.cell? ⟨b4, o4 + q, none⟩ = some (.string ⟨s.toArray⟩)) (first | exact HS.out _ hb1 | exact HS.out _ hb2 | exact HS.out _ hbx7 | exact HS.out _ (below2 hbx7 (below_alloc _ _)) | exact HS.out _ ((hbx7.setCell (Nat.le_refl _) _).setCell (Nat.le_refl _) _) | exact HS.out _ (below2 hb1 (below_alloc _ _))) (first | (go_at_call 12; (first | ((with_reducible refine (CA.out _ hb1).mono ?_); rintro e' w7 ⟨vb7, vw7, rfl, ho7, hB7⟩; have hbx7 := below2 hb1 hB7) | ((with_reducible refine (CA.out _ hb2).mono ?_); rintro e' w7 ⟨vb7, vw7, rfl, ho7, hB7⟩; have hbx7 := below2 hb2 hB7; have hx9 := hn9.below hB7; have g0 := hx9.cells.1; have g1 := hx9.cells.2.1; have g2 := hx9.cells.2.2.1; have g3 := hx9.cells.2.2.2.1)); obtain ⟨ab7, nb7, cb7, aw7, nw7, cw7, rfl, rfl, hnb7, hnw7⟩ := ho7.forms; clear hnb7 hnw7; obtain ⟨u0, u1, uf0, uf1, ul⟩ := (hf.below hbx7).cells))
          all_goals
            go_wp2_with fail
            go_roundw
            case rel =>
              refine ⟨q + 1, c', by go_num, by omega, HG.out, ?_⟩
              first
                | (with_reducible refine HST.out.one hBn hbx7 ho7 ?_; have := hb1.size; omega)
                | (with_reducible refine HST.out.two hBn rfl hbx7 hx9 ho7 ?_; have := hb2.size; omega)
            case measure => simp [intOf]; omega
        · have hg := hran.bad hlt (by rw [hs]; exact ha)
          rw [hs] at hg
          have HA := Lib.hid (all_bad (l := l) (k := k) HZ.out (by rw [HLT.out]; exact hg) ha)
          have hwn : appBs bs c i e s = [] ∧ appWs bs c i e s = [] := by simp [appBs, appWs, ha]
          simp only [hwn.1, hwn.2] at CA
          generalize appE bs c i e s = cE at CA HA ha
          have dE : (cE != 0) = true := by simpa using ha
          clear hg hwn ha hs hran htx hwr ho
          go_wp2_with fail
          go_region_held3 (fun w' => w'.cell? ⟨w2.heap.size, 0, none⟩ = some (.slice aX nX cX) ∧ w'.cell? ⟨w2.heap.size, 1, none⟩ = some (.slice aY nY cY) ∧ w'.cell? ⟨b4, o4 + q, none⟩ = some (.string ⟨s.toArray⟩)) (first | exact HS.out _ hb1 | exact HS.out _ hb2 | exact HS.out _ hbx7 | exact HS.out _ (below2 hbx7 (below_alloc _ _)) | exact HS.out _ ((hbx7.setCell (Nat.le_refl _) _).setCell (Nat.le_refl _) _) | exact HS.out _ (below2 hb1 (below_alloc _ _))) (first | (go_at_call 12; (first | ((with_reducible refine (CA.out _ hb1).mono ?_); rintro e' w7 ⟨vb7, vw7, rfl, ho7, hB7⟩; have hbx7 := below2 hb1 hB7) | ((with_reducible refine (CA.out _ hb2).mono ?_); rintro e' w7 ⟨vb7, vw7, rfl, ho7, hB7⟩; have hbx7 := below2 hb2 hB7; have hx9 := hn9.below hB7; have g0 := hx9.cells.1; have g1 := hx9.cells.2.1; have g2 := hx9.cells.2.2.1; have g3 := hx9.cells.2.2.2.1)); obtain ⟨ab7, nb7, cb7, aw7, nw7, cw7, rfl, rfl, hnb7, hnw7⟩ := ho7.forms; clear hnb7 hnw7; obtain ⟨u0, u1, uf0, uf1, ul⟩ := (hf.below hbx7).cells))
          all_goals
            obtain ⟨g0, g1, gf0, gf1, gl⟩ := (hrr.below hbx7).cells
            go_wp2_with fail
            have zA := (bx_set (hrr.below hbx7) (.slice none 0 0) (.slice none 0 0)).below (below_alloc _ (.cells #[.slice ab7 nb7 cb7, .slice aw7 nw7 cw7] 25))
            have zB := bx_set (bx_other (hrr.below hbx7) (B' := wr.heap.size) (by have := hrr.cells.2.2.2.2; omega) (.slice ab7 nb7 cb7) (.slice aw7 nw7 cw7)) (.slice none 0 0) (.slice none 0 0)
            have bA := below2 (((below2 hB hbx7).setCell (p := ⟨w.heap.size + 1, 0, none⟩) (by simp) (.slice none 0 0)).setCell (p := ⟨w.heap.size + 1, 1, none⟩) (by simp) (.slice none 0 0)) (below_alloc _ (.cells #[.slice ab7 nb7 cb7, .slice aw7 nw7 cw7] 25))
            have bB := ((((below2 hB hbx7).setCell (p := ⟨wr.heap.size, 0, none⟩) (by simpa using hBs) (.slice ab7 nb7 cb7)).setCell (p := ⟨wr.heap.size, 1, none⟩) (by simpa using hBs) (.slice aw7 nw7 cw7)).setCell (p := ⟨w.heap.size + 1, 0, none⟩) (by simp) (.slice none 0 0)).setCell (p := ⟨w.heap.size + 1, 1, none⟩) (by simp) (.slice none 0 0)
            have hcz : ∀ W : World, Bx W (w.heap.size + 1) (.slice none 0 0) (.slice none 0 0) → Below w.heap.size w W → ∀ a : Act, a.defers = [] → a.tmps.getD 10 undef = .pointer (some ⟨w.heap.size + 1, 0, none⟩) → a.tmps.getD 11 undef = .bool false → a.tmps.getD 12 undef = .int .i64 cE →
                bodyPost Tryd.prog Tryd.f14 (fun e' w' => ∃ vb' vw', e' = .returned (.tuple #[.agg #[vb', vw'], .bool (allD bs ws i e l k), .int .i64 (allE bs ws i e l k)]) ∧ OwnD w' w.heap.size vb' (allBs bs ws i e l k) vw' (allWs bs ws i e l k) ∧ Below w.heap.size w w') .ret a W := by
              intro W hW hBW a h1 h2 h3 h4
              refine ret_disk3 (p := 10) (q := 11) (r := 12) (by kernel_rfl) h1 (w.heap.size + 1) (.slice none 0 0) (.slice none 0 0) (.bool false) (.int .i64 cE) h2 h3 h4 hW.cells.1 hW.cells.2.1 ?_
              exact ⟨_, _, by rw [HA.out.1, HA.out.2.2.2], by rw [HA.out.2.1, HA.out.2.2.1]; exact nil_own _ _, hBW⟩
            first
              | (with_reducible refine hcz _ zA bA _ rfl rfl rfl rfl)
              | (with_reducible refine hcz _ zB bB _ rfl rfl rfl rfl)
      · obtain rfl : q = l.length := by omega
        have dq : decide (l.length < l.length) = false := by simp
        obtain ⟨g0, g1, gf0, gf1, gl⟩ := hrr.cells
        have hrw := hran.whole
        have HA := Lib.hid (all_full (l := l) (k := k) HZ.out (by rw [HLT.out]; exact hrw) HFB.out)
        have hrc := hran.2
        have CS := refSync_calls _ _ bs c wr htx hwr
        rw [show syncE bs c = 0 by simp [syncE, hrc], show syncBs bs c = layL bs c by simp [syncBs, hrc]] at CS
        generalize layL bs c = cL at CS HA
        have KS := Lib.hid CS
        clear hran htx hwr hrw ho hrc CS
        go_wp2_with fail
        refine KS.out.mono ?_
        rintro e' w4 ⟨vb4, vw4, rfl, ho4, hB4⟩
        obtain ⟨ab4, nb4, cb4, aw4, nw4, cw4, rfl, rfl, hnb4, hnw4⟩ := ho4.forms
        clear hnb4 hnw4 f0 f1 ff0 ff1 fl g0 g1 gf0 gf1 gl
        have hrr4 := hrr.below hB4
        have hB4' := below2 hB hB4
        obtain ⟨g0, g1, gf0, gf1, gl⟩ := hrr4.cells
        have HO := Lib.hid ho4
        clear ho4
        go_wp2_with fail
        have hba := below_alloc ((w4.setCell ⟨w.heap.size + 1, 0, none⟩ (.slice ab4 nb4 cb4)).setCell ⟨w.heap.size + 1, 1, none⟩ (.slice aw4 nw4 cw4)) (.cells #[.slice ab4 nb4 cb4, .slice aw4 nw4 cw4] 25)
        have z1 := (bx_set hrr4 (.slice ab4 nb4 cb4) (.slice aw4 nw4 cw4)).below hba
        have z2 := OwnD.below (own_sets2 HO.out hrr4 (.slice ab4 nb4 cb4) (.slice aw4 nw4 cw4)) hba
        have z3 := below2 ((hB4'.setCell (p := ⟨w.heap.size + 1, 0, none⟩) (by simp) (.slice ab4 nb4 cb4)).setCell (p := ⟨w.heap.size + 1, 1, none⟩) (by simp) (.slice aw4 nw4 cw4)) hba
        refine ret_disk3 (p := 10) (q := 11) (r := 12) (by kernel_rfl) rfl (w.heap.size + 1) (.slice ab4 nb4 cb4) (.slice aw4 nw4 cw4) (.bool true) (.int .i64 0) rfl rfl rfl z1.cells.1 z1.cells.2.1 ?_
        exact ⟨_, _, by rw [HA.out.1, HA.out.2.2.2], by rw [HA.out.2.1, HA.out.2.2.1]; exact ⟨own_weak z2.1 (by omega), own_weak z2.2 (by omega)⟩, z3⟩

set_option maxRecDepth 100000 in
set_option maxHeartbeats 8000000 in
theorem refall_one (vb vw v : Value) (bs : List (List UInt8)) (ws : List Wr) (i e : Int) (l : List (List UInt8)) (k : Int) (w : World) (hb : Txts w vb bs) (hw : Wrs w vw ws) (hl : Txts w v l) (hlm : l.length ≤ 1000000) (hz : waE bs ws i e = 0) (h0 : k = (l.length : Int) + 1) :
    Calls Tryd.prog 14 #[.agg #[vb, vw], .int .i64 i, .int .i64 e, v, .int .i64 k] w fun e' w' => ∃ vb' vw', e' = .returned (.tuple #[.agg #[vb', vw'], .bool (allD bs ws i e l k), .int .i64 (allE bs ws i e l k)]) ∧ OwnD w' w.heap.size vb' (allBs bs ws i e l k) vw' (allWs bs ws i e l k) ∧ Below w.heap.size w w' := by
  obtain ⟨ab, cb, rfl⟩ := hb.strs.form
  obtain ⟨aw, cw, rfl⟩ := hw.form
  obtain ⟨al, cl, hv, hcl, _⟩ := id hl
  subst hv
  obtain ⟨hx0, hr0, hB0⟩ := entry2 w (.slice ab bs.length cb) (.slice aw ws.length cw)
  have C1 := refopen_calls _ _ bs ws i e _ (hb.below hB0) (hw.below hB0)
  obtain ⟨hr, he1, he2, hi1, hi2⟩ := wa_ok.1 hz
  obtain ⟨hl1, hl2, hl3, _⟩ := right_parts hr
  subst h0
  have hfb : fullB l ((l.length : Int) + 1) = true := decide_eq_true (by omega)
  have t1 : decide ((l.length : Int) + 1 < 0) = false := by simp; omega
  have t2 : decide ((l.length : Int) + 1 < (l.length : Int) + 1) = false := by simp
  have t3 : decide ((l.length : Int) + 1 ≤ (l.length : Int)) = false := decide_eq_false (by omega)
  have HFB := Lib.hid hfb
  have HLT := Lib.hid (show takeA l (((l.length : Int) + 1)) = l by simp [takeA, hfb])
  clear hfb
  have HZ := Lib.hid hz
  have HR0 := Lib.hid (RanTo.zero (i := i) (e := e) (bs := bs) (ws := ws) l hr)
  rw [hz] at C1
  have K := Lib.hid C1
  have HC := Lib.hid (fun (W : World) (hB : Below w.heap.size w W) => refOwn_calls _ _ bs ws W (hb.below hB) (hw.below hB) (by omega) (by omega))
  clear C1 hz hr hb hw he1 he2 hi1 hi2
  all_goals
    go_enter Tryd.func14, Tryd.ntmps14
    go_wp2_with fail
    refine K.out.mono ?_
    rintro e' w1 ⟨rfl, hB1⟩
    have hx1 := hx0.below hB1
    have hr1 := hr0.below hB1
    obtain ⟨p0, p1, p2, p3, p4⟩ := hx1.cells
    have hBB1 := below2 hB0 hB1
    go_wp2_with fail
    refine (HC.out _ hBB1).mono ?_
    rintro e' w2 ⟨vb2, vw2, rfl, ho2, hB2⟩
    obtain ⟨ab2, nb2, cb2, aw2, nw2, cw2, rfl, rfl, hnb2, hnw2⟩ := ho2.forms
    clear hnb2 hnw2
    have hr2 := hr1.below hB2
    have hBB2 := below2 hBB1 hB2
    have hBB2s := hBB2.size
    have hB1s := hB1.size
    have hf3 := Bx.new w2 (.slice ab2 nb2 cb2) (.slice aw2 nw2 cw2)
    have hB3 := below_alloc w2 (.cells #[.slice ab2 nb2 cb2, .slice aw2 nw2 cw2] 25)
    have hr3 := hr2.below hB3
    have ho3 := OwnD.below ho2 hB3
    have hBB3 := below2 hBB2 hB3
    have hlow : w.heap.size + 2 ≤ w1.heap.size := by simpa using hB1s
    have hw12 := hB2.size
    have hBn : w.heap.size + 2 ≤ w2.heap.size := by omega
    have HI := Lib.hid (show StA w w2.heap.size bs ws (w2.alloc (.cells #[.slice ab2 nb2 cb2, .slice aw2 nw2 cw2] 25)) from ⟨_, _, _, _, _, _, hf3, ⟨own_weak ho3.1 hlow, own_weak ho3.2 hlow⟩, hr3, hBB3⟩)
    clear p0 p1 p2 p3 p4 hx1 hr1 hr2 ho2 hf3 hr3 ho3 hBB3 hx0 hr0 hBB1
    go_wp2_with fail
    go_loopw [15] (fun p wr => ∃ (q : Nat) (c : List Wr), p = .int .i64 (q : Int) ∧ q ≤ l.length ∧ RanTo i e bs ws l q c ∧ StA w w2.heap.size bs c wr)
      (fun p _ => l.length - (intOf p).toNat)
    case atStart => exact ⟨0, ws, rfl, Nat.zero_le _, HR0.out, HI.out⟩
    case round =>
      obtain ⟨q, c, rfl, hq, hran, hst⟩ := hrel
      clear HI
      have HST := Lib.hid hst
      obtain ⟨aX, nX, cX, aY, nY, cY, hf, ho, hrr, hB⟩ := hst
      obtain ⟨f0, f1, ff0, ff1, fl⟩ := hf.cells
      have hfl := fl
      have htx := ho.texts
      have hwr := ho.wrs
      have hBs := hB.size
      by_cases hlt : q < l.length
      · have dq1 : decide (q < l.length) = true := by simp; omega
        have dq2 : decide ((q : Int) < (l.length : Int) + 1) = true := by simp; omega
        obtain ⟨b4, o4, hat, hcell⟩ := (hl.below hB).strs.at (k := q) (by omega)
        subst hat
        have hcb := World.block_lt_of_cell? wr _ hcell
        obtain ⟨s, hs⟩ : ∃ s, l[q] = s := ⟨_, rfl⟩
        rw [hs] at hcell
        have CA := Lib.hid (fun (W : World) (hb : Below wr.heap.size wr W) => refAppend_calls _ _ bs c i e s W (htx.below hb) (hwr.below hb))
        have HS := Lib.hid (fun (W : World) (hb : Below wr.heap.size wr W) => And.intro (look_below hb f0) (And.intro (look_below hb f1) (look_below hb hcell)))
        have hb1 : Below wr.heap.size wr wr.drew := drew_below _
        have hb2 : Below wr.heap.size wr (wr.alloc (.cells #[.slice none 0 0, .slice none 0 0] 25)).drew := below2 (below_alloc _ _) (drew_below _)
        have hn9 : Bx (wr.alloc (.cells #[.slice none 0 0, .slice none 0 0] 25)).drew wr.heap.size (.slice none 0 0) (.slice none 0 0) := (Bx.new wr _ _).below (drew_below _)
        by_cases ha : appE bs c i e s = 0
        · have hg : RanTo i e bs ws l (q + 1) (appWs bs c i e s) := by
            have := hran.good hlt (by rw [hs]; exact ha)
            rwa [hs] at this
          have hab : appBs bs c i e s = bs := by rw [appBs, if_pos ha]
          simp only [ha, hab] at CA
          generalize appWs bs c i e s = c' at hg CA
          have HG := Lib.hid hg
          clear hg hab ha hs hran htx hwr ho
          go_wp2_with fail
          go_region_held3 (fun w' => w'.cell? ⟨w2.heap.size, 0, none⟩ = some (.slice aX nX cX) ∧ w'.cell? ⟨w2.heap.size, 1, none⟩ = some (.slice aY nY cY) ∧ w'.cell? ⟨b4, o4 + q, none⟩ = some (.string ⟨s.toArray⟩)) (first | exact HS.out _ hb1 | exact HS.out _ hb2 | exact HS.out _ hbx7 | exact HS.out _ (below2 hbx7 (below_alloc _ _)) | exact HS.out _ ((hbx7.setCell (Nat.le_refl _) _).setCell (Nat.le_refl _) _) | exact HS.out _ (below2 hb1 (below_alloc _ _))) (first | (go_at_call 12; (first | ((with_reducible refine (CA.out _ hb1).mono ?_); rintro e' w7 ⟨vb7, vw7, rfl, ho7, hB7⟩; have hbx7 := below2 hb1 hB7) | ((with_reducible refine (CA.out _ hb2).mono ?_); rintro e' w7 ⟨vb7, vw7, rfl, ho7, hB7⟩; have hbx7 := below2 hb2 hB7; have hx9 := hn9.below hB7; have g0 := hx9.cells.1; have g1 := hx9.cells.2.1; have g2 := hx9.cells.2.2.1; have g3 := hx9.cells.2.2.2.1)); obtain ⟨ab7, nb7, cb7, aw7, nw7, cw7, rfl, rfl, hnb7, hnw7⟩ := ho7.forms; clear hnb7 hnw7; obtain ⟨u0, u1, uf0, uf1, ul⟩ := (hf.below hbx7).cells))
          all_goals
            go_wp2_with fail
            go_roundw
            case rel =>
              refine ⟨q + 1, c', by go_num, by omega, HG.out, ?_⟩
              first
                | (with_reducible refine HST.out.one hBn hbx7 ho7 ?_; have := hb1.size; omega)
                | (with_reducible refine HST.out.two hBn rfl hbx7 hx9 ho7 ?_; have := hb2.size; omega)
            case measure => simp [intOf]; omega
        · have hg := hran.bad hlt (by rw [hs]; exact ha)
          rw [hs] at hg
          have HA := Lib.hid (all_bad (l := l) (k := ((l.length : Int) + 1)) HZ.out (by rw [HLT.out]; exact hg) ha)
          have hwn : appBs bs c i e s = [] ∧ appWs bs c i e s = [] := by simp [appBs, appWs, ha]
          simp only [hwn.1, hwn.2] at CA
          generalize appE bs c i e s = cE at CA HA ha
          have dE : (cE != 0) = true := by simpa using ha
          clear hg hwn ha hs hran htx hwr ho
          go_wp2_with fail
          go_region_held3 (fun w' => w'.cell? ⟨w2.heap.size, 0, none⟩ = some (.slice aX nX cX) ∧ w'.cell? ⟨w2.heap.size, 1, none⟩ = some (.slice aY nY cY) ∧ w'.cell? ⟨b4, o4 + q, none⟩ = some (.string ⟨s.toArray⟩)) (first | exact HS.out _ hb1 | exact HS.out _ hb2 | exact HS.out _ hbx7 | exact HS.out _ (below2 hbx7 (below_alloc _ _)) | exact HS.out _ ((hbx7.setCell (Nat.le_refl _) _).setCell (Nat.le_refl _) _) | exact HS.out _ (below2 hb1 (below_alloc _ _))) (first | (go_at_call 12; (first | ((with_reducible refine (CA.out _ hb1).mono ?_); rintro e' w7 ⟨vb7, vw7, rfl, ho7, hB7⟩; have hbx7 := below2 hb1 hB7) | ((with_reducible refine (CA.out _ hb2).mono ?_); rintro e' w7 ⟨vb7, vw7, rfl, ho7, hB7⟩; have hbx7 := below2 hb2 hB7; have hx9 := hn9.below hB7; have g0 := hx9.cells.1; have g1 := hx9.cells.2.1; have g2 := hx9.cells.2.2.1; have g3 := hx9.cells.2.2.2.1)); obtain ⟨ab7, nb7, cb7, aw7, nw7, cw7, rfl, rfl, hnb7, hnw7⟩ := ho7.forms; clear hnb7 hnw7; obtain ⟨u0, u1, uf0, uf1, ul⟩ := (hf.below hbx7).cells))
          all_goals
            obtain ⟨g0, g1, gf0, gf1, gl⟩ := (hrr.below hbx7).cells
            go_wp2_with fail
            have zA := (bx_set (hrr.below hbx7) (.slice none 0 0) (.slice none 0 0)).below (below_alloc _ (.cells #[.slice ab7 nb7 cb7, .slice aw7 nw7 cw7] 25))
            have zB := bx_set (bx_other (hrr.below hbx7) (B' := wr.heap.size) (by have := hrr.cells.2.2.2.2; omega) (.slice ab7 nb7 cb7) (.slice aw7 nw7 cw7)) (.slice none 0 0) (.slice none 0 0)
            have bA := below2 (((below2 hB hbx7).setCell (p := ⟨w.heap.size + 1, 0, none⟩) (by simp) (.slice none 0 0)).setCell (p := ⟨w.heap.size + 1, 1, none⟩) (by simp) (.slice none 0 0)) (below_alloc _ (.cells #[.slice ab7 nb7 cb7, .slice aw7 nw7 cw7] 25))
            have bB := ((((below2 hB hbx7).setCell (p := ⟨wr.heap.size, 0, none⟩) (by simpa using hBs) (.slice ab7 nb7 cb7)).setCell (p := ⟨wr.heap.size, 1, none⟩) (by simpa using hBs) (.slice aw7 nw7 cw7)).setCell (p := ⟨w.heap.size + 1, 0, none⟩) (by simp) (.slice none 0 0)).setCell (p := ⟨w.heap.size + 1, 1, none⟩) (by simp) (.slice none 0 0)
            have hcz : ∀ W : World, Bx W (w.heap.size + 1) (.slice none 0 0) (.slice none 0 0) → Below w.heap.size w W → ∀ a : Act, a.defers = [] → a.tmps.getD 10 undef = .pointer (some ⟨w.heap.size + 1, 0, none⟩) → a.tmps.getD 11 undef = .bool false → a.tmps.getD 12 undef = .int .i64 cE →
                bodyPost Tryd.prog Tryd.f14 (fun e' w' => ∃ vb' vw', e' = .returned (.tuple #[.agg #[vb', vw'], .bool (allD bs ws i e l ((l.length : Int) + 1)), .int .i64 (allE bs ws i e l ((l.length : Int) + 1))]) ∧ OwnD w' w.heap.size vb' (allBs bs ws i e l ((l.length : Int) + 1)) vw' (allWs bs ws i e l ((l.length : Int) + 1)) ∧ Below w.heap.size w w') .ret a W := by
              intro W hW hBW a h1 h2 h3 h4
              refine ret_disk3 (p := 10) (q := 11) (r := 12) (by kernel_rfl) h1 (w.heap.size + 1) (.slice none 0 0) (.slice none 0 0) (.bool false) (.int .i64 cE) h2 h3 h4 hW.cells.1 hW.cells.2.1 ?_
              exact ⟨_, _, by rw [HA.out.1, HA.out.2.2.2], by rw [HA.out.2.1, HA.out.2.2.1]; exact nil_own _ _, hBW⟩
            first
              | (with_reducible refine hcz _ zA bA _ rfl rfl rfl rfl)
              | (with_reducible refine hcz _ zB bB _ rfl rfl rfl rfl)
      · obtain rfl : q = l.length := by omega
        have dq : decide (l.length < l.length) = false := by simp
        obtain ⟨g0, g1, gf0, gf1, gl⟩ := hrr.cells
        have hrw := hran.whole
        have HA := Lib.hid (all_full (l := l) (k := ((l.length : Int) + 1)) HZ.out (by rw [HLT.out]; exact hrw) HFB.out)
        have hrc := hran.2
        have CS := refSync_calls _ _ bs c wr htx hwr
        rw [show syncE bs c = 0 by simp [syncE, hrc], show syncBs bs c = layL bs c by simp [syncBs, hrc]] at CS
        generalize layL bs c = cL at CS HA
        have KS := Lib.hid CS
        clear hran htx hwr hrw ho hrc CS
        go_wp2_with fail
        refine KS.out.mono ?_
        rintro e' w4 ⟨vb4, vw4, rfl, ho4, hB4⟩
        obtain ⟨ab4, nb4, cb4, aw4, nw4, cw4, rfl, rfl, hnb4, hnw4⟩ := ho4.forms
        clear hnb4 hnw4 f0 f1 ff0 ff1 fl g0 g1 gf0 gf1 gl
        have hrr4 := hrr.below hB4
        have hB4' := below2 hB hB4
        obtain ⟨g0, g1, gf0, gf1, gl⟩ := hrr4.cells
        have HO := Lib.hid ho4
        clear ho4
        go_wp2_with fail
        have hba := below_alloc ((w4.setCell ⟨w.heap.size + 1, 0, none⟩ (.slice ab4 nb4 cb4)).setCell ⟨w.heap.size + 1, 1, none⟩ (.slice aw4 nw4 cw4)) (.cells #[.slice ab4 nb4 cb4, .slice aw4 nw4 cw4] 25)
        have z1 := (bx_set hrr4 (.slice ab4 nb4 cb4) (.slice aw4 nw4 cw4)).below hba
        have z2 := OwnD.below (own_sets2 HO.out hrr4 (.slice ab4 nb4 cb4) (.slice aw4 nw4 cw4)) hba
        have z3 := below2 ((hB4'.setCell (p := ⟨w.heap.size + 1, 0, none⟩) (by simp) (.slice ab4 nb4 cb4)).setCell (p := ⟨w.heap.size + 1, 1, none⟩) (by simp) (.slice aw4 nw4 cw4)) hba
        refine ret_disk3 (p := 10) (q := 11) (r := 12) (by kernel_rfl) rfl (w.heap.size + 1) (.slice ab4 nb4 cb4) (.slice aw4 nw4 cw4) (.bool true) (.int .i64 0) rfl rfl rfl z1.cells.1 z1.cells.2.1 ?_
        exact ⟨_, _, by rw [HA.out.1, HA.out.2.2.2], by rw [HA.out.2.1, HA.out.2.2.1]; exact ⟨own_weak z2.1 (by omega), own_weak z2.2 (by omega)⟩, z3⟩


set_option maxRecDepth 100000 in
set_option maxHeartbeats 8000000 in
theorem refAll_calls7 (vb vw v : Value) (bs : List (List UInt8)) (ws : List Wr) (i e : Int) (l : List (List UInt8)) (k : Int) (w : World) (hb : Txts w vb bs) (hw : Wrs w vw ws) (hl : Txts w v l) (hlm : l.length ≤ 1000000) :
    Calls Tryd.prog 14 #[.agg #[vb, vw], .int .i64 i, .int .i64 e, v, .int .i64 k] w fun e' w' => ∃ vb' vw', e' = .returned (.tuple #[.agg #[vb', vw'], .bool (allD bs ws i e l k), .int .i64 (allE bs ws i e l k)]) ∧ OwnD w' w.heap.size vb' (allBs bs ws i e l k) vw' (allWs bs ws i e l k) ∧ Below w.heap.size w w' := by
  obtain ⟨ab, cb, rfl⟩ := hb.strs.form
  obtain ⟨aw, cw, rfl⟩ := hw.form
  obtain ⟨hx0, hr0, hB0⟩ := entry2 w (.slice ab bs.length cb) (.slice aw ws.length cw)
  have C1 := refopen_calls _ _ bs ws i e _ (hb.below hB0) (hw.below hB0)
  by_cases hz : waE bs ws i e = 0
  · by_cases h : k < 0 ∨ (l.length : Int) < k
    · by_cases h2 : k = (l.length : Int) + 1
      · exact refall_one _ _ _ bs ws i e l k w hb hw hl hlm hz h2
      · exact refall_full _ _ _ bs ws i e l k w hb hw hl hlm hz (by omega)
    · exact refall_part _ _ _ bs ws i e l k w hb hw hl hlm hz (by omega) (by omega)
  · have HA := Lib.hid (all_refused (l := l) (k := k) hz)
    generalize waE bs ws i e = cE at C1 HA hz
    have dE : (cE != 0) = true := by simpa using hz
    have K := Lib.hid C1
    clear C1 hz
    go_enter Tryd.func14, Tryd.ntmps14
    go_wp2_with fail
    refine K.out.mono ?_
    rintro e' w1 ⟨rfl, hB1⟩
    have hr1 := hr0.below hB1
    obtain ⟨g0, g1, gf0, gf1, gl⟩ := hr1.cells
    go_wp2_with fail
    have z1 := bx_set hr1 (.slice none 0 0) (.slice none 0 0)
    refine ret_disk3 (p := 10) (q := 11) (r := 12) (by kernel_rfl) rfl (w.heap.size + 1) (.slice none 0 0) (.slice none 0 0) (.bool false) (.int .i64 cE) rfl rfl rfl z1.cells.1 z1.cells.2.1 ?_
    exact ⟨_, _, by rw [HA.out.1, HA.out.2.2.2], by rw [HA.out.2.1, HA.out.2.2.1]; exact nil_own _ _, ((below2 hB0 hB1).setCell (by simp) _).setCell (by simp) _⟩

end Go.Proofs.YtcipdmdliobdmaaDoor

/-
  The law file's rows in plain words.
-/
namespace Go.Proofs.YtcipdmdliobdmaaDoor
open Go.RowKit

/-- There is room for one text more. -/
theorem Grown.fits {n : Nat} {i e : Int} {l : List (List UInt8)} {s : List UInt8} (h : Grown n i e l) (hs : s.length ≤ 200) (hl : i.toNat + l.length < n) (hw : l.length < 100) : appE (List.replicate n []) (recsW i e.toNat 0 l) i e s = 0 := by
  have he := h.he
  have hi := h.hi
  have hz : waE (List.replicate n []) (recsW i e.toNat 0 l) i e = 0 := wa_ok.2 ⟨h.ws, he.1, he.2, hi.1, by simpa using hi.2⟩
  have hr : roomN (List.replicate n []) (recsW i e.toNat 0 l) i e ≠ 0 := by
    simp only [roomN, hz, h.wal, List.length_replicate, if_true]
    omega
  rw [appE, if_pos hz, if_pos hs, if_neg hr, h.wal, writeE, if_pos h.ws, if_pos (hasB_iff.2 (by simp; omega)), if_pos (rec_len _ _ _ (by omega) hs), if_pos (by rw [recsW_len]; exact hw)]

/-- The document's rows. -/
theorem logged_facts : ∃ (w1 w2 : List Wr) (c : List (List UInt8)), (appE (List.replicate 5 []) [] 2 1 [97] = 0 ∧ appBs (List.replicate 5 []) [] 2 1 [97] = List.replicate 5 [] ∧ appWs (List.replicate 5 []) [] 2 1 [97] = w1) ∧
    (appE (List.replicate 5 []) w1 2 1 [98] = 0 ∧ appBs (List.replicate 5 []) w1 2 1 [98] = List.replicate 5 [] ∧ appWs (List.replicate 5 []) w1 2 1 [98] = w2) ∧
    (waE (List.replicate 5 []) w2 2 1 = 0 ∧ openL (List.replicate 5 []) w2 2 1 = [[97], [98]]) ∧ (waE (List.replicate 5 []) w2 2 2 = 0 ∧ openL (List.replicate 5 []) w2 2 2 = []) ∧
    (syncE (List.replicate 5 []) w2 = 0 ∧ crashBs (List.replicate 5 []) w2 [false, true] = c) ∧ (waE c [] 2 1 = 0 ∧ openL c [] 2 1 = []) ∧ roomN (List.replicate 5 []) w2 2 1 = 1 ∧
    (waE (List.replicate 5 []) w2 5 1 = 40 ∧ openL (List.replicate 5 []) w2 5 1 = []) := by
  have hr0 : rightB (List.replicate 5 []) [] = true := by decide
  have g0 : Grown 5 2 1 [] := Grown.zero (wa_ok.2 ⟨hr0, by omega, by omega, by omega, by simp⟩)
  have f1 := g0.fits (s := [97]) (by simp) (by decide) (by simp)
  obtain ⟨g1, a1⟩ := g0.more f1
  have f2 := g1.fits (s := [98]) (by simp) (by decide) (by simp)
  obtain ⟨g2, a2⟩ := g1.more f2
  have hz : waE (List.replicate 5 []) (recsW 2 (1 : Int).toNat 0 ([] ++ [[97]] ++ [[98]])) 2 1 = 0 := wa_ok.2 ⟨g2.ws, by omega, by omega, by omega, by simp⟩
  have hz2 : waE (List.replicate 5 []) (recsW 2 (1 : Int).toNat 0 ([] ++ [[97]] ++ [[98]])) 2 2 = 0 := wa_ok.2 ⟨g2.ws, by omega, by omega, by omega, by simp⟩
  have hw := g2.wal
  have hc := crash_wal g2 [false, true]
  have h40 : waE (List.replicate 5 []) (recsW 2 (1 : Int).toNat 0 ([] ++ [[97]] ++ [[98]])) 5 1 = 40 := by
    unfold waE
    rw [if_pos ⟨g2.ws, by omega, by omega⟩, if_neg (by simp [hasB])]
  refine ⟨recsW 2 (1 : Int).toNat 0 ([] ++ [[97]]), recsW 2 (1 : Int).toNat 0 ([] ++ [[97]] ++ [[98]]), layL (List.replicate 5 []) (keptL (recsW 2 (1 : Int).toNat 0 ([] ++ [[97]] ++ [[98]])) [false, true]),
    ⟨f1, if_pos f1, a1⟩, ⟨f2, if_pos f2, a2⟩, ⟨hz, by rw [openL, if_pos hz, hw]; rfl⟩, ⟨hz2, ?_⟩, ⟨by rw [syncE, if_pos g2.ws], by rw [crashBs, if_pos g2.ws]⟩, ⟨hc.2, ?_⟩, ?_, ⟨h40, by rw [openL, h40]; rfl⟩⟩
  · rw [openL, if_pos hz2, walL]
    have := tell_other 1 2 (by decide) (by omega) [[97], [98]] _ (by simp) (by simp [layL_len]) (says_all 5 2 (by omega) 1 [[97], [98]]) 0
    rw [List.drop_zero] at this
    exact congrArg (List.map Prod.snd) this
  · rw [openL, if_pos hc.2, walL, logD, lay_nil]
    have h : ((layL (List.replicate 5 []) (keptL (recsW 2 (1 : Int).toNat 0 ([] ++ [[97]] ++ [[98]])) [false, true])).drop (2 : Int).toNat)[0]? = some [] := by
      rw [List.getElem?_drop]
      rcases lay_recs 2 (by omega) (1 : Int).toNat ([] ++ [[97]] ++ [[98]]) 0 (List.replicate 5 []) [false, true] ((2 : Int).toNat + 0) with h | ⟨j, hj, h1, h2, h3, h4⟩
      · rw [h]; rfl
      · obtain rfl : j = 0 := by omega
        simp at h2
    have := tell_cons (e := 1) h
    rw [List.drop_zero, recAt_nil] at this
    exact congrArg (List.map Prod.snd) this
  · rw [roomN, if_pos hz, hw]
    rfl

end Go.Proofs.YtcipdmdliobdmaaDoor

/-
  wal: Open.
-/
namespace Go.Proofs.YtcipdmdliobdmaaDoor
open Go.RowKit Go.Shelf
attribute [local go_sem] Oper.semAt_some

set_option maxRecDepth 100000 in
set_option maxHeartbeats 4000000 in
theorem waopen_calls (vb vw : Value) (bs : List (List UInt8)) (ws : List Wr) (i e : Int) (w : World) (hb : Txts w vb bs) (hw : Wrs w vw ws) (hT : TabOk w) :
    Calls Tryd.prog 9 #[.agg #[vb, vw], .int .i64 i, .int .i64 e] w fun e' w' => ∃ v, e' = .returned (.tuple #[v, .int .i64 (waE bs ws i e)]) ∧ w'.ownsRow w.heap.size 9 1 v (openL bs ws i e).length ((openL bs ws i e).map SV) ∧ Below w.heap.size w w' := by
  obtain ⟨i0, hi0, hz0, hz1, hz2⟩ := info_parts info9
  obtain ⟨ab, cb, rfl⟩ := hb.strs.form
  obtain ⟨aw, cw, rfl⟩ := hw.form
  have hx0 := Bx.new w (.slice ab bs.length cb) (.slice aw ws.length cw)
  have hB0 := below_alloc w (.cells #[.slice ab bs.length cb, .slice aw ws.length cw] 25)
  have C1 := wacheck_calls _ _ bs ws i e _ (hb.below hB0) (hw.below hB0)
  by_cases hz : waE bs ws i e = 0
  · have E : openL bs ws i e = (tellL e 0 (logD bs ws i)).map Prod.snd := by simp [openL, hz, walL]
    rw [hz] at C1 ⊢
    rw [E]
    have K := Lib.hid C1
    have HZ := Lib.hid hz
    clear C1 E
    refine (callsIn_wide (n := 6)).1 ?_
    refine callsIn_of_wp_marks Tryd.func9 rfl trivial ?_ rfl
    simp only [Tryd.ntmps9, List.size_toArray, List.length_cons, List.length_nil, Nat.reduceAdd, Nat.reduceSub, Array.replicate_succ, Array.replicate_zero, List.push_toArray, List.append_toArray, List.nil_append, List.cons_append]
    refine wpIn_wide.2 ?_
    go_wp2_with fail
    refine K.out.mono ?_
    rintro e' w1 ⟨rfl, hB1⟩
    have hx1 := hx0.below hB1
    obtain ⟨p0, p1, _⟩ := hx1.cells
    have hBB1 := below2 hB0 hB1
    have hv1 := Boxed.new w1 22 (.slice none 0 0)
    have hBBa := below2 hBB1 (below_alloc w1 (.cells #[.slice none 0 0] 22))
    have hsz1 := hBB1.size
    go_wp2_with fail
    refine (records_calls _ _ _ _ _).mono ?_
    rintro e' w2 ⟨rfl, hd2, hi2', he2', hB2⟩
    rw [World.size_alloc] at hd2 hi2' he2'
    have hv2 := boxed_below hv1 hB2
    have hBB2 := below2 hBBa hB2
    have hTl : Tl w (w1.heap.size + 1) (w1.heap.size + 1 + 1) (w1.heap.size + 1 + 1 + 1) (.slice ab bs.length cb) (.slice aw ws.length cw) i e w2 := ⟨hBB2, hd2, hi2', he2'⟩
    have hl1 := hd2.cells.2.2.2.2
    have hl2 := hi2'.lt
    have hl3 := he2'.lt
    clear p0 p1 hx1 hd2 hi2' he2' hB2
    go_wp2_with fail
    refine (wpIn_wide (n := 6)).1 ?_
    refine wpIn_rangeFunc_ownH rfl (by omega) (gf := 41) (lb := #[.pointer (some ⟨w1.heap.size + 1, 0, none⟩), .pointer (some ⟨w1.heap.size + 1 + 1, 0, none⟩), .pointer (some ⟨w1.heap.size + 1 + 1 + 1, 0, none⟩)]) rfl trivial (enters_of Tryd.func41 (by kernel_rfl) rfl)
      (tell_stops 5 (by omega) _ _ _ _ _ bs ws i e w w2 hb hw hT HZ.out hTl) Tk.trans (Tk.putObj hBB2.size hl1 hl2 hl3) (Below.refl _ _) (fun _ => rfl)
      (fun pre W => ((∃ v, Boxed W w1.heap.size 22 v ∧ W.ownsRow w.heap.size 9 1 v pre.length (pre.map fun x => SV x.2) ∧ True) ∧ Tl w (w1.heap.size + 1) (w1.heap.size + 1 + 1) (w1.heap.size + 1 + 1 + 1) (.slice ab bs.length cb) (.slice aw ws.length cw) i e W) ∧ w2.heap.size ≤ W.heap.size)
      (fun _ _ _ => False)
      (OwnFrom.and (OwnFrom.and (Own.from (holdsRow_own w.heap.size w1.heap.size 22 9 1 (fun pre : List (Nat × List UInt8) => pre.length) (fun pre => pre.map fun x => SV x.2) (fun _ _ => True)) _) (Tl.from hBB2.size)) (fun _ _ _ _ hs hg _ => Nat.le_trans hs hg.size))
      (fun _ _ _ _ _ hs _ _ => hs)
      ⟨⟨⟨_, hv2, World.ownsRow_nil _ _ _ _, trivial⟩, hTl⟩, Nat.le_refl _⟩
      (fun x a' W => ∃ Br, w2.heap.size ≤ Br ∧ W.heap[Br]? = some (.cells #[.int .i64 e, .int .i64 (x.1 : Int), .string ⟨x.2.toArray⟩] 53 (0, 0)) ∧ a' = { tmps := #[.agg #[.slice ab bs.length cb, .slice aw ws.length cw], .int .i64 i, .int .i64 e, .pointer (some ⟨w.heap.size, 0, none⟩), undef, undef, .slice none 0 0, .int .i64 0, .int .i64 0, .pointer (some ⟨w1.heap.size, 0, none⟩), .pointer (some ⟨Br, 0, none⟩), .agg #[.slice ab bs.length cb, .slice aw ws.length cw], .int .i64 i, .int .i64 e, .int .i64 0, .int .i64 0, .bool false, undef, .agg #[.slice ab bs.length cb, .slice aw ws.length cw], .int .i64 i, .int .i64 e, .func (.func 41) #[] #[.pointer (some ⟨w1.heap.size + 1, 0, none⟩), .pointer (some ⟨w1.heap.size + 1 + 1, 0, none⟩), .pointer (some ⟨w1.heap.size + 1 + 1 + 1, 0, none⟩)], .agg #[.int .i64 e, .int .i64 (x.1 : Int), .string ⟨x.2.toArray⟩], undef, undef, undef, undef, undef, undef], defers := [] })
      ?hAx ?assign ?body ?done ?stop
    case hAx =>
      rintro x a' u W W' row ⟨Br, h1, h2, h3⟩ hg hr
      refine ⟨Br, h1, ?_, h3⟩
      rw [hg.block Br (Array.getElem?_eq_some_iff.1 h2).1 (fun e => by obtain ⟨_, o, ho, hc⟩ := hr Br e.symm; rw [h2] at ho; cases ho; cases hc)]
      exact h2
    case assign =>
      rintro l pre ⟨k, x⟩ W K ⟨⟨⟨v, hv, hrow, _⟩, hTW⟩, hz2⟩ hK
      have hl1 := hTW.2.1.cells.2.2.2.2
      have hl2 := hTW.2.2.1.lt
      have hl3 := hTW.2.2.2.lt
      have hszW := hTW.1.size
      dsimp only [encR]
      gi_wp2
      have hBn := below_alloc W (.cells #[.int .i64 e, .int .i64 (k : Int), .string ⟨x.toArray⟩] 53)
      exact hK _ _ ((KeepsOthers.alloc _ _).from _) (Tk.below hBn hszW hl1 hl2 hl3) ⟨⟨⟨v, boxed_below hv hBn, own_below hrow hBn, trivial⟩, hTW.below hBn⟩, by simp; omega⟩ ⟨W.heap.size, hz2, heap_alloc_new W _, rfl⟩
    case body =>
      rintro l pre ⟨k, x⟩ a' W hl ⟨r, hr⟩ ⟨⟨⟨v, hv, hrow, _⟩, hTW⟩, hz3⟩ ⟨Br, hBr, bW, rfl⟩ hlt
      have hc := hv.cell
      have hszW := hTW.1.size
      have hfw : ∀ f, Fence.wide.fn f := fun _ => trivial
      have w2c : W.cell? ⟨Br, 2, none⟩ = some (.string ⟨x.toArray⟩) := cell_of_row W Br 2 _ _ _ bW
      have hBrl := World.block_lt_of_cell? W _ w2c
      clear bW
      gi_wp2_with (gi_at_builtin; refine wpListIn_append_own _ rfl _ _ 22 rfl w.heap.size 9 i0 (.string ⟨#[]⟩) 1 16 Tryd.underlying22 hi0 hz0 hz1 hz2 rfl (by decide) _ _ _ rfl (hrow.alloc _) ⟨W.heap.size, 0, none⟩ 1 1 [.string ⟨x.toArray⟩] rfl rfl (cell_one_new _ _ _) (by simp [Value.oneCell']) (by unfold maxLen; omega) (by omega) (by simp; omega) ?_; intro v' w3 hown' hgrow _; obtain ⟨g', cap', rfl⟩ := ownsRow_succ hown'; obtain ⟨hv1', hv2', hr2, hk2, hb2⟩ := hv.appended (by decide) hrow hszW hsz1 hown' hgrow; have hc1 := hv1'.cell; have hf1 := hv1'.frozen)
      obtain ⟨t1, t2⟩ := Tl.appended (v' := .slice (some ⟨g', 0, none⟩) (pre.length + 1) cap') hTW (below_alloc W (.cells #[.string ⟨x.toArray⟩] 9)) (hrow.alloc _) hgrow (by decide) (by decide) (by omega) (by omega) (by omega) hb2
      exact ⟨hk2.from _, t2, ⟨⟨_, hv2', by simpa [SV] using hr2⟩, t1⟩, by have := hgrow.size; simp at this ⊢; omega⟩
    case done =>
      rintro D ys W hD rfl ⟨⟨⟨v, hv, hrow, _⟩, hTW⟩, _⟩ hK
      have hc := hv.cell
      go_wp2
      refine ⟨by simp, .inl ⟨_, _, rfl, run_takeDeferred hK, ?_⟩⟩
      exact ⟨_, results_tmp2 rfl _ _ _, v, rfl, by simpa [Function.comp_def] using ownsRow_putObj hrow _ hK rfl, hTW.1.trans (belowK_b (w := w2) hBB2.size W D _ _ hD hK rfl rfl)⟩
    case stop =>
      rintro D c pre W _ _ h _
      exact h.elim
  · have E := Lib.hid (show openL bs ws i e = [] by simp [openL, hz])
    obtain ⟨E0, hE0⟩ : ∃ E0, waE bs ws i e = E0 := ⟨_, rfl⟩
    rw [hE0] at C1 hz ⊢
    rw [E.out]
    have hzb : (E0 == 0) = false := by simpa using hz
    have hzb2 : (E0 != 0) = true := by simpa using hz
    have K := Lib.hid C1
    clear C1 hE0 hz
    go_enter Tryd.func9, Tryd.ntmps9
    go_wp2_with fail
    refine K.out.mono ?_
    rintro e' w1 ⟨rfl, hB1⟩
    go_wp2_with fail
    go_ret2
    exact ⟨_, rfl, World.ownsRow_nil _ _ _ _, below2 hB0 hB1⟩

end Go.Proofs.YtcipdmdliobdmaaDoor

/-
  The law file's logged: the document's rows.
-/
namespace Go.Proofs.YtcipdmdliobdmaaDoor
open Go.RowKit

set_option maxRecDepth 100000 in
set_option maxHeartbeats 16000000 in
theorem logged_calls (w : World) (hT : TabOk w) : Calls Tryd.prog 17 #[] w fun e w' => e = .returned (.bool true) ∧ Below w.heap.size w w' := by
  have hBB := Below.refl w.heap.size w
  obtain ⟨x1, x2, c, F1, F2, F3, F4, F5, F6, F7, F8⟩ := logged_facts
  have G1 := Lib.hid F1
  have G2 := Lib.hid F2
  have G3 := Lib.hid F3
  have G4 := Lib.hid F4
  have G5 := Lib.hid F5
  have G6 := Lib.hid F6
  have G7 := Lib.hid F7
  have G8 := Lib.hid F8
  clear F1 F2 F3 F4 F5 F6 F7 F8
  go_enter Tryd.func17, Tryd.ntmps17
  go_wp2_with fail
  refine (new_calls 5 _).mono ?_
  rintro e w1 ⟨vb1, vw1, he, ho1, hB1⟩
  rw [show newE 5 = 0 from rfl] at he
  subst he
  have hC1 := hB1
  replace hT := hT.below hC1
  replace hBB := below2 hBB hC1
  obtain ⟨ab1, nb1, cb1, aw1, nw1, cw1, rfl, rfl, hnb1, hnw1⟩ := ho1.forms
  have ht1 := ho1.texts
  have hv1 := ho1.wrs
  have N1 := Lib.hid (And.intro hnb1 hnw1)
  clear hnb1 hnw1
  rw [show newB 5 = List.replicate 5 [] from rfl] at ht1
  go_wp2_with fail
  refine (append_calls _ _ _ _ 2 1 [97] _ (ht1.below (below_alloc _ _)) (hv1.below (below_alloc _ _)) (hT.below (below_alloc _ _))).mono ?_
  rintro e w2 ⟨vb2, vw2, he, ho2, hB2⟩
  rw [G1.out.1] at he
  subst he
  have hC2 := below2 (below_alloc _ _) hB2
  have hx1 := (Bx.new w1 _ _).below hB2
  replace ht1 := ht1.below hC2
  replace hv1 := hv1.below hC2
  replace hT := hT.below hC2
  have c10 := hx1.cells.1
  have c11 := hx1.cells.2.1
  have l1 := hx1.cells.2.2.2.2
  replace hBB := below2 hBB hC2
  obtain ⟨ab2, nb2, cb2, aw2, nw2, cw2, rfl, rfl, hnb2, hnw2⟩ := ho2.forms
  have ht2 := ho2.texts
  have hv2 := ho2.wrs
  have N2 := Lib.hid (And.intro hnb2 hnw2)
  clear hnb2 hnw2
  rw [G1.out.2.1] at ht2
  rw [G1.out.2.2] at hv2
  go_wp2_with fail
  refine (append_calls _ _ _ _ 2 1 [98] _ (ht2.below (below_alloc _ _)) (hv2.below (below_alloc _ _)) (hT.below (below_alloc _ _))).mono ?_
  rintro e w3 ⟨vb3, vw3, he, ho3, hB3⟩
  rw [G2.out.1] at he
  subst he
  have hC3 := below2 (below_alloc _ _) hB3
  replace hx1 := hx1.below hC3
  replace ht1 := ht1.below hC3
  replace hv1 := hv1.below hC3
  have hx2 := (Bx.new w2 _ _).below hB3
  replace ht2 := ht2.below hC3
  replace hv2 := hv2.below hC3
  replace hT := hT.below hC3
  replace c10 := hx1.cells.1
  replace c11 := hx1.cells.2.1
  replace l1 := hx1.cells.2.2.2.2
  have c20 := hx2.cells.1
  have c21 := hx2.cells.2.1
  have l2 := hx2.cells.2.2.2.2
  replace hBB := below2 hBB hC3
  obtain ⟨ab3, nb3, cb3, aw3, nw3, cw3, rfl, rfl, hnb3, hnw3⟩ := ho3.forms
  have ht3 := ho3.texts
  have hv3 := ho3.wrs
  have N3 := Lib.hid (And.intro hnb3 hnw3)
  clear hnb3 hnw3
  rw [G2.out.2.1] at ht3
  rw [G2.out.2.2] at hv3
  go_wp2_with fail
  refine (waopen_calls _ _ _ _ 2 1 _ (ht3.below (below_alloc _ _)) (hv3.below (below_alloc _ _)) (hT.below (below_alloc _ _))).mono ?_
  rintro e w4 ⟨vp4, he, ho4, hB4⟩
  rw [G3.out.1] at he
  rw [G3.out.2] at ho4
  subst he
  have hC4 := below2 (below_alloc _ _) hB4
  replace hx1 := hx1.below hC4
  replace ht1 := ht1.below hC4
  replace hv1 := hv1.below hC4
  replace hx2 := hx2.below hC4
  replace ht2 := ht2.below hC4
  replace hv2 := hv2.below hC4
  have hx3 := (Bx.new w3 _ _).below hB4
  replace ht3 := ht3.below hC4
  replace hv3 := hv3.below hC4
  replace hT := hT.below hC4
  replace c10 := hx1.cells.1
  replace c11 := hx1.cells.2.1
  replace l1 := hx1.cells.2.2.2.2
  replace c20 := hx2.cells.1
  replace c21 := hx2.cells.2.1
  replace l2 := hx2.cells.2.2.2.2
  have c30 := hx3.cells.1
  have c31 := hx3.cells.2.1
  have l3 := hx3.cells.2.2.2.2
  replace hBB := below2 hBB hC4
  have hp4 := Txts.own ho4
  clear ho4
  obtain ⟨ap4, cp4, rfl⟩ := hp4.strs.form
  go_wp2_with fail
  refine (waopen_calls _ _ _ _ 2 2 _ ht3 hv3 hT).mono ?_
  rintro e w5 ⟨vp5, he, ho5, hB5⟩
  rw [G4.out.1] at he
  rw [G4.out.2] at ho5
  subst he
  have hC5 := hB5
  replace hx1 := hx1.below hC5
  replace ht1 := ht1.below hC5
  replace hv1 := hv1.below hC5
  replace hx2 := hx2.below hC5
  replace ht2 := ht2.below hC5
  replace hv2 := hv2.below hC5
  replace hx3 := hx3.below hC5
  replace ht3 := ht3.below hC5
  replace hv3 := hv3.below hC5
  replace hT := hT.below hC5
  replace hp4 := hp4.below hC5
  replace c10 := hx1.cells.1
  replace c11 := hx1.cells.2.1
  replace l1 := hx1.cells.2.2.2.2
  replace c20 := hx2.cells.1
  replace c21 := hx2.cells.2.1
  replace l2 := hx2.cells.2.2.2.2
  replace c30 := hx3.cells.1
  replace c31 := hx3.cells.2.1
  replace l3 := hx3.cells.2.2.2.2
  replace hBB := below2 hBB hC5
  have hp5 := Txts.own ho5
  clear ho5
  obtain ⟨ap5, cp5, rfl⟩ := hp5.strs.form
  go_wp2_with fail
  refine (crash_calls _ _ _ _ _ [false, true] _ (ht3.below (below_alloc _ _)) (hv3.below (below_alloc _ _)) (Bools.two _ _ _ _)).mono ?_
  rintro e w6 ⟨vb6, vw6, he, ho6, hB6⟩
  rw [G5.out.1] at he
  subst he
  have hC6 := below2 (below_alloc _ _) hB6
  replace hx1 := hx1.below hC6
  replace ht1 := ht1.below hC6
  replace hv1 := hv1.below hC6
  replace hx2 := hx2.below hC6
  replace ht2 := ht2.below hC6
  replace hv2 := hv2.below hC6
  replace hx3 := hx3.below hC6
  replace ht3 := ht3.below hC6
  replace hv3 := hv3.below hC6
  replace hT := hT.below hC6
  replace hp4 := hp4.below hC6
  replace hp5 := hp5.below hC6
  replace c10 := hx1.cells.1
  replace c11 := hx1.cells.2.1
  replace l1 := hx1.cells.2.2.2.2
  replace c20 := hx2.cells.1
  replace c21 := hx2.cells.2.1
  replace l2 := hx2.cells.2.2.2.2
  replace c30 := hx3.cells.1
  replace c31 := hx3.cells.2.1
  replace l3 := hx3.cells.2.2.2.2
  replace hBB := below2 hBB hC6
  obtain ⟨ab6, nb6, cb6, aw6, nw6, cw6, rfl, rfl, hnb6, hnw6⟩ := ho6.forms
  have ht6 := ho6.texts
  have hv6 := ho6.wrs
  have N6 := Lib.hid (And.intro hnb6 hnw6)
  clear hnb6 hnw6
  rw [G5.out.2] at ht6
  go_wp2_with fail
  refine (waopen_calls _ _ _ _ 2 1 _ (ht6.below (below_alloc _ _)) (hv6.below (below_alloc _ _)) (hT.below (below_alloc _ _))).mono ?_
  rintro e w7 ⟨vp7, he, ho7, hB7⟩
  rw [G6.out.1] at he
  rw [G6.out.2] at ho7
  subst he
  have hC7 := below2 (below_alloc _ _) hB7
  replace hx1 := hx1.below hC7
  replace ht1 := ht1.below hC7
  replace hv1 := hv1.below hC7
  replace hx2 := hx2.below hC7
  replace ht2 := ht2.below hC7
  replace hv2 := hv2.below hC7
  replace hx3 := hx3.below hC7
  replace ht3 := ht3.below hC7
  replace hv3 := hv3.below hC7
  have hx6 := (Bx.new w6 _ _).below hB7
  replace ht6 := ht6.below hC7
  replace hv6 := hv6.below hC7
  replace hT := hT.below hC7
  replace hp4 := hp4.below hC7
  replace hp5 := hp5.below hC7
  replace c10 := hx1.cells.1
  replace c11 := hx1.cells.2.1
  replace l1 := hx1.cells.2.2.2.2
  replace c20 := hx2.cells.1
  replace c21 := hx2.cells.2.1
  replace l2 := hx2.cells.2.2.2.2
  replace c30 := hx3.cells.1
  replace c31 := hx3.cells.2.1
  replace l3 := hx3.cells.2.2.2.2
  have c60 := hx6.cells.1
  have c61 := hx6.cells.2.1
  have l6 := hx6.cells.2.2.2.2
  replace hBB := below2 hBB hC7
  have hp7 := Txts.own ho7
  clear ho7
  obtain ⟨ap7, cp7, rfl⟩ := hp7.strs.form
  go_wp2_with fail
  refine (room_calls _ _ _ _ 2 1 _ ht3 hv3 hT).mono ?_
  rintro e w8 ⟨he, hB8⟩
  rw [G3.out.1] at he
  rw [G7.out] at he
  subst he
  have hC8 := hB8
  replace hx1 := hx1.below hC8
  replace ht1 := ht1.below hC8
  replace hv1 := hv1.below hC8
  replace hx2 := hx2.below hC8
  replace ht2 := ht2.below hC8
  replace hv2 := hv2.below hC8
  replace hx3 := hx3.below hC8
  replace ht3 := ht3.below hC8
  replace hv3 := hv3.below hC8
  replace hx6 := hx6.below hC8
  replace ht6 := ht6.below hC8
  replace hv6 := hv6.below hC8
  replace hT := hT.below hC8
  replace hp4 := hp4.below hC8
  replace hp5 := hp5.below hC8
  replace hp7 := hp7.below hC8
  replace c10 := hx1.cells.1
  replace c11 := hx1.cells.2.1
  replace l1 := hx1.cells.2.2.2.2
  replace c20 := hx2.cells.1
  replace c21 := hx2.cells.2.1
  replace l2 := hx2.cells.2.2.2.2
  replace c30 := hx3.cells.1
  replace c31 := hx3.cells.2.1
  replace l3 := hx3.cells.2.2.2.2
  replace c60 := hx6.cells.1
  replace c61 := hx6.cells.2.1
  replace l6 := hx6.cells.2.2.2.2
  replace hBB := below2 hBB hC8
  go_wp2_with fail
  refine (waopen_calls _ _ _ _ 5 1 _ ht3 hv3 hT).mono ?_
  rintro e w9 ⟨vp9, he, ho9, hB9⟩
  rw [G8.out.1] at he
  rw [G8.out.2] at ho9
  subst he
  have hC9 := hB9
  replace hx1 := hx1.below hC9
  replace ht1 := ht1.below hC9
  replace hv1 := hv1.below hC9
  replace hx2 := hx2.below hC9
  replace ht2 := ht2.below hC9
  replace hv2 := hv2.below hC9
  replace hx3 := hx3.below hC9
  replace ht3 := ht3.below hC9
  replace hv3 := hv3.below hC9
  replace hx6 := hx6.below hC9
  replace ht6 := ht6.below hC9
  replace hv6 := hv6.below hC9
  replace hT := hT.below hC9
  replace hp4 := hp4.below hC9
  replace hp5 := hp5.below hC9
  replace hp7 := hp7.below hC9
  replace c10 := hx1.cells.1
  replace c11 := hx1.cells.2.1
  replace l1 := hx1.cells.2.2.2.2
  replace c20 := hx2.cells.1
  replace c21 := hx2.cells.2.1
  replace l2 := hx2.cells.2.2.2.2
  replace c30 := hx3.cells.1
  replace c31 := hx3.cells.2.1
  replace l3 := hx3.cells.2.2.2.2
  replace c60 := hx6.cells.1
  replace c61 := hx6.cells.2.1
  replace l6 := hx6.cells.2.2.2.2
  replace hBB := below2 hBB hC9
  have hp9 := Txts.own ho9
  clear ho9
  obtain ⟨ap9, cp9, rfl⟩ := hp9.strs.form
  go_wp2_with fail
  refine (texts_calls _ _ _ _ _ (hp4.below (below_alloc _ _)).strs (Txts.new _ [[97], [98]] _).strs (by simp)).mono ?_
  rintro e w10 ⟨he, hB10⟩
  rw [show decide (([[97], [98]] : List (List UInt8)) = [[97], [98]]) = true from rfl] at he
  subst he
  have hC10 := below2 (below_alloc _ _) hB10
  replace hx1 := hx1.below hC10
  replace ht1 := ht1.below hC10
  replace hv1 := hv1.below hC10
  replace hx2 := hx2.below hC10
  replace ht2 := ht2.below hC10
  replace hv2 := hv2.below hC10
  replace hx3 := hx3.below hC10
  replace ht3 := ht3.below hC10
  replace hv3 := hv3.below hC10
  replace hx6 := hx6.below hC10
  replace ht6 := ht6.below hC10
  replace hv6 := hv6.below hC10
  replace hT := hT.below hC10
  replace hp4 := hp4.below hC10
  replace hp5 := hp5.below hC10
  replace hp7 := hp7.below hC10
  replace hp9 := hp9.below hC10
  replace c10 := hx1.cells.1
  replace c11 := hx1.cells.2.1
  replace l1 := hx1.cells.2.2.2.2
  replace c20 := hx2.cells.1
  replace c21 := hx2.cells.2.1
  replace l2 := hx2.cells.2.2.2.2
  replace c30 := hx3.cells.1
  replace c31 := hx3.cells.2.1
  replace l3 := hx3.cells.2.2.2.2
  replace c60 := hx6.cells.1
  replace c61 := hx6.cells.2.1
  replace l6 := hx6.cells.2.2.2.2
  replace hBB := below2 hBB hC10
  go_wp2_with fail
  go_ret
  exact ⟨rfl, hBB⟩

end Go.Proofs.YtcipdmdliobdmaaDoor

/-
  The law file's front: are texts a beginning of others?
-/
namespace Go.Proofs.YtcipdmdliobdmaaDoor
open Go.RowKit

set_option maxRecDepth 100000 in
set_option maxHeartbeats 2000000 in
theorem front_calls (va vb : Value) (a b : List (List UInt8)) (w : World) (ha : Txts w va a) (hb : Txts w vb b) (hab : a <+: b) (hm : b.length ≤ 1000000) :
    Calls Tryd.prog 22 #[va, vb] w fun e w' => e = .returned (.bool true) ∧ Below w.heap.size w w' := by
  obtain ⟨aa, ca, rfl⟩ := ha.strs.form
  obtain ⟨ab, cb, hv, hcb, _⟩ := id hb
  subst hv
  have hle : a.length ≤ b.length := hab.length_le
  have hlb : a.length ≤ cb := by omega
  have d1 : decide (a.length ≤ b.length) = true := by simpa using hle
  have h1 := hb.take a.length hle
  have K := texts_calls _ _ a (b.take a.length) w ha.strs h1.strs (by omega)
  rw [show decide (a = b.take a.length) = true by simpa using List.prefix_iff_eq_take.1 hab] at K
  have HK := Lib.hid K
  clear K h1 ha hb hab
  go_enter Tryd.func22, Tryd.ntmps22
  go_wp2_with fail
  refine HK.out.mono ?_
  rintro e w1 ⟨rfl, hB1⟩
  go_wp2_with fail
  go_ret
  exact ⟨rfl, hB1⟩

end Go.Proofs.YtcipdmdliobdmaaDoor
