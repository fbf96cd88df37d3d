/-
  The texts of one folder in one: SlSpec, SlIn, SlDeeds, SlSync, SlMath, SlRun, SlBehind, SlTable, SlPages, SlOpen, SlLoad, SlText, SlSave, SlSays, SlMore, SlLaw, Shelved, SlSteps.
-/
import Derived.Test.YtdbidfbjfongbaaDoorPks05
import Derived.Test.YtdbidfbjfongbaaDoorPks01
import Derived.Test.YtdbidfbjfongbaaDoorPks03
import Derived.RangeFuncNested
import Derived.RangeFuncBound
import Derived.RangeFuncCalls
import Derived.RangeFuncLeaves
import Derived.RangeFuncBox
import Derived.Shelf.Abstract
import Derived.Shelf.RegionOpen
import Derived.OwnWalkIn
import Derived.TacticsInMore
import Derived.LoopNIn
import Derived.LoopIn
import Derived.Outline
import Derived.Deep.RegionLaw
import Derived.Laws.OwnMore
import Derived.WalkMore
import Derived.Test.YtdbidfbjfongbaaDoorPks04
import Derived.Deep.QuietTactic
import Derived.BigQuiet
import Derived.WalkSmall

/-
  slot in plain words: a table's blocks, the pages, the free blocks, what a Save's deeds make.
-/
namespace Go.Proofs.YtdbidfbjfongbaaDoor
open Go.RowKit

/-- The blocks that a row's texts name, behind those of acc: each from 2 on, below n, none twice. -/
def tabGo (n : Nat) : List (List UInt8) → List Nat → Option (List Nat)
  | [], acc => some acc
  | x :: r, acc =>
    match getN x with
    | some (a, q) => if q = [] ∧ 2 ≤ a ∧ a < n ∧ a ∉ acc then tabGo n r (acc ++ [a]) else none
    | none => none
/-- The blocks that a table names, on a disk of n blocks. -/
def tabL (t : List UInt8) (n : Nat) : Option (List Nat) :=
  if t = [] then some [] else
    match getR t with
    | some (row, q) => if q = [] then tabGo n row [] else none
    | none => none
/-- Does the text say a page? -/
def pageB (s : List UInt8) : Bool := match getF s with
  | some (_, q) => q == []
  | none => false
/-- The page that a text says. -/
def pageT (s : List UInt8) : List UInt8 := match getF s with
  | some (p, _) => p
  | none => []
/-- Do all these blocks say pages? -/
def pagesB (bs : List (List UInt8)) (ws : List Wr) (t : List Nat) : Bool := t.all fun a : Nat => pageB (saysL bs ws (a : Int))
def pagesL (bs : List (List UInt8)) (ws : List Wr) (t : List Nat) : List (List UInt8) := t.map fun a : Nat => pageT (saysL bs ws (a : Int))
def twT (bs : List (List UInt8)) (ws : List Wr) : List UInt8 := txtO (newestC bs ws 0)
/-- What is refused, and for what. -/
def openE (bs : List (List UInt8)) (ws : List Wr) : Int :=
  if rightB bs ws = true ∧ bs.length < 3 then 40 else
    if newestE bs ws 0 = 0 then
      match tabL (twT bs ws) bs.length with
      | some t => if pagesB bs ws t = true then 0 else 30
      | none => 30
    else newestE bs ws 0
/-- The table. -/
def openT (bs : List (List UInt8)) (ws : List Wr) : List Nat := if openE bs ws = 0 then (tabL (twT bs ws) bs.length).getD [] else []
/-- The pages. -/
def openP (bs : List (List UInt8)) (ws : List Wr) : List (List UInt8) := pagesL bs ws (openT bs ws)
/-- The twin's number. -/
def openN (bs : List (List UInt8)) (ws : List Wr) : Nat := if openE bs ws = 0 then numO (newestC bs ws 0) else 0
/-- The free blocks below k. -/
def freeTo (t : List Nat) (k : Nat) : List Nat := (List.range k).filter fun a => decide (2 ≤ a) && !t.contains a
def freeL (bs : List (List UInt8)) (ws : List Wr) : List Nat := if openE bs ws = 0 then freeTo (openT bs ws) bs.length else []
/-- A table's bytes. -/
def tableB (t : List Nat) : List UInt8 := rowB (t.map numB)

/-- A deed: its kind, the block, the text. -/
abbrev Dd := Fin 4 × Int × List UInt8
/-- A disk. -/
abbrev Ds := List (List UInt8) × List Wr
/-- Behind the Sync: what the twin would refuse. -/
def syE (s : Ds) (t : List UInt8) : Int := if syncE s.1 s.2 = 0 then stopE (syncBs s.1 s.2) [] 0 t else syncE s.1 s.2
def syBs (s : Ds) (t : List UInt8) : List (List UInt8) := if syncE s.1 s.2 = 0 then stopBs (syncBs s.1 s.2) [] 0 t 0 else []
def syWs (s : Ds) (t : List UInt8) : List Wr := if syncE s.1 s.2 = 0 then stopWs (syncBs s.1 s.2) [] 0 t 0 else []
/-- A deed's error. -/
def doE (s : Ds) (x : Dd) : Int := match x with
  | (0, a, t) => writeE s.1 s.2 a t
  | (1, _, t) => syE s t
  | (2, _, t) => stopE s.1 s.2 0 t
  | (3, _, _) => syncE s.1 s.2
/-- The disk behind a deed. -/
def doD (s : Ds) (x : Dd) : Ds := match x with
  | (0, a, t) => (writeBs s.1 s.2 a t, writeWs s.1 s.2 a t)
  | (1, _, t) => (syBs s t, syWs s t)
  | (2, _, t) => (stopBs s.1 s.2 0 t 1, stopWs s.1 s.2 0 t 1)
  | (3, _, _) => (syncBs s.1 s.2, [])
/-- The disk behind so many deeds: an error or 0; were those all; the disk. -/
def runR : Ds → List Dd → Int → Int × Bool × Ds
  | s, [], _ => (0, true, s)
  | s, x :: r, k => if k = 0 then (0, false, s) else if doE s x = 0 then runR (doD s x) r (k - 1) else (doE s x, false, [], [])
/-- The deeds that write pages. -/
def pageDs (l : List (List UInt8)) (us : List Nat) : List Dd := (l.zip us).map fun x => (0, (x.2 : Int), frameB x.1)
def endDs (tb : List UInt8) : List Dd := [(1, 0, tb), (2, 0, tb), (3, 0, tb)]
def deedsL (l : List (List UInt8)) (us : List Nat) (tb : List UInt8) : List Dd := pageDs l us ++ endDs tb
/-- The blocks that a Save's pages go to. -/
def toL (bs : List (List UInt8)) (ws : List Wr) (l : List (List UInt8)) : List Nat := (freeL bs ws).take l.length
/-- What a Save answers. -/
def saveR (bs : List (List UInt8)) (ws : List Wr) (l : List (List UInt8)) (k : Int) : Int × Bool × Ds :=
  if openE bs ws = 0 then
    if l.all (fun s => decide (s.length ≤ 200)) = true then
      if l.length ≤ (freeL bs ws).length then
        if (tableB (toL bs ws l)).length ≤ 200 then runR (bs, ws) (deedsL l (toL bs ws l) (tableB (toL bs ws l))) k
        else (2, false, [], [])
      else (41, false, [], [])
    else (2, false, [], [])
  else (openE bs ws, false, [], [])

end Go.Proofs.YtdbidfbjfongbaaDoor

/-
  Rows of natural numbers; slices.Contains over them; slices.ContainsFunc with slot.tooLong.
-/
namespace Go.Proofs.YtdbidfbjfongbaaDoor
open Go.RowKit

def NV (a : Nat) : Value := .int .i64 (a : Int)
/-- The slice v reads as these numbers. -/
def Nats (w : World) (v : Value) (T : List Nat) : Prop := Rw w 1 v T.length (T.map NV)
/-- The slice v owns just these numbers, in blocks from base on. -/
def OwnN (w : World) (base : Nat) (v : Value) (T : List Nat) : Prop := w.ownsRow base 3 1 v T.length (T.map NV)
theorem Nats.below {w w' : World} {v : Value} {T : List Nat} (h : Nats w v T) (hb : Below w.heap.size w w') : Nats w' v T := Rw.below h hb
theorem Nats.form {w : World} {v : Value} {T : List Nat} (h : Nats w v T) : ∃ ao cap, v = .slice ao T.length cap := Rw.form h
theorem Nats.nil (w : World) : Nats w (.slice none 0 0) [] := Rw.nil w 1
theorem Nats.at {w : World} {ao : Option Addr} {n cap : Nat} {T : List Nat} (h : Nats w (.slice ao n cap) T) {k : Nat} (hk : k < T.length) : ∃ b off, ao = some ⟨b, off, none⟩ ∧ w.cell? ⟨b, off + k, none⟩ = some (.int .i64 (T[k] : Nat)) := by
  obtain ⟨_, ao', cap', he, _, hc⟩ := h
  cases he
  rcases hc with h0 | ⟨b, off, rfl, hc⟩
  · omega
  · refine ⟨b, off, rfl, ?_⟩
    have := hc k (by simpa using hk)
    simpa [NV] using this
theorem OwnN.nats {w : World} {base : Nat} {v : Value} {T : List Nat} (h : OwnN w base v T) : Nats w v T := Rw.own h
theorem OwnN.nil (w : World) (base : Nat) : OwnN w base (.slice none 0 0) [] := World.ownsRow_nil _ _ _ _
theorem infoInt : (Tryd.prog.info? 3).map (fun i => (i.zero, i.size, i.bytes)) = some (some (.int .i64 0), 1, 8) := by kernel_rfl

set_option maxHeartbeats 1000000 in
theorem index_calls (v : Value) (T : List Nat) (a : Nat) (w : World) (hT : Nats w v T) (hn : T.length ≤ 1000000) :
    Calls Tryd.prog 44 #[v, .int .i64 (a : Int)] w fun e w' => ∃ r : Int, e = .returned (.int .i64 r) ∧ decide (0 ≤ r) = decide (a ∈ T) ∧ w = w' := by
  obtain ⟨ao, cap, rfl⟩ := hT.form
  go_enter Tryd.func44, Tryd.ntmps44
  go_wp2_with fail
  go_loop [8] (fun i => ∃ k : Nat, k ≤ T.length ∧ i = .int .i64 k ∧ a ∉ T.take k) (fun i => T.length - (intOf i).toNat)
  case atStart => exact ⟨0, Nat.zero_le _, rfl, by simp⟩
  case round =>
    obtain ⟨k, hk, rfl, hno⟩ := hrel
    by_cases hlt : k < T.length
    · obtain ⟨b, off, rfl, hcell⟩ := hT.at hlt
      have hbl := World.block_lt_of_cell? w _ hcell
      by_cases he : a = T[k]
      · have HM := Lib.hid (show a ∈ T from he ▸ List.getElem_mem hlt)
        rw [← he] at hcell
        have hcb : ((a : Int) == (a : Int)) = true := by simp
        clear he
        go_wp2_with fail
        go_ret
        exact ⟨_, rfl, by simp [HM.out], rfl⟩
      · have hcb : ((a : Int) == ((T[k] : Nat) : Int)) = false := by rw [beq_eq_false_iff_ne]; omega
        have HN := Lib.hid (show a ∉ T.take (k + 1) by
          rw [List.take_succ_eq_append_getElem hlt, List.mem_append, List.mem_singleton]
          rintro (h | h)
          · exact hno h
          · exact he h)
        clear hno he
        go_wp2_with fail
        go_round
        case rel => exact ⟨k + 1, by omega, by go_num, HN.out⟩
        case measure => simp [intOf]; omega
    · obtain rfl : k = T.length := by omega
      rw [List.take_length] at hno
      have HN := Lib.hid hno
      clear hno
      go_wp2_with fail
      go_ret
      exact ⟨_, rfl, by simp [HN.out], rfl⟩

set_option maxHeartbeats 1000000 in
theorem contains_calls (v : Value) (T : List Nat) (a : Nat) (w : World) (hT : Nats w v T) (hn : T.length ≤ 1000000) :
    Calls Tryd.prog 24 #[v, .int .i64 (a : Int)] w fun e w' => e = .returned (.bool (decide (a ∈ T))) ∧ w = w' := by
  have K := index_calls v T a w hT hn
  obtain ⟨ao, cap, rfl⟩ := hT.form
  have H := Lib.hid K
  clear K hT
  go_enter Tryd.func24, Tryd.ntmps24
  go_wp2_with fail
  refine H.out.mono ?_
  rintro e w1 ⟨r, rfl, hr, rfl⟩
  have HR := Lib.hid hr
  clear hr
  go_wp2_with fail
  go_ret
  exact ⟨by rw [HR.out]; rfl, rfl⟩

theorem long_calls (s : List UInt8) (w : World) :
    Calls Tryd.prog 19 #[.string ⟨s.toArray⟩] w fun e w' => e = .returned (.bool (decide ((200 : Int) < s.length))) ∧ w = w' := by
  go_enter Tryd.func19, Tryd.ntmps19
  go_wp2_with fail
  go_ret
  exact ⟨rfl, rfl⟩

set_option maxHeartbeats 1000000 in
theorem indexFunc_calls (v : Value) (l : List (List UInt8)) (w : World) (hl : Txts w v l) (hn : l.length ≤ 1000000) :
    Calls Tryd.prog 34 #[v, .func (.func 19) #[] #[]] w fun e w' => ∃ r : Int, e = .returned (.int .i64 r) ∧ decide (0 ≤ r) = !(l.all fun s => decide (s.length ≤ 200)) ∧ w = w' := by
  obtain ⟨ao, cap, rfl⟩ := hl.strs.form
  go_enter Tryd.func34, Tryd.ntmps34
  go_wp2_with fail
  go_loop [8] (fun i => ∃ k : Nat, k ≤ l.length ∧ i = .int .i64 k ∧ ∀ s ∈ l.take k, s.length ≤ 200) (fun i => l.length - (intOf i).toNat)
  case atStart => exact ⟨0, Nat.zero_le _, rfl, by simp⟩
  case round =>
    obtain ⟨k, hk, rfl, hno⟩ := hrel
    by_cases hlt : k < l.length
    · obtain ⟨b, off, rfl, hcell⟩ := hl.strs.at hlt
      have hbl := World.block_lt_of_cell? w _ hcell
      have hm := List.getElem_mem hlt
      have HM : Hid (l.take (k + 1) = l.take k ++ [l[k]]) := Lib.hid (List.take_succ_eq_append_getElem hlt)
      generalize l[k] = s at hcell hm HM
      by_cases he : s.length ≤ 200
      · have hcb : decide ((200 : Int) < s.length) = false := by simp; omega
        have HN := Lib.hid (show ∀ s ∈ l.take (k + 1), s.length ≤ 200 by
          rw [HM.out]
          intro t ht
          rcases List.mem_append.1 ht with h | h
          · exact hno t h
          · obtain rfl := List.mem_singleton.1 h; exact he)
        clear hno he hm
        go_wp2_with (go_at_call 19; refine (long_calls s _).mono ?_; rintro e w1 ⟨rfl, rfl⟩)
        go_round
        case rel => exact ⟨k + 1, by omega, by go_num, HN.out⟩
        case measure => simp [intOf]; omega
      · have hcb : decide ((200 : Int) < s.length) = true := by simp; omega
        have HN := Lib.hid (show (l.all fun s => decide (s.length ≤ 200)) = false by
          rw [List.all_eq_false]
          exact ⟨s, hm, by simpa using he⟩)
        clear hno he hm
        go_wp2_with (go_at_call 19; refine (long_calls s _).mono ?_; rintro e w1 ⟨rfl, rfl⟩)
        go_ret
        exact ⟨_, rfl, by rw [HN.out]; simp, rfl⟩
    · obtain rfl : k = l.length := by omega
      rw [List.take_length] at hno
      have HN := Lib.hid (show (l.all fun s => decide (s.length ≤ 200)) = true by
        rw [List.all_eq_true]
        intro s hs
        simpa using hno s hs)
      clear hno
      go_wp2_with fail
      go_ret
      exact ⟨_, rfl, by rw [HN.out]; simp, rfl⟩

set_option maxHeartbeats 1000000 in
theorem containsFunc_calls (v : Value) (l : List (List UInt8)) (w : World) (hl : Txts w v l) (hn : l.length ≤ 1000000) :
    Calls Tryd.prog 18 #[v, .func (.func 19) #[] #[]] w fun e w' => e = .returned (.bool (!(l.all fun s => decide (s.length ≤ 200)))) ∧ w = w' := by
  have K := indexFunc_calls v l w hl hn
  obtain ⟨ao, cap, rfl⟩ := hl.strs.form
  have H := Lib.hid K
  clear K hl
  go_enter Tryd.func18, Tryd.ntmps18
  go_wp2_with fail
  refine H.out.mono ?_
  rintro e w1 ⟨r, rfl, hr, rfl⟩
  have HR := Lib.hid hr
  clear hr
  go_wp2_with fail
  go_ret
  exact ⟨by rw [HR.out]; rfl, rfl⟩

end Go.Proofs.YtdbidfbjfongbaaDoor

/-
  slot.deedsOf: the iterator hands on a Save's deeds, one by one.
-/
namespace Go.Proofs.YtdbidfbjfongbaaDoor
open Go.RowKit Go.Shelf
attribute [local go_sem] Oper.semAt_some

/-- What a round is handed. -/
def encD (x : Dd) : Array Value := #[.agg #[.int .i64 ((x.1.val : Nat) : Int), .int .i64 x.2.1, .string ⟨x.2.2.toArray⟩]]
theorem pageDs_len {l : List (List UInt8)} {us : List Nat} (h : us.length = l.length) : (pageDs l us).length = l.length := by simp [pageDs, h]
theorem pageDs_drop {l : List (List UInt8)} {us : List Nat} (h : us.length = l.length) {k : Nat} (hk : k < l.length) : (pageDs l us).drop k = ((0 : Fin 4), ((us[k] : Nat) : Int), frameB l[k]) :: (pageDs l us).drop (k + 1) := by
  have hl : k < (pageDs l us).length := by rw [pageDs_len h]; exact hk
  rw [List.drop_eq_getElem_cons hl]
  simp [pageDs]
theorem endDs_drop (tb : List UInt8) (q : Nat) (h1 : 1 ≤ q) (h3 : q ≤ 3) : (endDs tb).drop (q - 1) = ((⟨q, by omega⟩ : Fin 4), (0 : Int), tb) :: (endDs tb).drop q := by
  rcases (by omega : q = 1 ∨ q = 2 ∨ q = 3) with rfl | rfl | rfl <;> rfl

set_option maxRecDepth 100000 in
set_option maxHeartbeats 4000000 in
theorem deeds_in (n : Nat) (hn : 2 ≤ n) (y Bl Bt Bs : Nat) (vl vt : Value) (l : List (List UInt8)) (us : List Nat) (tb : List UInt8) (w : World) (hBl : Boxed w Bl 22 vl) (hBt : Boxed w Bt 33 vt) (hBs : Boxed w Bs 9 (.string ⟨tb.toArray⟩)) (hl : Txts w vl l) (ht : Nats w vt us) (hT : TabOk w)
    (hlen : us.length = l.length) (hmax : l.length ≤ 1000000) (hs : ∀ s ∈ l, s.length ≤ 4000) (J Jx : List Dd → World → Prop) (W : World) (hJ : AbidesFrom W.heap.size J)
    (hY : ∀ pre x W, J pre W → pre.length < l.length + 3 → YieldAt Fence.wide (n - 1) Tryd.prog y (encD x) W fun e W' =>
      (e = .returned (.bool true) ∧ J (pre ++ [x]) W' ∧ Below w.heap.size W W') ∨ (e = .returned (.bool false) ∧ Jx (pre ++ [x]) W'))
    (hB : Below w.heap.size w W) (h0 : J [] W) :
    CallsIn Fence.wide n Tryd.prog 42 #[.func (.yield y) #[] #[], .pointer (some ⟨Bl, 0, none⟩), .pointer (some ⟨Bt, 0, none⟩), .pointer (some ⟨Bs, 0, none⟩)] W fun e W' => (∃ v, e = .returned v) ∧
      ((∃ ys, ys = deedsL l us tb ∧ J ys W') ∨ (∃ pre, pre <+: deedsL l us tb ∧ Jx pre W')) := by
  obtain ⟨al, cl, rfl⟩ := hl.strs.form
  obtain ⟨at', ct, rfl⟩ := ht.form
  have hc0 := (hB.cell (p := ⟨Bl, 0, none⟩) hBl.lt).trans hBl.cell
  have hfw : ∀ f, Fence.wide.fn f := fun _ => trivial
  have hn1 : 1 ≤ n := by omega
  have HIN := Lib.hid (And.intro hl (And.intro ht hT))
  have HS := Lib.hid hs
  clear hl ht hT hs
  refine callsIn_of_wp Tryd.func42 rfl trivial ?_ rfl
  simp only [Tryd.ntmps42, List.size_toArray, List.length_cons, List.length_nil, Nat.reduceAdd, Nat.reduceSub, Array.replicate_succ, Array.replicate_zero, List.push_toArray, List.append_toArray, List.nil_append, List.cons_append]
  gi_wp2_with fail
  gi_loopw [12] (fun p wr => ∃ (pre : List Dd) (k : Nat), p = .int .i64 (k : Int) ∧ k ≤ l.length ∧ pre ++ ((pageDs l us).drop k ++ endDs tb) = deedsL l us tb ∧ Below w.heap.size w wr ∧ W.heap.size ≤ wr.heap.size ∧ J pre wr)
    (fun p _ => l.length - (intOf p).toNat)
  case atStart =>
    exact ⟨[], 0, rfl, Nat.zero_le _, rfl, hB, Nat.le_refl _, h0⟩
  case round =>
    obtain ⟨pre, k, rfl, hk, hp, hb, hsz, hJs⟩ := hrel
    clear hc0
    by_cases hlt : k < l.length
    · rw [pageDs_drop hlen hlt] at hp
      have hple : pre.length < l.length + 3 := by
        have := congrArg List.length hp
        simp [deedsL, pageDs_len hlen, endDs] at this
        omega
      obtain ⟨b, off, rfl, hcell⟩ := (HIN.out.1.below hb).strs.at hlt
      have hbl := World.block_lt_of_cell? wr _ hcell
      have hm := HS.out _ (List.getElem_mem hlt)
      obtain ⟨s, hs⟩ : ∃ s, l[k] = s := ⟨_, rfl⟩
      rw [hs] at hcell hm hp
      clear hs
      have hcBt := (hb.cell (p := ⟨Bt, 0, none⟩) hBt.lt).trans hBt.cell
      have hTr := HIN.out.2.2.below hb
      have HP := Lib.hid hp
      clear hp
      gi_wp2_with fail
      refine (callsIn_wide.2 (put_ok s hm _ hTr)).mono ?_
      rintro e w2 ⟨rfl, hB2⟩
      have hb2 : Below w.heap.size w w2 := hb.trans (hB2.mono hb.size)
      have hJ2 : J pre w2 := hJ pre wr w2 none hJs (below_grown hB2) (fun r e => by cases e)
      have hcBt2 := (hb2.cell (p := ⟨Bt, 0, none⟩) hBt.lt).trans hBt.cell
      obtain ⟨b3, off3, hat, hcell3⟩ := (HIN.out.2.1.below hb2).at (k := k) (by omega)
      subst hat
      have hbl3 := World.block_lt_of_cell? w2 _ hcell3
      obtain ⟨a, ha⟩ : ∃ a, us[k] = a := ⟨_, rfl⟩
      rw [ha] at hcell3 HP
      clear ha hcBt hcell
      obtain ⟨fn, tmps, assign, body, hy, hR⟩ := hY pre ((0 : Fin 4), (a : Int), frameB s) w2 hJ2 hple
      clear hY
      dsimp only [encD] at hy
      rw [show (((0 : Fin 4).val : Nat) : Int) = 0 from rfl] at hy
      have hkus : k < us.length := by omega
      gi_wp2_with fail
      refine hR.mono ?_
      rintro e W3 (⟨rfl, hJ3, hk3⟩ | ⟨rfl, hJx3⟩)
      · gi_wp2_with fail
        go_roundw
        case rel => exact ⟨_, k + 1, by go_num, by omega, by rw [← HP.out]; simp, hb2.trans hk3, by have := hB2.size; have := hk3.size; omega, hJ3⟩
        case measure => simp [intOf]; omega
      · gi_wp2_with fail
        refine bodyPost_ret (results_none rfl _ _ _) rfl ?_
        exact ⟨⟨_, rfl⟩, .inr ⟨_, ⟨_, by rw [← HP.out]; simp; rfl⟩, hJx3⟩⟩
    · obtain rfl : k = l.length := by omega
      have HP : Hid (pre ++ (endDs tb).drop 0 = deedsL l us tb) := Lib.hid (by
        rw [← hp, List.drop_of_length_le (i := l.length) (Nat.le_of_eq (pageDs_len hlen))]
        rfl)
      clear hp
      gi_wp2_with fail
      gi_loopw [9] (fun p wq => ∃ (pre : List Dd) (q : Nat), p = .int .i64 (q : Int) ∧ 1 ≤ q ∧ q ≤ 4 ∧ pre ++ (endDs tb).drop (q - 1) = deedsL l us tb ∧ Below w.heap.size w wq ∧ J pre wq)
        (fun p _ => 4 - (intOf p).toNat)
      case atStart =>
        exact ⟨pre, 1, rfl, Nat.le_refl _, by omega, HP.out, hb, hJs⟩
      case round =>
        clear HP hJs
        obtain ⟨pre, q, rfl, hq1, hq4, hp, hb, hJs⟩ := hrel
        by_cases hq : q ≤ 3
        · rw [endDs_drop tb q hq1 hq] at hp
          have hple : pre.length < l.length + 3 := by
            have := congrArg List.length hp
            simp [deedsL, pageDs_len hlen, endDs] at this
            omega
          have hcBs := (hb.cell (p := ⟨Bs, 0, none⟩) hBs.lt).trans hBs.cell
          have HP := Lib.hid hp
          clear hp
          obtain ⟨fn, tmps, assign, body, hy, hR⟩ := hY pre ((⟨q, by omega⟩ : Fin 4), (0 : Int), tb) _ hJs hple
          clear hY
          dsimp only [encD] at hy
          gi_wp2_with fail
          refine hR.mono ?_
          rintro e W3 (⟨rfl, hJ3, hk3⟩ | ⟨rfl, hJx3⟩)
          · gi_wp2_with fail
            go_roundw
            case rel => exact ⟨_, q + 1, by go_num, by omega, by omega, by rw [← HP.out]; simp, hb.trans hk3, hJ3⟩
            case measure => simp [intOf]; omega
          · gi_wp2_with fail
            refine bodyPost_ret (results_none rfl _ _ _) rfl ?_
            exact ⟨⟨_, rfl⟩, .inr ⟨_, ⟨_, by rw [← HP.out]; simp; rfl⟩, hJx3⟩⟩
        · obtain rfl : q = 4 := by omega
          have HP := Lib.hid hp
          clear hp
          gi_wp2_with fail
          go_end0
          exact ⟨⟨_, rfl⟩, .inl ⟨pre, by simpa [endDs] using HP.out, hJs⟩⟩

theorem deeds_stops (n : Nat) (hn : 2 ≤ n) (Bl Bt Bs : Nat) (vl vt : Value) (l : List (List UInt8)) (us : List Nat) (tb : List UInt8) (w : World) (hBl : Boxed w Bl 22 vl) (hBt : Boxed w Bt 33 vt) (hBs : Boxed w Bs 9 (.string ⟨tb.toArray⟩)) (hl : Txts w vl l) (ht : Nats w vt us) (hT : TabOk w)
    (hlen : us.length = l.length) (hmax : l.length ≤ 1000000) (hs : ∀ s ∈ l, s.length ≤ 4000) :
    SeqStopsK Fence.wide n Tryd.prog 42 #[.pointer (some ⟨Bl, 0, none⟩), .pointer (some ⟨Bt, 0, none⟩), .pointer (some ⟨Bs, 0, none⟩)] encD (Below w.heap.size) (fun ys => ys = deedsL l us tb) (fun pre => pre <+: deedsL l us tb) (l.length + 3) w := fun y J Jx W hW hJ _ hY h0 =>
  deeds_in n hn y Bl Bt Bs vl vt l us tb w hBl hBt hBs hl ht hT hlen hmax hs J Jx W hJ hY hW h0

set_option maxHeartbeats 1000000 in
theorem deedsOf6_calls (al at' : Option Addr) (nl cl nt ct : Nat) (tb : List UInt8) (w : World) :
    Calls Tryd.prog 22 #[.slice al nl cl, .slice at' nt ct, .string ⟨tb.toArray⟩] w fun e w' => e = .returned (.func (.func 42) #[] #[.pointer (some ⟨w.heap.size, 0, none⟩), .pointer (some ⟨w.heap.size + 1, 0, none⟩), .pointer (some ⟨w.heap.size + 1 + 1, 0, none⟩)]) ∧
      Boxed w' w.heap.size 22 (.slice al nl cl) ∧ Boxed w' (w.heap.size + 1) 33 (.slice at' nt ct) ∧ Boxed w' (w.heap.size + 1 + 1) 9 (.string ⟨tb.toArray⟩) ∧ Below w.heap.size w w' := by
  go_enter Tryd.func22, Tryd.ntmps22
  go_wp2_with fail
  go_ret
  have h1 := Boxed.new w 22 (.slice al nl cl)
  have h2 := Boxed.new (w.alloc (.cells #[.slice al nl cl] 22)) 33 (.slice at' nt ct)
  have h3 := Boxed.new ((w.alloc (.cells #[.slice al nl cl] 22)).alloc (.cells #[.slice at' nt ct] 33)) 9 (.string ⟨tb.toArray⟩)
  rw [World.size_alloc] at h2
  rw [World.size_alloc, World.size_alloc] at h3
  exact ⟨rfl, (h1.alloc _).alloc _, h2.alloc _, h3, below_alloc3 _ _ _ _⟩

end Go.Proofs.YtdbidfbjfongbaaDoor

/-
  slot: copied, and synced (a Sync, and what the twin would refuse behind it).
-/
namespace Go.Proofs.YtdbidfbjfongbaaDoor
open Go.RowKit

set_option maxRecDepth 100000 in
set_option maxHeartbeats 4000000 in
theorem scopied_calls (vb vw : Value) (bs : List (List UInt8)) (ws : List Wr) (w : World) (hb : Txts w vb bs) (hw : Wrs w vw ws) (hbl : bs.length ≤ 1000) (hwl : ws.length ≤ 1000) :
    Calls Tryd.prog 37 #[.agg #[vb, vw]] w fun e w' => ∃ vb' vw', e = .returned (.agg #[vb', vw']) ∧ OwnD w' w.heap.size vb' bs vw' ws ∧ Below w.heap.size w w' := by
  obtain ⟨i9, hi9, ht0, ht1, ht2⟩ := info_parts info9
  obtain ⟨i0, hi, hz0, hz1, hz2⟩ := info_parts infoW
  obtain ⟨ab, cb, rfl⟩ := hb.strs.form
  obtain ⟨aw, cw, rfl⟩ := hw.form
  obtain ⟨hx0, hr0, hB0⟩ := entry2 w (.slice ab bs.length cb) (.slice aw ws.length cw)
  have HX := Lib.hid (fun (W : World) (hB : Below w.heap.size w W) => (And.intro (Rw.txts (hb.below hB)) (hw.below hB)))
  clear hb hw
  go_enter Tryd.func37, Tryd.ntmps37
  go_wp2_with fail
  obtain ⟨p0, p1, pf0, pf1, pl⟩ := hx0.cells
  go_region_law (first
    | (refine step_append_nil rfl (.const (.slice none 0 0)) (.tmp 4) 22 rfl (w.heap.size + 2) 9 i9 (.string ⟨#[]⟩) 1 16 Tryd.underlying22 hi9 ht0 ht1 ht2 rfl (by decide) rfl ab bs.length cb (bs.map SV) (by simp [Act.eval]) (HX.out _ (below2 hB0 (drew_below _))).1 (texts_one bs) hbl (by omega) (by simp) ?_; intro a1 c1 w1 ho1 hB1; have hBB1 := below3 hB0 (drew_below _) hB1; have hx1 := (hx0.below (drew_below _)).below hB1; have hr1 := (hr0.below (drew_below _)).below hB1; obtain ⟨p10, p11, pf10, pf11, pl1⟩ := hx1.cells; have hzw : w.heap.size + 2 ≤ w1.heap.size := (by have := hB1.size; simp at this; omega))
    | (refine step_append_nil rfl (.const (.slice none 0 0)) (.tmp 7) 23 rfl (w.heap.size + 2) 66 i0 (.agg #[.int .i64 0, .string ⟨#[]⟩]) 2 24 Tryd.underlying23 hi hz0 hz1 hz2 rfl (by decide) rfl aw ws.length cw (wcells ws) (by simp [Act.eval]) (HX.out _ hBB1).2 (wcells_one ws) hwl (by omega) hzw ?_; intro a2 c2 w2 ho2 hB2; have hBB2 := below2 hBB1 hB2; have hx2 := hx1.below hB2; have hr2 := hr1.below hB2; have hoo := own_stays ho1 hB2; obtain ⟨q20, q21, qf20, qf21, ql2⟩ := hr2.cells))
  all_goals
    go_wp2_with fail
    obtain ⟨r1, r2⟩ := ret_own (w := w) (x := .slice a1 bs.length c1) (y := .slice a2 ws.length c2) (show OwnD w2 (w.heap.size + 2) (.slice a1 bs.length c1) bs (.slice a2 ws.length c2) ws from ⟨hoo, ho2⟩) (Nat.le_refl _) hBB2
    have hr3 := bx_set hr2 (.slice a1 bs.length c1) (.slice a2 ws.length c2)
    refine ret_disk (p := 2) (by kernel_rfl) rfl (w.heap.size + 1) _ _ rfl hr3.cells.1 hr3.cells.2.1 ?_
    exact ⟨_, _, rfl, r1, r2⟩

theorem sy_no {s : Ds} {t : List UInt8} (h : syncE s.1 s.2 ≠ 0) : syE s t = syncE s.1 s.2 ∧ syBs s t = [] ∧ syWs s t = [] := by simp [syE, syBs, syWs, h]
theorem sy_ok {s : Ds} {t : List UInt8} (h : syncE s.1 s.2 = 0) : syE s t = stopE (syncBs s.1 s.2) [] 0 t ∧ syBs s t = stopBs (syncBs s.1 s.2) [] 0 t 0 ∧ syWs s t = stopWs (syncBs s.1 s.2) [] 0 t 0 := by simp [syE, syBs, syWs, h]

set_option maxRecDepth 100000 in
set_option maxHeartbeats 4000000 in
theorem synced_calls (vb vw : Value) (bs : List (List UInt8)) (ws : List Wr) (t : List UInt8) (w : World) (hb : Txts w vb bs) (hw : Wrs w vw ws) (hT : TabOk w) :
    Calls Tryd.prog 39 #[.agg #[vb, vw], .string ⟨t.toArray⟩] w fun e w' => ∃ vb' vw', e = .returned (.tuple #[.agg #[vb', vw'], .int .i64 (syE (bs, ws) t)]) ∧ OwnD w' w.heap.size vb' (syBs (bs, ws) t) vw' (syWs (bs, ws) t) ∧ Below w.heap.size w w' := by
  obtain ⟨ab, cb, rfl⟩ := hb.strs.form
  obtain ⟨aw, cw, rfl⟩ := hw.form
  obtain ⟨hx0, hr0, hB0⟩ := entry2 w (.slice ab bs.length cb) (.slice aw ws.length cw)
  have K := sync_calls _ _ bs ws _ (hb.below hB0) (hw.below hB0)
  have HT := Lib.hid hT
  clear hb hw hT
  by_cases hz : syncE bs ws = 0
  · obtain ⟨q1, q2, q3⟩ := sy_ok (s := (bs, ws)) (t := t) hz
    have HS := Lib.hid (And.intro q1 (And.intro q2 q3))
    rw [hz] at K
    have HK := Lib.hid K
    have CS := fun vb vw w (hb : Txts w vb (syncBs bs ws)) (hw : Wrs w vw []) (hT : TabOk w) => stop_calls vb vw (syncBs bs ws) [] 0 (by omega) t 0 w hb hw hT
    clear K q1 q2 q3 hz
    simp only at HS
    generalize syncBs bs ws = cs at HK HS CS
    rw [HS.out.1, HS.out.2.1, HS.out.2.2]
    generalize stopE cs [] 0 t = E at CS ⊢
    generalize stopBs cs [] 0 t 0 = Fb at CS ⊢
    generalize stopWs cs [] 0 t 0 = Fw at CS ⊢
    generalize stopD cs [] 0 t 0 = D at CS
    have HC := Lib.hid CS
    clear HS CS
    go_enter Tryd.func39, Tryd.ntmps39
    go_wp2_with fail
    refine HK.out.mono ?_
    rintro e w1 ⟨vb1, vw1, rfl, ho1, hB1⟩
    obtain ⟨ab1, nb1, cb1, aw1, nw1, cw1, rfl, rfl, hnb1, hnw1⟩ := ho1.forms
    clear hnb1 hnw1
    have hr1 := (hr0.below hB1).below (below_alloc w1 (.cells #[.slice ab1 nb1 cb1, .slice aw1 nw1 cw1] 25))
    have hf1 := Bx.new w1 (.slice ab1 nb1 cb1) (.slice aw1 nw1 cw1)
    have hBB1 := below3 hB0 hB1 (below_alloc w1 (.cells #[.slice ab1 nb1 cb1, .slice aw1 nw1 cw1] 25))
    have HO := Lib.hid (OwnD.below ho1 (below_alloc w1 (.cells #[.slice ab1 nb1 cb1, .slice aw1 nw1 cw1] 25)))
    clear ho1
    go_wp2_with fail
    refine (HC.out _ _ _ HO.out.texts HO.out.wrs (HT.out.below hBB1)).mono ?_
    rintro e w2 ⟨vb2, vw2, rfl, ho2, hB2⟩
    obtain ⟨ab2, nb2, cb2, aw2, nw2, cw2, rfl, rfl, hnb2, hnw2⟩ := ho2.forms
    clear hnb2 hnw2
    have hr2 := hr1.below hB2
    have hf2 := hf1.below hB2
    have hBB2 := below2 hBB1 hB2
    have hB1s := hB1.size
    have hB2s := hB2.size
    simp only [World.size_alloc] at hB1s hB2s
    obtain ⟨e0, e1, ef0, ef1, el⟩ := hr2.cells
    obtain ⟨f0, f1, ff0, ff1, fl⟩ := hf2.cells
    have HO2 := Lib.hid ho2
    clear ho2
    go_wp2_with fail
    have p1 := own_sets (show OwnD w2 (w1.heap.size + 1) _ _ _ _ from ⟨own_weak HO2.out.1 (by simp), own_weak HO2.out.2 (by simp)⟩) (B := w1.heap.size) (by omega) (.slice ab2 nb2 cb2) (.slice aw2 nw2 cw2)
    have p2 := bx_other hr2 (B' := w1.heap.size) (by omega) (.slice ab2 nb2 cb2) (.slice aw2 nw2 cw2)
    have p3 := (hBB2.setCell (p := ⟨w1.heap.size, 0, none⟩) (by simp; omega) (.slice ab2 nb2 cb2)).setCell (p := ⟨w1.heap.size, 1, none⟩) (by simp; omega) (.slice aw2 nw2 cw2)
    obtain ⟨r1, r2⟩ := ret_own (w := w) (x := .slice ab2 nb2 cb2) (y := .slice aw2 nw2 cw2) p1 (by omega) p3
    have hr3 := bx_set p2 (.slice ab2 nb2 cb2) (.slice aw2 nw2 cw2)
    refine ret_disk2 (p := 4) (q := 5) (by kernel_rfl) rfl (w.heap.size + 1) _ _ (.int .i64 E) rfl rfl hr3.cells.1 hr3.cells.2.1 ?_
    exact ⟨_, _, rfl, r1, r2⟩
  · obtain ⟨q1, q2, q3⟩ := sy_no (s := (bs, ws)) (t := t) hz
    simp only at q1
    rw [q1, q2, q3]
    have hzb : (syncE bs ws != 0) = true := by simpa using hz
    clear q1 q2 q3 hz
    generalize syncE bs ws = E at K hzb ⊢
    generalize syncBs bs ws = cs at K
    have HK := Lib.hid K
    clear K
    go_enter Tryd.func39, Tryd.ntmps39
    go_wp2_with fail
    refine HK.out.mono ?_
    rintro e w1 ⟨vb1, vw1, rfl, ho1, hB1⟩
    obtain ⟨ab1, nb1, cb1, aw1, nw1, cw1, rfl, rfl, hnb1, hnw1⟩ := ho1.forms
    clear hnb1 hnw1 ho1
    have hr1 := (hr0.below hB1).below (below_alloc w1 (.cells #[.slice ab1 nb1 cb1, .slice aw1 nw1 cw1] 25))
    have hBB1 := below3 hB0 hB1 (below_alloc w1 (.cells #[.slice ab1 nb1 cb1, .slice aw1 nw1 cw1] 25))
    have hB1s := hB1.size
    simp only [World.size_alloc] at hB1s
    obtain ⟨e0, e1, ef0, ef1, el⟩ := hr1.cells
    go_wp2_with fail
    obtain ⟨r1, r2⟩ := ret_own (w := w) (x := .slice none 0 0) (y := .slice none 0 0) (nil_own (w1.alloc (.cells #[.slice ab1 nb1 cb1, .slice aw1 nw1 cw1] 25)) (w.heap.size + 2)) (Nat.le_refl _) hBB1
    have hr3 := bx_set hr1 (.slice none 0 0) (.slice none 0 0)
    refine ret_disk2 (p := 4) (q := 5) (by kernel_rfl) rfl (w.heap.size + 1) _ _ (.int .i64 E) rfl rfl hr3.cells.1 hr3.cells.2.1 ?_
    exact ⟨_, _, rfl, r1, r2⟩

end Go.Proofs.YtdbidfbjfongbaaDoor

/-
  slot: what follows of a table's blocks, of the free ones, and of the deeds of a Save.
-/
namespace Go.Proofs.YtdbidfbjfongbaaDoor
open Go.RowKit

theorem tabGo_laid (n : Nat) (hn : n ≤ 1000) : ∀ (us acc : List Nat), (∀ a ∈ us, 2 ≤ a ∧ a < n) → (acc ++ us).Nodup → tabGo n (us.map numB) acc = some (acc ++ us)
  | [], acc, _, _ => by simp [tabGo]
  | a :: r, acc, h, hd => by
    have ha := h a (List.mem_cons_self ..)
    have e : getN (numB a) = some (a, []) := by
      have := laid_getN a (by omega) []
      rwa [List.append_nil] at this
    have hna : a ∉ acc := by
      intro hm
      have := List.nodup_append.1 hd
      exact this.2.2 a hm a (List.mem_cons_self ..) rfl
    have ih := tabGo_laid n hn r (acc ++ [a]) (fun b hb => h b (List.mem_cons_of_mem _ hb)) (by simpa using hd)
    simp only [List.map_cons, tabGo, e]
    rw [if_pos ⟨trivial, ha.1, ha.2, hna⟩, ih]
    simp
theorem tab_laid (n : Nat) (hn : n ≤ 1000) (us : List Nat) (h : ∀ a ∈ us, 2 ≤ a ∧ a < n) (hd : us.Nodup) (hl : us.length ≤ 1000) : tabL (tableB us) n = some us := by
  have e : getR (tableB us) = some (us.map numB, []) := by
    have := laid_getR (us.map numB) (by simpa using hl) (fun t ht => by
      obtain ⟨a, _, rfl⟩ := List.mem_map.1 ht
      have := wid_le a
      rw [numB_length]; omega) []
    rwa [List.append_nil] at this
  have hne : tableB us ≠ [] := by simp [tableB, rowB, numB]
  unfold tabL
  rw [if_neg hne, e]
  simpa using tabGo_laid n hn us [] h (by simpa using hd)
theorem tabGo_ok (n : Nat) : ∀ (row : List (List UInt8)) (acc T : List Nat), tabGo n row acc = some T → (∀ a ∈ acc, 2 ≤ a ∧ a < n) → acc.Nodup → (∀ a ∈ T, 2 ≤ a ∧ a < n) ∧ T.Nodup
  | [], acc, T, h, h1, h2 => by simp [tabGo] at h; subst h; exact ⟨h1, h2⟩
  | x :: r, acc, T, h, h1, h2 => by
    simp only [tabGo] at h
    split at h
    · rename_i a q _
      split at h
      · rename_i hc
        obtain ⟨_, ha, hb, hm⟩ := hc
        refine tabGo_ok n r _ T h (fun b hb' => ?_) ?_
        · rcases List.mem_append.1 hb' with h3 | h3
          · exact h1 b h3
          · obtain rfl := List.mem_singleton.1 h3
            exact ⟨ha, hb⟩
        · rw [List.nodup_append]
          exact ⟨h2, by simp, fun b hb' c hc e => by obtain rfl := List.mem_singleton.1 hc; exact hm (e ▸ hb')⟩
      · cases h
    · cases h
theorem tabL_ok {n : Nat} {t : List UInt8} {T : List Nat} (h : tabL t n = some T) : (∀ a ∈ T, 2 ≤ a ∧ a < n) ∧ T.Nodup := by
  unfold tabL at h
  split at h
  · cases h; exact ⟨by simp, by simp⟩
  · split at h
    · split at h
      · exact tabGo_ok n _ [] T h (by simp) (by simp)
      · cases h
    · cases h

theorem freeTo_zero (t : List Nat) : freeTo t 0 = [] := rfl
theorem freeTo_low (t : List Nat) {k : Nat} (h : k ≤ 2) : freeTo t k = [] := by
  unfold freeTo
  rw [List.filter_eq_nil_iff]
  intro a ha
  have := List.mem_range.1 ha
  simp; omega
theorem freeTo_hit (t : List Nat) {k : Nat} (h2 : 2 ≤ k) (h : k ∉ t) : freeTo t (k + 1) = freeTo t k ++ [k] := by
  unfold freeTo
  rw [List.range_succ, List.filter_append]
  simp [h2, h]
theorem freeTo_miss (t : List Nat) {k : Nat} (h : k ∈ t) : freeTo t (k + 1) = freeTo t k := by
  unfold freeTo
  rw [List.range_succ, List.filter_append]
  simp [h]
theorem free_mem {t : List Nat} {k a : Nat} (h : a ∈ freeTo t k) : 2 ≤ a ∧ a < k ∧ a ∉ t := by
  unfold freeTo at h
  rw [List.mem_filter] at h
  obtain ⟨h1, h2⟩ := h
  have := List.mem_range.1 h1
  simp at h2
  exact ⟨h2.1, this, h2.2⟩
theorem free_nodup (t : List Nat) (k : Nat) : (freeTo t k).Nodup := List.nodup_range.sublist List.filter_sublist
theorem below_count {t : List Nat} (hd : t.Nodup) (k : Nat) : (t.filter fun a => decide (a < k + 1)).length = (t.filter fun a => decide (a < k)).length + (if k ∈ t then 1 else 0) := by
  induction t with
  | nil => rfl
  | cons a r ih =>
    obtain ⟨h1, h2⟩ := List.nodup_cons.1 hd
    have ih := ih h2
    by_cases e : k = a
    · subst e
      rw [if_neg h1] at ih
      rw [List.filter_cons_of_pos (by simp), List.filter_cons_of_neg (by simp), if_pos (List.mem_cons_self ..), List.length_cons, ih]
    · have hm : (k ∈ a :: r) ↔ k ∈ r := by simp [e]
      by_cases hlt : a < k
      · rw [List.filter_cons_of_pos (by simp; omega), List.filter_cons_of_pos (by simpa using hlt), List.length_cons, List.length_cons, ih]
        simp only [hm]
        omega
      · rw [List.filter_cons_of_neg (by simp; omega), List.filter_cons_of_neg (by simpa using hlt), ih]
        simp only [hm]
theorem free_count {t : List Nat} (h : ∀ a ∈ t, 2 ≤ a) (hd : t.Nodup) : ∀ k, 2 ≤ k → (freeTo t k).length + (t.filter fun a => decide (a < k)).length + 2 = k
  | 0, h0 => by omega
  | 1, h0 => by omega
  | 2, _ => by
    rw [freeTo_low t (by omega)]
    have : (t.filter fun a => decide (a < 2)) = [] := by
      rw [List.filter_eq_nil_iff]
      intro a ha
      have := h a ha
      simp; omega
    rw [this]; rfl
  | k + 3, _ => by
    have ih := free_count h hd (k + 2) (by omega)
    have hc := below_count hd (k + 2)
    rw [show k + 2 + 1 = k + 3 from rfl] at hc
    by_cases hm : k + 2 ∈ t
    · rw [freeTo_miss t hm]
      rw [if_pos hm] at hc
      omega
    · rw [freeTo_hit t (by omega) hm, List.length_append]
      rw [if_neg hm] at hc
      simp only [List.length_singleton]
      omega
theorem free_len {t : List Nat} {n : Nat} (h : ∀ a ∈ t, 2 ≤ a ∧ a < n) (hd : t.Nodup) (hn : 2 ≤ n) : (freeTo t n).length + t.length + 2 = n := by
  have h1 := free_count (fun a ha => (h a ha).1) hd n hn
  have h2 : (t.filter fun a => decide (a < n)) = t := List.filter_eq_self.2 (fun a ha => by simpa using (h a ha).2)
  rw [h2] at h1
  exact h1

theorem open_ok {bs : List (List UInt8)} {ws : List Wr} (h : openE bs ws = 0) : rightB bs ws = true ∧ 3 ≤ bs.length ∧ bs.length ≤ 200 ∧ ws.length ≤ 100 ∧ newestE bs ws 0 = 0 ∧ tabL (twT bs ws) bs.length = some (openT bs ws) ∧ pagesB bs ws (openT bs ws) = true ∧ openN bs ws = numO (newestC bs ws 0) := by
  have h0 := h
  have hT : openT bs ws = (tabL (twT bs ws) bs.length).getD [] := by rw [openT, if_pos h]
  have hN : openN bs ws = numO (newestC bs ws 0) := by rw [openN, if_pos h]
  unfold openE at h0
  split at h0
  · omega
  · rename_i h1
    split at h0
    · rename_i h2
      split at h0
      · rename_i t ht
        split at h0
        · rename_i h3
          have hr := (newest_ok.1 h2).1
          obtain ⟨_, b1, b2, _⟩ := right_parts hr
          rw [ht] at hT
          have e : openT bs ws = t := hT
          exact ⟨hr, by by_cases hl : bs.length < 3; exact absurd ⟨hr, hl⟩ h1; omega, b1, b2, h2, by rw [ht, e], by rw [e]; exact h3, hN⟩
        · omega
      · omega
    · rename_i h2
      omega
theorem open_zero {bs : List (List UInt8)} {ws : List Wr} {t : List Nat} (hl : 3 ≤ bs.length) (hn : newestE bs ws 0 = 0) (ht : tabL (twT bs ws) bs.length = some t) (hp : pagesB bs ws t = true) : openE bs ws = 0 ∧ openT bs ws = t ∧ openP bs ws = pagesL bs ws t ∧ openN bs ws = numO (newestC bs ws 0) := by
  have e : openE bs ws = 0 := by
    unfold openE
    rw [if_neg (by omega), if_pos hn, ht]
    simp [hp]
  have eT : openT bs ws = t := by rw [openT, if_pos e, ht]; rfl
  exact ⟨e, eT, by rw [openP, eT], by rw [openN, if_pos e]⟩
theorem open_table {bs : List (List UInt8)} {ws : List Wr} (h : openE bs ws = 0) : (∀ a ∈ openT bs ws, 2 ≤ a ∧ a < bs.length) ∧ (openT bs ws).Nodup ∧ freeL bs ws = freeTo (openT bs ws) bs.length ∧ (freeL bs ws).length + (openT bs ws).length + 2 = bs.length := by
  obtain ⟨_, h3, _, _, _, ht, _⟩ := open_ok h
  obtain ⟨h1, h2⟩ := tabL_ok ht
  have e : freeL bs ws = freeTo (openT bs ws) bs.length := by rw [freeL, if_pos h]
  exact ⟨h1, h2, e, by rw [e]; exact free_len h1 h2 (by omega)⟩

/-- Where both blocks of the twin say the same, it is the same. -/
theorem newest_same {bs cs : List (List UInt8)} {ws vs : List Wr} (h : newestE bs ws 0 = 0) (hr : rightB cs vs = true) (hl : cs.length = bs.length) (h0 : saysL cs vs 0 = saysL bs ws 0) (h1 : saysL cs vs 1 = saysL bs ws 1) : newestE cs vs 0 = 0 ∧ newestC cs vs 0 = newestC bs ws 0 ∧ newestTo cs vs 0 = newestTo bs ws 0 := by
  obtain ⟨a1, a2, a3, a4⟩ := newest_ok.1 h
  have k0 : sayH cs vs 0 = sayH bs ws 0 := by rw [sayH, sayH, h0]
  have k1 : sayH cs vs (0 + 1) = sayH bs ws (0 + 1) := by rw [sayH, sayH]; exact congrArg hearL h1
  have e : newestE cs vs 0 = 0 := newest_ok.2 ⟨hr, a2, by omega, by rw [k0, k1]; exact a4⟩
  refine ⟨e, ?_, ?_⟩
  · simp only [newestC, e, h, if_true, k0, k1]
  · simp only [newestTo, e, h, if_true, k0, k1]
/-- Where the twin is the same, and the pages' blocks say the same, all is the same. -/
theorem open_same {bs cs : List (List UInt8)} {ws vs : List Wr} (h : openE bs ws = 0) (hl : cs.length = bs.length) (hn : newestE cs vs 0 = 0) (hc : newestC cs vs 0 = newestC bs ws 0) (hs : ∀ a ∈ openT bs ws, saysL cs vs (a : Nat) = saysL bs ws (a : Nat)) :
    openE cs vs = 0 ∧ openT cs vs = openT bs ws ∧ openP cs vs = openP bs ws ∧ openN cs vs = openN bs ws := by
  obtain ⟨_, h3, _, _, _, ht, hp, hN⟩ := open_ok h
  have e1 : twT cs vs = twT bs ws := by rw [twT, twT, hc]
  have e2 : pagesB cs vs (openT bs ws) = true := by
    unfold pagesB at hp ⊢
    rw [List.all_eq_true] at hp ⊢
    intro a ha
    rw [hs a ha]
    exact hp a ha
  obtain ⟨q1, q2, q3, q4⟩ := open_zero (bs := cs) (by omega) hn (by rw [e1, hl]; exact ht) e2
  refine ⟨q1, q2, ?_, by rw [q4, hN, hc]⟩
  rw [q3, openP]
  unfold pagesL
  exact List.map_congr_left (fun a ha => by rw [hs a ha])
/-- Where the twin has this table, and its blocks say these pages, they are loaded. -/
theorem open_new {cs : List (List UInt8)} {vs : List Wr} {us : List Nat} {l : List (List UInt8)} {m : Nat} (hn : newestE cs vs 0 = 0) (hc : newestC cs vs 0 = some (m, tableB us)) (h3 : 3 ≤ cs.length) (h200 : cs.length ≤ 200) (ht : ∀ a ∈ us, 2 ≤ a ∧ a < cs.length) (hd : us.Nodup) (hl : l.length = us.length) (hl2 : us.length ≤ 1000) (hlen : ∀ s ∈ l, s.length ≤ 200)
    (hs : ∀ j (h1 : j < us.length) (h2 : j < l.length), saysL cs vs (us[j] : Nat) = frameB l[j]) : openE cs vs = 0 ∧ openT cs vs = us ∧ openP cs vs = l ∧ openN cs vs = m := by
  have e1 : twT cs vs = tableB us := by rw [twT, hc]; rfl
  have hf : ∀ j (h1 : j < us.length) (h2 : j < l.length), getF (saysL cs vs (us[j] : Nat)) = some (l[j], []) := by
    intro j h1 h2
    rw [hs j h1 h2]
    have := laid_getF l[j] (by have := hlen _ (List.getElem_mem h2); omega) []
    rwa [List.append_nil] at this
  have e2 : pagesB cs vs us = true := by
    unfold pagesB
    rw [List.all_eq_true]
    intro a ha
    obtain ⟨j, hj, rfl⟩ := List.getElem_of_mem ha
    simp [pageB, hf j hj (by omega)]
  have e3 : pagesL cs vs us = l := by
    unfold pagesL
    refine List.ext_getElem (by simp [hl]) (fun j h1 h2 => ?_)
    rw [List.getElem_map]
    simp [pageT, hf j (by omega) h2]
  obtain ⟨q1, q2, q3, q4⟩ := open_zero h3 hn (by rw [e1]; exact tab_laid _ (by omega) us ht hd hl2) e2
  exact ⟨q1, q2, by rw [q3, e3], by rw [q4, hc]; rfl⟩

end Go.Proofs.YtdbidfbjfongbaaDoor

/-
  slot: the deeds of a Save one behind the other, and what is loaded behind them.
-/
namespace Go.Proofs.YtdbidfbjfongbaaDoor
open Go.RowKit

/-- The writes of the pages. -/
def pageWs (l : List (List UInt8)) (us : List Nat) : List Wr := (l.zip us).map fun x => ((x.2 : Int), frameB x.1)
theorem pageDs_eq (l : List (List UInt8)) (us : List Nat) : pageDs l us = (pageWs l us).map fun x => ((0 : Fin 4), x.1, x.2) := by
  unfold pageDs pageWs
  rw [List.map_map]
  rfl
theorem pageWs_len {l : List (List UInt8)} {us : List Nat} (h : l.length = us.length) : (pageWs l us).length = l.length := by simp [pageWs, h]
theorem pageWs_at {l : List (List UInt8)} {us : List Nat} (j : Nat) (h1 : j < (pageWs l us).length) (h2 : j < l.length) (h3 : j < us.length) : (pageWs l us)[j] = ((us[j] : Int), frameB l[j]) := by simp [pageWs]
theorem pageWs_mem {l : List (List UInt8)} {us : List Nat} {x : Wr} (h : x ∈ pageWs l us) : ∃ a ∈ us, x.1 = (a : Int) := by
  unfold pageWs at h
  obtain ⟨y, hy, rfl⟩ := List.mem_map.1 h
  exact ⟨y.2, (List.of_mem_zip hy).2, rfl⟩

theorem run_nil (s : Ds) (k : Int) : runR s [] k = (0, true, s) := rfl
theorem run_cons (s : Ds) (x : Dd) (r : List Dd) (k : Int) : runR s (x :: r) k = if k = 0 then (0, false, s) else if doE s x = 0 then runR (doD s x) r (k - 1) else (doE s x, false, [], []) := rfl
theorem run_stop (s : Ds) (x : Dd) (r : List Dd) : runR s (x :: r) 0 = (0, false, s) := rfl
theorem run_go {s : Ds} {x : Dd} {k : Int} (hk : k ≠ 0) (he : doE s x = 0) (r : List Dd) : runR s (x :: r) k = runR (doD s x) r (k - 1) := by rw [run_cons, if_neg hk, if_pos he]
theorem run_err {s : Ds} {x : Dd} {k : Int} (hk : k ≠ 0) (he : doE s x ≠ 0) (r : List Dd) : runR s (x :: r) k = (doE s x, false, [], []) := by rw [run_cons, if_neg hk, if_neg he]
theorem run_none : ∀ (ds : List Dd) (s : Ds) (k : Int), (runR s ds k).1 ≠ 0 → (runR s ds k).2 = (false, [], [])
  | [], s, k, h => absurd rfl h
  | x :: r, s, k, h => by
    rw [run_cons] at h ⊢
    split at h
    · exact absurd rfl h
    · rename_i h0
      rw [if_neg h0]
      split at h
      · rename_i h1
        rw [if_pos h1]
        exact run_none r _ _ h
      · rename_i h1
        rw [if_neg h1]
theorem save_none {bs : List (List UInt8)} {ws : List Wr} {l : List (List UInt8)} {k : Int} (h : (saveR bs ws l k).1 ≠ 0) : (saveR bs ws l k).2 = (false, [], []) := by
  unfold saveR at h ⊢
  split at h
  · rename_i h1
    rw [if_pos h1]
    split at h
    · rename_i h2
      rw [if_pos h2]
      split at h
      · rename_i h3
        rw [if_pos h3]
        split at h
        · rename_i h4
          rw [if_pos h4]
          exact run_none _ _ _ h
        · rename_i h4
          rw [if_neg h4]
      · rename_i h3
        rw [if_neg h3]
    · rename_i h2
      rw [if_neg h2]
  · rename_i h1
    rw [if_neg h1]

/-- Through the writes. -/
theorem run_writes : ∀ (vs : List Wr) (bs : List (List UInt8)) (ws : List Wr) (rest : List Dd) (k : Int), rightB bs ws = true → (runR (bs, ws) (vs.map (fun x => ((0 : Fin 4), x.1, x.2)) ++ rest) k).1 = 0 →
    (∃ j : Nat, k = j ∧ j < vs.length ∧ runR (bs, ws) (vs.map (fun x => ((0 : Fin 4), x.1, x.2)) ++ rest) k = (0, false, bs, ws ++ vs.take j) ∧ rightB bs (ws ++ vs.take j) = true) ∨
    ((k < 0 ∨ (vs.length : Int) ≤ k) ∧ runR (bs, ws) (vs.map (fun x => ((0 : Fin 4), x.1, x.2)) ++ rest) k = runR (bs, ws ++ vs) rest (k - vs.length) ∧ rightB bs (ws ++ vs) = true)
  | [], bs, ws, rest, k, hr, h => .inr ⟨by simp; omega, by simp, by simpa using hr⟩
  | x :: r, bs, ws, rest, k, hr, h => by
    rw [List.map_cons, List.cons_append] at h ⊢
    by_cases hk : k = 0
    · subst hk
      exact .inl ⟨0, rfl, by simp, by rw [run_stop]; simp, by simpa using hr⟩
    · by_cases he : writeE bs ws x.1 x.2 = 0
      · have e : doD (bs, ws) ((0 : Fin 4), x.1, x.2) = (bs, ws ++ [x]) := by simp [doD, writeBs, writeWs, he]
        have hr1 := right_more he
        rw [run_go hk (show doE (bs, ws) ((0 : Fin 4), x.1, x.2) = 0 from he), e] at h ⊢
        rcases run_writes r bs (ws ++ [x]) rest (k - 1) hr1 h with ⟨j, h1, h2, h3, h4⟩ | ⟨h1, h2, h3⟩
        · refine .inl ⟨j + 1, by omega, by simp; omega, ?_, ?_⟩
          · rw [h3]; simp
          · simpa using h4
        · refine .inr ⟨by simp; omega, ?_, by simpa using h3⟩
          rw [h2]
          simp only [List.append_assoc, List.singleton_append, List.length_cons]
          congr 1
          push_cast
          omega
      · rw [run_err hk (show doE (bs, ws) ((0 : Fin 4), x.1, x.2) ≠ 0 from he)] at h
        exact absurd h he
/-- Through Sync and both deeds of the twin. -/
theorem run_end {bs : List (List UInt8)} {vs : List Wr} {tb : List UInt8} {k : Int} (hr : rightB bs vs = true) (h : (runR (bs, vs) (endDs tb) k).1 = 0) :
    (k = 0 ∧ runR (bs, vs) (endDs tb) k = (0, false, bs, vs)) ∨
    (k ≠ 0 ∧ stopE (layL bs vs) [] 0 tb = 0 ∧ ∃ j : Int, (k = 1 → j = 0) ∧ (k = 2 → j = 1) ∧ (k ≠ 1 → k ≠ 2 → j = 2) ∧ runR (bs, vs) (endDs tb) k = (0, stopD (layL bs vs) [] 0 tb j, stopBs (layL bs vs) [] 0 tb j, stopWs (layL bs vs) [] 0 tb j)) := by
  unfold endDs at h ⊢
  by_cases hk : k = 0
  · subst hk; exact .inl ⟨rfl, run_stop _ _ _⟩
  refine .inr ⟨hk, ?_⟩
  have s0 : syncE bs vs = 0 := by simp [syncE, hr]
  have s1 : syncBs bs vs = layL bs vs := by simp [syncBs, hr]
  have e1 : doE (bs, vs) ((1 : Fin 4), 0, tb) = stopE (layL bs vs) [] 0 tb := by simp [doE, syE, s0, s1]
  by_cases hE : stopE (layL bs vs) [] 0 tb = 0
  · refine ⟨hE, ?_⟩
    have e2 : doD (bs, vs) ((1 : Fin 4), 0, tb) = (layL bs vs, []) := by simp [doD, syBs, syWs, s0, s1, stopBs, stopWs, hE]
    rw [run_go hk (by rw [e1]; exact hE), e2]
    generalize layL bs vs = cs at hE
    have z : stopBs cs [] 0 tb 0 = cs ∧ stopWs cs [] 0 tb 0 = [] ∧ stopD cs [] 0 tb 0 = false := by simp [stopBs, stopWs, stopD, hE]
    by_cases h1 : k - 1 = 0
    · rw [h1, run_stop]
      exact ⟨0, fun _ => rfl, by omega, by omega, by rw [z.1, z.2.1, z.2.2]⟩
    · have e3 : doE (cs, []) ((2 : Fin 4), 0, tb) = 0 := hE
      rw [run_go h1 e3]
      have e4 : doD (cs, []) ((2 : Fin 4), 0, tb) = (stopBs cs [] 0 tb 1, stopWs cs [] 0 tb 1) := rfl
      rw [e4]
      have hR := (stop_right hE 1).1
      by_cases h2 : k - 1 - 1 = 0
      · rw [h2, run_stop]
        exact ⟨1, by omega, fun _ => rfl, by omega, by simp [stopD]⟩
      · have e5 : doE (stopBs cs [] 0 tb 1, stopWs cs [] 0 tb 1) ((3 : Fin 4), 0, tb) = 0 := by simp [doE, syncE, hR]
        rw [run_go h2 e5, run_nil]
        refine ⟨2, by omega, by omega, fun _ _ => rfl, ?_⟩
        have e6 : doD (stopBs cs [] 0 tb 1, stopWs cs [] 0 tb 1) ((3 : Fin 4), 0, tb) = (stopBs cs [] 0 tb 2, stopWs cs [] 0 tb 2) := by
          simp [doD, syncBs, hR]
          simp [stopBs, stopWs, hE]
        rw [e6]
        simp [stopD, hE]
  · rw [run_err hk (by rw [e1]; exact hE), e1] at h
    exact absurd h hE

/-- What a Save that is not refused makes. -/
theorem save_ok {bs : List (List UInt8)} {ws : List Wr} {l : List (List UInt8)} {k : Int} (h : (saveR bs ws l k).1 = 0) :
    openE bs ws = 0 ∧ (∀ s ∈ l, s.length ≤ 200) ∧ l.length ≤ (freeL bs ws).length ∧ (toL bs ws l).length = l.length ∧ (tableB (toL bs ws l)).length ≤ 200 ∧
    ((∃ j : Nat, k = j ∧ j ≤ l.length ∧ saveR bs ws l k = (0, false, bs, ws ++ (pageWs l (toL bs ws l)).take j) ∧ rightB bs (ws ++ (pageWs l (toL bs ws l)).take j) = true) ∨
     (rightB bs (ws ++ pageWs l (toL bs ws l)) = true ∧ (k < 0 ∨ (l.length : Int) < k) ∧ stopE (layL bs (ws ++ pageWs l (toL bs ws l))) [] 0 (tableB (toL bs ws l)) = 0 ∧ ∃ j : Int, (k < 0 → j = 2) ∧ (j = 0 ∨ j = 1 ∨ j = 2) ∧
      saveR bs ws l k = (0, stopD (layL bs (ws ++ pageWs l (toL bs ws l))) [] 0 (tableB (toL bs ws l)) j, stopBs (layL bs (ws ++ pageWs l (toL bs ws l))) [] 0 (tableB (toL bs ws l)) j, stopWs (layL bs (ws ++ pageWs l (toL bs ws l))) [] 0 (tableB (toL bs ws l)) j))) := by
  have h0 := h
  unfold saveR at h
  split at h
  · rename_i h1
    split at h
    · rename_i h2
      split at h
      · rename_i h3
        split at h
        · rename_i h4
          have hlen : (toL bs ws l).length = l.length := by rw [toL, List.length_take]; omega
          have e : saveR bs ws l k = runR (bs, ws) (deedsL l (toL bs ws l) (tableB (toL bs ws l))) k := by
            unfold saveR
            rw [if_pos h1, if_pos h2, if_pos h3, if_pos h4]
          refine ⟨h1, fun s hs => by simpa using List.all_eq_true.1 h2 s hs, h3, hlen, h4, ?_⟩
          have hv : (pageWs l (toL bs ws l)).length = l.length := pageWs_len hlen.symm
          rw [e]
          unfold deedsL at h ⊢
          rw [pageDs_eq] at h ⊢
          have hr := (open_ok h1).1
          rcases run_writes _ bs ws _ k hr h with ⟨j, a1, a2, a3, a4⟩ | ⟨a1, a2, a3⟩
          · exact .inl ⟨j, a1, by omega, a3, a4⟩
          · rw [a2] at h ⊢
            rcases run_end a3 h with ⟨b1, b2⟩ | ⟨b1, b2, j, b3, b4, b5, b6⟩
            · refine .inl ⟨l.length, by omega, Nat.le_refl _, ?_, ?_⟩
              · rw [b2, List.take_of_length_le (by omega)]
              · rw [List.take_of_length_le (by omega)]; exact a3
            · refine .inr ⟨a3, by omega, b2, j, fun hk => b5 (by omega) (by omega), ?_, b6⟩
              by_cases c1 : k - (pageWs l (toL bs ws l)).length = 1
              · exact .inl (b3 c1)
              · by_cases c2 : k - (pageWs l (toL bs ws l)).length = 2
                · exact .inr (.inl (b4 c2))
                · exact .inr (.inr (b5 c1 c2))
        · simp at h
      · simp at h
    · simp at h
  · rename_i h1
    exact absurd h h1

end Go.Proofs.YtdbidfbjfongbaaDoor

/-
  slot.behind: the disk behind so many deeds.
-/
namespace Go.Proofs.YtdbidfbjfongbaaDoor
open Go.RowKit Go.Shelf
attribute [local go_sem] Oper.semAt_some

/-- The boxes at behind's beginning. -/
theorem entryH (w : World) (vb vw : Value) (k : Int) : ∃ W, W = ((((w.alloc (.cells #[vb, vw] 25)).alloc (.cells #[.int .i64 k] 3)).alloc (.cells #[.slice none 0 0, .slice none 0 0] 25)).alloc (.cells #[.bool false] 4)).alloc (.cells #[.int .i64 0] 27) ∧
    Boxed W (w.heap.size + 1) 3 (.int .i64 k) ∧ Bx W (w.heap.size + 1 + 1) (.slice none 0 0) (.slice none 0 0) ∧ Boxed W (w.heap.size + 1 + 1 + 1) 4 (.bool false) ∧ Boxed W (w.heap.size + 1 + 1 + 1 + 1) 27 (.int .i64 0) ∧ Below w.heap.size w W ∧ W.heap.size = w.heap.size + 5 := by
  obtain ⟨q0, q1, q2, q3, q4, qb⟩ := heap5 w (.cells #[vb, vw] 25) (.cells #[.int .i64 k] 3) (.cells #[.slice none 0 0, .slice none 0 0] 25) (.cells #[.bool false] 4) (.cells #[.int .i64 0] 27)
  exact ⟨_, rfl, q1, q2, q3, q4, (((below_alloc2 w _ _).alloc (by simp; omega) _).alloc (by simp; omega) _).alloc (by simp; omega) _, by simp⟩
/-- The boxes of f, all, n and e. -/
theorem entryF (w : World) (vb vw : Value) : ∃ W, W = (((w.alloc (.cells #[vb, vw] 25)).alloc (.cells #[.bool true] 4)).alloc (.cells #[.int .i64 0] 3)).alloc (.cells #[.int .i64 0] 27) ∧
    Bx W w.heap.size vb vw ∧ Boxed W (w.heap.size + 1) 4 (.bool true) ∧ Boxed W (w.heap.size + 1 + 1) 3 (.int .i64 0) ∧ Boxed W (w.heap.size + 1 + 1 + 1) 27 (.int .i64 0) ∧ Below w.heap.size w W := by
  have h0 := Bx.new w vb vw
  have h1 := Boxed.new (w.alloc (.cells #[vb, vw] 25)) 4 (.bool true)
  have h2 := Boxed.new ((w.alloc (.cells #[vb, vw] 25)).alloc (.cells #[.bool true] 4)) 3 (.int .i64 0)
  have h3 := Boxed.new (((w.alloc (.cells #[vb, vw] 25)).alloc (.cells #[.bool true] 4)).alloc (.cells #[.int .i64 0] 3)) 27 (.int .i64 0)
  rw [World.size_alloc] at h1
  rw [World.size_alloc, World.size_alloc] at h2
  rw [World.size_alloc, World.size_alloc, World.size_alloc] at h3
  exact ⟨_, rfl, ((h0.below (below_alloc _ _)).below (below_alloc _ _)).below (below_alloc _ _), (h1.alloc _).alloc _, h2.alloc _, h3, ((below_alloc2 w _ _).alloc (by simp; omega) _).alloc (by simp; omega) _⟩

theorem load_bool (w : World) (g : Nat) (v : Value) (c : w.cell? ⟨g, 0, none⟩ = some v) : (loadVar 4 ⟨g, 0, none⟩).run Tryd.prog w = .ok v w := by
  have hagg : (isAgg 4).run Tryd.prog w = .ok false w := by simp [isAgg, run_underlying Tryd.underlying4]
  simp only [loadVar, Sem.run_bind, hagg, Result.andThen_ok]
  simp [c]
/-- A disk, a bool and an error's number, all in boxes, are what comes out. -/
theorem res_boxes {fn : Func} {p q r : Tmp} (h : fn.results = #[.cell p 25, .cell q 4, .cell r 27]) (tmps : Array Value) (w : World) (g1 g2 g3 : Nat) (v0 v1 v2 v3 : Value) (hp : tmps.getD p undef = .pointer (some ⟨g1, 0, none⟩)) (hq : tmps.getD q undef = .pointer (some ⟨g2, 0, none⟩)) (hr : tmps.getD r undef = .pointer (some ⟨g3, 0, none⟩))
    (c0 : w.cell? ⟨g1, 0, none⟩ = some v0) (c1 : w.cell? ⟨g1, 1, none⟩ = some v1) (c2 : w.cell? ⟨g2, 0, none⟩ = some v2) (c3 : w.cell? ⟨g3, 0, none⟩ = some v3) : (results fn tmps).run Tryd.prog w = .ok (.tuple #[.agg #[v0, v1], v2, v3]) w := by
  have hp' : tmps[p]?.getD undef = .pointer (some ⟨g1, 0, none⟩) := by simpa using hp
  have hq' : tmps[q]?.getD undef = .pointer (some ⟨g2, 0, none⟩) := by simpa using hq
  have hr' : tmps[r]?.getD undef = .pointer (some ⟨g3, 0, none⟩) := by simpa using hr
  simp [results, h, hp', hq', hr', asAddr, load_disk w g1 v0 v1 c0 c1, load_bool w g2 v2 c2, load_errno w g3 v3 c3]

theorem own_nc {w w' : World} {base k n : Nat} {e : TypeId} {v : Value} {xs : List Value} (h : w.ownsRow base e k v n xs) {row : Option Nat} (hg : w.grownBy w' row) (hr : ∀ r, row = some r → ∃ o : Obj, w.heap[r]? = some o ∧ o.isCells = false) : w'.ownsRow base e k v n xs := by
  refine h.kept hg ?_
  rcases h.2 with ⟨rfl, _⟩ | ⟨g, cap, cur, rfl, _, hgb, _⟩
  · exact .inl rfl
  · refine .inr fun e' => ?_
    obtain ⟨o, ho, hc⟩ := hr g (by simpa [Value.ownBlock] using e'.symm)
    rw [hgb] at ho
    cases ho
    cases hc
theorem bx_nc {w w' : World} {b : Nat} {x y : Value} (h : Bx w b x y) {row : Option Nat} (hg : w.grownBy w' row) (hr : ∀ r, row = some r → ∃ o : Obj, w.heap[r]? = some o ∧ o.isCells = false) : Bx w' b x y :=
  h.kept hg (fun e => by
    obtain ⟨o, ho, hc⟩ := hr b e
    rw [show w.heap[b]? = _ from h] at ho
    cases ho
    cases hc)
theorem boxed_nc {w w' : World} {b : Nat} {t : TypeId} {x : Value} (h : Boxed w b t x) {row : Option Nat} (hg : w.grownBy w' row) (hr : ∀ r, row = some r → ∃ o : Obj, w.heap[r]? = some o ∧ o.isCells = false) : Boxed w' b t x :=
  h.kept hg (fun e => by
    obtain ⟨o, ho, hc⟩ := hr b e.symm
    rw [show w.heap[b]? = _ from h] at ho
    cases ho
    cases hc)
theorem boxed_below {w w' : World} {b : Nat} {t : TypeId} {x : Value} (h : Boxed w b t x) (hB : Below w.heap.size w w') : Boxed w' b t x := h.kept (below_grown hB) (by simp)
theorem bx_one {w : World} {B B' : Nat} {v x : Value} (h : Bx w B v x) (hne : B ≠ B') (u : Value) : Bx (w.setCell ⟨B', 0, none⟩ u) B v x := by
  unfold Bx at h ⊢
  rw [heap_setCell_other _ ⟨B', 0, none⟩ B u hne]
  exact h
theorem boxed_two {w : World} {B B' : Nat} {t : TypeId} {v : Value} (h : Boxed w B t v) (hne : B ≠ B') (x y : Value) : Boxed ((w.setCell ⟨B', 0, none⟩ x).setCell ⟨B', 1, none⟩ y) B t v := by
  unfold Boxed at h ⊢
  rw [heap_setCell_other _ ⟨B', 1, none⟩ B y hne, heap_setCell_other _ ⟨B', 0, none⟩ B x hne]
  exact h
theorem own_boxed {w : World} {base B : Nat} {vb vw u : Value} {t : TypeId} {bs : List (List UInt8)} {ws : List Wr} (h : OwnD w base vb bs vw ws) (hx : Boxed w B t u) (h1 : t ≠ 9) (h2 : t ≠ 66) (v : Value) : OwnD (w.setCell ⟨B, 0, none⟩ v) base vb bs vw ws :=
  ⟨ownsRow_setCell_other h.1 (by have := hx.not_row h1 h.1; simpa using Ne.symm this) _, ownsRow_setCell_other h.2 (by have := hx.not_row h2 h.2; simpa using Ne.symm this) _⟩

/-- What holds between two deeds: f, all, n and e, and the results' boxes. -/
def BehI (w : World) (Bf : Nat) (k : Int) (al : Bool) (s : Ds) (n : Nat) (W : World) : Prop :=
  (∃ a1 n1 c1 a2 n2 c2, Bx W Bf (.slice a1 n1 c1) (.slice a2 n2 c2) ∧ OwnD W (w.heap.size + 5) (.slice a1 n1 c1) s.1 (.slice a2 n2 c2) s.2) ∧
  Boxed W (Bf + 1) 4 (.bool al) ∧ Boxed W (Bf + 1 + 1) 3 (.int .i64 (n : Int)) ∧ Boxed W (Bf + 1 + 1 + 1) 27 (.int .i64 0) ∧
  Boxed W (w.heap.size + 1) 3 (.int .i64 k) ∧ Bx W (w.heap.size + 1 + 1) (.slice none 0 0) (.slice none 0 0) ∧ Boxed W (w.heap.size + 1 + 1 + 1) 4 (.bool false) ∧ Boxed W (w.heap.size + 1 + 1 + 1 + 1) 27 (.int .i64 0) ∧ Below w.heap.size w W
/-- What holds where a deed was refused. -/
def BehE (w : World) (E : Int) (W : World) : Prop :=
  Bx W (w.heap.size + 1 + 1) (.slice none 0 0) (.slice none 0 0) ∧ Boxed W (w.heap.size + 1 + 1 + 1) 4 (.bool false) ∧ Boxed W (w.heap.size + 1 + 1 + 1 + 1) 27 (.int .i64 E) ∧ Below w.heap.size w W
theorem BehI.nc {w : World} {Bf : Nat} {k : Int} {al : Bool} {s : Ds} {n : Nat} {W W' : World} {row : Option Nat} (h : BehI w Bf k al s n W) (hg : W.grownBy W' row) (hr : ∀ r, row = some r → w.heap.size ≤ r ∧ ∃ o : Obj, W.heap[r]? = some o ∧ o.isCells = false) : BehI w Bf k al s n W' := by
  obtain ⟨⟨a1, n1, c1, a2, n2, c2, h1, h2⟩, h3, h4, h5, h6, h7, h8, h9, hB⟩ := h
  have hr' : ∀ r, row = some r → ∃ o : Obj, W.heap[r]? = some o ∧ o.isCells = false := fun r e => (hr r e).2
  exact ⟨⟨a1, n1, c1, a2, n2, c2, bx_nc h1 hg hr', own_nc h2.1 hg hr', own_nc h2.2 hg hr'⟩, boxed_nc h3 hg hr', boxed_nc h4 hg hr', boxed_nc h5 hg hr', boxed_nc h6 hg hr', bx_nc h7 hg hr', boxed_nc h8 hg hr', boxed_nc h9 hg hr', hB.grown hg hB.size (fun j e => (hr j e).1)⟩
theorem BehE.nc {w : World} {E : Int} {W W' : World} {row : Option Nat} (h : BehE w E W) (hg : W.grownBy W' row) (hr : ∀ r, row = some r → w.heap.size ≤ r ∧ ∃ o : Obj, W.heap[r]? = some o ∧ o.isCells = false) : BehE w E W' := by
  obtain ⟨h7, h8, h9, hB⟩ := h
  have hr' : ∀ r, row = some r → ∃ o : Obj, W.heap[r]? = some o ∧ o.isCells = false := fun r e => (hr r e).2
  exact ⟨bx_nc h7 hg hr', boxed_nc h8 hg hr', boxed_nc h9 hg hr', hB.grown hg hB.size (fun j e => (hr j e).1)⟩
theorem BehE.made {w W : World} {E : Int} (h1 : Bx W (w.heap.size + 1 + 1) (.slice none 0 0) (.slice none 0 0)) (h2 : Boxed W (w.heap.size + 1 + 1 + 1) 4 (.bool false)) (h3 : Boxed W (w.heap.size + 1 + 1 + 1 + 1) 27 (.int .i64 0)) (hB : Below w.heap.size w W) :
    BehE w E ((((W.drew.setCell ⟨w.heap.size + 1 + 1, 0, none⟩ (.slice none 0 0)).setCell ⟨w.heap.size + 1 + 1, 1, none⟩ (.slice none 0 0)).setCell ⟨w.heap.size + 1 + 1 + 1, 0, none⟩ (.bool false)).setCell ⟨w.heap.size + 1 + 1 + 1 + 1, 0, none⟩ (.int .i64 E)) := by
  have g1 := h1.below (drew_below W)
  have g2 := boxed_below h2 (drew_below W)
  have g3 := boxed_below h3 (drew_below W)
  have gB : Below w.heap.size w W.drew := below2 hB (drew_below W)
  exact ⟨bx_one (bx_one (bx_set g1 _ _) (by omega) _) (by omega) _, (Boxed.set _ (boxed_two g2 (by omega) _ _)).other (by omega) _, Boxed.set _ ((boxed_two g3 (by omega) _ _).other (by omega) _), (((gB.setCell (by simp; omega) _).setCell (by simp; omega) _).setCell (by simp; omega) _).setCell (by simp; omega) _⟩
/-- No more deeds. -/
theorem BehI.all {w : World} {Bf : Nat} {k : Int} {s : Ds} {n : Nat} {W : World} (h : BehI w Bf k true s n W) (hBf : w.heap.size + 5 ≤ Bf) : BehI w Bf k false s n (W.setCell ⟨Bf + 1, 0, none⟩ (.bool false)) := by
  obtain ⟨⟨a1, n1, c1, a2, n2, c2, h1, h2⟩, h3, h4, h5, h6, h7, h8, h9, hB⟩ := h
  exact ⟨⟨a1, n1, c1, a2, n2, c2, bx_one h1 (by omega) _, own_boxed h2 h3 (by decide) (by decide) _⟩, Boxed.set _ h3, h4.other (by omega) _, h5.other (by omega) _, h6.other (by omega) _, bx_one h7 (by omega) _, h8.other (by omega) _, h9.other (by omega) _, hB.setCell (by simp; omega) _⟩
/-- One deed more. -/
theorem BehI.more {w : World} {Bf : Nat} {k : Int} {s s' : Ds} {n : Nat} {W w2 : World} {a1 a2 : Option Addr} {n1 c1 n2 c2 : Nat} (h : BehI w Bf k true s n W) (hBf : w.heap.size + 5 ≤ Bf) (hB2 : Below W.heap.size W w2) (ho : OwnD w2 W.heap.size (.slice a1 n1 c1) s'.1 (.slice a2 n2 c2) s'.2) {m : Nat} (hm : m = n + 1) :
    BehI w Bf k true s' m ((((w2.setCell ⟨Bf, 0, none⟩ (.slice a1 n1 c1)).setCell ⟨Bf, 1, none⟩ (.slice a2 n2 c2)).setCell ⟨Bf + 1 + 1 + 1, 0, none⟩ (.int .i64 0)).setCell ⟨Bf + 1 + 1, 0, none⟩ (.int .i64 ((m : Nat) : Int))) := by
  subst hm
  obtain ⟨⟨_, _, _, _, _, _, h1, _⟩, h3, h4, h5, h6, h7, h8, h9, hB⟩ := h
  have hs := hB.size
  have hlt := h1.cells.2.2.2.2
  have g1 := h1.below hB2
  have g2 : OwnD w2 (w.heap.size + 5) (.slice a1 n1 c1) s'.1 (.slice a2 n2 c2) s'.2 := ⟨own_weak ho.1 (by omega), own_weak ho.2 (by omega)⟩
  have g3 := boxed_below h3 hB2
  have g4 := boxed_below h4 hB2
  have g5 := boxed_below h5 hB2
  have g6 := boxed_below h6 hB2
  have g7 := h7.below hB2
  have g8 := boxed_below h8 hB2
  have g9 := boxed_below h9 hB2
  have gB := hB.trans (hB2.mono hB.size)
  have y5 := boxed_two g5 (show Bf + 1 + 1 + 1 ≠ Bf by omega) (.slice a1 n1 c1) (.slice a2 n2 c2)
  have y4 := boxed_two g4 (show Bf + 1 + 1 ≠ Bf by omega) (.slice a1 n1 c1) (.slice a2 n2 c2)
  refine ⟨⟨a1, n1, c1, a2, n2, c2, bx_one (bx_one (bx_set g1 _ _) (by omega) _) (by omega) _, own_boxed (own_boxed (own_sets2 g2 g1 _ _) y5 (by decide) (by decide) _) (y4.other (by omega) _) (by decide) (by decide) _⟩,
    ((boxed_two g3 (by omega) _ _).other (by omega) _).other (by omega) _, Boxed.set _ (y4.other (by omega) _), (Boxed.set _ y5).other (by omega) _, ((boxed_two g6 (by omega) _ _).other (by omega) _).other (by omega) _,
    bx_one (bx_one (bx_other g7 (by omega) _ _) (by omega) _) (by omega) _, ((boxed_two g8 (by omega) _ _).other (by omega) _).other (by omega) _, ((boxed_two g9 (by omega) _ _).other (by omega) _).other (by omega) _,
    (((gB.setCell (by simp; omega) _).setCell (by simp; omega) _).setCell (by simp; omega) _).setCell (by simp; omega) _⟩

/-- The results are laid, and the deferred calls are taken. -/
theorem beh_ret {w W : World} {D : Nat} {v1 v2 : Value} {s : Ds} (al : Bool) (h7 : Bx W (w.heap.size + 1 + 1) (.slice none 0 0) (.slice none 0 0)) (h8 : Boxed W (w.heap.size + 1 + 1 + 1) 4 (.bool false)) (h9 : Boxed W (w.heap.size + 1 + 1 + 1 + 1) 27 (.int .i64 0)) (hB : Below w.heap.size w W)
    (ho : OwnD W (w.heap.size + 5) v1 s.1 v2 s.2) (hD : w.heap.size ≤ D) (hK : W.heap[D]? = some (.deferred (some []))) :
    ∃ W4, ((((W.setCell ⟨w.heap.size + 1 + 1, 0, none⟩ v1).setCell ⟨w.heap.size + 1 + 1, 1, none⟩ v2).setCell ⟨w.heap.size + 1 + 1 + 1, 0, none⟩ (.bool al)).setCell ⟨w.heap.size + 1 + 1 + 1 + 1, 0, none⟩ (.int .i64 0)).drew = W4 ∧
    W4.heap[D]? = some (.deferred (some [])) ∧ Bx (W4.putObj D (.deferred none)) (w.heap.size + 1 + 1) v1 v2 ∧ Boxed (W4.putObj D (.deferred none)) (w.heap.size + 1 + 1 + 1) 4 (.bool al) ∧ Boxed (W4.putObj D (.deferred none)) (w.heap.size + 1 + 1 + 1 + 1) 27 (.int .i64 0) ∧
    OwnD (W4.putObj D (.deferred none)) w.heap.size v1 s.1 v2 s.2 ∧ Below w.heap.size w (W4.putObj D (.deferred none)) := by
  refine ⟨_, rfl, ?_⟩
  have hK4 := ((((KeepsOthers.setCell W ⟨w.heap.size + 1 + 1, 0, none⟩ v1).trans (KeepsOthers.setCell _ ⟨w.heap.size + 1 + 1, 1, none⟩ v2)).trans ((KeepsOthers.setCell _ ⟨w.heap.size + 1 + 1 + 1, 0, none⟩ (.bool al)).trans (KeepsOthers.setCell _ ⟨w.heap.size + 1 + 1 + 1 + 1, 0, none⟩ (.int .i64 0)))).trans (KeepsOthers.drew _)).same D _ hK rfl
  have k1 := bx_one (bx_one (bx_set h7 v1 v2) (B' := w.heap.size + 1 + 1 + 1) (by omega) (.bool al)) (B' := w.heap.size + 1 + 1 + 1 + 1) (by omega) (.int .i64 0)
  have k2 := (Boxed.set (.bool al) (boxed_two h8 (B' := w.heap.size + 1 + 1) (by omega) v1 v2)).other (B' := w.heap.size + 1 + 1 + 1 + 1) (by omega) (.int .i64 0)
  have k3 := Boxed.set (.int .i64 0) ((boxed_two h9 (B' := w.heap.size + 1 + 1) (by omega) v1 v2).other (B' := w.heap.size + 1 + 1 + 1) (by omega) (.bool al))
  have kB := (((hB.setCell (p := ⟨w.heap.size + 1 + 1, 0, none⟩) (by simp; omega) v1).setCell (p := ⟨w.heap.size + 1 + 1, 1, none⟩) (by simp; omega) v2).setCell (p := ⟨w.heap.size + 1 + 1 + 1, 0, none⟩) (by simp; omega) (.bool al)).setCell (p := ⟨w.heap.size + 1 + 1 + 1 + 1, 0, none⟩) (by simp; omega) (.int .i64 0)
  have ko := own_sets ho (B := w.heap.size + 1 + 1) (by omega) v1 v2
  have ko2 : OwnD ((((W.setCell ⟨w.heap.size + 1 + 1, 0, none⟩ v1).setCell ⟨w.heap.size + 1 + 1, 1, none⟩ v2).setCell ⟨w.heap.size + 1 + 1 + 1, 0, none⟩ (.bool al)).setCell ⟨w.heap.size + 1 + 1 + 1 + 1, 0, none⟩ (.int .i64 0)) (w.heap.size + 5) v1 s.1 v2 s.2 :=
    ⟨ownsRow_setCell_below (ownsRow_setCell_below ko.1 (by simp) _) (by simp) _, ownsRow_setCell_below (ownsRow_setCell_below ko.2 (by simp) _) (by simp) _⟩
  have kD := drew_below ((((W.setCell ⟨w.heap.size + 1 + 1, 0, none⟩ v1).setCell ⟨w.heap.size + 1 + 1, 1, none⟩ v2).setCell ⟨w.heap.size + 1 + 1 + 1, 0, none⟩ (.bool al)).setCell ⟨w.heap.size + 1 + 1 + 1 + 1, 0, none⟩ (.int .i64 0))
  replace k1 := k1.below kD
  replace k2 := boxed_below k2 kD
  replace k3 := boxed_below k3 kD
  replace kB := below2 kB kD
  replace ko2 := OwnD.below ko2 kD
  clear kD
  generalize ((((W.setCell ⟨w.heap.size + 1 + 1, 0, none⟩ v1).setCell ⟨w.heap.size + 1 + 1, 1, none⟩ v2).setCell ⟨w.heap.size + 1 + 1 + 1, 0, none⟩ (.bool al)).setCell ⟨w.heap.size + 1 + 1 + 1 + 1, 0, none⟩ (.int .i64 0)).drew = W4 at hK4 k1 k2 k3 kB ko2 ⊢
  have hg := grownBy_putObj' W4 D (.deferred none)
  have hr : ∀ r, some D = some r → ∃ o : Obj, W4.heap[r]? = some o ∧ o.isCells = false := fun r e => by cases e; exact ⟨_, hK4, rfl⟩
  exact ⟨hK4, bx_nc k1 hg hr, boxed_nc k2 hg hr, boxed_nc k3 hg hr, ⟨own_weak (own_nc ko2.1 hg hr) (by omega), own_weak (own_nc ko2.2 hg hr) (by omega)⟩, kB.grown hg kB.size (fun j e => by cases e; exact hD)⟩
/-- The same where the results lie there already. -/
theorem beh_ret2 {w W : World} {D : Nat} {E : Int} (h : BehE w E W) (hD : w.heap.size ≤ D) (hK : W.heap[D]? = some (.deferred (some []))) :
    Bx (W.putObj D (.deferred none)) (w.heap.size + 1 + 1) (.slice none 0 0) (.slice none 0 0) ∧ Boxed (W.putObj D (.deferred none)) (w.heap.size + 1 + 1 + 1) 4 (.bool false) ∧ Boxed (W.putObj D (.deferred none)) (w.heap.size + 1 + 1 + 1 + 1) 27 (.int .i64 E) ∧ Below w.heap.size w (W.putObj D (.deferred none)) := by
  have hg := grownBy_putObj' W D (.deferred none)
  have hr : ∀ r, some D = some r → ∃ o : Obj, W.heap[r]? = some o ∧ o.isCells = false := fun r e => by cases e; exact ⟨_, hK, rfl⟩
  exact ⟨bx_nc h.1 hg hr, boxed_nc h.2.1 hg hr, boxed_nc h.2.2.1 hg hr, h.2.2.2.grown hg h.2.2.2.size (fun j e => by cases e; exact hD)⟩

/-- The deeds told so far are done. -/
def RunTo (s0 : Ds) (k : Int) (pre : List Dd) (s : Ds) : Prop := ∀ rest, runR s0 (pre ++ rest) k = runR s rest (k - (pre.length : Int))
theorem RunTo.nil (s0 : Ds) (k : Int) : RunTo s0 k [] s0 := fun rest => by simp
theorem RunTo.stop {s0 s : Ds} {k : Int} {pre : List Dd} (h : RunTo s0 k pre s) (hk : (pre.length : Int) = k) (x : Dd) (rest : List Dd) : runR s0 (pre ++ [x] ++ rest) k = (0, false, s) := by
  rw [List.append_assoc, h, show k - (pre.length : Int) = 0 by omega]
  exact run_stop _ _ _
theorem RunTo.bad {s0 s : Ds} {k : Int} {pre : List Dd} (h : RunTo s0 k pre s) (hk : ¬ (pre.length : Int) = k) {x : Dd} (hx : doE s x ≠ 0) (rest : List Dd) : runR s0 (pre ++ [x] ++ rest) k = (doE s x, false, [], []) := by
  rw [List.append_assoc, h]
  exact run_err (by omega) hx _
theorem RunTo.good {s0 s : Ds} {k : Int} {pre : List Dd} (h : RunTo s0 k pre s) (hk : ¬ (pre.length : Int) = k) {x : Dd} (hx : doE s x = 0) : RunTo s0 k (pre ++ [x]) (doD s x) := fun rest => by
  rw [List.append_assoc, h]
  show runR s (x :: rest) _ = _
  rw [run_go (by omega) hx]
  congr 1
  simp
  omega
/-- The code that lays the results of a refused deed. -/
def reg15 (b : Option Code) : Code := match b with
  | some (.seq _ (.scope (.seq _ (.seq _ (.seq (.seq _ (.block _ (.rangeFunc _ _ _ (.block _ (.seq _ (.seq (.seq _ (.cond _ (.seq c _) _)) _)))))) _))))) => c
  | _ => .skip

set_option maxRecDepth 100000 in
set_option maxHeartbeats 4000000 in
theorem reg15_wp {y0 y1 y2 y3 y4 y5 y9 y10 y11 y13 y14 y15 y16 y17 y18 y19 y20 y21 y22 y23 y24 y25 y26 y27 y28 y29 y30 y31 y32 y33 y34 y35 y36 y37 y38 y39 y40 y41 y42 y43 y44 y45 y46 y47 y48 y49 y50 y51 y52 y53 y54 y55 y56 y57 y58 y59 y60 y61 y62 y63 y64 y65 y66 y67 y68 y69 y70 y71 y72 y73 y74 : Value} {y Bf : Nat} {E : Int} {w W : World} {Q : Exit → Act → World → Prop} (p1 : Bx W (w.heap.size + 1 + 1) (.slice none 0 0) (.slice none 0 0)) (p2 : Boxed W (w.heap.size + 1 + 1 + 1) 4 (.bool false)) (p3 : Boxed W (w.heap.size + 1 + 1 + 1 + 1) 27 (.int .i64 0)) (p4 : Boxed W (Bf + 1 + 1 + 1) 27 (.int .i64 E)) (hBf : w.heap.size + 5 ≤ Bf)
    (h : ∀ a', Q .normal a' ((((W.setCell ⟨w.heap.size + 1 + 1, 0, none⟩ (.slice none 0 0)).setCell ⟨w.heap.size + 1 + 1, 1, none⟩ (.slice none 0 0)).setCell ⟨w.heap.size + 1 + 1 + 1, 0, none⟩ (.bool false)).setCell ⟨w.heap.size + 1 + 1 + 1 + 1, 0, none⟩ (.int .i64 E)).drew) :
    (reg15 Tryd.f21.body).wpIn (Fence.wide.inRound y) (6 - 1 - 1) Tryd.prog Q { tmps := #[y0, y1, y2, y3, y4, y5, .pointer (some ⟨w.heap.size + 1 + 1, 0, none⟩), .pointer (some ⟨w.heap.size + 1 + 1 + 1, 0, none⟩), .pointer (some ⟨w.heap.size + 1 + 1 + 1 + 1, 0, none⟩), y9, y10, y11, .pointer (some ⟨Bf + 1 + 1 + 1, 0, none⟩), y13, y14, y15, y16, y17, y18, y19, y20, y21, y22, y23, y24, y25, y26, y27, y28, y29, y30, y31, y32, y33, y34, y35, y36, y37, y38, y39, y40, y41, y42, y43, y44, y45, y46, y47, y48, y49, y50, y51, y52, y53, y54, y55, y56, y57, y58, y59, y60, y61, y62, y63, y64, y65, y66, y67, y68, y69, y70, y71, y72, y73, y74], defers := [] } W := by
  have hmix : Tryd.prog.follows .mixedOrders = true := by kernel_rfl
  obtain ⟨x0, x1, xf0, xf1, xl⟩ := p1.cells
  have hec := p4.cell
  have hyc := p2.cell
  have hyf := p2.frozen
  have hzc := p3.cell
  have hzf := p3.frozen
  dsimp only [reg15, Tryd.f21]
  gi_region_with_o (fail)
  all_goals exact h _

theorem four_kinds : ∀ q : Fin 4, q = 0 ∨ q = 1 ∨ q = 2 ∨ q = 3 := by decide

set_option maxRecDepth 100000 in
set_option maxHeartbeats 16000000 in
theorem sbehind_calls (vb vw : Value) (bs : List (List UInt8)) (ws : List Wr) (k : Int) (w : World) (hb : Txts w vb bs) (hw : Wrs w vw ws) (hr : rightB bs ws = true) (hT : TabOk w)
    (Bl Bt Bs : Nat) (vl vt : Value) (l : List (List UInt8)) (us : List Nat) (tb : List UInt8) (hBl : Boxed w Bl 22 vl) (hBt : Boxed w Bt 33 vt) (hBs : Boxed w Bs 9 (.string ⟨tb.toArray⟩)) (hl : Txts w vl l) (ht : Nats w vt us)
    (hlen : us.length = l.length) (hmax : l.length ≤ 1000) (hs : ∀ s ∈ l, s.length ≤ 4000) :
    Calls Tryd.prog 21 #[.agg #[vb, vw], .func (.func 42) #[] #[.pointer (some ⟨Bl, 0, none⟩), .pointer (some ⟨Bt, 0, none⟩), .pointer (some ⟨Bs, 0, none⟩)], .int .i64 k] w fun e w' => ∃ vb' vw',
      e = .returned (.tuple #[.agg #[vb', vw'], .bool (runR (bs, ws) (deedsL l us tb) k).2.1, .int .i64 (runR (bs, ws) (deedsL l us tb) k).1]) ∧ OwnD w' w.heap.size vb' (runR (bs, ws) (deedsL l us tb) k).2.2.1 vw' (runR (bs, ws) (deedsL l us tb) k).2.2.2 ∧ Below w.heap.size w w' := by
  obtain ⟨ab, cb, rfl⟩ := hb.strs.form
  obtain ⟨aw, cw, rfl⟩ := hw.form
  obtain ⟨hl1, hl2, hl3, _⟩ := right_parts hr
  obtain ⟨W0, hW0, hk0, hx0, hy0, hz0, hB0, hs0⟩ := entryH w (.slice ab bs.length cb) (.slice aw ws.length cw) k
  have KC := scopied_calls _ _ bs ws _ (hb.below hB0) (hw.below hB0) (by omega) (by omega)
  have HST := Lib.hid (deeds_stops 5 (by omega) Bl Bt Bs vl vt l us tb w hBl hBt hBs hl ht hT hlen (by omega) hs)
  have HT := Lib.hid hT
  rw [hW0] at KC
  have HK := Lib.hid KC
  have HW0 := Lib.hid hW0
  clear KC hW0 hb hw hBl hBt hBs hl ht hT hlen hs hr hl1 hl2 hl3
  refine (callsIn_wide (n := 6)).1 ?_
  refine callsIn_of_wp_marks Tryd.func21 rfl trivial ?_ rfl
  simp only [Tryd.ntmps21, List.size_toArray, List.length_cons, List.length_nil, Nat.reduceAdd, Nat.reduceSub, Array.replicate_succ, Array.replicate_zero, List.push_toArray, List.append_toArray, List.nil_append, List.cons_append]
  refine wpIn_wide.2 ?_
  go_wp2_with fail
  go_step3
  go_wp2_with fail
  refine HK.out.mono ?_
  rw [← HW0.out]
  rintro e w1 ⟨vb1, vw1, rfl, ho1, hB1⟩
  obtain ⟨ab1, nb1, cb1, aw1, nw1, cw1, rfl, rfl, hnb1, hnw1⟩ := ho1.forms
  clear hnb1 hnw1
  have hBs1 := hB1.size
  rw [hs0] at hBs1
  obtain ⟨Wl, hWl, hf2, hal2, hn2, he2, hB2⟩ := entryF w1 (.slice ab1 nb1 cb1) (.slice aw1 nw1 cw1)
  have ho2 := OwnD.below ho1 hB2
  rw [hs0] at ho2
  have hBl2 : Below w.heap.size w Wl := (hB0.trans (hB1.mono (by omega))).trans (hB2.mono (by omega))
  have hI0 : BehI w w1.heap.size k true (bs, ws) 0 Wl := ⟨⟨_, _, _, _, _, _, hf2, ho2⟩, hal2, hn2, he2, boxed_below (boxed_below hk0 hB1) hB2, (hx0.below hB1).below hB2, boxed_below (boxed_below hy0 hB1) hB2, boxed_below (boxed_below hz0 hB1) hB2, hBl2⟩
  have HWl := Lib.hid hWl
  clear hWl hf2 hal2 hn2 he2 hB2 ho2 ho1 hk0 hx0 hy0 hz0 HK
  go_wp2_with fail
  go_step3
  go_wp2_with fail
  rw [← HWl.out]
  have hBfl : w1.heap.size + 1 + 1 + 1 < Wl.heap.size := hI0.2.2.2.1.lt
  generalize hBfe : w1.heap.size = Bf at hI0 hBs1 hBfl
  have HBf := Lib.hid hBfe
  clear hBfe HWl hB1 hB0 hs0 HW0
  have hBf5 : w.heap.size + 5 ≤ Bf := hBs1
  refine (wpIn_wide (n := 6)).1 ?_
  refine wpIn_rangeFunc_ownH rfl (by omega) (gf := 42) (lb := #[.pointer (some ⟨Bl, 0, none⟩), .pointer (some ⟨Bt, 0, none⟩), .pointer (some ⟨Bs, 0, none⟩)]) rfl trivial (enters_of Tryd.func42 (by kernel_rfl) rfl)
    HST.out belowK_t (belowK_b hBl2.size) hBl2 (fun _ => rfl)
    (fun pre W => ∃ s, RunTo (bs, ws) k pre s ∧ BehI w Bf k true s pre.length W ∧ Wl.heap.size ≤ W.heap.size)
    (fun c pre W => (c = .exit 0 ∧ ∃ s, (∀ rest, runR (bs, ws) (pre ++ rest) k = (0, false, s)) ∧ ∃ n, BehI w Bf k false s n W) ∨ (c = .ret ∧ ∃ E, (∀ rest, runR (bs, ws) (pre ++ rest) k = (E, false, [], [])) ∧ BehE w E W))
    (fun pre A B row hs hg hr => by
      obtain ⟨s, h1, h2, h3⟩ := hs
      exact ⟨s, h1, h2.nc hg (fun r e => ⟨Nat.le_trans hBl2.size (hr r e).1, (hr r e).2⟩), Nat.le_trans h3 hg.size⟩)
    (fun c pre A B row hs hg hr => by
      rcases hs with ⟨hc, s, h1, n, h2⟩ | ⟨hc, E, h1, h2⟩
      · exact .inl ⟨hc, s, h1, n, h2.nc hg (fun r e => ⟨Nat.le_trans hBl2.size (hr r e).1, (hr r e).2⟩)⟩
      · exact .inr ⟨hc, E, h1, h2.nc hg (fun r e => ⟨Nat.le_trans hBl2.size (hr r e).1, (hr r e).2⟩)⟩)
    ⟨(bs, ws), RunTo.nil _ _, hI0, Nat.le_refl _⟩
    (fun x a' W => ∃ Bd, Wl.heap.size ≤ Bd ∧ W.heap[Bd]? = some (.cells #[.int .i64 ((x.1.val : Nat) : Int), .int .i64 x.2.1, .string ⟨x.2.2.toArray⟩] 78 (0, 0)) ∧ a' = { tmps := #[.agg #[.slice ab bs.length cb, .slice aw ws.length cw], .func (.func 42) #[] #[.pointer (some ⟨Bl, 0, none⟩), .pointer (some ⟨Bt, 0, none⟩), .pointer (some ⟨Bs, 0, none⟩)], .int .i64 k, .pointer (some ⟨w.heap.size, 0, none⟩), undef, .pointer (some ⟨w.heap.size + 1, 0, none⟩), .pointer (some ⟨w.heap.size + 1 + 1, 0, none⟩), .pointer (some ⟨w.heap.size + 1 + 1 + 1, 0, none⟩), .pointer (some ⟨w.heap.size + 1 + 1 + 1 + 1, 0, none⟩), .pointer (some ⟨Bf, 0, none⟩), .pointer (some ⟨Bf + 1, 0, none⟩), .pointer (some ⟨Bf + 1 + 1, 0, none⟩), .pointer (some ⟨Bf + 1 + 1 + 1, 0, none⟩), .pointer (some ⟨Bd, 0, none⟩), .agg #[.slice ab bs.length cb, .slice aw ws.length cw], .agg #[.slice ab1 nb1 cb1, .slice aw1 nw1 cw1], .func (.func 42) #[] #[.pointer (some ⟨Bl, 0, none⟩), .pointer (some ⟨Bt, 0, none⟩), .pointer (some ⟨Bs, 0, none⟩)], .agg #[.int .i64 ((x.1.val : Nat) : Int), .int .i64 x.2.1, .string ⟨x.2.2.toArray⟩], undef, undef, undef, undef, undef, undef, undef, undef, undef, undef, undef, undef, undef, undef, undef, undef, undef, undef, undef, undef, undef, undef, undef, undef, undef, undef, undef, undef, undef, undef, undef, undef, undef, undef, undef, undef, undef, undef, undef, undef, undef, undef, undef, undef, undef, undef, undef, undef, undef, undef, undef, undef, undef, undef, undef, undef, undef], defers := [] })
    ?hAx ?assign ?body ?done ?stop
  case hAx =>
    rintro x a' u W W' row ⟨Bd, h1, h2, h3⟩ hg hr
    refine ⟨Bd, h1, ?_, h3⟩
    rw [hg.block Bd (Array.getElem?_eq_some_iff.1 h2).1 (fun e => by obtain ⟨_, o, ho, hc⟩ := hr Bd e.symm; rw [h2] at ho; cases ho; cases hc)]
    exact h2
  case assign =>
    rintro y pre ⟨q, a, t⟩ W K ⟨s, hrun, hI, hsl⟩ hK
    have hsz := hI.2.2.2.2.2.2.2.2.size
    dsimp only [encD]
    gi_wp2
    have hI' := hI.nc (World.grownBy_alloc W (.cells #[.int .i64 ((q.val : Nat) : Int), .int .i64 a, .string ⟨t.toArray⟩] 78) none) (fun r e => by cases e)
    exact hK _ _ ((KeepsOthers.alloc _ _).from _) ((Below.refl _ W).alloc hsz _) ⟨s, hrun, hI', by simp; omega⟩ ⟨W.heap.size, hsl, heap_alloc_new W _, rfl⟩

  case body =>
    rintro y pre ⟨q, a, t⟩ a' W hy ⟨r, hr'⟩ ⟨s, hrun, hI, hsl⟩ ⟨Bd, hBd, bW, rfl⟩ hlt
    have hIH := Lib.hid hI
    obtain ⟨⟨a1, n1, c1, a2, n2, c2, hf, hfo⟩, hal, hn, he, hkk, hxx, hyy, hzz, hBW⟩ := hI
    have hTW := HT.out.below hBW
    have htx := hfo.texts
    have hwr := hfo.wrs
    have hBWs := hBW.size
    obtain ⟨f0, f1, ff0, ff1, fl⟩ := hf.cells
    have halc := hal.cell
    have half := hal.frozen
    have hnc := hn.cell
    have hkc := hkk.cell
    have w0 : W.cell? ⟨Bd, 0, none⟩ = some (.int .i64 ((q.val : Nat) : Int)) := cell_of_row W Bd 0 _ _ _ bW
    have w1c : W.cell? ⟨Bd, 1, none⟩ = some (.int .i64 a) := cell_of_row W Bd 1 _ _ _ bW
    have w2c : W.cell? ⟨Bd, 2, none⟩ = some (.string ⟨t.toArray⟩) := cell_of_row W Bd 2 _ _ _ bW
    have hpl : (pre.length : Int) ≤ 1003 := by omega
    clear bW
    have hn1 : 1 ≤ 6 - 1 - 1 := by omega
    have hfw : ∀ f, Fence.wide.fn f := fun _ => trivial
    by_cases hk : (pre.length : Int) = k
    · have hkb : ((pre.length : Int) == k) = true := by simp [hk]
      have HS := Lib.hid (fun rest => hrun.stop hk (q, a, t) rest)
      clear hk
      gi_wp2_with fail
      exact ⟨(KeepsOthers.setCell _ _ _).from _, .inl ⟨rfl, s, HS.out, pre.length, hIH.out.all hBf5⟩⟩
    · have hkb : ((pre.length : Int) == k) = false := by simp [hk]
      obtain rfl | rfl | rfl | rfl := four_kinds q
      · rw [show ((((0 : Fin 4)).val : Nat) : Int) = 0 from rfl] at w0
        have K : Calls Tryd.prog 38 _ W fun e w' => ∃ vb' vw', e = .returned (.tuple #[.agg #[vb', vw'], .int .i64 (doE s ((0 : Fin 4), a, t))]) ∧ OwnD w' W.heap.size vb' (doD s ((0 : Fin 4), a, t)).1 vw' (doD s ((0 : Fin 4), a, t)).2 ∧ Below W.heap.size W w' := write_calls _ _ s.1 s.2 a t W htx hwr
        by_cases hz : doE s ((0 : Fin 4), a, t) = 0
        · have HS := Lib.hid (hrun.good hk hz)
          rw [hz] at K
          generalize doD s ((0 : Fin 4), a, t) = s' at K HS
          have HK := Lib.hid K
          clear K hk hz htx hwr hTW hfo
          gi_wp2_with fail
          refine (CallsIn.inRound y (callsIn_wide.2 HK.out)).mono ?_
          rintro e w2 ⟨vb2, vw2, rfl, ho2, hB2⟩
          obtain ⟨ab2, nb2, cb2, aw2, nw2, cw2, rfl, rfl, hnb2, hnw2⟩ := ho2.forms
          clear hnb2 hnw2
          have hf2 := hf.below hB2
          have he2 := boxed_below he hB2
          have hn2 := boxed_below hn hB2
          clear f0 f1 ff0 ff1 fl halc half hnc hkc w0 w1c w2c
          obtain ⟨f0, f1, ff0, ff1, fl⟩ := hf2.cells
          have hec := he2.cell
          have hef := he2.frozen
          have hnc := hn2.cell
          have hnf := hn2.frozen
          have HO := Lib.hid ho2
          clear ho2
          gi_wp2_with fail
          have hM := hIH.out.more (k := k) hBf5 hB2 HO.out (m := (pre ++ [((0 : Fin 4), a, t)]).length) (by simp)
          have hlen1 : (((pre ++ [((0 : Fin 4), a, t)]).length : Nat) : Int) = (pre.length : Int) + 1 := by simp
          rw [hlen1] at hM
          refine ⟨((KeepsOthers.of_grownBy (below_grown hB2) (fun j o e => by cases e)).trans (((KeepsOthers.setCell _ _ _).trans (KeepsOthers.setCell _ _ _)).trans ((KeepsOthers.setCell _ _ _).trans (KeepsOthers.setCell _ _ _)))).from _, ?_, _, HS.out, hM, ?_⟩
          · exact ((((hB2.mono hBWs).setCell (by simp; omega) _).setCell (by simp; omega) _).setCell (by simp; omega) _).setCell (by simp; omega) _
          · have := hB2.size
            simp
            omega
        · have HS := Lib.hid (fun rest => hrun.bad hk hz rest)
          have hzb : (doE s ((0 : Fin 4), a, t) != 0) = true := by simpa using hz
          generalize doD s ((0 : Fin 4), a, t) = s' at K
          generalize doE s ((0 : Fin 4), a, t) = E at K HS hzb
          have HK := Lib.hid K
          clear K hk hz htx hwr hTW hfo
          gi_wp2_with fail
          refine (CallsIn.inRound y (callsIn_wide.2 HK.out)).mono ?_
          rintro e w2 ⟨vb2, vw2, rfl, ho2, hB2⟩
          obtain ⟨ab2, nb2, cb2, aw2, nw2, cw2, rfl, rfl, hnb2, hnw2⟩ := ho2.forms
          clear hnb2 hnw2 ho2
          have hf2 := hf.below hB2
          have he2 := boxed_below he hB2
          have hx2 := hxx.below hB2
          have hy2 := boxed_below hyy hB2
          have hz2 := boxed_below hzz hB2
          clear f0 f1 ff0 ff1 fl halc half hnc hkc w0 w1c w2c
          obtain ⟨f0, f1, ff0, ff1, fl⟩ := hf2.cells
          obtain ⟨x0, x1, xf0, xf1, xl⟩ := hx2.cells
          have hec := he2.cell
          have hef := he2.frozen
          have hyc := hy2.cell
          have hyf := hy2.frozen
          have hzc := hz2.cell
          have hzf := hz2.frozen
          gi_wp2_with fail
          have p1 : Bx (((w2.setCell ⟨Bf, 0, none⟩ (.slice ab2 nb2 cb2)).setCell ⟨Bf, 1, none⟩ (.slice aw2 nw2 cw2)).setCell ⟨Bf + 1 + 1 + 1, 0, none⟩ (.int .i64 E)) (w.heap.size + 1 + 1) (.slice none 0 0) (.slice none 0 0) := bx_one (bx_other hx2 (by omega) _ _) (by omega) _
          have p2 : Boxed (((w2.setCell ⟨Bf, 0, none⟩ (.slice ab2 nb2 cb2)).setCell ⟨Bf, 1, none⟩ (.slice aw2 nw2 cw2)).setCell ⟨Bf + 1 + 1 + 1, 0, none⟩ (.int .i64 E)) (w.heap.size + 1 + 1 + 1) 4 (.bool false) := (boxed_two hy2 (by omega) _ _).other (by omega) _
          have p3 : Boxed (((w2.setCell ⟨Bf, 0, none⟩ (.slice ab2 nb2 cb2)).setCell ⟨Bf, 1, none⟩ (.slice aw2 nw2 cw2)).setCell ⟨Bf + 1 + 1 + 1, 0, none⟩ (.int .i64 E)) (w.heap.size + 1 + 1 + 1 + 1) 27 (.int .i64 0) := (boxed_two hz2 (by omega) _ _).other (by omega) _
          have p4 : Boxed (((w2.setCell ⟨Bf, 0, none⟩ (.slice ab2 nb2 cb2)).setCell ⟨Bf, 1, none⟩ (.slice aw2 nw2 cw2)).setCell ⟨Bf + 1 + 1 + 1, 0, none⟩ (.int .i64 E)) (Bf + 1 + 1 + 1) 27 (.int .i64 E) := Boxed.set _ (boxed_two he2 (by omega) _ _)
          have p5 : KeepsOthers W (((w2.setCell ⟨Bf, 0, none⟩ (.slice ab2 nb2 cb2)).setCell ⟨Bf, 1, none⟩ (.slice aw2 nw2 cw2)).setCell ⟨Bf + 1 + 1 + 1, 0, none⟩ (.int .i64 E)) := (KeepsOthers.of_grownBy (below_grown hB2) (fun j o e => by cases e)).trans (((KeepsOthers.setCell _ _ _).trans (KeepsOthers.setCell _ _ _)).trans (KeepsOthers.setCell _ _ _))
          have p6 : Below w.heap.size w (((w2.setCell ⟨Bf, 0, none⟩ (.slice ab2 nb2 cb2)).setCell ⟨Bf, 1, none⟩ (.slice aw2 nw2 cw2)).setCell ⟨Bf + 1 + 1 + 1, 0, none⟩ (.int .i64 E)) := (((hBW.trans (hB2.mono hBWs)).setCell (by simp; omega) _).setCell (by simp; omega) _).setCell (by simp; omega) _
          generalize ((w2.setCell ⟨Bf, 0, none⟩ (.slice ab2 nb2 cb2)).setCell ⟨Bf, 1, none⟩ (.slice aw2 nw2 cw2)).setCell ⟨Bf + 1 + 1 + 1, 0, none⟩ (.int .i64 E) = W3 at p1 p2 p3 p4 p5 p6 ⊢
          clear f0 f1 ff0 ff1 fl x0 x1 xf0 xf1 xl hec hef hyc hyf hzc hzf hf2 he2 hx2 hy2 hz2
          refine reg15_wp p1 p2 p3 p4 hBf5 (fun a' => ?_)
          gi_wp2_with fail
          exact ⟨(p5.trans ((((KeepsOthers.setCell _ _ _).trans (KeepsOthers.setCell _ _ _)).trans ((KeepsOthers.setCell _ _ _).trans (KeepsOthers.setCell _ _ _))).trans (KeepsOthers.drew _))).from _, .inr ⟨rfl, _, HS.out, BehE.made p1 p2 p3 p6⟩⟩
      · rw [show ((((1 : Fin 4)).val : Nat) : Int) = 1 from rfl] at w0
        have K : Calls Tryd.prog 39 _ W fun e w' => ∃ vb' vw', e = .returned (.tuple #[.agg #[vb', vw'], .int .i64 (doE s ((1 : Fin 4), a, t))]) ∧ OwnD w' W.heap.size vb' (doD s ((1 : Fin 4), a, t)).1 vw' (doD s ((1 : Fin 4), a, t)).2 ∧ Below W.heap.size W w' := synced_calls _ _ s.1 s.2 t W htx hwr hTW
        by_cases hz : doE s ((1 : Fin 4), a, t) = 0
        · have HS := Lib.hid (hrun.good hk hz)
          rw [hz] at K
          generalize doD s ((1 : Fin 4), a, t) = s' at K HS
          have HK := Lib.hid K
          clear K hk hz htx hwr hTW hfo
          gi_wp2_with fail
          refine (CallsIn.inRound y (callsIn_wide.2 HK.out)).mono ?_
          rintro e w2 ⟨vb2, vw2, rfl, ho2, hB2⟩
          obtain ⟨ab2, nb2, cb2, aw2, nw2, cw2, rfl, rfl, hnb2, hnw2⟩ := ho2.forms
          clear hnb2 hnw2
          have hf2 := hf.below hB2
          have he2 := boxed_below he hB2
          have hn2 := boxed_below hn hB2
          clear f0 f1 ff0 ff1 fl halc half hnc hkc w0 w1c w2c
          obtain ⟨f0, f1, ff0, ff1, fl⟩ := hf2.cells
          have hec := he2.cell
          have hef := he2.frozen
          have hnc := hn2.cell
          have hnf := hn2.frozen
          have HO := Lib.hid ho2
          clear ho2
          gi_wp2_with fail
          have hM := hIH.out.more (k := k) hBf5 hB2 HO.out (m := (pre ++ [((1 : Fin 4), a, t)]).length) (by simp)
          have hlen1 : (((pre ++ [((1 : Fin 4), a, t)]).length : Nat) : Int) = (pre.length : Int) + 1 := by simp
          rw [hlen1] at hM
          refine ⟨((KeepsOthers.of_grownBy (below_grown hB2) (fun j o e => by cases e)).trans (((KeepsOthers.setCell _ _ _).trans (KeepsOthers.setCell _ _ _)).trans ((KeepsOthers.setCell _ _ _).trans (KeepsOthers.setCell _ _ _)))).from _, ?_, _, HS.out, hM, ?_⟩
          · exact ((((hB2.mono hBWs).setCell (by simp; omega) _).setCell (by simp; omega) _).setCell (by simp; omega) _).setCell (by simp; omega) _
          · have := hB2.size
            simp
            omega
        · have HS := Lib.hid (fun rest => hrun.bad hk hz rest)
          have hzb : (doE s ((1 : Fin 4), a, t) != 0) = true := by simpa using hz
          generalize doD s ((1 : Fin 4), a, t) = s' at K
          generalize doE s ((1 : Fin 4), a, t) = E at K HS hzb
          have HK := Lib.hid K
          clear K hk hz htx hwr hTW hfo
          gi_wp2_with fail
          refine (CallsIn.inRound y (callsIn_wide.2 HK.out)).mono ?_
          rintro e w2 ⟨vb2, vw2, rfl, ho2, hB2⟩
          obtain ⟨ab2, nb2, cb2, aw2, nw2, cw2, rfl, rfl, hnb2, hnw2⟩ := ho2.forms
          clear hnb2 hnw2 ho2
          have hf2 := hf.below hB2
          have he2 := boxed_below he hB2
          have hx2 := hxx.below hB2
          have hy2 := boxed_below hyy hB2
          have hz2 := boxed_below hzz hB2
          clear f0 f1 ff0 ff1 fl halc half hnc hkc w0 w1c w2c
          obtain ⟨f0, f1, ff0, ff1, fl⟩ := hf2.cells
          obtain ⟨x0, x1, xf0, xf1, xl⟩ := hx2.cells
          have hec := he2.cell
          have hef := he2.frozen
          have hyc := hy2.cell
          have hyf := hy2.frozen
          have hzc := hz2.cell
          have hzf := hz2.frozen
          gi_wp2_with fail
          have p1 : Bx (((w2.setCell ⟨Bf, 0, none⟩ (.slice ab2 nb2 cb2)).setCell ⟨Bf, 1, none⟩ (.slice aw2 nw2 cw2)).setCell ⟨Bf + 1 + 1 + 1, 0, none⟩ (.int .i64 E)) (w.heap.size + 1 + 1) (.slice none 0 0) (.slice none 0 0) := bx_one (bx_other hx2 (by omega) _ _) (by omega) _
          have p2 : Boxed (((w2.setCell ⟨Bf, 0, none⟩ (.slice ab2 nb2 cb2)).setCell ⟨Bf, 1, none⟩ (.slice aw2 nw2 cw2)).setCell ⟨Bf + 1 + 1 + 1, 0, none⟩ (.int .i64 E)) (w.heap.size + 1 + 1 + 1) 4 (.bool false) := (boxed_two hy2 (by omega) _ _).other (by omega) _
          have p3 : Boxed (((w2.setCell ⟨Bf, 0, none⟩ (.slice ab2 nb2 cb2)).setCell ⟨Bf, 1, none⟩ (.slice aw2 nw2 cw2)).setCell ⟨Bf + 1 + 1 + 1, 0, none⟩ (.int .i64 E)) (w.heap.size + 1 + 1 + 1 + 1) 27 (.int .i64 0) := (boxed_two hz2 (by omega) _ _).other (by omega) _
          have p4 : Boxed (((w2.setCell ⟨Bf, 0, none⟩ (.slice ab2 nb2 cb2)).setCell ⟨Bf, 1, none⟩ (.slice aw2 nw2 cw2)).setCell ⟨Bf + 1 + 1 + 1, 0, none⟩ (.int .i64 E)) (Bf + 1 + 1 + 1) 27 (.int .i64 E) := Boxed.set _ (boxed_two he2 (by omega) _ _)
          have p5 : KeepsOthers W (((w2.setCell ⟨Bf, 0, none⟩ (.slice ab2 nb2 cb2)).setCell ⟨Bf, 1, none⟩ (.slice aw2 nw2 cw2)).setCell ⟨Bf + 1 + 1 + 1, 0, none⟩ (.int .i64 E)) := (KeepsOthers.of_grownBy (below_grown hB2) (fun j o e => by cases e)).trans (((KeepsOthers.setCell _ _ _).trans (KeepsOthers.setCell _ _ _)).trans (KeepsOthers.setCell _ _ _))
          have p6 : Below w.heap.size w (((w2.setCell ⟨Bf, 0, none⟩ (.slice ab2 nb2 cb2)).setCell ⟨Bf, 1, none⟩ (.slice aw2 nw2 cw2)).setCell ⟨Bf + 1 + 1 + 1, 0, none⟩ (.int .i64 E)) := (((hBW.trans (hB2.mono hBWs)).setCell (by simp; omega) _).setCell (by simp; omega) _).setCell (by simp; omega) _
          generalize ((w2.setCell ⟨Bf, 0, none⟩ (.slice ab2 nb2 cb2)).setCell ⟨Bf, 1, none⟩ (.slice aw2 nw2 cw2)).setCell ⟨Bf + 1 + 1 + 1, 0, none⟩ (.int .i64 E) = W3 at p1 p2 p3 p4 p5 p6 ⊢
          clear f0 f1 ff0 ff1 fl x0 x1 xf0 xf1 xl hec hef hyc hyf hzc hzf hf2 he2 hx2 hy2 hz2
          refine reg15_wp p1 p2 p3 p4 hBf5 (fun a' => ?_)
          gi_wp2_with fail
          exact ⟨(p5.trans ((((KeepsOthers.setCell _ _ _).trans (KeepsOthers.setCell _ _ _)).trans ((KeepsOthers.setCell _ _ _).trans (KeepsOthers.setCell _ _ _))).trans (KeepsOthers.drew _))).from _, .inr ⟨rfl, _, HS.out, BehE.made p1 p2 p3 p6⟩⟩
      · rw [show ((((2 : Fin 4)).val : Nat) : Int) = 2 from rfl] at w0
        have K : Calls Tryd.prog 40 _ W fun e w' => ∃ vb' vw', e = .returned (.tuple #[.agg #[vb', vw'], .bool (stopD s.1 s.2 0 t 1), .int .i64 (doE s ((2 : Fin 4), a, t))]) ∧ OwnD w' W.heap.size vb' (doD s ((2 : Fin 4), a, t)).1 vw' (doD s ((2 : Fin 4), a, t)).2 ∧ Below W.heap.size W w' := stop_calls _ _ s.1 s.2 0 (by omega) t 1 W htx hwr hTW
        by_cases hz : doE s ((2 : Fin 4), a, t) = 0
        · have HS := Lib.hid (hrun.good hk hz)
          rw [hz] at K
          generalize doD s ((2 : Fin 4), a, t) = s' at K HS
          have HK := Lib.hid K
          clear K hk hz htx hwr hTW hfo
          gi_wp2_with fail
          refine (CallsIn.inRound y (callsIn_wide.2 HK.out)).mono ?_
          rintro e w2 ⟨vb2, vw2, rfl, ho2, hB2⟩
          obtain ⟨ab2, nb2, cb2, aw2, nw2, cw2, rfl, rfl, hnb2, hnw2⟩ := ho2.forms
          clear hnb2 hnw2
          have hf2 := hf.below hB2
          have he2 := boxed_below he hB2
          have hn2 := boxed_below hn hB2
          clear f0 f1 ff0 ff1 fl halc half hnc hkc w0 w1c w2c
          obtain ⟨f0, f1, ff0, ff1, fl⟩ := hf2.cells
          have hec := he2.cell
          have hef := he2.frozen
          have hnc := hn2.cell
          have hnf := hn2.frozen
          have HO := Lib.hid ho2
          clear ho2
          gi_wp2_with fail
          have hM := hIH.out.more (k := k) hBf5 hB2 HO.out (m := (pre ++ [((2 : Fin 4), a, t)]).length) (by simp)
          have hlen1 : (((pre ++ [((2 : Fin 4), a, t)]).length : Nat) : Int) = (pre.length : Int) + 1 := by simp
          rw [hlen1] at hM
          refine ⟨((KeepsOthers.of_grownBy (below_grown hB2) (fun j o e => by cases e)).trans (((KeepsOthers.setCell _ _ _).trans (KeepsOthers.setCell _ _ _)).trans ((KeepsOthers.setCell _ _ _).trans (KeepsOthers.setCell _ _ _)))).from _, ?_, _, HS.out, hM, ?_⟩
          · exact ((((hB2.mono hBWs).setCell (by simp; omega) _).setCell (by simp; omega) _).setCell (by simp; omega) _).setCell (by simp; omega) _
          · have := hB2.size
            simp
            omega
        · have HS := Lib.hid (fun rest => hrun.bad hk hz rest)
          have hzb : (doE s ((2 : Fin 4), a, t) != 0) = true := by simpa using hz
          generalize doD s ((2 : Fin 4), a, t) = s' at K
          generalize doE s ((2 : Fin 4), a, t) = E at K HS hzb
          have HK := Lib.hid K
          clear K hk hz htx hwr hTW hfo
          gi_wp2_with fail
          refine (CallsIn.inRound y (callsIn_wide.2 HK.out)).mono ?_
          rintro e w2 ⟨vb2, vw2, rfl, ho2, hB2⟩
          obtain ⟨ab2, nb2, cb2, aw2, nw2, cw2, rfl, rfl, hnb2, hnw2⟩ := ho2.forms
          clear hnb2 hnw2 ho2
          have hf2 := hf.below hB2
          have he2 := boxed_below he hB2
          have hx2 := hxx.below hB2
          have hy2 := boxed_below hyy hB2
          have hz2 := boxed_below hzz hB2
          clear f0 f1 ff0 ff1 fl halc half hnc hkc w0 w1c w2c
          obtain ⟨f0, f1, ff0, ff1, fl⟩ := hf2.cells
          obtain ⟨x0, x1, xf0, xf1, xl⟩ := hx2.cells
          have hec := he2.cell
          have hef := he2.frozen
          have hyc := hy2.cell
          have hyf := hy2.frozen
          have hzc := hz2.cell
          have hzf := hz2.frozen
          gi_wp2_with fail
          have p1 : Bx (((w2.setCell ⟨Bf, 0, none⟩ (.slice ab2 nb2 cb2)).setCell ⟨Bf, 1, none⟩ (.slice aw2 nw2 cw2)).setCell ⟨Bf + 1 + 1 + 1, 0, none⟩ (.int .i64 E)) (w.heap.size + 1 + 1) (.slice none 0 0) (.slice none 0 0) := bx_one (bx_other hx2 (by omega) _ _) (by omega) _
          have p2 : Boxed (((w2.setCell ⟨Bf, 0, none⟩ (.slice ab2 nb2 cb2)).setCell ⟨Bf, 1, none⟩ (.slice aw2 nw2 cw2)).setCell ⟨Bf + 1 + 1 + 1, 0, none⟩ (.int .i64 E)) (w.heap.size + 1 + 1 + 1) 4 (.bool false) := (boxed_two hy2 (by omega) _ _).other (by omega) _
          have p3 : Boxed (((w2.setCell ⟨Bf, 0, none⟩ (.slice ab2 nb2 cb2)).setCell ⟨Bf, 1, none⟩ (.slice aw2 nw2 cw2)).setCell ⟨Bf + 1 + 1 + 1, 0, none⟩ (.int .i64 E)) (w.heap.size + 1 + 1 + 1 + 1) 27 (.int .i64 0) := (boxed_two hz2 (by omega) _ _).other (by omega) _
          have p4 : Boxed (((w2.setCell ⟨Bf, 0, none⟩ (.slice ab2 nb2 cb2)).setCell ⟨Bf, 1, none⟩ (.slice aw2 nw2 cw2)).setCell ⟨Bf + 1 + 1 + 1, 0, none⟩ (.int .i64 E)) (Bf + 1 + 1 + 1) 27 (.int .i64 E) := Boxed.set _ (boxed_two he2 (by omega) _ _)
          have p5 : KeepsOthers W (((w2.setCell ⟨Bf, 0, none⟩ (.slice ab2 nb2 cb2)).setCell ⟨Bf, 1, none⟩ (.slice aw2 nw2 cw2)).setCell ⟨Bf + 1 + 1 + 1, 0, none⟩ (.int .i64 E)) := (KeepsOthers.of_grownBy (below_grown hB2) (fun j o e => by cases e)).trans (((KeepsOthers.setCell _ _ _).trans (KeepsOthers.setCell _ _ _)).trans (KeepsOthers.setCell _ _ _))
          have p6 : Below w.heap.size w (((w2.setCell ⟨Bf, 0, none⟩ (.slice ab2 nb2 cb2)).setCell ⟨Bf, 1, none⟩ (.slice aw2 nw2 cw2)).setCell ⟨Bf + 1 + 1 + 1, 0, none⟩ (.int .i64 E)) := (((hBW.trans (hB2.mono hBWs)).setCell (by simp; omega) _).setCell (by simp; omega) _).setCell (by simp; omega) _
          generalize ((w2.setCell ⟨Bf, 0, none⟩ (.slice ab2 nb2 cb2)).setCell ⟨Bf, 1, none⟩ (.slice aw2 nw2 cw2)).setCell ⟨Bf + 1 + 1 + 1, 0, none⟩ (.int .i64 E) = W3 at p1 p2 p3 p4 p5 p6 ⊢
          clear f0 f1 ff0 ff1 fl x0 x1 xf0 xf1 xl hec hef hyc hyf hzc hzf hf2 he2 hx2 hy2 hz2
          refine reg15_wp p1 p2 p3 p4 hBf5 (fun a' => ?_)
          gi_wp2_with fail
          exact ⟨(p5.trans ((((KeepsOthers.setCell _ _ _).trans (KeepsOthers.setCell _ _ _)).trans ((KeepsOthers.setCell _ _ _).trans (KeepsOthers.setCell _ _ _))).trans (KeepsOthers.drew _))).from _, .inr ⟨rfl, _, HS.out, BehE.made p1 p2 p3 p6⟩⟩
      · rw [show ((((3 : Fin 4)).val : Nat) : Int) = 3 from rfl] at w0
        have K : Calls Tryd.prog 41 _ W fun e w' => ∃ vb' vw', e = .returned (.tuple #[.agg #[vb', vw'], .int .i64 (doE s ((3 : Fin 4), a, t))]) ∧ OwnD w' W.heap.size vb' (doD s ((3 : Fin 4), a, t)).1 vw' (doD s ((3 : Fin 4), a, t)).2 ∧ Below W.heap.size W w' := sync_calls _ _ s.1 s.2 W htx hwr
        by_cases hz : doE s ((3 : Fin 4), a, t) = 0
        · have HS := Lib.hid (hrun.good hk hz)
          rw [hz] at K
          generalize doD s ((3 : Fin 4), a, t) = s' at K HS
          have HK := Lib.hid K
          clear K hk hz htx hwr hTW hfo
          gi_wp2_with fail
          refine (CallsIn.inRound y (callsIn_wide.2 HK.out)).mono ?_
          rintro e w2 ⟨vb2, vw2, rfl, ho2, hB2⟩
          obtain ⟨ab2, nb2, cb2, aw2, nw2, cw2, rfl, rfl, hnb2, hnw2⟩ := ho2.forms
          clear hnb2 hnw2
          have hf2 := hf.below hB2
          have he2 := boxed_below he hB2
          have hn2 := boxed_below hn hB2
          clear f0 f1 ff0 ff1 fl halc half hnc hkc w0 w1c w2c
          obtain ⟨f0, f1, ff0, ff1, fl⟩ := hf2.cells
          have hec := he2.cell
          have hef := he2.frozen
          have hnc := hn2.cell
          have hnf := hn2.frozen
          have HO := Lib.hid ho2
          clear ho2
          gi_wp2_with fail
          have hM := hIH.out.more (k := k) hBf5 hB2 HO.out (m := (pre ++ [((3 : Fin 4), a, t)]).length) (by simp)
          have hlen1 : (((pre ++ [((3 : Fin 4), a, t)]).length : Nat) : Int) = (pre.length : Int) + 1 := by simp
          rw [hlen1] at hM
          refine ⟨((KeepsOthers.of_grownBy (below_grown hB2) (fun j o e => by cases e)).trans (((KeepsOthers.setCell _ _ _).trans (KeepsOthers.setCell _ _ _)).trans ((KeepsOthers.setCell _ _ _).trans (KeepsOthers.setCell _ _ _)))).from _, ?_, _, HS.out, hM, ?_⟩
          · exact ((((hB2.mono hBWs).setCell (by simp; omega) _).setCell (by simp; omega) _).setCell (by simp; omega) _).setCell (by simp; omega) _
          · have := hB2.size
            simp
            omega
        · have HS := Lib.hid (fun rest => hrun.bad hk hz rest)
          have hzb : (doE s ((3 : Fin 4), a, t) != 0) = true := by simpa using hz
          generalize doD s ((3 : Fin 4), a, t) = s' at K
          generalize doE s ((3 : Fin 4), a, t) = E at K HS hzb
          have HK := Lib.hid K
          clear K hk hz htx hwr hTW hfo
          gi_wp2_with fail
          refine (CallsIn.inRound y (callsIn_wide.2 HK.out)).mono ?_
          rintro e w2 ⟨vb2, vw2, rfl, ho2, hB2⟩
          obtain ⟨ab2, nb2, cb2, aw2, nw2, cw2, rfl, rfl, hnb2, hnw2⟩ := ho2.forms
          clear hnb2 hnw2 ho2
          have hf2 := hf.below hB2
          have he2 := boxed_below he hB2
          have hx2 := hxx.below hB2
          have hy2 := boxed_below hyy hB2
          have hz2 := boxed_below hzz hB2
          clear f0 f1 ff0 ff1 fl halc half hnc hkc w0 w1c w2c
          obtain ⟨f0, f1, ff0, ff1, fl⟩ := hf2.cells
          obtain ⟨x0, x1, xf0, xf1, xl⟩ := hx2.cells
          have hec := he2.cell
          have hef := he2.frozen
          have hyc := hy2.cell
          have hyf := hy2.frozen
          have hzc := hz2.cell
          have hzf := hz2.frozen
          gi_wp2_with fail
          have p1 : Bx (((w2.setCell ⟨Bf, 0, none⟩ (.slice ab2 nb2 cb2)).setCell ⟨Bf, 1, none⟩ (.slice aw2 nw2 cw2)).setCell ⟨Bf + 1 + 1 + 1, 0, none⟩ (.int .i64 E)) (w.heap.size + 1 + 1) (.slice none 0 0) (.slice none 0 0) := bx_one (bx_other hx2 (by omega) _ _) (by omega) _
          have p2 : Boxed (((w2.setCell ⟨Bf, 0, none⟩ (.slice ab2 nb2 cb2)).setCell ⟨Bf, 1, none⟩ (.slice aw2 nw2 cw2)).setCell ⟨Bf + 1 + 1 + 1, 0, none⟩ (.int .i64 E)) (w.heap.size + 1 + 1 + 1) 4 (.bool false) := (boxed_two hy2 (by omega) _ _).other (by omega) _
          have p3 : Boxed (((w2.setCell ⟨Bf, 0, none⟩ (.slice ab2 nb2 cb2)).setCell ⟨Bf, 1, none⟩ (.slice aw2 nw2 cw2)).setCell ⟨Bf + 1 + 1 + 1, 0, none⟩ (.int .i64 E)) (w.heap.size + 1 + 1 + 1 + 1) 27 (.int .i64 0) := (boxed_two hz2 (by omega) _ _).other (by omega) _
          have p4 : Boxed (((w2.setCell ⟨Bf, 0, none⟩ (.slice ab2 nb2 cb2)).setCell ⟨Bf, 1, none⟩ (.slice aw2 nw2 cw2)).setCell ⟨Bf + 1 + 1 + 1, 0, none⟩ (.int .i64 E)) (Bf + 1 + 1 + 1) 27 (.int .i64 E) := Boxed.set _ (boxed_two he2 (by omega) _ _)
          have p5 : KeepsOthers W (((w2.setCell ⟨Bf, 0, none⟩ (.slice ab2 nb2 cb2)).setCell ⟨Bf, 1, none⟩ (.slice aw2 nw2 cw2)).setCell ⟨Bf + 1 + 1 + 1, 0, none⟩ (.int .i64 E)) := (KeepsOthers.of_grownBy (below_grown hB2) (fun j o e => by cases e)).trans (((KeepsOthers.setCell _ _ _).trans (KeepsOthers.setCell _ _ _)).trans (KeepsOthers.setCell _ _ _))
          have p6 : Below w.heap.size w (((w2.setCell ⟨Bf, 0, none⟩ (.slice ab2 nb2 cb2)).setCell ⟨Bf, 1, none⟩ (.slice aw2 nw2 cw2)).setCell ⟨Bf + 1 + 1 + 1, 0, none⟩ (.int .i64 E)) := (((hBW.trans (hB2.mono hBWs)).setCell (by simp; omega) _).setCell (by simp; omega) _).setCell (by simp; omega) _
          generalize ((w2.setCell ⟨Bf, 0, none⟩ (.slice ab2 nb2 cb2)).setCell ⟨Bf, 1, none⟩ (.slice aw2 nw2 cw2)).setCell ⟨Bf + 1 + 1 + 1, 0, none⟩ (.int .i64 E) = W3 at p1 p2 p3 p4 p5 p6 ⊢
          clear f0 f1 ff0 ff1 fl x0 x1 xf0 xf1 xl hec hef hyc hyf hzc hzf hf2 he2 hx2 hy2 hz2
          refine reg15_wp p1 p2 p3 p4 hBf5 (fun a' => ?_)
          gi_wp2_with fail
          exact ⟨(p5.trans ((((KeepsOthers.setCell _ _ _).trans (KeepsOthers.setCell _ _ _)).trans ((KeepsOthers.setCell _ _ _).trans (KeepsOthers.setCell _ _ _))).trans (KeepsOthers.drew _))).from _, .inr ⟨rfl, _, HS.out, BehE.made p1 p2 p3 p6⟩⟩
  case done =>
    rintro D ys W hD rfl ⟨s, hrun, hI, hsl⟩ hK
    have hR : runR (bs, ws) (deedsL l us tb) k = (0, true, s) := by
      have := hrun []
      rw [List.append_nil] at this
      exact this
    have HR := Lib.hid hR
    obtain ⟨⟨a1, n1, c1, a2, n2, c2, hf, hfo⟩, hal, hn, he, hkk, hxx, hyy, hzz, hBW⟩ := hI
    obtain ⟨f0, f1, ff0, ff1, fl⟩ := hf.cells
    have halc := hal.cell
    obtain ⟨x0, x1, xf0, xf1, xl⟩ := hxx.cells
    have hyc := hyy.cell
    have hyf := hyy.frozen
    have hzc := hzz.cell
    have hzf := hzz.frozen
    clear hR hrun
    go_wp2_with fail
    go_region
    all_goals (go_wp2_with fail)
    all_goals (try rw [Exit.noGoto_ret])
    all_goals (obtain ⟨W4, hW4, r0, r1, r2, r3, r4, r5⟩ := beh_ret true hxx hyy hzz hBW hfo (Nat.le_trans hBl2.size hD) hK
               rw [hW4]
               refine ⟨by simp, .inl ⟨_, _, rfl, run_takeDeferred r0, ?_⟩⟩
               refine ⟨_, res_boxes (p := 6) (q := 7) (r := 8) (by kernel_rfl) _ _ (w.heap.size + 1 + 1) (w.heap.size + 1 + 1 + 1) (w.heap.size + 1 + 1 + 1 + 1) _ _ _ _ rfl rfl rfl r1.cells.1 r1.cells.2.1 r2.cell r3.cell, ?_⟩
               rw [HR.out]
               exact ⟨_, _, rfl, r4, r5⟩)
  case stop =>
    rintro D c pre W hD hpre hs hK
    rcases hs with ⟨rfl, s, hrun, n, hI⟩ | ⟨rfl, E, hrun, hE⟩
    · have hR : runR (bs, ws) (deedsL l us tb) k = (0, false, s) := by
        obtain ⟨rest, hrest⟩ := hpre
        rw [← hrest]
        exact hrun rest
      have HR := Lib.hid hR
      obtain ⟨⟨a1, n1, c1, a2, n2, c2, hf, hfo⟩, hal, hn, he, hkk, hxx, hyy, hzz, hBW⟩ := hI
      obtain ⟨f0, f1, ff0, ff1, fl⟩ := hf.cells
      have halc := hal.cell
      obtain ⟨x0, x1, xf0, xf1, xl⟩ := hxx.cells
      have hyc := hyy.cell
      have hyf := hyy.frozen
      have hzc := hzz.cell
      have hzf := hzz.frozen
      clear hR hrun
      gi_wp2_with fail
      go_wp2_with fail
      go_region
      all_goals (go_wp2_with fail)
      all_goals (try rw [Exit.noGoto_ret])
      all_goals (obtain ⟨W4, hW4, r0, r1, r2, r3, r4, r5⟩ := beh_ret false hxx hyy hzz hBW hfo (Nat.le_trans hBl2.size hD) hK
                 rw [hW4]
                 refine ⟨by simp, .inl ⟨_, _, rfl, run_takeDeferred r0, ?_⟩⟩
                 refine ⟨_, res_boxes (p := 6) (q := 7) (r := 8) (by kernel_rfl) _ _ (w.heap.size + 1 + 1) (w.heap.size + 1 + 1 + 1) (w.heap.size + 1 + 1 + 1 + 1) _ _ _ _ rfl rfl rfl r1.cells.1 r1.cells.2.1 r2.cell r3.cell, ?_⟩
                 rw [HR.out]
                 exact ⟨_, _, rfl, r4, r5⟩)
    · have hR : runR (bs, ws) (deedsL l us tb) k = (E, false, [], []) := by
        obtain ⟨rest, hrest⟩ := hpre
        rw [← hrest]
        exact hrun rest
      have HR := Lib.hid hR
      obtain ⟨hxx, hyy, hzz, hBW⟩ := hE
      clear hR hrun
      gi_wp2_with fail
      rw [Exit.noGoto_ret]
      obtain ⟨r1, r2, r3, r5⟩ := beh_ret2 ⟨hxx, hyy, hzz, hBW⟩ (Nat.le_trans hBl2.size hD) hK
      refine ⟨by simp, .inl ⟨_, _, rfl, run_takeDeferred hK, ?_⟩⟩
      refine ⟨_, res_boxes (p := 6) (q := 7) (r := 8) (by kernel_rfl) _ _ (w.heap.size + 1 + 1) (w.heap.size + 1 + 1 + 1) (w.heap.size + 1 + 1 + 1 + 1) _ _ _ _ rfl rfl rfl r1.cells.1 r1.cells.2.1 r2.cell r3.cell, ?_⟩
      rw [HR.out]
      exact ⟨_, _, rfl, nil_own _ _, r5⟩

end Go.Proofs.YtdbidfbjfongbaaDoor

/-
  slot.readTable: the blocks that a table names.
-/
namespace Go.Proofs.YtdbidfbjfongbaaDoor
open Go.RowKit

theorem tab_none {t : List UInt8} {n : Nat} (h0 : t ≠ []) (h : getR t = none) : tabL t n = none := by simp [tabL, h0, h]
theorem tab_rest {t q : List UInt8} {row : List (List UInt8)} {n : Nat} (h0 : t ≠ []) (h : getR t = some (row, q)) (hq : q ≠ []) : tabL t n = none := by simp [tabL, h0, h, hq]
theorem tab_row {t : List UInt8} {row : List (List UInt8)} {n : Nat} (h0 : t ≠ []) (h : getR t = some (row, [])) : tabL t n = tabGo n row [] := by simp [tabL, h0, h]
theorem go_end {n : Nat} {row : List (List UInt8)} {acc : List Nat} {R : Option (List Nat)} (h : tabGo n (row.drop row.length) acc = R) : R = some acc := by
  rw [List.drop_length] at h
  exact h.symm
theorem go_no {n k : Nat} {row : List (List UInt8)} {acc : List Nat} {R : Option (List Nat)} (h : tabGo n (row.drop k) acc = R) (hk : k < row.length) {x : List UInt8} (hx : row[k] = x) (hg : getN x = none) : R = none := by
  rw [List.drop_eq_getElem_cons hk, hx] at h
  simpa [tabGo, hg] using h.symm
theorem go_bad {n k : Nat} {row : List (List UInt8)} {acc : List Nat} {R : Option (List Nat)} (h : tabGo n (row.drop k) acc = R) (hk : k < row.length) {x q : List UInt8} {a : Nat} (hx : row[k] = x) (hg : getN x = some (a, q)) (hc : ¬ (q = [] ∧ 2 ≤ a ∧ a < n ∧ a ∉ acc)) : R = none := by
  rw [List.drop_eq_getElem_cons hk, hx] at h
  simp only [tabGo, hg] at h
  rw [if_neg hc] at h
  exact h.symm
theorem go_yes {n k : Nat} {row : List (List UInt8)} {acc : List Nat} {R : Option (List Nat)} (h : tabGo n (row.drop k) acc = R) (hk : k < row.length) {x : List UInt8} {a : Nat} (hx : row[k] = x) (hg : getN x = some (a, [])) (h2 : 2 ≤ a) (hn : a < n) (hm : a ∉ acc) : tabGo n (row.drop (k + 1)) (acc ++ [a]) = R := by
  rw [List.drop_eq_getElem_cons hk, hx] at h
  simp only [tabGo, hg] at h
  rw [if_pos ⟨trivial, h2, hn, hm⟩] at h
  exact h
theorem own_weakN {w : World} {b b' : Nat} {v : Value} {T : List Nat} (h : OwnN w b' v T) (hb : b ≤ b') : OwnN w b v T := own_weak h hb
theorem own_belowN {w w' : World} {b : Nat} {v : Value} {T : List Nat} (h : OwnN w b v T) (hb : Below w.heap.size w w') : OwnN w' b v T := own_stays h hb

set_option maxRecDepth 100000 in
set_option maxHeartbeats 4000000 in
theorem table_calls (t : List UInt8) (n : Nat) (hm : t.length ≤ 1000000) (w : World) :
    Calls Tryd.prog 32 #[.string ⟨t.toArray⟩, .int .i64 (n : Int)] w fun e w' => ∃ v, e = .returned (.tuple #[v, .bool (tabL t n).isSome]) ∧ OwnN w' w.heap.size v ((tabL t n).getD []) ∧ Below w.heap.size w w' := by
  obtain ⟨i0, hi, hz0, hz1, hz2⟩ := info_parts infoInt
  by_cases h0 : t = []
  · subst h0
    have H := Lib.hid (show tabL [] n = some [] from rfl)
    go_enter Tryd.func32, Tryd.ntmps32
    go_wp2_with fail
    go_ret2
    exact ⟨_, by rw [H.out]; rfl, by rw [H.out]; exact OwnN.nil _ _, Below.refl _ _⟩
  have hb0 : (t == []) = false := by simp [h0]
  cases hr : getR t with
  | none =>
    have H := Lib.hid (tab_none (n := n) h0 hr)
    have HR := Lib.hid hr
    clear hr h0
    go_enter Tryd.func32, Tryd.ntmps32
    go_wp2_with fail
    refine (GetRow_none t (by omega) HR.out _).mono ?_
    rintro e w1 ⟨rfl, hB1⟩
    go_wp2_with fail
    go_ret2
    exact ⟨_, by rw [H.out]; rfl, by rw [H.out]; exact OwnN.nil _ _, hB1⟩
  | some x =>
    obtain ⟨row, q⟩ := x
    by_cases hq : q = []
    · subst hq
      have hrl := (getR_laid hr).2.1
      have H := Lib.hid (tab_row (n := n) h0 hr)
      have HR := Lib.hid hr
      clear hr h0
      go_enter Tryd.func32, Tryd.ntmps32
      go_wp2_with fail
      refine (GetRow_some t (by omega) HR.out _).mono ?_
      rintro e w1 ⟨v1, rfl, hB1, ho1⟩
      have ht1 := Txts.own ho1
      clear ho1
      obtain ⟨ao, cap, rfl⟩ := ht1.strs.form
      go_wp2_with fail
      go_loopw [9, 31] (fun v i wr => ∃ (k : Nat) (acc : List Nat), k ≤ row.length ∧ i = .int .i64 k ∧ acc.length ≤ k ∧ tabGo n (row.drop k) acc = tabL t n ∧ OwnN wr w1.heap.size v acc ∧ Below w1.heap.size w1 wr) (fun _ i _ => row.length - (intOf i).toNat)
      case atStart => exact ⟨0, [], Nat.zero_le _, rfl, Nat.le_refl _, by rw [H.out]; rfl, OwnN.nil _ _, Below.refl _ _⟩
      case round =>
        obtain ⟨k, acc, hk, rfl, hal, hgo, hown, hB⟩ := hrel
        by_cases hlt : k < row.length
        · obtain ⟨b, off, rfl, hcell⟩ := (ht1.below hB).strs.at hlt
          have hbl := World.block_lt_of_cell? wr _ hcell
          obtain ⟨x, hx⟩ : ∃ x, row[k] = x := ⟨_, rfl⟩
          rw [hx] at hcell
          have hxl : x.length ≤ 1000000 := by
            have := (getR_laid HR.out).2.2 _ (List.getElem_mem hlt)
            rw [hx] at this
            omega
          cases hg : getN x with
          | none =>
            have HF := Lib.hid (go_no hgo hlt hx hg)
            have HG := Lib.hid hg
            clear hgo hx hg
            go_wp2_with fail
            refine (GetNumber_none x (by omega) HG.out _).mono ?_
            rintro e w2 ⟨rfl, hB2⟩
            go_wp2_with fail
            go_ret2
            exact ⟨_, by rw [HF.out]; rfl, by rw [HF.out]; exact OwnN.nil _ _, below3 hB1 hB hB2⟩
          | some y =>
            obtain ⟨a, q⟩ := y
            have hab := (getN_bounds hg).1
            by_cases hq : q = []
            · subst hq
              by_cases h2 : 2 ≤ a
              · have c2 : decide ((a : Int) < 2) = false := by simp; omega
                by_cases h3 : a < n
                · have c3 : decide ((n : Int) ≤ (a : Int)) = false := by simp; omega
                  by_cases hmem : a ∈ acc
                  · have HF := Lib.hid (go_bad hgo hlt hx hg (by simp [hmem]))
                    have HG := Lib.hid hg
                    have c4 : decide (a ∈ acc) = true := by simp [hmem]
                    have HM := Lib.hid c4
                    clear hgo hx hg hmem c4
                    go_wp2_with fail
                    refine (GetNumber_some x (by omega) HG.out _).mono ?_
                    rintro e w2 ⟨rfl, hB2⟩
                    go_wp2_with fail
                    refine (contains_calls _ acc a _ (own_belowN hown hB2).nats (by omega)).mono ?_
                    rintro e w3 ⟨rfl, rfl⟩
                    rw [HM.out]
                    go_wp2_with fail
                    go_ret2
                    exact ⟨_, by rw [HF.out]; rfl, by rw [HF.out]; exact OwnN.nil _ _, below3 hB1 hB hB2⟩
                  · have HF := Lib.hid (go_yes hgo hlt hx hg h2 h3 hmem)
                    have HG := Lib.hid hg
                    have c4 : decide (a ∈ acc) = false := by simp [hmem]
                    have HM := Lib.hid c4
                    clear hgo hx hg hmem c4
                    go_wp2_with fail
                    refine (GetNumber_some x (by omega) HG.out _).mono ?_
                    rintro e w2 ⟨rfl, hB2⟩
                    have hown2 := own_belowN hown hB2
                    go_wp2_with fail
                    refine (contains_calls _ acc a _ hown2.nats (by omega)).mono ?_
                    rintro e w3 ⟨rfl, rfl⟩
                    rw [HM.out]
                    go_wp2_with (at_builtin; refine wpList_append_own _ rfl _ _ 33 rfl w1.heap.size 3 i0 (.int .i64 0) 1 8 Tryd.underlying33 hi hz0 hz1 hz2 rfl (by decide) _ _ _ rfl (World.ownsRow.alloc hown2 _) ⟨w2.heap.size, 0, none⟩ 1 1 [.int .i64 (a : Int)] rfl rfl (cell_one_new _ _ _) (by simp [Value.oneCell']) (by unfold maxLen; omega) (by omega) (by have := hB.size; have := hB2.size; simp; omega) ?_; intro v3 w3 hown3 hg3 _)
                    go_roundw
                    case rel => exact ⟨k + 1, acc ++ [a], by omega, by go_num, by simp; omega, HF.out, by simpa [OwnN, NV] using hown3, ((hB.trans (hB2.mono hB.size)).alloc (Nat.le_trans hB.size hB2.size) _).grown hg3 (by have := hB.size; have := hB2.size; simp; omega) (fun j e => (World.ownsRow.lt hown j e).1)⟩
                    case measure => simp [intOf]; omega
                · have c3 : decide ((n : Int) ≤ (a : Int)) = true := by simp; omega
                  have HF := Lib.hid (go_bad hgo hlt hx hg (by simp [h3]))
                  have HG := Lib.hid hg
                  clear hgo hx hg
                  go_wp2_with fail
                  refine (GetNumber_some x (by omega) HG.out _).mono ?_
                  rintro e w2 ⟨rfl, hB2⟩
                  go_wp2_with fail
                  go_ret2
                  exact ⟨_, by rw [HF.out]; rfl, by rw [HF.out]; exact OwnN.nil _ _, below3 hB1 hB hB2⟩
              · have c2 : decide ((a : Int) < 2) = true := by simp; omega
                have HF := Lib.hid (go_bad hgo hlt hx hg (by simp; omega))
                have HG := Lib.hid hg
                clear hgo hx hg
                go_wp2_with fail
                refine (GetNumber_some x (by omega) HG.out _).mono ?_
                rintro e w2 ⟨rfl, hB2⟩
                go_wp2_with fail
                go_ret2
                exact ⟨_, by rw [HF.out]; rfl, by rw [HF.out]; exact OwnN.nil _ _, below3 hB1 hB hB2⟩
            · have hqb : (q == []) = false := by simp [hq]
              have HF := Lib.hid (go_bad hgo hlt hx hg (by simp [hq]))
              have HG := Lib.hid hg
              clear hgo hx hg hq
              go_wp2_with fail
              refine (GetNumber_some x (by omega) HG.out _).mono ?_
              rintro e w2 ⟨rfl, hB2⟩
              go_wp2_with fail
              go_ret2
              exact ⟨_, by rw [HF.out]; rfl, by rw [HF.out]; exact OwnN.nil _ _, below3 hB1 hB hB2⟩
        · obtain rfl : k = row.length := by omega
          have HF := Lib.hid (go_end hgo)
          clear hgo
          obtain ⟨ao', cap', rfl⟩ := hown.nats.form
          go_wp2_with fail
          go_ret2
          exact ⟨_, by rw [HF.out]; rfl, by rw [HF.out]; exact own_weakN hown hB1.size, below2 hB1 hB⟩
    · have hqb : (q == []) = false := by simp [hq]
      have H := Lib.hid (tab_rest (n := n) h0 hr hq)
      have HR := Lib.hid hr
      clear hr h0 hq
      go_enter Tryd.func32, Tryd.ntmps32
      go_wp2_with fail
      refine (GetRow_some t (by omega) HR.out _).mono ?_
      rintro e w1 ⟨v1, rfl, hB1, ho1⟩
      go_wp2_with fail
      go_ret2
      exact ⟨_, by rw [H.out]; rfl, by rw [H.out]; exact OwnN.nil _ _, hB1⟩

end Go.Proofs.YtdbidfbjfongbaaDoor

/-
  slot.readPages: the texts of the frames that these blocks say.
-/
namespace Go.Proofs.YtdbidfbjfongbaaDoor
open Go.RowKit

theorem page_none {s : List UInt8} (h : getF s = none) : pageB s = false := by simp [pageB, h]
theorem page_rest {s p q : List UInt8} (h : getF s = some (p, q)) (hq : q ≠ []) : pageB s = false := by simp [pageB, h, hq]
theorem page_some {s p : List UInt8} (h : getF s = some (p, [])) : pageB s = true ∧ pageT s = p := by simp [pageB, pageT, h]
theorem pages_not {bs : List (List UInt8)} {ws : List Wr} {T : List Nat} {k : Nat} (hk : k < T.length) (h : pageB (saysL bs ws (T[k] : Nat)) = false) : pagesB bs ws T = false := by
  unfold pagesB
  rw [List.all_eq_false]
  exact ⟨_, List.getElem_mem hk, by simpa using h⟩
theorem pages_take {bs : List (List UInt8)} {ws : List Wr} {T : List Nat} {k : Nat} (hk : k < T.length) (hp : pagesB bs ws (T.take k) = true) (h : pageB (saysL bs ws (T[k] : Nat)) = true) : pagesB bs ws (T.take (k + 1)) = true ∧ pagesL bs ws (T.take (k + 1)) = pagesL bs ws (T.take k) ++ [pageT (saysL bs ws (T[k] : Nat))] := by
  rw [List.take_succ_eq_append_getElem hk]
  refine ⟨?_, by unfold pagesL; rw [List.map_append]; rfl⟩
  unfold pagesB at hp ⊢
  rw [List.all_append, hp]
  simp [h]
theorem says_len {bs : List (List UInt8)} {ws : List Wr} (h : rightB bs ws = true) {i : Nat} (hi : i < bs.length) : (saysL bs ws (i : Int)).length ≤ 256 := by
  obtain ⟨_, _, _, h4, h5⟩ := right_parts h
  rcases lay_from bs ws (fun x hx => (h5 x hx).1) i hi with e | ⟨x, hx, _, e⟩
  · have e2 : saysL bs ws (i : Int) = bs[i] := by
      show (layL bs ws).getD i [] = _
      rw [e]; simp [List.getD, List.getElem?_eq_getElem hi]
    rw [e2]
    exact h4 _ (List.getElem_mem hi)
  · have e2 : saysL bs ws (i : Int) = x.2 := e.symm
    rw [e2]
    exact (h5 x hx).2
def pagesE (bs : List (List UInt8)) (ws : List Wr) (T : List Nat) : Int := if pagesB bs ws T = true then 0 else 30
def pagesO (bs : List (List UInt8)) (ws : List Wr) (T : List Nat) : List (List UInt8) := if pagesB bs ws T = true then pagesL bs ws T else []
theorem pagesO_no {bs : List (List UInt8)} {ws : List Wr} {T : List Nat} (h : pagesB bs ws T = false) : pagesE bs ws T = 30 ∧ pagesO bs ws T = [] := by simp [pagesE, pagesO, h]
theorem pagesO_ok {bs : List (List UInt8)} {ws : List Wr} {T : List Nat} (h : pagesB bs ws T = true) : pagesE bs ws T = 0 ∧ pagesO bs ws T = pagesL bs ws T := by simp [pagesE, pagesO, h]
theorem pagesL_len (bs : List (List UInt8)) (ws : List Wr) (T : List Nat) : (pagesL bs ws T).length = T.length := by simp [pagesL]

set_option maxRecDepth 100000 in
set_option maxHeartbeats 4000000 in
theorem pages_calls (vb vw v : Value) (bs : List (List UInt8)) (ws : List Wr) (T : List Nat) (w : World) (hb : Txts w vb bs) (hw : Wrs w vw ws) (hT : Nats w v T) (hr : rightB bs ws = true) (ha : ∀ a ∈ T, a < bs.length) (hl : T.length ≤ 1000) (hC : TabOk w) :
    Calls Tryd.prog 33 #[.agg #[vb, vw], v] w fun e w' => ∃ v', e = .returned (.tuple #[v', .int .i64 (pagesE bs ws T)]) ∧ w'.ownsRow w.heap.size 9 1 v' (pagesO bs ws T).length ((pagesO bs ws T).map SV) ∧ Below w.heap.size w w' := by
  obtain ⟨i0, hi, hz0, hz1, hz2⟩ := info_parts info9
  obtain ⟨ab, cb, rfl⟩ := hb.strs.form
  obtain ⟨aw, cw, rfl⟩ := hw.form
  obtain ⟨ao, cap, rfl⟩ := hT.form
  obtain ⟨_, _, _, hbl4, hwl5⟩ := right_parts hr
  have hx0 := Bx.new w (.slice ab bs.length cb) (.slice aw ws.length cw)
  have hB0 := below_alloc w (.cells #[.slice ab bs.length cb, .slice aw ws.length cw] 25)
  have HA := Lib.hid ha
  have HR := Lib.hid (And.intro hr (And.intro hbl4 hwl5))
  clear ha hr hbl4 hwl5
  go_enter Tryd.func33, Tryd.ntmps33
  go_wp2_with fail
  go_loopw [6, 15] (fun v i wr => ∃ k : Nat, k ≤ T.length ∧ i = .int .i64 k ∧ pagesB bs ws (T.take k) = true ∧ wr.ownsRow (w.heap.size + 1) 9 1 v k ((pagesL bs ws (T.take k)).map SV) ∧ Below (w.heap.size + 1) (w.alloc (.cells #[.slice ab bs.length cb, .slice aw ws.length cw] 25)) wr) (fun _ i _ => T.length - (intOf i).toNat)
  case atStart => exact ⟨0, Nat.zero_le _, rfl, rfl, by simpa [pagesL] using World.ownsRow_nil _ _ _ _, Below.refl _ _⟩
  case round =>
    obtain ⟨k, hk, rfl, hp, hown, hB⟩ := hrel
    have hBs := hB.size
    simp only [World.size_alloc] at hBs
    have hBW : Below w.heap.size w wr := hB0.trans (hB.mono (by omega))
    have hB' : Below (w.alloc (.cells #[.slice ab bs.length cb, .slice aw ws.length cw] 25)).heap.size (w.alloc (.cells #[.slice ab bs.length cb, .slice aw ws.length cw] 25)) wr := by simpa using hB
    by_cases hlt : k < T.length
    · obtain ⟨b, off, rfl, hcell⟩ := (hT.below hBW).at hlt
      have hbl := World.block_lt_of_cell? wr _ hcell
      have ha := HA.out _ (List.getElem_mem hlt)
      obtain ⟨d0, d1, df0, df1, dl⟩ := (hx0.below hB').cells
      obtain ⟨a, hak⟩ : ∃ a, T[k] = a := ⟨_, rfl⟩
      have e0 : readE bs ws (a : Int) = 0 := read_ok.2 ⟨HR.out.1, hasB_iff.2 (by omega)⟩
      have e1 : readT bs ws (a : Int) = saysL bs ws (a : Int) := by rw [readT, if_pos e0]
      have K := read_calls (.slice ab bs.length cb) (.slice aw ws.length cw) bs ws (a : Int) wr (hb.below hBW) (hw.below hBW)
      rw [e0, e1] at K
      rw [hak] at hcell
      have hsl : (saysL bs ws (a : Int)).length ≤ 4611686018427387904 := by
        have := says_len HR.out.1 (i := a) (by omega)
        omega
      have PN := fun h => pages_not (bs := bs) (ws := ws) hlt (by rw [hak]; exact h)
      have PT := fun h => pages_take (bs := bs) (ws := ws) hlt hp (by rw [hak]; exact h)
      rw [hak] at PT
      obtain ⟨s, hs⟩ : ∃ s, saysL bs ws (a : Int) = s := ⟨_, rfl⟩
      rw [hs] at K PN PT hsl
      have HK := Lib.hid K
      have hTr := hC.below hBW
      clear K hs e0 e1 hak
      cases hg : getF s with
      | none =>
        have HP := Lib.hid (pagesO_no (PN (page_none hg)))
        have HG := Lib.hid hg
        clear PN PT hg hp
        go_wp2_with fail
        refine HK.out.mono ?_
        rintro e w2 ⟨rfl, hB2⟩
        go_wp2_with fail
        refine (get_none s hsl HG.out _ (hTr.below hB2)).mono ?_
        rintro e w3 ⟨rfl, hB3⟩
        go_wp2_with fail
        go_ret2
        exact ⟨_, by rw [HP.out.1]; rfl, by rw [HP.out.2]; exact World.ownsRow_nil _ _ _ _, below3 hBW hB2 hB3⟩
      | some x =>
        obtain ⟨p, q⟩ := x
        by_cases hq : q = []
        · subst hq
          obtain ⟨p1, p2⟩ := page_some hg
          have HP := Lib.hid (PT p1)
          rw [p2] at HP
          have HG := Lib.hid hg
          clear PN PT hg hp p1 p2
          go_wp2_with fail
          refine HK.out.mono ?_
          rintro e w2 ⟨rfl, hB2⟩
          go_wp2_with fail
          refine (get_some s hsl HG.out _ (hTr.below hB2)).mono ?_
          rintro e w3 ⟨rfl, hB3⟩
          have hown3 := own_below (own_below hown hB2) hB3
          have hB2s := hB2.size
          have hB3s := hB3.size
          go_wp2_with (at_builtin; refine wpList_append_own _ rfl _ _ 22 rfl (w.heap.size + 1) 9 i0 (.string ⟨#[]⟩) 1 16 Tryd.underlying22 hi hz0 hz1 hz2 rfl (by decide) _ _ _ rfl (hown3.alloc _) ⟨w3.heap.size, 0, none⟩ 1 1 [.string ⟨p.toArray⟩] rfl rfl (cell_one_new _ _ _) (by simp [Value.oneCell']) (by unfold maxLen; omega) (by omega) (by simp; omega) ?_; intro v4 w4 hown4 hg4 _)
          go_roundw
          case rel => exact ⟨k + 1, by omega, by go_num, HP.out.1, by rw [HP.out.2]; simpa [SV] using hown4, (((hB.trans (hB2.mono (by omega))).trans (hB3.mono (by omega))).alloc (by omega) _).grown hg4 (by simp; omega) (fun j e => (hown.lt j e).1)⟩
          case measure => simp [intOf]; omega
        · have hqb : (q == []) = false := by simp [hq]
          have HP := Lib.hid (pagesO_no (PN (page_rest hg hq)))
          have HG := Lib.hid hg
          clear PN PT hg hq hp
          go_wp2_with fail
          refine HK.out.mono ?_
          rintro e w2 ⟨rfl, hB2⟩
          go_wp2_with fail
          refine (get_some s hsl HG.out _ (hTr.below hB2)).mono ?_
          rintro e w3 ⟨rfl, hB3⟩
          go_wp2_with fail
          go_ret2
          exact ⟨_, by rw [HP.out.1]; rfl, by rw [HP.out.2]; exact World.ownsRow_nil _ _ _ _, below3 hBW hB2 hB3⟩
    · obtain rfl : k = T.length := by omega
      rw [List.take_length] at hown hp
      have HP := Lib.hid (pagesO_ok hp)
      clear hp
      have hown' := hown
      rw [show T.length = (pagesL bs ws T).length from (pagesL_len bs ws T).symm] at hown'
      obtain ⟨ao', cap', rfl⟩ := (Txts.own hown').strs.form
      have HO := Lib.hid hown'
      clear hown hown'
      go_wp2_with fail
      go_ret2
      exact ⟨_, by rw [HP.out.1]; rfl, by rw [HP.out.2]; exact own_less HO.out (by omega), hBW⟩

end Go.Proofs.YtdbidfbjfongbaaDoor

/-
  slot.open: the table, the pages and the twin's number.
-/
namespace Go.Proofs.YtdbidfbjfongbaaDoor
open Go.RowKit

theorem shelf_agg (w : World) : (isAgg 49).run Tryd.prog w = .ok true w := by simp [isAgg, run_underlying Tryd.underlying49]
theorem shelf_size : (Tryd.prog.info? 49).map (·.size) = some 3 := by kernel_rfl
/-- A shelf and an error's number are what comes out of a call. -/
theorem ret_shelf2 {fn : Func} {p q : Tmp} {R : Ending → World → Prop} {a : Act} {w : World} (h : fn.results = #[.cell p 49, .tmp q]) (hd : a.defers = []) (g : Nat) (t : TypeId) (v0 v1 v2 x : Value)
    (hp : a.tmps.getD p undef = .pointer (some ⟨g, 0, none⟩)) (hq : a.tmps.getD q undef = x) (hc : w.heap[g]? = some (.cells #[v0, v1, v2] t (0, 0))) (hR : R (.returned (.tuple #[.agg #[v0, v1, v2], x])) w) : bodyPost Tryd.prog fn R .ret a w := by
  refine bodyPost_ret (v := .tuple #[.agg #[v0, v1, v2], x]) ?_ hd hR
  have hp' : a.tmps[p]?.getD undef = .pointer (some ⟨g, 0, none⟩) := by simpa using hp
  have hq' : a.tmps[q]?.getD undef = x := by simpa using hq
  have hl := load_many (cs := [v0, v1, v2]) (shelf_agg w) shelf_size (cells_box (cs := [v0, v1, v2]) hc)
  simp [results, h, hp', hq', asAddr, hl]
/-- A row of texts of the call's own. -/
def OwnT6 (w : World) (base : Nat) (v : Value) (l : List (List UInt8)) : Prop := w.ownsRow base 9 1 v l.length (l.map SV)
theorem OwnT6.nil (w : World) (base : Nat) : OwnT6 w base (.slice none 0 0) [] := World.ownsRow_nil _ _ _ _
theorem OwnT6.txts {w : World} {base : Nat} {v : Value} {l : List (List UInt8)} (h : OwnT6 w base v l) : Txts w v l := Txts.own h
theorem OwnT6.below {w w' : World} {b : Nat} {v : Value} {l : List (List UInt8)} (h : OwnT6 w b v l) (hb : Below w.heap.size w w') : OwnT6 w' b v l := own_stays h hb
theorem OwnT6.weak {w : World} {b b' : Nat} {v : Value} {l : List (List UInt8)} (h : OwnT6 w b' v l) (hb : b ≤ b') : OwnT6 w b v l := own_weak h hb

theorem twT_le (bs : List (List UInt8)) (ws : List Wr) : (twT bs ws).length ≤ 4000 := by
  have h : ∀ s, (txtO (hearL s)).length ≤ 4000 := by
    intro s
    cases hs : hearL s with
    | none => simp [txtO]
    | some x =>
      unfold hearL at hs
      split at hs
      · rename_i t r hg
        split at hs
        · obtain ⟨n, q⟩ := x
          have h1 := (getF_bounds hg).1
          have h2 := (getN_bounds hs).2
          simp only [txtO]
          omega
        · cases hs
      · cases hs
  unfold twT newestC
  split
  · split
    · exact h _
    · exact h _
  · simp [txtO]
theorem open_few {bs : List (List UInt8)} {ws : List Wr} (h1 : rightB bs ws = true) (h2 : bs.length < 3) : openE bs ws = 40 ∧ openT bs ws = [] ∧ openP bs ws = [] ∧ openN bs ws = 0 := by
  have e : openE bs ws = 40 := by rw [openE, if_pos ⟨h1, h2⟩]
  simp [openT, openP, openN, e, pagesL]
theorem open_twin {bs : List (List UInt8)} {ws : List Wr} (h1 : ¬ (rightB bs ws = true ∧ bs.length < 3)) (h2 : newestE bs ws 0 ≠ 0) : openE bs ws = newestE bs ws 0 ∧ openT bs ws = [] ∧ openP bs ws = [] ∧ openN bs ws = 0 := by
  have e : openE bs ws = newestE bs ws 0 := by rw [openE, if_neg h1, if_neg h2]
  simp [openT, openP, openN, e, h2, pagesL]
theorem open_tab {bs : List (List UInt8)} {ws : List Wr} (h1 : 3 ≤ bs.length) (h2 : newestE bs ws 0 = 0) (h3 : tabL (twT bs ws) bs.length = none) : openE bs ws = 30 ∧ openT bs ws = [] ∧ openP bs ws = [] ∧ openN bs ws = 0 := by
  have e : openE bs ws = 30 := by rw [openE, if_neg (by omega), if_pos h2, h3]
  simp [openT, openP, openN, e, pagesL]
theorem open_page {bs : List (List UInt8)} {ws : List Wr} {T : List Nat} (h1 : 3 ≤ bs.length) (h2 : newestE bs ws 0 = 0) (h3 : tabL (twT bs ws) bs.length = some T) (h4 : pagesB bs ws T = false) : openE bs ws = 30 ∧ openT bs ws = [] ∧ openP bs ws = [] ∧ openN bs ws = 0 := by
  have e : openE bs ws = 30 := by rw [openE, if_neg (by omega), if_pos h2, h3]; simp [h4]
  simp [openT, openP, openN, e, pagesL]
theorem tab_len {T : List Nat} {n : Nat} (h : ∀ a ∈ T, 2 ≤ a ∧ a < n) (hd : T.Nodup) (hn : 2 ≤ n) : T.length ≤ n := by
  have := free_len h hd hn
  omega

/-- The two boxes at open's beginning. -/
theorem entryS (w : World) (vb vw : Value) : Bx ((w.alloc (.cells #[vb, vw] 25)).alloc (.cells #[.slice none 0 0, .slice none 0 0, .int .i64 0] 49)) w.heap.size vb vw ∧
    Cx ((w.alloc (.cells #[vb, vw] 25)).alloc (.cells #[.slice none 0 0, .slice none 0 0, .int .i64 0] 49)) (w.heap.size + 1) 49 [.slice none 0 0, .slice none 0 0, .int .i64 0] ∧
    Below w.heap.size w ((w.alloc (.cells #[vb, vw] 25)).alloc (.cells #[.slice none 0 0, .slice none 0 0, .int .i64 0] 49)) := by
  refine ⟨(Bx.new w vb vw).below (below_alloc _ _), ?_, below_alloc2 w _ _⟩
  have h := Cx.new (w.alloc (.cells #[vb, vw] 25)) 49 [.slice none 0 0, .slice none 0 0, .int .i64 0]
  rw [World.size_alloc] at h
  exact h
/-- The shelf's box is laid. -/
theorem lay_shelf {w w1 : World} (hx : Cx w1 (w.heap.size + 1) 49 [.slice none 0 0, .slice none 0 0, .int .i64 0]) (hB : Below w.heap.size w w1) (a b c : Value) :
    (((w1.setCell ⟨w.heap.size + 1, 0, none⟩ a).setCell ⟨w.heap.size + 1, 1, none⟩ b).setCell ⟨w.heap.size + 1, 2, none⟩ c).heap[w.heap.size + 1]? = some (.cells #[a, b, c] 49 (0, 0)) ∧
    Below w.heap.size w (((w1.setCell ⟨w.heap.size + 1, 0, none⟩ a).setCell ⟨w.heap.size + 1, 1, none⟩ b).setCell ⟨w.heap.size + 1, 2, none⟩ c) :=
  ⟨((hx.set 0 a).set 1 b).set 2 c, ((hB.setCell (by simp) _).setCell (by simp) _).setCell (by simp) _⟩
theorem row_shelf {w1 : World} {base B : Nat} {e : TypeId} {v : Value} {n : Nat} {xs : List Value} (h : w1.ownsRow base e 1 v n xs) (hB : B < base) (a b c : Value) :
    (((w1.setCell ⟨B, 0, none⟩ a).setCell ⟨B, 1, none⟩ b).setCell ⟨B, 2, none⟩ c).ownsRow base e 1 v n xs :=
  ownsRow_setCell_below (ownsRow_setCell_below (ownsRow_setCell_below h (by simpa using hB) _) (by simpa using hB) _) (by simpa using hB) _

/-- What open answers. -/
def OpenPost (bs : List (List UInt8)) (ws : List Wr) (w : World) (e : Ending) (w' : World) : Prop :=
  ∃ vt vp, e = .returned (.tuple #[.agg #[vt, vp, .int .i64 ((openN bs ws : Nat) : Int)], .int .i64 (openE bs ws)]) ∧ OwnN w' w.heap.size vt (openT bs ws) ∧ OwnT6 w' w.heap.size vp (openP bs ws) ∧ Below w.heap.size w w'
theorem open_out {bs : List (List UInt8)} {ws : List Wr} {w w' : World} {vt vp x y : Value} {E : Int} {T : List Nat} {P : List (List UInt8)} {n : Nat} (h : openE bs ws = E ∧ openT bs ws = T ∧ openP bs ws = P ∧ openN bs ws = n) (hx : x = .int .i64 (n : Int)) (hy : y = .int .i64 E) (h1 : OwnN w' w.heap.size vt T) (h2 : OwnT6 w' w.heap.size vp P) (h3 : Below w.heap.size w w') : OpenPost bs ws w (.returned (.tuple #[.agg #[vt, vp, x], y])) w' := by
  obtain ⟨rfl, rfl, rfl, rfl⟩ := h
  subst hx hy
  exact ⟨_, _, rfl, h1, h2, h3⟩

set_option maxRecDepth 100000 in
set_option maxHeartbeats 8000000 in
theorem sopen_calls (vb vw : Value) (bs : List (List UInt8)) (ws : List Wr) (w : World) (hb : Txts w vb bs) (hw : Wrs w vw ws) (hC : TabOk w) :
    Calls Tryd.prog 17 #[.agg #[vb, vw]] w (OpenPost bs ws w) := by
  obtain ⟨ab, cb, rfl⟩ := hb.strs.form
  obtain ⟨aw, cw, rfl⟩ := hw.form
  obtain ⟨hx0, hs0, hB0⟩ := entryS w (.slice ab bs.length cb) (.slice aw ws.length cw)
  have CH := check_calls _ _ bs ws _ (hb.below hB0) (hw.below hB0)
  have HIN := Lib.hid (And.intro hb (And.intro hw hC))
  clear hb hw hC
  by_cases hR : rightB bs ws = true
  · rw [hR] at CH
    have K1 := Lib.hid CH
    clear CH
    by_cases h3 : bs.length < 3
    · have c3 : decide ((bs.length : Int) < 3) = true := by simp; omega
      have HO := Lib.hid (open_few hR h3)
      clear hR
      go_enter Tryd.func17, Tryd.ntmps17
      go_wp2_with fail
      refine K1.out.mono ?_
      rintro e w1 ⟨rfl, hB1⟩
      have hx1 := hx0.below hB1
      have hs1 := hs0.below hB1
      obtain ⟨d0, d1, df0, df1, dl⟩ := hx1.cells
      obtain ⟨e0, e1, e2, ef0, ef1, ef2, el⟩ := hs1.three
      go_wp2_with fail
      obtain ⟨l1, l2⟩ := lay_shelf hs1 (below2 hB0 hB1) (.slice none 0 0) (.slice none 0 0) (.int .i64 0)
      refine ret_shelf2 (p := 2) (q := 3) (by kernel_rfl) rfl (w.heap.size + 1) _ _ _ _ _ rfl rfl l1 ?_
      exact open_out HO.out rfl rfl (OwnN.nil _ _) (OwnT6.nil _ _) l2
    · have c3 : decide ((bs.length : Int) < 3) = false := by simp; omega
      have CG := fun w1 (hB1 : Below w.heap.size w w1) => tget_calls (.slice ab bs.length cb) (.slice aw ws.length cw) bs ws 0 (by omega) w1 (HIN.out.1.below hB1) (HIN.out.2.1.below hB1) (HIN.out.2.2.below hB1)
      by_cases hz : newestE bs ws 0 = 0
      · have htl := twT_le bs ws
        have e1 : txtO (newestC bs ws 0) = twT bs ws := rfl
        rw [hz, e1] at CG
        have KG := Lib.hid CG
        have CT := fun w1 => table_calls (twT bs ws) bs.length (by omega) w1
        clear CG e1
        cases hT : tabL (twT bs ws) bs.length with
        | none =>
          have HO := Lib.hid (open_tab (by omega) hz hT)
          rw [hT] at CT
          have KT := Lib.hid CT
          clear CT hz hT hR
          generalize twT bs ws = t at KG KT htl
          go_enter Tryd.func17, Tryd.ntmps17
          go_wp2_with fail
          refine K1.out.mono ?_
          rintro e w1 ⟨rfl, hB1⟩
          have hx1 := hx0.below hB1
          have hs1 := hs0.below hB1
          have hBB1 := below2 hB0 hB1
          obtain ⟨d0, d1, df0, df1, dl⟩ := hx1.cells
          go_wp2_with fail
          refine (KG.out _ hBB1).mono ?_
          rintro e w2 ⟨rfl, hB2⟩
          have hx2 := hx1.below hB2
          have hs2 := hs1.below hB2
          have hBB2 := below2 hBB1 hB2
          clear d0 d1 df0 df1 dl
          obtain ⟨d0, d1, df0, df1, dl⟩ := hx2.cells
          go_wp2_with fail
          refine (KT.out _).mono ?_
          rintro e w3 ⟨v3, rfl, ho3, hB3⟩
          have hs3 := hs2.below hB3
          have hBB3 := below2 hBB2 hB3
          obtain ⟨e0, e1, e2, ef0, ef1, ef2, el⟩ := hs3.three
          clear d0 d1 df0 df1 dl
          simp only [Option.isSome_none]
          go_wp2_with fail
          obtain ⟨l1, l2⟩ := lay_shelf hs3 hBB3 (.slice none 0 0) (.slice none 0 0) (.int .i64 0)
          refine ret_shelf2 (p := 2) (q := 3) (by kernel_rfl) rfl (w.heap.size + 1) _ _ _ _ _ rfl rfl l1 ?_
          exact open_out HO.out rfl rfl (OwnN.nil _ _) (OwnT6.nil _ _) l2
        | some T =>
          obtain ⟨ht1, ht2⟩ := tabL_ok hT
          have htn := tab_len ht1 ht2 (by omega)
          have hb2 := (right_parts hR).2.1
          have CP := fun w1 v (hB1 : Below w.heap.size w w1) (hv : Nats w1 v T) => pages_calls (.slice ab bs.length cb) (.slice aw ws.length cw) v bs ws T w1 (HIN.out.1.below hB1) (HIN.out.2.1.below hB1) hv hR (fun a ha => (ht1 a ha).2) (by omega) (HIN.out.2.2.below hB1)
          rw [hT] at CT
          have KT := Lib.hid CT
          clear CT
          cases hP : pagesB bs ws T with
          | false =>
            have HO := Lib.hid (open_page (by omega) hz hT hP)
            rw [(pagesO_no hP).1, (pagesO_no hP).2] at CP
            have KP := Lib.hid CP
            clear CP hz hT hR hP ht1 ht2
            generalize twT bs ws = t at KG KT htl
            go_enter Tryd.func17, Tryd.ntmps17
            go_wp2_with fail
            refine K1.out.mono ?_
            rintro e w1 ⟨rfl, hB1⟩
            have hx1 := hx0.below hB1
            have hs1 := hs0.below hB1
            have hBB1 := below2 hB0 hB1
            obtain ⟨d0, d1, df0, df1, dl⟩ := hx1.cells
            go_wp2_with fail
            refine (KG.out _ hBB1).mono ?_
            rintro e w2 ⟨rfl, hB2⟩
            have hx2 := hx1.below hB2
            have hs2 := hs1.below hB2
            have hBB2 := below2 hBB1 hB2
            clear d0 d1 df0 df1 dl
            obtain ⟨d0, d1, df0, df1, dl⟩ := hx2.cells
            go_wp2_with fail
            refine (KT.out _).mono ?_
            rintro e w3 ⟨v3, rfl, ho3, hB3⟩
            have hx3 := hx2.below hB3
            have hs3 := hs2.below hB3
            have hBB3 := below2 hBB2 hB3
            clear d0 d1 df0 df1 dl
            obtain ⟨d0, d1, df0, df1, dl⟩ := hx3.cells
            have ho3' : OwnN w3 w2.heap.size v3 T := ho3
            obtain ⟨a3, c3', rfl⟩ := ho3'.nats.form
            have HO3 := Lib.hid ho3'
            clear ho3 ho3'
            simp only [Option.isSome_some]
            go_wp2_with fail
            refine (KP.out _ _ hBB3 HO3.out.nats).mono ?_
            rintro e w4 ⟨v4, rfl, ho4, hB4⟩
            have hs4 := hs3.below hB4
            have hBB4 := below2 hBB3 hB4
            obtain ⟨e0, e1, e2, ef0, ef1, ef2, el⟩ := hs4.three
            clear d0 d1 df0 df1 dl
            go_wp2_with fail
            obtain ⟨l1, l2⟩ := lay_shelf hs4 hBB4 (.slice none 0 0) (.slice none 0 0) (.int .i64 0)
            refine ret_shelf2 (p := 2) (q := 3) (by kernel_rfl) rfl (w.heap.size + 1) _ _ _ _ _ rfl rfl l1 ?_
            exact open_out HO.out rfl rfl (OwnN.nil _ _) (OwnT6.nil _ _) l2
          | true =>
            have HO := Lib.hid (open_zero (by omega) hz hT hP)
            rw [(pagesO_ok hP).1, (pagesO_ok hP).2] at CP
            have KP := Lib.hid CP
            clear CP hz hT hR hP ht1 ht2
            generalize twT bs ws = t at KG KT htl
            obtain ⟨m, hm⟩ : ∃ m, numO (newestC bs ws 0) = m := ⟨_, rfl⟩
            rw [hm] at KG HO
            clear hm
            obtain ⟨P, hP⟩ : ∃ P, pagesL bs ws T = P := ⟨_, rfl⟩
            rw [hP] at KP HO
            clear hP
            go_enter Tryd.func17, Tryd.ntmps17
            go_wp2_with fail
            refine K1.out.mono ?_
            rintro e w1 ⟨rfl, hB1⟩
            have hx1 := hx0.below hB1
            have hs1 := hs0.below hB1
            have hBB1 := below2 hB0 hB1
            obtain ⟨d0, d1, df0, df1, dl⟩ := hx1.cells
            go_wp2_with fail
            refine (KG.out _ hBB1).mono ?_
            rintro e w2 ⟨rfl, hB2⟩
            have hx2 := hx1.below hB2
            have hs2 := hs1.below hB2
            have hBB2 := below2 hBB1 hB2
            clear d0 d1 df0 df1 dl
            obtain ⟨d0, d1, df0, df1, dl⟩ := hx2.cells
            go_wp2_with fail
            refine (KT.out _).mono ?_
            rintro e w3 ⟨v3, rfl, ho3, hB3⟩
            have hx3 := hx2.below hB3
            have hs3 := hs2.below hB3
            have hBB3 := below2 hBB2 hB3
            clear d0 d1 df0 df1 dl
            obtain ⟨d0, d1, df0, df1, dl⟩ := hx3.cells
            have ho3' : OwnN w3 w2.heap.size v3 T := ho3
            obtain ⟨a3, c3', rfl⟩ := ho3'.nats.form
            have HO3 := Lib.hid ho3'
            clear ho3 ho3'
            simp only [Option.isSome_some]
            go_wp2_with fail
            refine (KP.out _ _ hBB3 HO3.out.nats).mono ?_
            rintro e w4 ⟨v4, rfl, ho4, hB4⟩
            have hs4 := hs3.below hB4
            have hBB4 := below2 hBB3 hB4
            obtain ⟨e0, e1, e2, ef0, ef1, ef2, el⟩ := hs4.three
            clear d0 d1 df0 df1 dl
            have ho4' : OwnT6 w4 w3.heap.size v4 P := ho4
            obtain ⟨a4, n4, c4', rfl⟩ := txts_form' ho4'.txts
            have HO4 := Lib.hid ho4'
            clear ho4 ho4'
            go_wp2_with fail
            obtain ⟨l1, l2⟩ := lay_shelf hs4 hBB4 (.slice a3 T.length c3') (.slice a4 n4 c4') (.int .i64 (m : Int))
            refine ret_shelf2 (p := 2) (q := 3) (by kernel_rfl) rfl (w.heap.size + 1) _ _ _ _ _ rfl rfl l1 ?_
            have z2 := hBB2.size
            have z3 := hBB3.size
            have el2 := hs2.lt
            have el3 := hs3.lt
            exact open_out HO.out rfl rfl (own_weakN (row_shelf (own_belowN HO3.out hB4) el2 _ _ _) z2) (OwnT6.weak (row_shelf HO4.out el3 _ _ _) z3) l2
      · have HO := Lib.hid (open_twin (bs := bs) (ws := ws) (by omega) hz)
        have KG := Lib.hid CG
        have hzb : (newestE bs ws 0 != 0) = true := by simpa using hz
        clear CG hz hR
        generalize newestE bs ws 0 = E at KG HO hzb
        generalize txtO (newestC bs ws 0) = t at KG
        generalize numO (newestC bs ws 0) = m at KG
        go_enter Tryd.func17, Tryd.ntmps17
        go_wp2_with fail
        refine K1.out.mono ?_
        rintro e w1 ⟨rfl, hB1⟩
        have hx1 := hx0.below hB1
        have hs1 := hs0.below hB1
        have hBB1 := below2 hB0 hB1
        obtain ⟨d0, d1, df0, df1, dl⟩ := hx1.cells
        go_wp2_with fail
        refine (KG.out _ hBB1).mono ?_
        rintro e w2 ⟨rfl, hB2⟩
        have hs2 := hs1.below hB2
        have hBB2 := below2 hBB1 hB2
        clear d0 d1 df0 df1 dl
        obtain ⟨e0, e1, e2, ef0, ef1, ef2, el⟩ := hs2.three
        go_wp2_with fail
        obtain ⟨l1, l2⟩ := lay_shelf hs2 hBB2 (.slice none 0 0) (.slice none 0 0) (.int .i64 0)
        refine ret_shelf2 (p := 2) (q := 3) (by kernel_rfl) rfl (w.heap.size + 1) _ _ _ _ _ rfl rfl l1 ?_
        exact open_out HO.out rfl rfl (OwnN.nil _ _) (OwnT6.nil _ _) l2
  · have hR' : rightB bs ws = false := by simpa using hR
    have hz : newestE bs ws 0 ≠ 0 := fun h => hR (newest_ok.1 h).1
    have CG := fun w1 (hB1 : Below w.heap.size w w1) => tget_calls (.slice ab bs.length cb) (.slice aw ws.length cw) bs ws 0 (by omega) w1 (HIN.out.1.below hB1) (HIN.out.2.1.below hB1) (HIN.out.2.2.below hB1)
    have HO := Lib.hid (open_twin (bs := bs) (ws := ws) (fun h => hR h.1) hz)
    rw [hR'] at CH
    have K1 := Lib.hid CH
    have KG := Lib.hid CG
    have hzb : (newestE bs ws 0 != 0) = true := by simpa using hz
    clear CG CH hz hR hR'
    generalize newestE bs ws 0 = E at KG HO hzb
    generalize txtO (newestC bs ws 0) = t at KG
    generalize numO (newestC bs ws 0) = m at KG
    go_enter Tryd.func17, Tryd.ntmps17
    go_wp2_with fail
    refine K1.out.mono ?_
    rintro e w1 ⟨rfl, hB1⟩
    have hx1 := hx0.below hB1
    have hs1 := hs0.below hB1
    have hBB1 := below2 hB0 hB1
    obtain ⟨d0, d1, df0, df1, dl⟩ := hx1.cells
    go_wp2_with fail
    refine (KG.out _ hBB1).mono ?_
    rintro e w2 ⟨rfl, hB2⟩
    have hs2 := hs1.below hB2
    have hBB2 := below2 hBB1 hB2
    clear d0 d1 df0 df1 dl
    obtain ⟨e0, e1, e2, ef0, ef1, ef2, el⟩ := hs2.three
    go_wp2_with fail
    obtain ⟨l1, l2⟩ := lay_shelf hs2 hBB2 (.slice none 0 0) (.slice none 0 0) (.int .i64 0)
    refine ret_shelf2 (p := 2) (q := 3) (by kernel_rfl) rfl (w.heap.size + 1) _ _ _ _ _ rfl rfl l1 ?_
    exact open_out HO.out rfl rfl (OwnN.nil _ _) (OwnT6.nil _ _) l2

end Go.Proofs.YtdbidfbjfongbaaDoor

/-
  slot.Load, slot.Free and slot.Format.
-/
namespace Go.Proofs.YtdbidfbjfongbaaDoor
open Go.RowKit

set_option maxRecDepth 100000 in
set_option maxHeartbeats 4000000 in
theorem load_calls (vb vw : Value) (bs : List (List UInt8)) (ws : List Wr) (w : World) (hb : Txts w vb bs) (hw : Wrs w vw ws) (hC : TabOk w) :
    Calls Tryd.prog 8 #[.agg #[vb, vw]] w fun e w' => ∃ vp, e = .returned (.tuple #[vp, .int .i64 ((openN bs ws : Nat) : Int), .int .i64 (openE bs ws)]) ∧ OwnT6 w' w.heap.size vp (openP bs ws) ∧ Below w.heap.size w w' := by
  obtain ⟨ab, cb, rfl⟩ := hb.strs.form
  obtain ⟨aw, cw, rfl⟩ := hw.form
  have hB0 := below_alloc w (.cells #[.slice ab bs.length cb, .slice aw ws.length cw] 25)
  have K := sopen_calls _ _ bs ws _ (hb.below hB0) (hw.below hB0) (hC.below hB0)
  unfold OpenPost at K
  generalize openE bs ws = E at K ⊢
  generalize openT bs ws = T at K
  generalize openP bs ws = P at K ⊢
  generalize openN bs ws = m at K ⊢
  have HK := Lib.hid K
  clear K hb hw hC
  go_enter Tryd.func8, Tryd.ntmps8
  go_wp2_with fail
  refine HK.out.mono ?_
  rintro e w1 ⟨vt, vp, rfl, ho1, ho2, hB1⟩
  obtain ⟨a1, c1, rfl⟩ := ho1.nats.form
  obtain ⟨a2, n2, c2, rfl⟩ := txts_form' ho2.txts
  have HO := Lib.hid ho2
  clear ho1 ho2 HK
  go_wp2_with fail
  go_quiet (fail)
  go_wp2_with fail
  go_ret3
  exact ⟨_, rfl, OwnT6.weak (OwnT6.below HO.out (below2 (below_alloc _ _) (drewn_below _ _))) (by simp), below3 hB0 hB1 (below2 (below_alloc _ _) (drewn_below _ _))⟩

theorem free_out {bs : List (List UInt8)} {ws : List Wr} (h : openE bs ws = 0) : freeL bs ws = freeTo (openT bs ws) bs.length := by rw [freeL, if_pos h]
theorem free_none {bs : List (List UInt8)} {ws : List Wr} (h : openE bs ws ≠ 0) : freeL bs ws = [] := by rw [freeL, if_neg h]

set_option maxRecDepth 100000 in
set_option maxHeartbeats 4000000 in
theorem free_calls (vb vw : Value) (bs : List (List UInt8)) (ws : List Wr) (w : World) (hb : Txts w vb bs) (hw : Wrs w vw ws) (hC : TabOk w) :
    Calls Tryd.prog 11 #[.agg #[vb, vw]] w fun e w' => ∃ vf, e = .returned (.tuple #[vf, .int .i64 (openE bs ws)]) ∧ OwnN w' w.heap.size vf (freeL bs ws) ∧ Below w.heap.size w w' := by
  obtain ⟨i0, hi, hz0, hz1, hz2⟩ := info_parts infoInt
  obtain ⟨ab, cb, rfl⟩ := hb.strs.form
  obtain ⟨aw, cw, rfl⟩ := hw.form
  have hx0 := Bx.new w (.slice ab bs.length cb) (.slice aw ws.length cw)
  have hB0 := below_alloc w (.cells #[.slice ab bs.length cb, .slice aw ws.length cw] 25)
  have K := sopen_calls _ _ bs ws _ (hb.below hB0) (hw.below hB0) (hC.below hB0)
  unfold OpenPost at K
  clear hb hw hC
  by_cases hz : openE bs ws = 0
  · obtain ⟨_, hl3, hl200, _⟩ := open_ok hz
    obtain ⟨ht1, ht2, hf, _⟩ := open_table hz
    have htl := tab_len ht1 ht2 (by omega)
    have HF := Lib.hid hf
    rw [hz] at K ⊢
    clear hf hz ht1 ht2
    generalize openT bs ws = T at K HF htl
    generalize openP bs ws = P at K
    generalize openN bs ws = m at K
    have HK := Lib.hid K
    clear K
    go_enter Tryd.func11, Tryd.ntmps11
    go_wp2_with fail
    refine HK.out.mono ?_
    rintro e w1 ⟨vt, vp, rfl, ho1, ho2, hB1⟩
    obtain ⟨a1, c1, rfl⟩ := ho1.nats.form
    obtain ⟨a2, n2, c2, rfl⟩ := txts_form' ho2.txts
    have hx1 := (hx0.below hB1).below (below_alloc w1 (.cells #[.slice a1 T.length c1, .slice a2 n2 c2, .int .i64 (m : Int)] 49))
    have hs1 := Cx.new w1 49 [.slice a1 T.length c1, .slice a2 n2 c2, .int .i64 (m : Int)]
    have hn1 := ho1.nats.below (below_alloc w1 (.cells #[.slice a1 T.length c1, .slice a2 n2 c2, .int .i64 (m : Int)] 49))
    have hBB1 := below3 hB0 hB1 (below_alloc w1 (.cells #[.slice a1 T.length c1, .slice a2 n2 c2, .int .i64 (m : Int)] 49))
    clear ho1 ho2 HK
    obtain ⟨Wl, hWl⟩ : ∃ Wl, w1.alloc (.cells #[.slice a1 T.length c1, .slice a2 n2 c2, .int .i64 (m : Int)] 49) = Wl := ⟨_, rfl⟩
    have hs1' : Cx Wl w1.heap.size 49 [.slice a1 T.length c1, .slice a2 n2 c2, .int .i64 (m : Int)] := hWl ▸ hs1
    rw [hWl] at hx1 hn1 hBB1
    clear hs1
    go_wp2_with fail
    clear hWl
    go_loopw [6, 7] (fun v i wr => ∃ k : Nat, 2 ≤ k ∧ k ≤ bs.length ∧ i = .int .i64 k ∧ OwnN wr Wl.heap.size v (freeTo T k) ∧ (freeTo T k).length ≤ k ∧ Below Wl.heap.size Wl wr) (fun _ i _ => bs.length - (intOf i).toNat)
    case atStart => exact ⟨2, Nat.le_refl _, by omega, rfl, by rw [freeTo_low T (by omega)]; exact OwnN.nil _ _, by rw [freeTo_low T (by omega)]; simp, Below.refl _ _⟩
    case round =>
      obtain ⟨k, hk2, hk, rfl, hown, hfl, hB⟩ := hrel
      obtain ⟨d0, d1, df0, df1, dl⟩ := (hx1.below hB).cells
      obtain ⟨e0, e1, e2, ef0, ef1, ef2, el⟩ := (hs1'.below hB).three
      by_cases hlt : k < bs.length
      · have KC := contains_calls _ T k wr (hn1.below hB) (by omega)
        by_cases hm : k ∈ T
        · have c4 : decide (k ∈ T) = true := by simp [hm]
          have HM := Lib.hid (freeTo_miss T hm)
          rw [c4] at KC
          have HK := Lib.hid KC
          clear KC c4 hm
          go_wp2_with fail
          refine HK.out.mono ?_
          rintro e w2 ⟨rfl, rfl⟩
          go_wp2_with fail
          go_roundw
          case rel => exact ⟨k + 1, by omega, by omega, by go_num, by rw [HM.out]; exact hown, by rw [HM.out]; omega, hB⟩
          case measure => simp [intOf]; omega
        · have c4 : decide (k ∈ T) = false := by simp [hm]
          have HM := Lib.hid (freeTo_hit T hk2 hm)
          rw [c4] at KC
          have HK := Lib.hid KC
          clear KC c4 hm
          obtain ⟨L, hL⟩ : ∃ L, freeTo T k = L := ⟨_, rfl⟩
          rw [hL] at hown hfl HM
          clear hL
          go_wp2_with fail
          refine HK.out.mono ?_
          rintro e w2 ⟨rfl, rfl⟩
          have hBs := hB.size
          go_wp2_with (at_builtin; refine wpList_append_own _ rfl _ _ 33 rfl Wl.heap.size 3 i0 (.int .i64 0) 1 8 Tryd.underlying33 hi hz0 hz1 hz2 rfl (by decide) _ _ _ rfl (World.ownsRow.alloc hown _) ⟨wr.heap.size, 0, none⟩ 1 1 [.int .i64 (k : Int)] rfl rfl (cell_one_new _ _ _) (by simp [Value.oneCell']) (by unfold maxLen; omega) (by omega) (by simp; omega) ?_; intro v3 w3 hown3 hg3 _)
          go_roundw
          case rel => exact ⟨k + 1, by omega, by omega, by go_num, by rw [HM.out]; simpa [OwnN, NV] using hown3, by rw [HM.out]; simp; omega, (hB.alloc hB.size _).grown hg3 (by simp; omega) (fun j e => (World.ownsRow.lt hown j e).1)⟩
          case measure => simp [intOf]; omega
      · obtain rfl : k = bs.length := by omega
        obtain ⟨L, hL⟩ : ∃ L, freeTo T bs.length = L := ⟨_, rfl⟩
        rw [hL] at hown hfl HF
        clear hL
        obtain ⟨a5, c5, rfl⟩ := hown.nats.form
        go_wp2_with fail
        go_ret2
        exact ⟨_, rfl, by rw [HF.out]; exact own_weakN hown hBB1.size, below2 hBB1 hB⟩
  · have HF := Lib.hid (free_none hz)
    have hzb : (openE bs ws != 0) = true := by simpa using hz
    clear hz
    generalize openE bs ws = E at K hzb ⊢
    generalize openT bs ws = T at K
    generalize openP bs ws = P at K
    generalize openN bs ws = m at K
    have HK := Lib.hid K
    clear K
    go_enter Tryd.func11, Tryd.ntmps11
    go_wp2_with fail
    refine HK.out.mono ?_
    rintro e w1 ⟨vt, vp, rfl, ho1, ho2, hB1⟩
    obtain ⟨a1, c1, rfl⟩ := ho1.nats.form
    obtain ⟨a2, n2, c2, rfl⟩ := txts_form' ho2.txts
    clear ho1 ho2 HK
    go_wp2_with fail
    go_ret2
    exact ⟨_, rfl, by rw [HF.out]; exact OwnN.nil _ _, below3 hB0 hB1 (below_alloc _ _)⟩

end Go.Proofs.YtdbidfbjfongbaaDoor

/-
  slot.tableText: a table's bytes.
-/
namespace Go.Proofs.YtdbidfbjfongbaaDoor
open Go.RowKit

theorem table_out {T : List Nat} (hl : T.length ≤ 1000) : rowOut (T.map numB) = (tableB T, 0) := rowOut_fine (by simpa using hl) (fun t ht => by
  obtain ⟨a, _, rfl⟩ := List.mem_map.1 ht
  have := wid_le a
  rw [numB_length]; omega)

set_option maxRecDepth 100000 in
set_option maxHeartbeats 4000000 in
theorem tableText_calls (v : Value) (T : List Nat) (w : World) (hT : Nats w v T) (hl : T.length ≤ 1000) (hb : ∀ a ∈ T, a ≤ 1000000000) :
    Calls Tryd.prog 20 #[v] w fun e w' => e = .returned (.string ⟨(tableB T).toArray⟩) ∧ Below w.heap.size w w' := by
  obtain ⟨i0, hi, hz0, hz1, hz2⟩ := info_parts info9
  obtain ⟨ao, cap, rfl⟩ := hT.form
  have HO := Lib.hid (table_out hl)
  go_enter Tryd.func20, Tryd.ntmps20
  go_wp2_with fail
  go_loopw [3, 12] (fun v i wr => ∃ k : Nat, k ≤ T.length ∧ i = .int .i64 k ∧ wr.ownsRow w.heap.size 9 1 v k (((T.take k).map numB).map SV) ∧ Below w.heap.size w wr) (fun _ i _ => T.length - (intOf i).toNat)
  case atStart => exact ⟨0, Nat.zero_le _, rfl, by simpa using World.ownsRow_nil _ _ _ _, Below.refl _ _⟩
  case round =>
    obtain ⟨k, hk, rfl, hown, hB⟩ := hrel
    by_cases hlt : k < T.length
    · obtain ⟨b, off, rfl, hcell⟩ := (hT.below hB).at hlt
      have hbl := World.block_lt_of_cell? wr _ hcell
      have HM : Hid (T.take (k + 1) = T.take k ++ [T[k]]) := Lib.hid (List.take_succ_eq_append_getElem hlt)
      have hle := hb _ (List.getElem_mem hlt)
      generalize T[k] = a at hcell HM hle
      go_wp2_with fail
      refine (number_ok a (by omega) _).mono ?_
      rintro e w2 ⟨rfl, hB2⟩
      have hown2 := own_below hown hB2
      go_wp2_with (at_builtin; refine wpList_append_own _ rfl _ _ 22 rfl w.heap.size 9 i0 (.string ⟨#[]⟩) 1 16 Tryd.underlying22 hi hz0 hz1 hz2 rfl (by decide) _ _ _ rfl (hown2.alloc _) ⟨w2.heap.size, 0, none⟩ 1 1 [.string ⟨(numB a).toArray⟩] rfl rfl (cell_one_new _ _ _) (by simp [Value.oneCell']) (by unfold maxLen; omega) (by omega) (by have := hB.size; have := hB2.size; simp; omega) ?_; intro v3 w3 hown3 hg3 _)
      go_roundw
      case rel => exact ⟨k + 1, by omega, by go_num, by rw [HM.out]; simpa [SV] using hown3, ((hB.trans (hB2.mono hB.size)).alloc (Nat.le_trans hB.size hB2.size) _).grown hg3 (by have := hB.size; have := hB2.size; simp; omega) (fun j e => (hown.lt j e).1)⟩
      case measure => simp [intOf]; omega
    · obtain rfl : k = T.length := by omega
      rw [List.take_length] at hown
      have hs : Txts wr _ (T.map numB) := Txts.own (base := w.heap.size) (by simpa using hown)
      obtain ⟨ao', cap', rfl⟩ := hs.strs.form
      have K := row_short _ (T.map numB) wr hs.strs (by simpa using hl)
      rw [HO.out, List.length_map] at K
      have HK := Lib.hid K
      clear K hown hs
      go_wp2_with fail
      refine HK.out.mono ?_
      rintro e w2 ⟨rfl, hB2⟩
      go_wp2_with fail
      go_ret
      exact ⟨rfl, below2 hB hB2⟩

end Go.Proofs.YtdbidfbjfongbaaDoor

/-
  slot.Save and slot.Format.
-/
namespace Go.Proofs.YtdbidfbjfongbaaDoor
open Go.RowKit

theorem Nats.take {w : World} {ao : Option Addr} {n cap : Nat} {T : List Nat} (h : Nats w (.slice ao n cap) T) (k : Nat) (hk : k ≤ T.length) : Nats w (.slice ao k cap) (T.take k) := by
  obtain ⟨hl, ao', cap', he, hc, h0⟩ := h
  cases he
  have hlen : (T.take k).length = k := by rw [List.length_take]; omega
  refine ⟨by simp, ao, cap, by rw [hlen], by rw [hlen]; omega, ?_⟩
  rw [hlen]
  by_cases hz : k = 0
  · exact .inl hz
  rcases h0 with h0 | ⟨b, off, rfl, hcell⟩
  · omega
  · refine .inr ⟨b, off, rfl, fun j hj => ?_⟩
    have hj2 : j < k := by simp at hj; omega
    have := hcell j (by simp; omega)
    rw [this]
    simp
theorem save_open {bs : List (List UInt8)} {ws : List Wr} {l : List (List UInt8)} {k : Int} (h : openE bs ws ≠ 0) : saveR bs ws l k = (openE bs ws, false, [], []) := by unfold saveR; rw [if_neg h]
theorem save_long {bs : List (List UInt8)} {ws : List Wr} {l : List (List UInt8)} {k : Int} (h : openE bs ws = 0) (h2 : ¬ l.all (fun s => decide (s.length ≤ 200)) = true) : saveR bs ws l k = (2, false, [], []) := by unfold saveR; rw [if_pos h, if_neg h2]
theorem save_space {bs : List (List UInt8)} {ws : List Wr} {l : List (List UInt8)} {k : Int} (h : openE bs ws = 0) (h2 : l.all (fun s => decide (s.length ≤ 200)) = true) (h3 : ¬ l.length ≤ (freeL bs ws).length) : saveR bs ws l k = (41, false, [], []) := by unfold saveR; rw [if_pos h, if_pos h2, if_neg h3]
theorem save_limit {bs : List (List UInt8)} {ws : List Wr} {l : List (List UInt8)} {k : Int} (h : openE bs ws = 0) (h2 : l.all (fun s => decide (s.length ≤ 200)) = true) (h3 : l.length ≤ (freeL bs ws).length) (h4 : ¬ (tableB (toL bs ws l)).length ≤ 200) : saveR bs ws l k = (2, false, [], []) := by unfold saveR; rw [if_pos h, if_pos h2, if_pos h3, if_neg h4]
theorem save_run {bs : List (List UInt8)} {ws : List Wr} {l : List (List UInt8)} {k : Int} (h : openE bs ws = 0) (h2 : l.all (fun s => decide (s.length ≤ 200)) = true) (h3 : l.length ≤ (freeL bs ws).length) (h4 : (tableB (toL bs ws l)).length ≤ 200) : saveR bs ws l k = runR (bs, ws) (deedsL l (toL bs ws l) (tableB (toL bs ws l))) k := by unfold saveR; rw [if_pos h, if_pos h2, if_pos h3, if_pos h4]
/-- What Save answers. -/
def SavePost (R : Int × Bool × Ds) (w : World) (e : Ending) (w' : World) : Prop :=
  ∃ vb' vw', e = .returned (.tuple #[.agg #[vb', vw'], .bool R.2.1, .int .i64 R.1]) ∧ OwnD w' w.heap.size vb' R.2.2.1 vw' R.2.2.2 ∧ Below w.heap.size w w'
theorem save_out {R : Int × Bool × Ds} {w w' : World} {vb vw x y : Value} {E : Int} {A : Bool} {B : List (List UInt8)} {V : List Wr} (hR : R = (E, A, B, V)) (hx : x = .bool A) (hy : y = .int .i64 E) (ho : OwnD w' w.heap.size vb B vw V) (hB : Below w.heap.size w w') : SavePost R w (.returned (.tuple #[.agg #[vb, vw], x, y])) w' := by
  subst hR hx hy
  exact ⟨_, _, rfl, ho, hB⟩

set_option maxRecDepth 100000 in
set_option maxHeartbeats 8000000 in
theorem save_calls (vb vw v : Value) (bs : List (List UInt8)) (ws : List Wr) (l : List (List UInt8)) (k : Int) (w : World) (hb : Txts w vb bs) (hw : Wrs w vw ws) (hl : Txts w v l) (hT : TabOk w) (hmax : l.length ≤ 1000000) :
    Calls Tryd.prog 9 #[.agg #[vb, vw], v, .int .i64 k] w (SavePost (saveR bs ws l k) w) := by
  obtain ⟨ab, cb, rfl⟩ := hb.strs.form
  obtain ⟨aw, cw, rfl⟩ := hw.form
  obtain ⟨al, cl, rfl⟩ := hl.strs.form
  obtain ⟨hx0, hr0, hB0⟩ := entry2 w (.slice ab bs.length cb) (.slice aw ws.length cw)
  have KF := free_calls _ _ bs ws _ (hb.below hB0) (hw.below hB0) (hT.below hB0)
  have HIN := Lib.hid (And.intro hb (And.intro hw (And.intro hl hT)))
  clear hb hw hl hT
  by_cases hz : openE bs ws = 0
  · rw [hz] at KF
    have CC := fun w1 (hB1 : Below w.heap.size w w1) => containsFunc_calls _ l w1 (HIN.out.2.2.1.below hB1) hmax
    by_cases h2 : l.all (fun s => decide (s.length ≤ 200)) = true
    · rw [h2] at CC
      have HC := Lib.hid CC
      clear CC
      by_cases h3 : l.length ≤ (freeL bs ws).length
      · have c3 : decide (((freeL bs ws).length : Int) < l.length) = false := by simp; omega
        obtain ⟨hr, hb3, hb200, _⟩ := open_ok hz
        obtain ⟨_, _, hfe, hcount⟩ := open_table hz
        have husl : (toL bs ws l).length = l.length := by rw [toL, List.length_take]; omega
        have husb : ∀ a ∈ toL bs ws l, a ≤ 1000000000 := fun a ha => by
          have := List.mem_of_mem_take ha
          rw [hfe] at this
          have := free_mem this
          omega
        have hs200 : ∀ s ∈ l, s.length ≤ 4000 := fun s hs => by
          have := List.all_eq_true.1 h2 s hs
          simp at this
          omega
        have hl1000 : l.length ≤ 1000 := by omega
        have CT := fun v w1 (h : Nats w1 v (toL bs ws l)) => tableText_calls v (toL bs ws l) w1 h (by omega) husb
        have HTK : Hid ((freeL bs ws).take l.length = toL bs ws l) := Lib.hid rfl
        by_cases h4 : (tableB (toL bs ws l)).length ≤ 200
        · have c4 : decide ((200 : Int) < (tableB (toL bs ws l)).length) = false := by simp; omega
          have HS := Lib.hid (save_run (k := k) hz h2 h3 h4)
          have KB := fun (wd : World) (hBd : Below w.heap.size w wd) (Bl Bt Bs : Nat) (vl vt : Value) (h1 : Boxed wd Bl 22 vl) (h2 : Boxed wd Bt 33 vt) (h3 : Boxed wd Bs 9 (.string ⟨(tableB (toL bs ws l)).toArray⟩)) (hvl : Txts wd vl l) (hvt : Nats wd vt (toL bs ws l)) =>
            sbehind_calls _ _ bs ws k wd (HIN.out.1.below hBd) (HIN.out.2.1.below hBd) hr (HIN.out.2.2.2.below hBd) Bl Bt Bs vl vt l (toL bs ws l) (tableB (toL bs ws l)) h1 h2 h3 hvl hvt husl hl1000 hs200
          rw [HS.out]
          obtain ⟨⟨RE, RA, RB, RW⟩, hR⟩ : ∃ R, runR (bs, ws) (deedsL l (toL bs ws l) (tableB (toL bs ws l))) k = R := ⟨_, rfl⟩
          rw [hR] at KB ⊢
          generalize toL bs ws l = us at KB CT HTK husl c4 h4
          obtain ⟨F, hF⟩ : ∃ F, freeL bs ws = F := ⟨_, rfl⟩
          rw [hF] at KF HTK c3 h3
          generalize tableB us = tb at KB CT c4 h4
          have HB := Lib.hid KB
          have HF := Lib.hid KF
          have HCT := Lib.hid CT
          have HBN := Lib.hid (And.intro hb200 hcount)
          clear KB KF CT HS hR hF hz h2 husb hs200 hr hb200 hcount hb3 hfe h4
          go_enter Tryd.func9, Tryd.ntmps9
          go_wp2_with fail
          refine HF.out.mono ?_
          rintro e w1 ⟨vf, rfl, hof, hB1⟩
          obtain ⟨af, cf, rfl⟩ := hof.nats.form
          have hfc : F.length ≤ cf := by
            obtain ⟨_, _, _, he, hc, _⟩ := hof.nats
            cases he
            exact hc
          have hBB1 := below2 hB0 hB1
          have hnt := hof.nats.take l.length h3
          rw [HTK.out] at hnt
          have HNT := Lib.hid hnt
          clear hof hnt
          go_wp2_with fail
          refine (HC.out _ hBB1).mono ?_
          rintro e w2 ⟨rfl, rfl⟩
          have hg1 : (0 : Int) ≤ l.length := by omega
          go_wp2_with fail
          refine (HCT.out _ _ HNT.out).mono ?_
          rintro e w3 ⟨rfl, hB3⟩
          have hBB3 := below2 hBB1 hB3
          have hx3 := (hx0.below hB1).below hB3
          have hr3 := (hr0.below hB1).below hB3
          obtain ⟨d0, d1, df0, df1, dl⟩ := hx3.cells
          obtain ⟨e0, e1, ef0, ef1, el⟩ := hr3.cells
          go_upto_region 1 with fail
          go_region_with (first
            | (go_at_call 22; refine (deedsOf6_calls _ _ _ _ _ _ _ _).mono ?_; rintro e wd ⟨rfl, q1, q2, q3, hBd⟩; have hBd' := below2 (drew_below w3) hBd; have hBBd := below2 hBB3 hBd'; have hxd := hx3.below hBd'; have hrd := hr3.below hBd'; obtain ⟨p0, p1, pf0, pf1, pl⟩ := hxd.cells; obtain ⟨z0, z1, zf0, zf1, zl⟩ := hrd.cells)
            | (go_at_call 21; refine (HB.out _ hBBd _ _ _ _ _ q1 q2 q3 (HIN.out.2.2.1.below hBBd) ((HNT.out.below hB3).below hBd')).mono ?_; rintro e w5 ⟨vb5, vw5, rfl, ho5, hB5⟩; have hBB5 := below2 hBBd hB5; have hr5 := hrd.below hB5; obtain ⟨y0, y1, yf0, yf1, yl⟩ := hr5.cells; obtain ⟨ab5, nb5, cb5, aw5, nw5, cw5, rfl, rfl, hnb5, hnw5⟩ := ho5.forms; have HO5 := Lib.hid ho5; clear ho5 hnb5 hnw5 p0 p1 pf0 pf1 pl z0 z1 zf0 zf1 zl))
          all_goals
            go_wp2_with fail
            obtain ⟨r1, r2⟩ := ret_own (w := w) (x := .slice ab5 nb5 cb5) (y := .slice aw5 nw5 cw5) HO5.out (by have := hrd.cells.2.2.2.2; omega) hBB5
            have hr6 := bx_set hr5 (.slice ab5 nb5 cb5) (.slice aw5 nw5 cw5)
            refine ret_disk3 (p := 6) (q := 7) (r := 8) (by kernel_rfl) rfl (w.heap.size + 1) _ _ _ _ rfl rfl rfl hr6.cells.1 hr6.cells.2.1 ?_
            exact save_out rfl rfl rfl r1 r2
        · have c4 : decide ((200 : Int) < (tableB (toL bs ws l)).length) = true := by simp; omega
          have HS := Lib.hid (save_limit (k := k) hz h2 h3 h4)
          generalize toL bs ws l = us at CT HTK husl c4 h4
          obtain ⟨F, hF⟩ : ∃ F, freeL bs ws = F := ⟨_, rfl⟩
          rw [hF] at KF HTK c3 h3
          generalize tableB us = tb at CT c4 h4
          have HF := Lib.hid KF
          have HCT := Lib.hid CT
          have HBN := Lib.hid (And.intro hb200 hcount)
          clear KF CT hF hz h2 husb hs200 hr hb200 hcount hb3 hfe h4
          go_enter Tryd.func9, Tryd.ntmps9
          go_wp2_with fail
          refine HF.out.mono ?_
          rintro e w1 ⟨vf, rfl, hof, hB1⟩
          obtain ⟨af, cf, rfl⟩ := hof.nats.form
          have hfc : F.length ≤ cf := by
            obtain ⟨_, _, _, he, hc, _⟩ := hof.nats
            cases he
            exact hc
          have hBB1 := below2 hB0 hB1
          have hnt := hof.nats.take l.length h3
          rw [HTK.out] at hnt
          have HNT := Lib.hid hnt
          clear hof hnt
          go_wp2_with fail
          refine (HC.out _ hBB1).mono ?_
          rintro e w2 ⟨rfl, rfl⟩
          have hg1 : (0 : Int) ≤ l.length := by omega
          go_wp2_with fail
          refine (HCT.out _ _ HNT.out).mono ?_
          rintro e w3 ⟨rfl, hB3⟩
          have hBB3 := below2 hBB1 hB3
          have hr3 := (hr0.below hB1).below hB3
          obtain ⟨e0, e1, ef0, ef1, el⟩ := hr3.cells
          go_wp2_with fail
          obtain ⟨r1, r2⟩ := ret_own (x := .slice none 0 0) (y := .slice none 0 0) (nil_own w3 (w.heap.size + 2)) (Nat.le_refl _) hBB3
          have hr6 := bx_set hr3 (.slice none 0 0) (.slice none 0 0)
          refine ret_disk3 (p := 6) (q := 7) (r := 8) (by kernel_rfl) rfl (w.heap.size + 1) _ _ _ _ rfl rfl rfl hr6.cells.1 hr6.cells.2.1 ?_
          exact save_out HS.out rfl rfl r1 r2
      · have c3 : decide ((freeL bs ws).length < l.length) = true := by simp; omega
        have HS := Lib.hid (save_space (k := k) hz h2 h3)
        generalize freeL bs ws = F at KF c3
        have HF := Lib.hid KF
        clear KF hz h2 h3
        go_enter Tryd.func9, Tryd.ntmps9
        go_wp2_with fail
        refine HF.out.mono ?_
        rintro e w1 ⟨vf, rfl, hof, hB1⟩
        obtain ⟨af, cf, rfl⟩ := hof.nats.form
        have hBB1 := below2 hB0 hB1
        clear hof
        go_wp2_with fail
        refine (HC.out _ hBB1).mono ?_
        rintro e w2 ⟨rfl, rfl⟩
        have hr3 := hr0.below hB1
        obtain ⟨e0, e1, ef0, ef1, el⟩ := hr3.cells
        go_wp2_with fail
        obtain ⟨r1, r2⟩ := ret_own (x := .slice none 0 0) (y := .slice none 0 0) (nil_own w1 (w.heap.size + 2)) (Nat.le_refl _) hBB1
        have hr6 := bx_set hr3 (.slice none 0 0) (.slice none 0 0)
        refine ret_disk3 (p := 6) (q := 7) (r := 8) (by kernel_rfl) rfl (w.heap.size + 1) _ _ _ _ rfl rfl rfl hr6.cells.1 hr6.cells.2.1 ?_
        exact save_out HS.out rfl rfl r1 r2
    · have h2f : l.all (fun s => decide (s.length ≤ 200)) = false := by simpa using h2
      rw [h2f] at CC
      have HC := Lib.hid CC
      have HS := Lib.hid (save_long (k := k) hz h2)
      generalize freeL bs ws = F at KF
      have HF := Lib.hid KF
      clear KF CC hz h2 h2f
      go_enter Tryd.func9, Tryd.ntmps9
      go_wp2_with fail
      refine HF.out.mono ?_
      rintro e w1 ⟨vf, rfl, hof, hB1⟩
      obtain ⟨af, cf, rfl⟩ := hof.nats.form
      have hBB1 := below2 hB0 hB1
      clear hof
      go_wp2_with fail
      refine (HC.out _ hBB1).mono ?_
      rintro e w2 ⟨rfl, rfl⟩
      have hr3 := hr0.below hB1
      obtain ⟨e0, e1, ef0, ef1, el⟩ := hr3.cells
      go_wp2_with fail
      obtain ⟨r1, r2⟩ := ret_own (x := .slice none 0 0) (y := .slice none 0 0) (nil_own w1 (w.heap.size + 2)) (Nat.le_refl _) hBB1
      have hr6 := bx_set hr3 (.slice none 0 0) (.slice none 0 0)
      refine ret_disk3 (p := 6) (q := 7) (r := 8) (by kernel_rfl) rfl (w.heap.size + 1) _ _ _ _ rfl rfl rfl hr6.cells.1 hr6.cells.2.1 ?_
      exact save_out HS.out rfl rfl r1 r2
  · have HS := Lib.hid (save_open (l := l) (k := k) hz)
    have hzb : (openE bs ws != 0) = true := by simpa using hz
    clear hz
    generalize openE bs ws = E at KF HS hzb
    generalize freeL bs ws = F at KF
    have HF := Lib.hid KF
    clear KF
    go_enter Tryd.func9, Tryd.ntmps9
    go_wp2_with fail
    refine HF.out.mono ?_
    rintro e w1 ⟨vf, rfl, hof, hB1⟩
    obtain ⟨af, cf, rfl⟩ := hof.nats.form
    have hBB1 := below2 hB0 hB1
    have hr3 := hr0.below hB1
    obtain ⟨e0, e1, ef0, ef1, el⟩ := hr3.cells
    clear hof
    go_wp2_with fail
    obtain ⟨r1, r2⟩ := ret_own (x := .slice none 0 0) (y := .slice none 0 0) (nil_own w1 (w.heap.size + 2)) (Nat.le_refl _) hBB1
    have hr6 := bx_set hr3 (.slice none 0 0) (.slice none 0 0)
    refine ret_disk3 (p := 6) (q := 7) (r := 8) (by kernel_rfl) rfl (w.heap.size + 1) _ _ _ _ rfl rfl rfl hr6.cells.1 hr6.cells.2.1 ?_
    exact save_out HS.out rfl rfl r1 r2

end Go.Proofs.YtdbidfbjfongbaaDoor

/-
  slot: what is loaded behind a Save, behind a crash, behind two Saves.
-/
namespace Go.Proofs.YtdbidfbjfongbaaDoor
open Go.RowKit

theorem says_nil {bs : List (List UInt8)} (i : Nat) : saysL bs [] (i : Int) = bs.getD i [] := by simp [saysL, layL]
theorem says_lay (bs : List (List UInt8)) (xs : List Wr) (i : Int) : saysL (layL bs xs) [] i = saysL bs xs i := rfl
/-- Writes that go elsewhere do not change what a block says. -/
theorem says_miss (bs : List (List UInt8)) (i : Int) (hi : hasB bs.length i = true) : ∀ (xs ws : List Wr), (∀ x ∈ xs, x.1 ≠ i ∧ hasB bs.length x.1 = true) → saysL bs (ws ++ xs) i = saysL bs ws i
  | [], ws, _ => by rw [List.append_nil]
  | x :: r, ws, h => by
    have hx := h x (List.mem_cons_self ..)
    have ih := says_miss bs i hi r (ws ++ [x]) (fun y hy => h y (List.mem_cons_of_mem _ hy))
    rw [List.append_assoc, List.singleton_append] at ih
    rw [ih]
    exact says_cons_miss bs ws x i hx.1 hx.2 hi
/-- A block says what was written to it, where each block is written to once. -/
theorem says_hit (bs : List (List UInt8)) (ws xs : List Wr) (hd : (xs.map (·.1)).Nodup) (hh : ∀ x ∈ xs, hasB bs.length x.1 = true) (j : Nat) (hj : j < xs.length) : saysL bs (ws ++ xs) xs[j].1 = xs[j].2 := by
  have e : xs = xs.take j ++ [xs[j]] ++ xs.drop (j + 1) := by
    rw [List.append_assoc, List.singleton_append, List.getElem_cons_drop, List.take_append_drop]
  have hj0 := hh _ (List.getElem_mem hj)
  have h1 : saysL bs (ws ++ xs.take j ++ [xs[j]]) xs[j].1 = xs[j].2 := says_cons_hit bs _ _ _ rfl hj0
  have h2 := says_miss bs xs[j].1 hj0 (xs.drop (j + 1)) (ws ++ xs.take j ++ [xs[j]]) (fun x hx => by
    refine ⟨fun he => ?_, hh x (List.mem_of_mem_drop hx)⟩
    obtain ⟨i, hi, rfl⟩ := List.getElem_of_mem hx
    rw [List.getElem_drop] at he
    rw [List.length_drop] at hi
    have hp := List.pairwise_iff_getElem.1 hd j (j + 1 + i) (by simpa using hj) (by simp; omega) (by omega)
    simp only [List.getElem_map] at hp
    exact hp he.symm)
  have e2 : ws ++ xs = ws ++ xs.take j ++ [xs[j]] ++ xs.drop (j + 1) := by
    rw [List.append_assoc, List.append_assoc]
    congr 1
    rw [← List.append_assoc]
    exact e
  rw [e2, h2, h1]

/-- The blocks that a Save writes its pages to. -/
theorem us_facts {bs : List (List UInt8)} {ws : List Wr} {l : List (List UInt8)} (h : openE bs ws = 0) : (∀ a ∈ toL bs ws l, 2 ≤ a ∧ a < bs.length ∧ a ∉ openT bs ws) ∧ (toL bs ws l).Nodup := by
  obtain ⟨_, _, hf, _⟩ := open_table h
  refine ⟨fun a ha => ?_, ?_⟩
  · have := List.mem_of_mem_take ha
    rw [hf] at this
    exact free_mem this
  · refine List.Nodup.sublist (List.take_sublist _ _) ?_
    rw [hf]
    exact free_nodup _ _
theorem pageWs_fst {l : List (List UInt8)} {us : List Nat} (h : us.length = l.length) : (pageWs l us).map (·.1) = us.map (fun a : Nat => (a : Int)) := by
  unfold pageWs
  rw [List.map_map]
  show List.map (fun x : List UInt8 × Nat => (x.2 : Int)) (l.zip us) = _
  rw [← List.map_snd_zip (l₁ := l) (l₂ := us) (by omega), List.map_map]
  rw [List.map_snd_zip (by omega)]
  rfl
theorem cast_nodup {us : List Nat} (h : us.Nodup) : (us.map fun a : Nat => (a : Int)).Nodup := by
  rw [List.nodup_iff_pairwise_ne] at h ⊢
  rw [List.pairwise_map]
  exact h.imp (fun hne he => hne (by omega))

/-- Behind some of the pages' writes: the twin and the pages are as they were. -/
theorem kept_same {bs : List (List UInt8)} {ws : List Wr} {l : List (List UInt8)} (h : openE bs ws = 0) {cs : List (List UInt8)} {vs : List Wr} (hl : cs.length = bs.length) (hr : rightB cs vs = true) {xs : List Wr} (hx : ∀ x ∈ xs, x ∈ pageWs l (toL bs ws l))
    (hs : ∀ a : Nat, saysL cs vs (a : Int) = saysL bs (ws ++ xs) (a : Int)) : newestE cs vs 0 = 0 ∧ newestC cs vs 0 = newestC bs ws 0 ∧ (∀ a : Nat, a < bs.length → (a < 2 ∨ a ∈ openT bs ws) → saysL cs vs (a : Int) = saysL bs ws (a : Int)) := by
  obtain ⟨_, h3, _, _, hn, _⟩ := open_ok h
  obtain ⟨hu, _⟩ := us_facts (l := l) h
  have hm : ∀ a : Nat, a < bs.length → (a < 2 ∨ a ∈ openT bs ws) → saysL cs vs (a : Int) = saysL bs ws (a : Int) := by
    intro a ha hc
    rw [hs]
    refine says_miss bs a (hasB_iff.2 (by omega)) xs ws (fun x hxx => ?_)
    obtain ⟨b, hb, e⟩ := pageWs_mem (hx x hxx)
    obtain ⟨b1, b2, b3⟩ := hu b hb
    refine ⟨fun he => ?_, ?_⟩
    · have : b = a := by omega
      subst this
      rcases hc with hc | hc
      · omega
      · exact b3 hc
    · rw [e]; exact hasB_iff.2 (by omega)
  have h0 := hm 0 (by omega) (.inl (by omega))
  have h1 := hm 1 (by omega) (.inl (by omega))
  obtain ⟨n1, n2, _⟩ := newest_same hn hr hl h0 h1
  exact ⟨n1, n2, hm⟩

/-- A disk on which the new table is the twin's newest, and all pages were written. -/
theorem new_said {bs : List (List UInt8)} {ws : List Wr} {l : List (List UInt8)} (h : openE bs ws = 0) (hlen : (toL bs ws l).length = l.length) (h200 : ∀ s ∈ l, s.length ≤ 200) {cs : List (List UInt8)} {m : Nat} (hl : cs.length = bs.length) {vs : List Wr} (hn : newestE cs vs 0 = 0) (hc : newestC cs vs 0 = some (m, tableB (toL bs ws l)))
    (hs : ∀ a : Nat, 2 ≤ a → a < bs.length → saysL cs vs (a : Int) = saysL bs (ws ++ pageWs l (toL bs ws l)) (a : Int)) : openE cs vs = 0 ∧ openT cs vs = toL bs ws l ∧ openP cs vs = l ∧ openN cs vs = m := by
  obtain ⟨_, h3, h4, _⟩ := open_ok h
  obtain ⟨hu, hd⟩ := us_facts (l := l) h
  have hul : (toL bs ws l).length ≤ 200 := by
    obtain ⟨_, _, _, hc2⟩ := open_table h
    have : (toL bs ws l).length ≤ (freeL bs ws).length := by rw [toL, List.length_take]; omega
    omega
  refine open_new hn hc (by omega) (by omega) (fun a ha => ⟨(hu a ha).1, by rw [hl]; exact (hu a ha).2.1⟩) hd hlen.symm (by omega) h200 (fun j h1 h2 => ?_)
  have hj := hu _ (List.getElem_mem h1)
  rw [hs _ hj.1 hj.2.1]
  have hw : j < (pageWs l (toL bs ws l)).length := by rw [pageWs_len hlen.symm]; exact h2
  have := says_hit bs ws (pageWs l (toL bs ws l)) (by rw [pageWs_fst hlen]; exact cast_nodup hd) (fun x hx => by
    obtain ⟨a, ha, e⟩ := pageWs_mem hx
    have := hu a ha
    rw [e]
    exact hasB_iff.2 (by omega)) j hw
  rw [pageWs_at j hw h2 h1] at this
  exact this

/-- Behind the Sync, and what of the twin's deeds was done and is kept. -/
theorem twin_says {cs : List (List UInt8)} {t : List UInt8} (h : stopE cs [] 0 t = 0) (j : Int) (a : Nat) (h2 : 2 ≤ a) (ha : a < cs.length) (ks : List Bool) :
    saysL (stopBs cs [] 0 t j) (stopWs cs [] 0 t j) (a : Int) = saysL cs [] (a : Int) ∧ saysL (crashBs (stopBs cs [] 0 t j) (stopWs cs [] 0 t j) ks) [] (a : Int) = saysL cs [] (a : Int) := by
  obtain ⟨h1, _⟩ := stop_ok h
  obtain ⟨r, l⟩ := stop_right h j
  have hne : (a : Int) ≠ newestTo cs [] 0 := by
    rcases newestTo_has h1 with e | e <;> rw [e] <;> omega
  have hh : hasB cs.length (a : Int) = true := hasB_iff.2 (by omega)
  refine ⟨stop_says h j _ hh hne, ?_⟩
  have e1 : crashBs (stopBs cs [] 0 t j) (stopWs cs [] 0 t j) ks = layL (stopBs cs [] 0 t j) (keptL (stopWs cs [] 0 t j) ks) := by simp [crashBs, r]
  rw [e1, says_lay]
  by_cases j0 : j = 0
  · simp [stopBs, stopWs, h, j0, keptL_none]
  · by_cases j1 : j = 1
    · simp only [stopBs, stopWs, h, j1, if_true, List.nil_append]
      have hone : keptL [nextW cs [] 0 t] ks = [] ∨ keptL [nextW cs [] 0 t] ks = [nextW cs [] 0 t] := by
        cases ks with
        | nil => exact .inl rfl
        | cons b r => cases b <;> simp [keptL]
      have hm : saysL cs [nextW cs [] 0 t] (a : Int) = saysL cs [] (a : Int) := by
        have := stop_says h 1 _ hh hne
        simpa [stopBs, stopWs, h] using this
      rcases hone with e | e
      · simp [e]
      · simp [e, hm]
    · have e2 : stopWs cs [] 0 t j = [] := by simp [stopWs, h, j0, j1]
      rw [e2, keptL_none]
      have := stop_says h j _ hh hne
      rwa [e2] at this

/-- What was saved is loaded, with the next number; so many blocks are free. -/
theorem save_back {bs : List (List UInt8)} {ws : List Wr} {l : List (List UInt8)} (h : (saveR bs ws l (-1)).1 = 0) :
    openE bs ws = 0 ∧ (saveR bs ws l (-1)).2.1 = true ∧ (saveR bs ws l (-1)).2.2.2 = [] ∧ (saveR bs ws l (-1)).2.2.1.length = bs.length ∧
    openE (saveR bs ws l (-1)).2.2.1 [] = 0 ∧ openT (saveR bs ws l (-1)).2.2.1 [] = toL bs ws l ∧ openP (saveR bs ws l (-1)).2.2.1 [] = l ∧ openN (saveR bs ws l (-1)).2.2.1 [] = openN bs ws + 1 ∧ (freeL (saveR bs ws l (-1)).2.2.1 []).length + l.length + 2 = bs.length := by
  obtain ⟨h1, h2, h3, h4, h5, hc⟩ := save_ok h
  rcases hc with ⟨j, hj, _⟩ | ⟨a1, a2, a3, j, a4, a5, a6⟩
  · omega
  have ej := a4 (by omega)
  subst ej
  have hl : (layL bs (ws ++ pageWs l (toL bs ws l))).length = bs.length := layL_len _ _
  have e2 : stopWs (layL bs (ws ++ pageWs l (toL bs ws l))) [] 0 (tableB (toL bs ws l)) 2 = [] := by simp [stopWs, a3]
  have e3 : stopD (layL bs (ws ++ pageWs l (toL bs ws l))) [] 0 (tableB (toL bs ws l)) 2 = true := by simp [stopD, a3]
  obtain ⟨p1, p2⟩ := put_get a3 2 (by omega)
  obtain ⟨r, rl⟩ := stop_right a3 2
  have hr : rightB (layL bs (ws ++ pageWs l (toL bs ws l))) [] = true := right_lay a1 (fun x hx => hx)
  obtain ⟨k1, k2, _⟩ := kept_same (l := l) h1 hl hr (xs := pageWs l (toL bs ws l)) (fun x hx => hx) (fun a => rfl)
  rw [e2] at p1 p2
  rw [k2] at p2
  have hN := (open_ok h1).2.2.2.2.2.2.2
  rw [a6, e2, e3]
  obtain ⟨q1, q2, q3, q4⟩ := new_said (l := l) h1 h4 h2 (cs := stopBs (layL bs (ws ++ pageWs l (toL bs ws l))) [] 0 (tableB (toL bs ws l)) 2) (vs := []) (by rw [rl, hl]) p1 p2 (fun a b1 b2 => by
    have := (twin_says a3 2 a b1 (by rw [hl]; exact b2) []).1
    rw [e2] at this
    rw [this, says_lay])
  obtain ⟨_, _, _, f4⟩ := open_table q1
  rw [q2, h4, rl, hl] at f4
  exact ⟨h1, rfl, rfl, by simp only; rw [rl, hl], q1, q2, q3, by rw [hN]; exact q4, f4⟩

/-- Behind a Save that was stopped at any deed, and any crash: the pages that there were, or the new ones. -/
theorem save_crash {bs : List (List UInt8)} {l : List (List UInt8)} {k : Int} (h : (saveR bs [] l k).1 = 0) (ks : List Bool) :
    rightB (saveR bs [] l k).2.2.1 (saveR bs [] l k).2.2.2 = true ∧ (crashBs (saveR bs [] l k).2.2.1 (saveR bs [] l k).2.2.2 ks).length = bs.length ∧ openE (crashBs (saveR bs [] l k).2.2.1 (saveR bs [] l k).2.2.2 ks) [] = 0 ∧
    ((openP (crashBs (saveR bs [] l k).2.2.1 (saveR bs [] l k).2.2.2 ks) [] = l ∧ openN (crashBs (saveR bs [] l k).2.2.1 (saveR bs [] l k).2.2.2 ks) [] = openN bs [] + 1) ∨
     ((saveR bs [] l k).2.1 = false ∧ openP (crashBs (saveR bs [] l k).2.2.1 (saveR bs [] l k).2.2.2 ks) [] = openP bs [] ∧ openN (crashBs (saveR bs [] l k).2.2.1 (saveR bs [] l k).2.2.2 ks) [] = openN bs [])) := by
  obtain ⟨h1, h2, h3, h4, h5, hc⟩ := save_ok h
  have h1' := open_ok h1
  obtain ⟨t1, _⟩ := open_table h1
  rcases hc with ⟨j, hj, hj2, a6, a1⟩ | ⟨a1, a2, a3, j, a4, a5, a6⟩
  · rw [a6]
    rw [List.nil_append] at a1 ⊢
    have e1 : crashBs bs ((pageWs l (toL bs [] l)).take j) ks = layL bs (keptL ((pageWs l (toL bs [] l)).take j) ks) := by simp [crashBs, a1]
    have hk : ∀ x ∈ keptL ((pageWs l (toL bs [] l)).take j) ks, x ∈ (pageWs l (toL bs [] l)).take j := fun x hx => keptL_mem hx
    have hr : rightB (layL bs (keptL ((pageWs l (toL bs [] l)).take j) ks)) [] = true := right_lay a1 hk
    have hl : (layL bs (keptL ((pageWs l (toL bs [] l)).take j) ks)).length = bs.length := layL_len _ _
    obtain ⟨k1, k2, k3⟩ := kept_same (l := l) h1 hl hr (xs := keptL ((pageWs l (toL bs [] l)).take j) ks) (fun x hx => List.mem_of_mem_take (hk x hx)) (fun a => rfl)
    obtain ⟨q1, q2, q3, q4⟩ := open_same h1 hl k1 k2 (fun a ha => k3 a (t1 a ha).2 (.inr ha))
    simp only [e1]
    exact ⟨a1, hl, q1, .inr ⟨trivial, q3, q4⟩⟩
  · rw [a6]
    rw [List.nil_append] at a1 a3 ⊢
    have hl : (layL bs (pageWs l (toL bs [] l))).length = bs.length := layL_len _ _
    have hr : rightB (layL bs (pageWs l (toL bs [] l))) [] = true := right_lay a1 (fun x hx => hx)
    obtain ⟨k1, k2, k3⟩ := kept_same (l := l) h1 hl hr (xs := pageWs l (toL bs [] l)) (fun x hx => hx) (fun a => rfl)
    obtain ⟨c1, c2, c3, c4⟩ := crash_get a3 j ks
    obtain ⟨r, rl⟩ := stop_right a3 j
    simp only
    refine ⟨r, by rw [c3, hl], ?_⟩
    rcases c4 with c4 | ⟨c4, c5⟩
    · rw [k2] at c4
      obtain ⟨q1, q2, q3, q4⟩ := new_said (l := l) h1 h4 h2 (cs := crashBs (stopBs (layL bs (pageWs l (toL bs [] l))) [] 0 (tableB (toL bs [] l)) j) (stopWs (layL bs (pageWs l (toL bs [] l))) [] 0 (tableB (toL bs [] l)) j) ks) (vs := []) (by rw [c3, hl]) c1 c4 (fun a b1 b2 => by
        rw [(twin_says a3 j a b1 (by rw [hl]; exact b2) ks).2, says_lay, List.nil_append])
      exact ⟨q1, .inl ⟨q3, by rw [q4, h1'.2.2.2.2.2.2.2]⟩⟩
    · rw [k2] at c5
      obtain ⟨q1, q2, q3, q4⟩ := open_same h1 (cs := crashBs (stopBs (layL bs (pageWs l (toL bs [] l))) [] 0 (tableB (toL bs [] l)) j) (stopWs (layL bs (pageWs l (toL bs [] l))) [] 0 (tableB (toL bs [] l)) j) ks) (vs := []) (by rw [c3, hl]) c1 c5 (fun a ha => by
        rw [(twin_says a3 j a (t1 a ha).1 (by rw [hl]; exact (t1 a ha).2) ks).2]
        exact k3 a (t1 a ha).2 (.inr ha))
      exact ⟨q1, .inr ⟨c4, q3, q4⟩⟩

end Go.Proofs.YtdbidfbjfongbaaDoor

/-
  slot: what is saved where there is room; a new shelf; two Saves; the document's rows.
-/
namespace Go.Proofs.YtdbidfbjfongbaaDoor
open Go.RowKit

theorem flat_le (T : List Nat) (m : Nat) (h : ∀ a ∈ T, (txtB (numB a)).length ≤ m) : ((T.map numB).map txtB).flatten.length ≤ m * T.length := by
  induction T with
  | nil => simp
  | cons a r ih =>
    have h1 := h a (List.mem_cons_self ..)
    have h2 := ih (fun b hb => h b (List.mem_cons_of_mem _ hb))
    simp only [List.map_cons, List.flatten_cons, List.length_append, List.length_cons, Nat.mul_add]
    omega
theorem flat_ge (T : List Nat) : 2 * T.length ≤ ((T.map numB).map txtB).flatten.length := by
  induction T with
  | nil => simp
  | cons a r ih =>
    simp only [List.map_cons, List.flatten_cons, List.length_append, List.length_cons]
    rw [txtB_length, numB_length]
    omega
theorem wid_small {a : Nat} (h : a < 256) : wid a ≤ 1 := by
  unfold wid
  repeat (first | omega | split)
/-- A table's bytes are few. -/
theorem table_le {T : List Nat} (h : ∀ a ∈ T, a < 256) (hl : T.length < 256) : (tableB T).length ≤ 2 + 4 * T.length := by
  have h1 := flat_le T 4 (fun a ha => by
    have := wid_small (h a ha)
    have h2 := wid_small (a := (numB a).length) (by rw [numB_length]; omega)
    rw [txtB_length, numB_length]
    rw [numB_length] at h2
    omega)
  have h3 := wid_small hl
  unfold tableB rowB
  rw [List.length_append, List.length_map, numB_length]
  omega
theorem table_ge (T : List Nat) : 1 + 2 * T.length ≤ (tableB T).length := by
  have h1 := flat_ge T
  unfold tableB rowB
  rw [List.length_append, List.length_map, numB_length]
  omega

/-- All writes are done where there is room for them. -/
theorem run_room : ∀ (vs : List Wr) (bs : List (List UInt8)) (ws : List Wr) (rest : List Dd) (k : Int), k < 0 → rightB bs ws = true → ws.length + vs.length ≤ 100 → (∀ x ∈ vs, hasB bs.length x.1 = true ∧ x.2.length ≤ 256) →
    runR (bs, ws) (vs.map (fun x => ((0 : Fin 4), x.1, x.2)) ++ rest) k = runR (bs, ws ++ vs) rest (k - vs.length) ∧ rightB bs (ws ++ vs) = true
  | [], bs, ws, rest, k, _, hr, _, _ => ⟨by simp, by simpa using hr⟩
  | x :: r, bs, ws, rest, k, hk, hr, hl, h => by
    obtain ⟨h1, h2⟩ := h x (List.mem_cons_self ..)
    rw [List.length_cons] at hl
    have he : writeE bs ws x.1 x.2 = 0 := by simp [writeE, hr, h1, h2]; omega
    have e : doD (bs, ws) ((0 : Fin 4), x.1, x.2) = (bs, ws ++ [x]) := by simp [doD, writeBs, writeWs, he]
    have ih := run_room r bs (ws ++ [x]) rest (k - 1) (by omega) (right_more he) (by simp; omega) (fun y hy => h y (List.mem_cons_of_mem _ hy))
    rw [List.map_cons, List.cons_append, run_go (by omega) (show doE (bs, ws) ((0 : Fin 4), x.1, x.2) = 0 from he), e, ih.1]
    refine ⟨?_, by simpa using ih.2⟩
    simp only [List.append_assoc, List.singleton_append, List.length_cons]
    congr 1
    push_cast
    omega
theorem frame_le {s : List UInt8} (h : s.length ≤ 200) : (frameB s).length ≤ 256 := by
  have := wid_le s.length
  rw [frameB_length]
  omega

/-- Where nothing waits, only the twin's number may refuse it. -/
theorem save_room {bs : List (List UInt8)} {l : List (List UInt8)} (h1 : openE bs [] = 0) (h2 : ∀ s ∈ l, s.length ≤ 200) (h3 : l.length ≤ (freeL bs []).length) (h4 : (tableB (toL bs [] l)).length ≤ 200) :
    (saveR bs [] l (-1)).1 = 0 ∨ ((saveR bs [] l (-1)).1 = 2 ∧ 1000000000 ≤ openN bs []) := by
  have h2' : l.all (fun s => decide (s.length ≤ 200)) = true := List.all_eq_true.2 (fun s hs => by simpa using h2 s hs)
  have hlen : (toL bs [] l).length = l.length := by rw [toL, List.length_take]; omega
  have hg := table_ge (toL bs [] l)
  obtain ⟨hr, hb3, _, _, hn, _, _, hN⟩ := open_ok h1
  obtain ⟨hu, _⟩ := us_facts (l := l) h1
  have e : saveR bs [] l (-1) = runR (bs, []) (deedsL l (toL bs [] l) (tableB (toL bs [] l))) (-1) := by
    unfold saveR
    rw [if_pos h1, if_pos h2', if_pos h3, if_pos h4]
  have hv : (pageWs l (toL bs [] l)).length = l.length := pageWs_len hlen.symm
  have hw : ∀ x ∈ pageWs l (toL bs [] l), hasB bs.length x.1 = true ∧ x.2.length ≤ 256 := by
    intro x hx
    obtain ⟨a, ha, e1⟩ := pageWs_mem hx
    refine ⟨by rw [e1]; exact hasB_iff.2 (by have := hu a ha; omega), ?_⟩
    unfold pageWs at hx
    obtain ⟨y, hy, rfl⟩ := List.mem_map.1 hx
    exact frame_le (h2 _ (List.of_mem_zip hy).1)
  rw [e]
  unfold deedsL
  rw [pageDs_eq]
  obtain ⟨q1, q2⟩ := run_room (pageWs l (toL bs [] l)) bs [] (endDs (tableB (toL bs [] l))) (-1) (by omega) hr (by simp only [List.length_nil]; omega) hw
  rw [q1]
  rw [List.nil_append] at q2 ⊢
  have hl : (layL bs (pageWs l (toL bs [] l))).length = bs.length := layL_len _ _
  have hR : rightB (layL bs (pageWs l (toL bs [] l))) [] = true := right_lay q2 (fun x hx => hx)
  obtain ⟨k1, k2, _⟩ := kept_same (l := l) h1 hl hR (xs := pageWs l (toL bs [] l)) (fun x hx => hx) (fun a => rfl)
  by_cases hlt : openN bs [] < 1000000000
  · left
    have hE : stopE (layL bs (pageWs l (toL bs [] l))) [] 0 (tableB (toL bs [] l)) = 0 := stop_zero k1 h4 (by rw [k2, ← hN]; exact hlt) (by simp)
    have s0 : syncE bs (pageWs l (toL bs [] l)) = 0 := by simp [syncE, q2]
    have s1 : syncBs bs (pageWs l (toL bs [] l)) = layL bs (pageWs l (toL bs [] l)) := by simp [syncBs, q2]
    have e2 : doD (bs, pageWs l (toL bs [] l)) ((1 : Fin 4), 0, tableB (toL bs [] l)) = (layL bs (pageWs l (toL bs [] l)), []) := by simp [doD, syBs, syWs, s0, s1, stopBs, stopWs, hE]
    unfold endDs
    rw [run_go (by omega) (show doE (bs, pageWs l (toL bs [] l)) ((1 : Fin 4), 0, tableB (toL bs [] l)) = 0 by simp [doE, syE, s0, s1, hE]), e2]
    rw [run_go (by omega) (show doE (layL bs (pageWs l (toL bs [] l)), []) ((2 : Fin 4), 0, tableB (toL bs [] l)) = 0 from hE)]
    rw [run_go (by omega) (show doE (doD (layL bs (pageWs l (toL bs [] l)), []) ((2 : Fin 4), 0, tableB (toL bs [] l))) ((3 : Fin 4), 0, tableB (toL bs [] l)) = 0 by
      show syncE _ _ = 0
      have := (stop_right hE 1).1
      simp [doD, syncE, this])]
    rfl
  · right
    have hE : stopE (layL bs (pageWs l (toL bs [] l))) [] 0 (tableB (toL bs [] l)) = 2 := by
      unfold stopE
      rw [if_pos k1, if_neg (fun hc => hlt (by rw [hN, ← k2]; exact hc.2))]
    have s0 : syncE bs (pageWs l (toL bs [] l)) = 0 := by simp [syncE, q2]
    have s1 : syncBs bs (pageWs l (toL bs [] l)) = layL bs (pageWs l (toL bs [] l)) := by simp [syncBs, q2]
    have e1 : doE (bs, pageWs l (toL bs [] l)) ((1 : Fin 4), 0, tableB (toL bs [] l)) = 2 := by simp [doE, syE, s0, s1, hE]
    unfold endDs
    rw [run_err (by omega) (by rw [e1]; omega), e1]
    exact ⟨rfl, by omega⟩
/-- A second Save of the same pages: done, or refused for want of room. -/
theorem save_twice {bs : List (List UInt8)} {ws : List Wr} {l : List (List UInt8)} (h : (saveR bs ws l (-1)).1 = 0) :
    (saveR (saveR bs ws l (-1)).2.2.1 [] l (-1)).1 = 0 ∨ (saveR (saveR bs ws l (-1)).2.2.1 [] l (-1)).1 = 41 ∨ (saveR (saveR bs ws l (-1)).2.2.1 [] l (-1)).1 = 2 := by
  obtain ⟨_, h2, _⟩ := save_ok h
  obtain ⟨_, _, _, _, k1, _⟩ := save_back h
  generalize (saveR bs ws l (-1)).2.2.1 = cs at k1
  have h2' : l.all (fun s => decide (s.length ≤ 200)) = true := List.all_eq_true.2 (fun s hs => by simpa using h2 s hs)
  by_cases h3 : l.length ≤ (freeL cs []).length
  · by_cases h4 : (tableB (toL cs [] l)).length ≤ 200
    · rcases save_room k1 h2 h3 h4 with e | e
      · exact .inl e
      · exact .inr (.inr e.1)
    · right; right
      unfold saveR
      rw [if_pos k1, if_pos h2', if_pos h3, if_neg h4]
  · right; left
    unfold saveR
    rw [if_pos k1, if_pos h2', if_neg h3]

/-- Format's answers. -/
def fmtE (n : Int) : Int := if n < 3 then 1 else newE n
def fmtB (n : Int) : List (List UInt8) := if n < 3 then [] else newB n
theorem fmt_ok {n : Int} (h : fmtE n = 0) : 3 ≤ n ∧ n ≤ 200 ∧ fmtB n = List.replicate n.toNat [] := by
  unfold fmtE newE at h
  split at h
  · omega
  · split at h
    · rename_i h1 h2
      exact ⟨by omega, h2.2, by rw [fmtB, if_neg h1, newB, if_pos h2]⟩
    · omega
theorem new_shelf {n : Nat} (h3 : 3 ≤ n) (h200 : n ≤ 200) : openE (List.replicate n []) [] = 0 ∧ openT (List.replicate n []) [] = [] ∧ openP (List.replicate n []) [] = [] ∧ openN (List.replicate n []) [] = 0 := by
  have hr : rightB (List.replicate n []) [] = true := by simp [rightB, blockB]; omega
  have hs : ∀ i : Int, sayH (List.replicate n []) [] i = none := by
    intro i
    have : saysL (List.replicate n []) [] i = [] := by
      unfold saysL layL
      simp only [List.foldl_nil, List.getD, List.getElem?_replicate]
      split <;> rfl
    rw [sayH, this, hear_nil]
  have e : newestE (List.replicate n []) [] 0 = 0 := newest_ok.2 ⟨hr, by omega, by simp; omega, by rw [hs, hs]; rfl⟩
  have ec : newestC (List.replicate n []) [] 0 = none := by
    unfold newestC
    rw [if_pos e, hs, hs]
    rfl
  have et : tabL (twT (List.replicate n []) []) (List.replicate n ([] : List UInt8)).length = some [] := by
    rw [twT, ec]
    rfl
  obtain ⟨q1, q2, q3, q4⟩ := open_zero (by simpa using h3) e et rfl
  exact ⟨q1, q2, q3, by rw [q4, ec]; rfl⟩

/-- The document's rows. -/
theorem shelved_facts : ∃ x y : List (List UInt8), (openE (List.replicate 5 []) [] = 0 ∧ openP (List.replicate 5 []) [] = [] ∧ openN (List.replicate 5 []) [] = 0) ∧
    saveR (List.replicate 5 []) [] [[97], [98]] (-1) = (0, true, x, []) ∧ (openE x [] = 0 ∧ openP x [] = [[97], [98]] ∧ openN x [] = 1 ∧ freeL x [] = [4]) ∧
    saveR x [] [[99], [100]] (-1) = (41, false, [], []) ∧ saveR x [] [[99]] (-1) = (0, true, y, []) ∧ (openE y [] = 0 ∧ openP y [] = [[99]] ∧ openN y [] = 2) := by
  obtain ⟨a1, a2, a3, a4⟩ := new_shelf (n := 5) (by omega) (by omega)
  have af : freeL (List.replicate 5 []) [] = [2, 3, 4] := by
    rw [(open_table a1).2.2.1, a2]
    rfl
  have at2 : toL (List.replicate 5 []) [] [[97], [98]] = [2, 3] := by rw [toL, af]; rfl
  have b0 : (saveR (List.replicate 5 []) [] [[97], [98]] (-1)).1 = 0 := by
    rcases save_room (bs := List.replicate 5 []) (l := [[97], [98]]) a1 (by simp) (by rw [af]; simp) (by
      have := table_le (T := [2, 3]) (by simp) (by simp)
      rw [at2]
      simp at this
      omega) with e | e
    · exact e
    · rw [a4] at e; omega
  obtain ⟨_, b1, b2, b3, b4, b5, b6, b7, b8⟩ := save_back b0
  rw [a4] at b7
  rw [at2] at b5
  obtain ⟨⟨E, A, X, V⟩, hR⟩ : ∃ R, saveR (List.replicate 5 []) [] [[97], [98]] (-1) = R := ⟨_, rfl⟩
  rw [hR] at b0 b1 b2 b3 b4 b5 b6 b7 b8 ⊢
  simp only at b0 b1 b2 b3 b4 b5 b6 b7 b8
  subst b0 b1 b2
  rw [List.length_replicate] at b3
  have bf : freeL X [] = [4] := by
    rw [(open_table b4).2.2.1, b5, b3]
    rfl
  have bt : toL X [] [[99]] = [4] := by rw [toL, bf]; rfl
  have c0 : (saveR X [] [[99]] (-1)).1 = 0 := by
    rcases save_room (bs := X) (l := [[99]]) b4 (by simp) (by rw [bf]; simp) (by
      have := table_le (T := [4]) (by simp) (by simp)
      rw [bt]
      simp at this
      omega) with e | e
    · exact e
    · rw [b7] at e; omega
  obtain ⟨_, c1, c2, _, c4, _, c6, c7, _⟩ := save_back c0
  rw [b7] at c7
  obtain ⟨⟨E', A', Y, V'⟩, hR'⟩ : ∃ R, saveR X [] [[99]] (-1) = R := ⟨_, rfl⟩
  rw [hR'] at c0 c1 c2 c4 c6 c7
  simp only at c0 c1 c2 c4 c6 c7
  subst c0 c1 c2
  refine ⟨X, Y, ⟨a1, a3, a4⟩, rfl, ⟨b4, b6, b7, bf⟩, ?_, hR', ⟨c4, c6, c7⟩⟩
  unfold saveR
  rw [if_pos b4, if_pos (by rfl), if_neg (by rw [bf]; simp)]

end Go.Proofs.YtdbidfbjfongbaaDoor

/-
  What the law file asks besides: Format, sextonref01.Ints, far.
-/
namespace Go.Proofs.YtdbidfbjfongbaaDoor
open Go.RowKit

set_option maxRecDepth 100000 in
set_option maxHeartbeats 4000000 in
theorem format_calls (n : Int) (w : World) :
    Calls Tryd.prog 14 #[.int .i64 n] w fun e w' => ∃ vb vw, e = .returned (.tuple #[.agg #[vb, vw], .int .i64 (fmtE n)]) ∧ OwnD w' w.heap.size vb (fmtB n) vw [] ∧ Below w.heap.size w w' := by
  have hr0 := Bx.new w (.slice none 0 0) (.slice none 0 0)
  have hB0 := below_alloc w (.cells #[.slice none 0 0, .slice none 0 0] 25)
  by_cases h : n < 3
  · have c : decide (n < 3) = true := by simp [h]
    have H := Lib.hid (show fmtE n = 1 ∧ fmtB n = [] by simp [fmtE, fmtB, h])
    obtain ⟨e0, e1, ef0, ef1, el⟩ := hr0.cells
    clear h
    go_enter Tryd.func14, Tryd.ntmps14
    go_wp2_with fail
    refine ret_disk2 (p := 2) (q := 3) (by kernel_rfl) rfl w.heap.size (.slice none 0 0) (.slice none 0 0) (.int .i64 1) rfl rfl (by go_simp) (by go_simp) ?_
    exact ⟨_, _, by rw [H.out.1], by rw [H.out.2]; exact nil_own _ _, hB0⟩
  · have c : decide (n < 3) = false := by simp [h]
    have H := Lib.hid (show fmtE n = newE n ∧ fmtB n = newB n by simp [fmtE, fmtB, h])
    have K := new_calls n (w.alloc (.cells #[.slice none 0 0, .slice none 0 0] 25))
    rw [H.out.1, H.out.2]
    generalize newE n = E at K ⊢
    generalize newB n = B at K ⊢
    have HK := Lib.hid K
    clear h K H
    go_enter Tryd.func14, Tryd.ntmps14
    go_wp2_with fail
    refine HK.out.mono ?_
    rintro e w1 ⟨vb1, vw1, rfl, ho1, hB1⟩
    have hr1 := hr0.below hB1
    obtain ⟨e0, e1, ef0, ef1, el⟩ := hr1.cells
    obtain ⟨ab1, nb1, cb1, aw1, nw1, cw1, rfl, rfl, hnb1, hnw1⟩ := ho1.forms
    clear hnb1 hnw1
    have HO := Lib.hid ho1
    clear ho1
    go_wp2_with fail
    have p1 := own_sets HO.out (B := w.heap.size) (by simp) (.slice ab1 nb1 cb1) (.slice aw1 nw1 cw1)
    have hr2 := bx_set hr1 (.slice ab1 nb1 cb1) (.slice aw1 nw1 cw1)
    refine ret_disk2 (p := 2) (q := 3) (by kernel_rfl) rfl w.heap.size _ _ (.int .i64 E) rfl rfl hr2.cells.1 hr2.cells.2.1 ?_
    exact ⟨_, _, rfl, ⟨own_weak p1.1 (by simp), own_weak p1.2 (by simp)⟩, ((below2 hB0 hB1).setCell (by simp) _).setCell (by simp) _⟩

/-- The first k numbers are the same. -/
def eqTo (la lb : List Nat) (k : Nat) : Prop := la.take k = lb.take k

set_option maxHeartbeats 2000000 in
theorem ints6_calls (va vb : Value) (la lb : List Nat) (w : World) (ha : Nats w va la) (hb : Nats w vb lb) (hm : la.length ≤ 1000000) :
    Calls Tryd.prog 23 #[va, vb] w fun e w' => e = .returned (.bool (decide (la = lb))) ∧ Below w.heap.size w w' := by
  obtain ⟨aa, ca, rfl⟩ := ha.form
  obtain ⟨ab, cb, rfl⟩ := hb.form
  have HA := Lib.hid ha
  have HB := Lib.hid hb
  clear ha hb
  by_cases hl : la.length = lb.length
  · have hne : ((la.length : Int) != (lb.length : Int)) = false := by simp [hl]
    have HL := Lib.hid hl
    have hle1 : la.length ≤ lb.length := by omega
    have hle2 : lb.length ≤ la.length := by omega
    clear hl
    go_enter Tryd.func23, Tryd.ntmps23
    go_wp2_with fail
    go_loopw [5] (fun i wr => ∃ k : Nat, k ≤ la.length ∧ i = .int .i64 k ∧ eqTo la lb k ∧ Below w.heap.size w wr) (fun i _ => la.length - (intOf i).toNat)
    case atStart => exact ⟨0, Nat.zero_le _, rfl, by simp [eqTo], Below.refl _ _⟩
    case round =>
      obtain ⟨k, hk, rfl, hf, hB⟩ := hrel
      by_cases hlt : k < la.length
      · have hlt2 : k < lb.length := by omega
        obtain ⟨b1, o1, rfl, hc1⟩ := (HA.out.below hB).at hlt
        obtain ⟨b2, o2, rfl, hc2⟩ := (HB.out.below hB).at hlt2
        by_cases hs : la[k] = lb[k]
        · have HS : Hid (eqTo la lb (k + 1)) := Lib.hid (by
            unfold eqTo at hf ⊢
            rw [List.take_succ_eq_append_getElem hlt, List.take_succ_eq_append_getElem hlt2, hf, hs])
          rw [← hs] at hc2
          generalize la[k] = s1 at hc1 hc2 hs
          have hsb : ((s1 : Int) != (s1 : Int)) = false := by simp
          clear hs hf
          go_wp2_with fail
          go_quiet (fail)
          go_wp2_with fail
          go_roundw
          case rel => exact ⟨k + 1, by omega, by go_num, HS.out, below_drewN hB _⟩
          case measure => simp [intOf]; omega
        · have HS : Hid (decide (la = lb) = false) := Lib.hid (by
            rw [decide_eq_false_iff_not]
            intro e
            subst e
            exact hs rfl)
          have hsb : (((la[k] : Nat) : Int) != ((lb[k] : Nat) : Int)) = true := by simp; omega
          clear hs hf
          go_wp2_with fail
          go_quiet (fail)
          go_wp2_with fail
          go_ret
          exact ⟨by rw [HS.out]; rfl, below_drewN hB _⟩
      · obtain rfl : k = la.length := by omega
        have hr := Lib.hid (show decide (la = lb) = true by
          unfold eqTo at hf
          rw [List.take_length, HL.out, List.take_length] at hf
          simp [hf])
        go_wp2_with fail
        go_ret
        exact ⟨by rw [hr.out]; rfl, hB⟩
  · have hne : ((la.length : Int) != (lb.length : Int)) = true := by simp; omega
    have hr := Lib.hid (show decide (la = lb) = false by
      rw [decide_eq_false_iff_not]
      intro e
      exact hl (by rw [e]))
    clear hl
    go_enter Tryd.func23, Tryd.ntmps23
    go_wp2_with fail
    go_ret
    exact ⟨by rw [hr.out]; rfl, Below.refl _ _⟩

/-- Is something more than is looked at? -/
def sfarB (bs : List (List UInt8)) (ws : List Wr) (l : List (List UInt8)) : Bool :=
  (decide (l.length ≤ 210) && l.any fun s => decide (300 < s.length)) || (bigB bs ws || (decide (20 < bs.length) && decide (bs.length ≤ 200))) || decide (210 < l.length)
theorem sfar_not {bs : List (List UInt8)} {ws : List Wr} {l : List (List UInt8)} (h : sfarB bs ws l = false) : l.length ≤ 210 := by
  simp only [sfarB, Bool.or_eq_false_iff, decide_eq_false_iff_not] at h
  omega
theorem sfar_long {bs : List (List UInt8)} {ws : List Wr} {l : List (List UInt8)} {k : Nat} (hk : k < l.length) (h1 : l.length ≤ 210) (h : 300 < l[k].length) : sfarB bs ws l = true := by
  have : (l.any fun s => decide (300 < s.length)) = true := List.any_eq_true.2 ⟨_, List.getElem_mem hk, by simpa using h⟩
  simp [sfarB, this, h1]
theorem sfar_low {bs : List (List UInt8)} {ws : List Wr} {l : List (List UInt8)} (h : l.length ≤ 210) (h2 : ∀ s ∈ l, ¬ 300 < s.length) : sfarB bs ws l = (bigB bs ws || (decide (20 < bs.length) && decide (bs.length ≤ 200))) := by
  have : (l.any fun s => decide (300 < s.length)) = false := List.any_eq_false.2 (fun s hs => by simpa using h2 s hs)
  have h3 : decide (210 < l.length) = false := by simp; omega
  simp [sfarB, this, h3]
theorem sfar_many {bs : List (List UInt8)} {ws : List Wr} {l : List (List UInt8)} (h : 210 < l.length) : sfarB bs ws l = true := by simp [sfarB, h]

set_option maxRecDepth 100000 in
set_option maxHeartbeats 8000000 in
theorem sfar_calls (vb vw v : Value) (bs : List (List UInt8)) (ws : List Wr) (l : List (List UInt8)) (w : World) (hb : Txts w vb bs) (hw : Wrs w vw ws) (hl : Txts w v l) :
    Calls Tryd.prog 7 #[.agg #[vb, vw], v] w fun e w' => e = .returned (.bool (sfarB bs ws l)) ∧ Below w.heap.size w w' := by
  obtain ⟨ab, cb, rfl⟩ := hb.strs.form
  obtain ⟨aw, cw, rfl⟩ := hw.form
  obtain ⟨al, cl, rfl⟩ := hl.strs.form
  have hx0 := Bx.new w (.slice ab bs.length cb) (.slice aw ws.length cw)
  have hB0 := below_alloc w (.cells #[.slice ab bs.length cb, .slice aw ws.length cw] 25)
  have CB := big_calls _ _ bs ws _ (hb.below hB0) (hw.below hB0)
  have hl0 := hl.below hB0
  clear hb hw
  have hcases : bigB bs ws = true ∨ (bigB bs ws = false ∧ bs.length ≤ 20) ∨ (bigB bs ws = false ∧ 20 < bs.length ∧ bs.length ≤ 200) ∨ (bigB bs ws = false ∧ 200 < bs.length) := by
    cases bigB bs ws with
    | true => exact .inl rfl
    | false => simp; omega
  go_enter Tryd.func7, Tryd.ntmps7
  go_wp2_with fail
  go_loop [5] (fun i => ∃ k : Nat, k ≤ l.length ∧ i = .int .i64 k ∧ (∀ s ∈ l.take k, ¬ 300 < s.length)) (fun i => l.length - (intOf i).toNat)
  case atStart => exact ⟨0, Nat.zero_le _, rfl, by simp⟩
  case round =>
    obtain ⟨k, hk, rfl, hno⟩ := hrel
    by_cases hmany : 210 < l.length
    · have c1 : decide ((l.length : Int) ≤ 210) = false := by simp; omega
      have c2 : decide ((210 : Int) < l.length) = true := by simp; omega
      have H := Lib.hid (sfar_many (bs := bs) (ws := ws) hmany)
      by_cases hlt : k < l.length
      · clear hno
        rcases hcases with hB | ⟨hB, h20⟩ | ⟨hB, h20, h200⟩ | ⟨hB, h200⟩
        · rw [hB] at CB
          have K := Lib.hid CB
          clear CB hB
          go_wp2_with fail
          refine K.out.mono ?_
          rintro e w1 ⟨rfl, hB1⟩
          obtain ⟨f0, f1, ff0, ff1, fl⟩ := (hx0.below hB1).cells
          go_wp2_with fail
          go_ret
          exact ⟨by rw [H.out]; rfl, below2 hB0 hB1⟩
        · rw [hB] at CB
          have d1 : decide ((20 : Int) < bs.length) = false := by simp; omega
          have K := Lib.hid CB
          clear CB hB
          go_wp2_with fail
          refine K.out.mono ?_
          rintro e w1 ⟨rfl, hB1⟩
          obtain ⟨f0, f1, ff0, ff1, fl⟩ := (hx0.below hB1).cells
          go_wp2_with fail
          go_ret
          exact ⟨by rw [H.out]; rfl, below2 hB0 hB1⟩
        · rw [hB] at CB
          have d1 : decide ((20 : Int) < bs.length) = true := by simp; omega
          have d2 : decide ((bs.length : Int) ≤ 200) = true := by simp; omega
          have K := Lib.hid CB
          clear CB hB
          go_wp2_with fail
          refine K.out.mono ?_
          rintro e w1 ⟨rfl, hB1⟩
          obtain ⟨f0, f1, ff0, ff1, fl⟩ := (hx0.below hB1).cells
          go_wp2_with fail
          go_ret
          exact ⟨by rw [H.out]; rfl, below2 hB0 hB1⟩
        · rw [hB] at CB
          have d1 : decide ((20 : Int) < bs.length) = true := by simp; omega
          have d2 : decide ((bs.length : Int) ≤ 200) = false := by simp; omega
          have K := Lib.hid CB
          clear CB hB
          go_wp2_with fail
          refine K.out.mono ?_
          rintro e w1 ⟨rfl, hB1⟩
          obtain ⟨f0, f1, ff0, ff1, fl⟩ := (hx0.below hB1).cells
          go_wp2_with fail
          go_ret
          exact ⟨by rw [H.out]; rfl, below2 hB0 hB1⟩
      · obtain rfl : k = l.length := by omega
        clear hno
        rcases hcases with hB | ⟨hB, h20⟩ | ⟨hB, h20, h200⟩ | ⟨hB, h200⟩
        · rw [hB] at CB
          have K := Lib.hid CB
          clear CB hB
          go_wp2_with fail
          refine K.out.mono ?_
          rintro e w1 ⟨rfl, hB1⟩
          obtain ⟨f0, f1, ff0, ff1, fl⟩ := (hx0.below hB1).cells
          go_wp2_with fail
          go_ret
          exact ⟨by rw [H.out]; rfl, below2 hB0 hB1⟩
        · rw [hB] at CB
          have d1 : decide ((20 : Int) < bs.length) = false := by simp; omega
          have K := Lib.hid CB
          clear CB hB
          go_wp2_with fail
          refine K.out.mono ?_
          rintro e w1 ⟨rfl, hB1⟩
          obtain ⟨f0, f1, ff0, ff1, fl⟩ := (hx0.below hB1).cells
          go_wp2_with fail
          go_ret
          exact ⟨by rw [H.out]; rfl, below2 hB0 hB1⟩
        · rw [hB] at CB
          have d1 : decide ((20 : Int) < bs.length) = true := by simp; omega
          have d2 : decide ((bs.length : Int) ≤ 200) = true := by simp; omega
          have K := Lib.hid CB
          clear CB hB
          go_wp2_with fail
          refine K.out.mono ?_
          rintro e w1 ⟨rfl, hB1⟩
          obtain ⟨f0, f1, ff0, ff1, fl⟩ := (hx0.below hB1).cells
          go_wp2_with fail
          go_ret
          exact ⟨by rw [H.out]; rfl, below2 hB0 hB1⟩
        · rw [hB] at CB
          have d1 : decide ((20 : Int) < bs.length) = true := by simp; omega
          have d2 : decide ((bs.length : Int) ≤ 200) = false := by simp; omega
          have K := Lib.hid CB
          clear CB hB
          go_wp2_with fail
          refine K.out.mono ?_
          rintro e w1 ⟨rfl, hB1⟩
          obtain ⟨f0, f1, ff0, ff1, fl⟩ := (hx0.below hB1).cells
          go_wp2_with fail
          go_ret
          exact ⟨by rw [H.out]; rfl, below2 hB0 hB1⟩
    · have c1 : decide ((l.length : Int) ≤ 210) = true := by simp; omega
      have c2 : decide ((210 : Int) < l.length) = false := by simp; omega
      by_cases hlt : k < l.length
      · obtain ⟨b, off, rfl, hcell⟩ := hl0.strs.at hlt
        have hbl := World.block_lt_of_cell? _ _ hcell
        by_cases h3 : 300 < l[k].length
        · have H := Lib.hid (sfar_long (bs := bs) (ws := ws) hlt (by omega) h3)
          generalize l[k] = s at hcell h3
          have c3 : decide ((300 : Int) < s.length) = true := by simp; omega
          clear hno h3
          go_wp2_with fail
          go_ret
          exact ⟨by rw [H.out]; rfl, hB0⟩
        · have HN : Hid (∀ s ∈ l.take (k + 1), ¬ 300 < s.length) := Lib.hid (by
            rw [List.take_succ_eq_append_getElem hlt]
            intro s hs
            rcases List.mem_append.1 hs with h | h
            · exact hno s h
            · obtain rfl := List.mem_singleton.1 h; exact h3)
          generalize l[k] = s at hcell h3
          have c3 : decide ((300 : Int) < s.length) = false := by simp; omega
          clear hno h3
          go_wp2_with fail
          go_round
          case rel => exact ⟨k + 1, by omega, by go_num, HN.out⟩
          case measure => simp [intOf]; omega
      · obtain rfl : k = l.length := by omega
        have H := Lib.hid (sfar_low (bs := bs) (ws := ws) (l := l) (by omega) (by rwa [List.take_length] at hno))
        clear hno
        rcases hcases with hB | ⟨hB, h20⟩ | ⟨hB, h20, h200⟩ | ⟨hB, h200⟩
        · rw [hB] at CB
          have H2 : Hid (sfarB bs ws l = true) := Lib.hid (by rw [H.out]; simp [hB])
          have K := Lib.hid CB
          clear CB hB
          go_wp2_with fail
          refine K.out.mono ?_
          rintro e w1 ⟨rfl, hB1⟩
          obtain ⟨f0, f1, ff0, ff1, fl⟩ := (hx0.below hB1).cells
          go_wp2_with fail
          go_ret
          exact ⟨by rw [H2.out]; rfl, below2 hB0 hB1⟩
        · rw [hB] at CB
          have d1 : decide ((20 : Int) < bs.length) = false := by simp; omega
          have H2 : Hid (sfarB bs ws l = false) := Lib.hid (by rw [H.out]; simp [hB, show ¬ 20 < bs.length by omega])
          have K := Lib.hid CB
          clear CB hB
          go_wp2_with fail
          refine K.out.mono ?_
          rintro e w1 ⟨rfl, hB1⟩
          obtain ⟨f0, f1, ff0, ff1, fl⟩ := (hx0.below hB1).cells
          go_wp2_with fail
          go_ret
          exact ⟨by rw [H2.out]; rfl, below2 hB0 hB1⟩
        · rw [hB] at CB
          have d1 : decide ((20 : Int) < bs.length) = true := by simp; omega
          have d2 : decide ((bs.length : Int) ≤ 200) = true := by simp; omega
          have H2 : Hid (sfarB bs ws l = true) := Lib.hid (by rw [H.out]; simp [hB, h20, h200])
          have K := Lib.hid CB
          clear CB hB
          go_wp2_with fail
          refine K.out.mono ?_
          rintro e w1 ⟨rfl, hB1⟩
          obtain ⟨f0, f1, ff0, ff1, fl⟩ := (hx0.below hB1).cells
          go_wp2_with fail
          go_ret
          exact ⟨by rw [H2.out]; rfl, below2 hB0 hB1⟩
        · rw [hB] at CB
          have d1 : decide ((20 : Int) < bs.length) = true := by simp; omega
          have d2 : decide ((bs.length : Int) ≤ 200) = false := by simp; omega
          have H2 : Hid (sfarB bs ws l = false) := Lib.hid (by rw [H.out]; simp [hB, show ¬ bs.length ≤ 200 by omega])
          have K := Lib.hid CB
          clear CB hB
          go_wp2_with fail
          refine K.out.mono ?_
          rintro e w1 ⟨rfl, hB1⟩
          obtain ⟨f0, f1, ff0, ff1, fl⟩ := (hx0.below hB1).cells
          go_wp2_with fail
          go_ret
          exact ⟨by rw [H2.out]; rfl, below2 hB0 hB1⟩

end Go.Proofs.YtdbidfbjfongbaaDoor

/-
  The law file's shelved: the document's rows.
-/
namespace Go.Proofs.YtdbidfbjfongbaaDoor
open Go.RowKit

theorem txts_lit (w : World) (o : Obj) (ls : List (List UInt8)) (t : TypeId) : Txts ((w.alloc o).alloc (.cells (ls.map SV).toArray t)) (.slice (some ⟨w.heap.size + 1, 0, none⟩) ls.length ls.length) ls := by
  have h := Txts.new (w.alloc o) ls t
  rwa [World.size_alloc] at h
theorem Nats.one (w : World) (a : Nat) (t : TypeId) : Nats (w.alloc (.cells #[.int .i64 (a : Int)] t)) (.slice (some ⟨w.heap.size, 0, none⟩) 1 1) [a] := by
  refine ⟨rfl, _, 1, rfl, Nat.le_refl _, .inr ⟨w.heap.size, 0, rfl, fun j hj => ?_⟩⟩
  have h := cell_of_row _ _ j _ _ _ (heap_alloc_new w (.cells #[.int .i64 (a : Int)] t))
  rw [Nat.zero_add, h]
  match j, hj with
  | 0, _ => rfl

set_option maxRecDepth 100000 in
set_option maxHeartbeats 16000000 in
theorem shelved_calls (w : World) (hT : TabOk w) : Calls Tryd.prog 10 #[] w fun e w' => e = .returned (.bool true) ∧ Below w.heap.size w w' := by
  have hBB := Below.refl w.heap.size w
  obtain ⟨x, y, F0, F1, F2, F3, F4, F5⟩ := shelved_facts
  have G0 := Lib.hid F0
  have G1 := Lib.hid F1
  have G2 := Lib.hid F2
  have G3 := Lib.hid F3
  have G4 := Lib.hid F4
  have G5 := Lib.hid F5
  clear F0 F1 F2 F3 F4 F5
  go_enter Tryd.func10, Tryd.ntmps10
  go_wp2_with fail
  refine (format_calls 5 _).mono ?_
  rintro e w1 ⟨vb1, vw1, he, ho1, hB1⟩
  rw [show fmtE 5 = 0 from rfl] at he
  subst he
  have hC1 := hB1
  replace hT := hT.below hC1
  replace hBB := below2 hBB hC1
  obtain ⟨ab1, nb1, cb1, aw1, nw1, cw1, rfl, rfl, hnb1, hnw1⟩ := ho1.forms
  have ht1 := ho1.texts
  have hv1 := ho1.wrs
  have N1 := Lib.hid (And.intro hnb1 hnw1)
  clear hnb1 hnw1
  rw [show fmtB 5 = List.replicate 5 [] from rfl] at ht1
  go_wp2_with fail
  refine (load_calls _ _ _ _ _ (ht1.below (below_alloc _ _)) (hv1.below (below_alloc _ _)) (hT.below (below_alloc _ _))).mono ?_
  rintro e w2 ⟨vp2, he, ho2, hB2⟩
  rw [G0.out.1] at he
  rw [G0.out.2.2] at he
  rw [show ((0 : Nat) : Int) = 0 from rfl] at he
  rw [G0.out.2.1] at ho2
  subst he
  have hC2 := below2 (below_alloc _ _) hB2
  have hx1 := (Bx.new w1 _ _).below hB2
  replace ht1 := ht1.below hC2
  replace hv1 := hv1.below hC2
  replace hT := hT.below hC2
  have c10 := hx1.cells.1
  have c11 := hx1.cells.2.1
  have l1 := hx1.cells.2.2.2.2
  replace hBB := below2 hBB hC2
  have hp2 := ho2.txts
  clear ho2
  obtain ⟨ap2, cp2, rfl⟩ := hp2.strs.form
  go_wp2_with fail
  refine (save_calls _ _ _ _ _ [[97], [98]] (-1) _ (ht1.below (below_alloc _ _)) (hv1.below (below_alloc _ _)) (Txts.new _ [[97], [98]] _) (hT.below (below_alloc _ _)) (by simp)).mono ?_
  rintro e w3 ⟨vb3, vw3, he, ho3, hB3⟩
  rw [G1.out] at he
  subst he
  have hC3 := below2 (below_alloc _ _) hB3
  replace hx1 := hx1.below hC3
  replace ht1 := ht1.below hC3
  replace hv1 := hv1.below hC3
  replace hT := hT.below hC3
  replace hp2 := hp2.below hC3
  replace c10 := hx1.cells.1
  replace c11 := hx1.cells.2.1
  replace l1 := hx1.cells.2.2.2.2
  replace hBB := below2 hBB hC3
  obtain ⟨ab3, nb3, cb3, aw3, nw3, cw3, rfl, rfl, hnb3, hnw3⟩ := ho3.forms
  have ht3 := ho3.texts
  have hv3 := ho3.wrs
  have N3 := Lib.hid (And.intro hnb3 hnw3)
  clear hnb3 hnw3
  rw [G1.out] at ht3
  rw [G1.out] at hv3
  go_wp2_with fail
  refine (load_calls _ _ _ _ _ (ht3.below (below_alloc _ _)) (hv3.below (below_alloc _ _)) (hT.below (below_alloc _ _))).mono ?_
  rintro e w4 ⟨vp4, he, ho4, hB4⟩
  rw [G2.out.1] at he
  rw [G2.out.2.2.1] at he
  rw [show ((1 : Nat) : Int) = 1 from rfl] at he
  rw [G2.out.2.1] at ho4
  subst he
  have hC4 := below2 (below_alloc _ _) hB4
  replace hx1 := hx1.below hC4
  replace ht1 := ht1.below hC4
  replace hv1 := hv1.below hC4
  have hx3 := (Bx.new w3 _ _).below hB4
  replace ht3 := ht3.below hC4
  replace hv3 := hv3.below hC4
  replace hT := hT.below hC4
  replace hp2 := hp2.below hC4
  replace c10 := hx1.cells.1
  replace c11 := hx1.cells.2.1
  replace l1 := hx1.cells.2.2.2.2
  have c30 := hx3.cells.1
  have c31 := hx3.cells.2.1
  have l3 := hx3.cells.2.2.2.2
  replace hBB := below2 hBB hC4
  have hp4 := ho4.txts
  clear ho4
  obtain ⟨ap4, cp4, rfl⟩ := hp4.strs.form
  go_wp2_with fail
  refine (free_calls _ _ _ _ _ ht3 hv3 hT).mono ?_
  rintro e w5 ⟨vp5, he, ho5, hB5⟩
  rw [G2.out.1] at he
  rw [G2.out.2.2.2] at ho5
  subst he
  have hC5 := hB5
  replace hx1 := hx1.below hC5
  replace ht1 := ht1.below hC5
  replace hv1 := hv1.below hC5
  replace hx3 := hx3.below hC5
  replace ht3 := ht3.below hC5
  replace hv3 := hv3.below hC5
  replace hT := hT.below hC5
  replace hp2 := hp2.below hC5
  replace hp4 := hp4.below hC5
  replace c10 := hx1.cells.1
  replace c11 := hx1.cells.2.1
  replace l1 := hx1.cells.2.2.2.2
  replace c30 := hx3.cells.1
  replace c31 := hx3.cells.2.1
  replace l3 := hx3.cells.2.2.2.2
  replace hBB := below2 hBB hC5
  have hf5 := ho5.nats
  clear ho5
  obtain ⟨af5, cf5, rfl⟩ := hf5.form
  go_wp2_with fail
  refine (save_calls _ _ _ _ _ [[99], [100]] (-1) _ (ht3.below (below_alloc _ _)) (hv3.below (below_alloc _ _)) (Txts.new _ [[99], [100]] _) (hT.below (below_alloc _ _)) (by simp)).mono ?_
  rintro e w6 ⟨vb6, vw6, he, ho6, hB6⟩
  rw [G3.out] at he
  subst he
  have hC6 := below2 (below_alloc _ _) hB6
  replace hx1 := hx1.below hC6
  replace ht1 := ht1.below hC6
  replace hv1 := hv1.below hC6
  replace hx3 := hx3.below hC6
  replace ht3 := ht3.below hC6
  replace hv3 := hv3.below hC6
  replace hT := hT.below hC6
  replace hp2 := hp2.below hC6
  replace hp4 := hp4.below hC6
  replace hf5 := hf5.below hC6
  replace c10 := hx1.cells.1
  replace c11 := hx1.cells.2.1
  replace l1 := hx1.cells.2.2.2.2
  replace c30 := hx3.cells.1
  replace c31 := hx3.cells.2.1
  replace l3 := hx3.cells.2.2.2.2
  replace hBB := below2 hBB hC6
  obtain ⟨ab6, nb6, cb6, aw6, nw6, cw6, rfl, rfl, hnb6, hnw6⟩ := ho6.forms
  have ht6 := ho6.texts
  have hv6 := ho6.wrs
  have N6 := Lib.hid (And.intro hnb6 hnw6)
  clear hnb6 hnw6
  rw [G3.out] at ht6
  rw [G3.out] at hv6
  go_wp2_with fail
  refine (save_calls _ _ _ _ _ [[99]] (-1) _ (ht3.below (below_alloc2 _ _ _)) (hv3.below (below_alloc2 _ _ _)) (txts_lit _ _ [[99]] _) (hT.below (below_alloc2 _ _ _)) (by simp)).mono ?_
  rintro e w7 ⟨vb7, vw7, he, ho7, hB7⟩
  rw [G4.out] at he
  subst he
  have hC7 := below2 (below_alloc2 _ _ _) hB7
  replace hx1 := hx1.below hC7
  replace ht1 := ht1.below hC7
  replace hv1 := hv1.below hC7
  replace hx3 := hx3.below hC7
  replace ht3 := ht3.below hC7
  replace hv3 := hv3.below hC7
  have hx6 := (Bx.new w6 _ _).below (below2 (below_alloc _ _) hB7)
  replace ht6 := ht6.below hC7
  replace hv6 := hv6.below hC7
  replace hT := hT.below hC7
  replace hp2 := hp2.below hC7
  replace hp4 := hp4.below hC7
  replace hf5 := hf5.below hC7
  replace c10 := hx1.cells.1
  replace c11 := hx1.cells.2.1
  replace l1 := hx1.cells.2.2.2.2
  replace c30 := hx3.cells.1
  replace c31 := hx3.cells.2.1
  replace l3 := hx3.cells.2.2.2.2
  have c60 := hx6.cells.1
  have c61 := hx6.cells.2.1
  have l6 := hx6.cells.2.2.2.2
  replace hBB := below2 hBB hC7
  obtain ⟨ab7, nb7, cb7, aw7, nw7, cw7, rfl, rfl, hnb7, hnw7⟩ := ho7.forms
  have ht7 := ho7.texts
  have hv7 := ho7.wrs
  have N7 := Lib.hid (And.intro hnb7 hnw7)
  clear hnb7 hnw7
  rw [G4.out] at ht7
  rw [G4.out] at hv7
  go_wp2_with fail
  refine (load_calls _ _ _ _ _ (ht7.below (below_alloc _ _)) (hv7.below (below_alloc _ _)) (hT.below (below_alloc _ _))).mono ?_
  rintro e w8 ⟨vp8, he, ho8, hB8⟩
  rw [G5.out.1] at he
  rw [G5.out.2.2] at he
  rw [show ((2 : Nat) : Int) = 2 from rfl] at he
  rw [G5.out.2.1] at ho8
  subst he
  have hC8 := below2 (below_alloc _ _) hB8
  replace hx1 := hx1.below hC8
  replace ht1 := ht1.below hC8
  replace hv1 := hv1.below hC8
  replace hx3 := hx3.below hC8
  replace ht3 := ht3.below hC8
  replace hv3 := hv3.below hC8
  replace hx6 := hx6.below hC8
  replace ht6 := ht6.below hC8
  replace hv6 := hv6.below hC8
  have hx7 := (Bx.new w7 _ _).below hB8
  replace ht7 := ht7.below hC8
  replace hv7 := hv7.below hC8
  replace hT := hT.below hC8
  replace hp2 := hp2.below hC8
  replace hp4 := hp4.below hC8
  replace hf5 := hf5.below hC8
  replace c10 := hx1.cells.1
  replace c11 := hx1.cells.2.1
  replace l1 := hx1.cells.2.2.2.2
  replace c30 := hx3.cells.1
  replace c31 := hx3.cells.2.1
  replace l3 := hx3.cells.2.2.2.2
  replace c60 := hx6.cells.1
  replace c61 := hx6.cells.2.1
  replace l6 := hx6.cells.2.2.2.2
  have c70 := hx7.cells.1
  have c71 := hx7.cells.2.1
  have l7 := hx7.cells.2.2.2.2
  replace hBB := below2 hBB hC8
  have hp8 := ho8.txts
  clear ho8
  obtain ⟨ap8, cp8, rfl⟩ := hp8.strs.form
  go_wp2_with fail
  refine (format_calls 2 _).mono ?_
  rintro e w9 ⟨vb9, vw9, he, ho9, hB9⟩
  rw [show fmtE 2 = 1 from rfl] at he
  subst he
  have hC9 := hB9
  replace hx1 := hx1.below hC9
  replace ht1 := ht1.below hC9
  replace hv1 := hv1.below hC9
  replace hx3 := hx3.below hC9
  replace ht3 := ht3.below hC9
  replace hv3 := hv3.below hC9
  replace hx6 := hx6.below hC9
  replace ht6 := ht6.below hC9
  replace hv6 := hv6.below hC9
  replace hx7 := hx7.below hC9
  replace ht7 := ht7.below hC9
  replace hv7 := hv7.below hC9
  replace hT := hT.below hC9
  replace hp2 := hp2.below hC9
  replace hp4 := hp4.below hC9
  replace hf5 := hf5.below hC9
  replace hp8 := hp8.below hC9
  replace c10 := hx1.cells.1
  replace c11 := hx1.cells.2.1
  replace l1 := hx1.cells.2.2.2.2
  replace c30 := hx3.cells.1
  replace c31 := hx3.cells.2.1
  replace l3 := hx3.cells.2.2.2.2
  replace c60 := hx6.cells.1
  replace c61 := hx6.cells.2.1
  replace l6 := hx6.cells.2.2.2.2
  replace c70 := hx7.cells.1
  replace c71 := hx7.cells.2.1
  replace l7 := hx7.cells.2.2.2.2
  replace hBB := below2 hBB hC9
  obtain ⟨ab9, nb9, cb9, aw9, nw9, cw9, rfl, rfl, hnb9, hnw9⟩ := ho9.forms
  have ht9 := ho9.texts
  have hv9 := ho9.wrs
  have N9 := Lib.hid (And.intro hnb9 hnw9)
  clear hnb9 hnw9
  go_wp2_with fail
  refine (texts_calls _ _ _ _ _ (hp4.below (below_alloc2 _ _ _)).strs (txts_lit _ _ [[97], [98]] _).strs (by simp)).mono ?_
  rintro e w10 ⟨he, hB10⟩
  rw [show decide (([[97], [98]] : List (List UInt8)) = [[97], [98]]) = true from rfl] at he
  subst he
  have hC10 := below2 (below_alloc2 _ _ _) hB10
  replace hx1 := hx1.below hC10
  replace ht1 := ht1.below hC10
  replace hv1 := hv1.below hC10
  replace hx3 := hx3.below hC10
  replace ht3 := ht3.below hC10
  replace hv3 := hv3.below hC10
  replace hx6 := hx6.below hC10
  replace ht6 := ht6.below hC10
  replace hv6 := hv6.below hC10
  replace hx7 := hx7.below hC10
  replace ht7 := ht7.below hC10
  replace hv7 := hv7.below hC10
  have hx9 := (Bx.new w9 _ _).below (below2 (below_alloc _ _) hB10)
  replace ht9 := ht9.below hC10
  replace hv9 := hv9.below hC10
  replace hT := hT.below hC10
  replace hp2 := hp2.below hC10
  replace hp4 := hp4.below hC10
  replace hf5 := hf5.below hC10
  replace hp8 := hp8.below hC10
  replace c10 := hx1.cells.1
  replace c11 := hx1.cells.2.1
  replace l1 := hx1.cells.2.2.2.2
  replace c30 := hx3.cells.1
  replace c31 := hx3.cells.2.1
  replace l3 := hx3.cells.2.2.2.2
  replace c60 := hx6.cells.1
  replace c61 := hx6.cells.2.1
  replace l6 := hx6.cells.2.2.2.2
  replace c70 := hx7.cells.1
  replace c71 := hx7.cells.2.1
  replace l7 := hx7.cells.2.2.2.2
  have c90 := hx9.cells.1
  have c91 := hx9.cells.2.1
  have l9 := hx9.cells.2.2.2.2
  replace hBB := below2 hBB hC10
  go_wp2_with fail
  refine (ints6_calls _ _ _ _ _ (hf5.below (below_alloc _ _)) (Nats.one _ 4 _) (by simp)).mono ?_
  rintro e w11 ⟨he, hB11⟩
  rw [show decide (([4] : List Nat) = [4]) = true from rfl] at he
  subst he
  have hC11 := below2 (below_alloc _ _) hB11
  replace hx1 := hx1.below hC11
  replace ht1 := ht1.below hC11
  replace hv1 := hv1.below hC11
  replace hx3 := hx3.below hC11
  replace ht3 := ht3.below hC11
  replace hv3 := hv3.below hC11
  replace hx6 := hx6.below hC11
  replace ht6 := ht6.below hC11
  replace hv6 := hv6.below hC11
  replace hx7 := hx7.below hC11
  replace ht7 := ht7.below hC11
  replace hv7 := hv7.below hC11
  replace hx9 := hx9.below hC11
  replace ht9 := ht9.below hC11
  replace hv9 := hv9.below hC11
  replace hT := hT.below hC11
  replace hp2 := hp2.below hC11
  replace hp4 := hp4.below hC11
  replace hf5 := hf5.below hC11
  replace hp8 := hp8.below hC11
  replace c10 := hx1.cells.1
  replace c11 := hx1.cells.2.1
  replace l1 := hx1.cells.2.2.2.2
  replace c30 := hx3.cells.1
  replace c31 := hx3.cells.2.1
  replace l3 := hx3.cells.2.2.2.2
  replace c60 := hx6.cells.1
  replace c61 := hx6.cells.2.1
  replace l6 := hx6.cells.2.2.2.2
  replace c70 := hx7.cells.1
  replace c71 := hx7.cells.2.1
  replace l7 := hx7.cells.2.2.2.2
  replace c90 := hx9.cells.1
  replace c91 := hx9.cells.2.1
  replace l9 := hx9.cells.2.2.2.2
  replace hBB := below2 hBB hC11
  go_wp2_with fail
  refine (texts_calls _ _ _ _ _ (hp8.below (below_alloc _ _)).strs (Txts.new _ [[99]] _).strs (by simp)).mono ?_
  rintro e w12 ⟨he, hB12⟩
  rw [show decide (([[99]] : List (List UInt8)) = [[99]]) = true from rfl] at he
  subst he
  have hC12 := below2 (below_alloc _ _) hB12
  replace hx1 := hx1.below hC12
  replace ht1 := ht1.below hC12
  replace hv1 := hv1.below hC12
  replace hx3 := hx3.below hC12
  replace ht3 := ht3.below hC12
  replace hv3 := hv3.below hC12
  replace hx6 := hx6.below hC12
  replace ht6 := ht6.below hC12
  replace hv6 := hv6.below hC12
  replace hx7 := hx7.below hC12
  replace ht7 := ht7.below hC12
  replace hv7 := hv7.below hC12
  replace hx9 := hx9.below hC12
  replace ht9 := ht9.below hC12
  replace hv9 := hv9.below hC12
  replace hT := hT.below hC12
  replace hp2 := hp2.below hC12
  replace hp4 := hp4.below hC12
  replace hf5 := hf5.below hC12
  replace hp8 := hp8.below hC12
  replace c10 := hx1.cells.1
  replace c11 := hx1.cells.2.1
  replace l1 := hx1.cells.2.2.2.2
  replace c30 := hx3.cells.1
  replace c31 := hx3.cells.2.1
  replace l3 := hx3.cells.2.2.2.2
  replace c60 := hx6.cells.1
  replace c61 := hx6.cells.2.1
  replace l6 := hx6.cells.2.2.2.2
  replace c70 := hx7.cells.1
  replace c71 := hx7.cells.2.1
  replace l7 := hx7.cells.2.2.2.2
  replace c90 := hx9.cells.1
  replace c91 := hx9.cells.2.1
  replace l9 := hx9.cells.2.2.2.2
  replace hBB := below2 hBB hC12
  go_wp2_with fail
  go_ret
  exact ⟨rfl, hBB⟩

end Go.Proofs.YtdbidfbjfongbaaDoor

/-
  A script: rows of steps, each of texts, a number and bools.
-/
namespace Go.Proofs.YtdbidfbjfongbaaDoor
open Go.RowKit Go.Joins Go.ChangeShapes Go.WideShapes Go.Deep

/-- A step: the texts' slice and they; the number; the bools' slice and they. -/
abbrev Sp := (Value × List (List UInt8)) × Int × (Value × List Bool)
def spcells (S : List Sp) : List Value := S.flatMap fun x => [x.1.1, .int .i64 x.2.1, x.2.2.1]
theorem spcells_len (S : List Sp) : (spcells S).length = S.length * 3 := by
  induction S with
  | nil => rfl
  | cons x r ih =>
    show ([x.1.1, .int .i64 x.2.1, x.2.2.1] ++ spcells r).length = _
    rw [List.length_append, ih, List.length_cons]
    simp
    omega
theorem spcells_at : ∀ (S : List Sp) (k : Nat) (h : k < S.length), (spcells S)[k * 3]? = some S[k].1.1 ∧ (spcells S)[k * 3 + 1]? = some (.int .i64 S[k].2.1) ∧ (spcells S)[k * 3 + 2]? = some S[k].2.2.1
  | x :: r, 0, _ => ⟨rfl, rfl, rfl⟩
  | x :: r, k + 1, h => by
    have ih := spcells_at r k (by simpa using h)
    have e : spcells (x :: r) = [x.1.1, .int .i64 x.2.1, x.2.2.1] ++ spcells r := rfl
    rw [e]
    refine ⟨?_, ?_, ?_⟩
    · rw [List.getElem?_append_right (by simp; omega), show (k + 1) * 3 - [x.1.1, .int .i64 x.2.1, x.2.2.1].length = k * 3 by simp; omega]
      exact ih.1
    · rw [List.getElem?_append_right (by simp; omega), show (k + 1) * 3 + 1 - [x.1.1, .int .i64 x.2.1, x.2.2.1].length = k * 3 + 1 by simp; omega]
      exact ih.2.1
    · rw [List.getElem?_append_right (by simp; omega), show (k + 1) * 3 + 2 - [x.1.1, .int .i64 x.2.1, x.2.2.1].length = k * 3 + 2 by simp; omega]
      exact ih.2.2
/-- The slice v reads as these steps. -/
def Steps (w : World) (v : Value) (S : List Sp) : Prop := Rw w 3 v S.length (spcells S) ∧ ∀ x ∈ S, Txts w x.1.1 x.1.2 ∧ Bools w x.2.2.1 x.2.2.2
theorem Steps.below {w w' : World} {v : Value} {S : List Sp} (h : Steps w v S) (hb : Below w.heap.size w w') : Steps w' v S := ⟨Rw.below h.1 hb, fun x hx => ⟨(h.2 x hx).1.below hb, (h.2 x hx).2.below hb⟩⟩
theorem Steps.form {w : World} {v : Value} {S : List Sp} (h : Steps w v S) : ∃ ao cap, v = .slice ao S.length cap := Rw.form h.1
theorem Steps.at {w : World} {ao : Option Addr} {n cap : Nat} {S : List Sp} (h : Steps w (.slice ao n cap) S) {k : Nat} (hk : k < S.length) :
    ∃ b off, ao = some ⟨b, off, none⟩ ∧ w.cell? ⟨b, off + k * 3, none⟩ = some S[k].1.1 ∧ w.cell? ⟨b, off + k * 3 + 1, none⟩ = some (.int .i64 S[k].2.1) ∧ w.cell? ⟨b, off + k * 3 + 2, none⟩ = some S[k].2.2.1 ∧ Txts w S[k].1.1 S[k].1.2 ∧ Bools w S[k].2.2.1 S[k].2.2.2 := by
  obtain ⟨⟨hl, ao', cap', he, _, hc⟩, hx⟩ := h
  cases he
  rcases hc with h0 | ⟨b, off, rfl, hc⟩
  · omega
  · have h2 := spcells_len S
    obtain ⟨e1, e2, e3⟩ := spcells_at S k hk
    obtain ⟨x1, x2⟩ := hx _ (List.getElem_mem hk)
    refine ⟨b, off, rfl, ?_, ?_, ?_, x1, x2⟩
    · rw [hc (k * 3) (by omega), ← e1, List.getElem?_eq_getElem (by omega)]
    · rw [Nat.add_assoc, hc (k * 3 + 1) (by omega), ← e2, List.getElem?_eq_getElem (by omega)]
    · rw [Nat.add_assoc, hc (k * 3 + 2) (by omega), ← e3, List.getElem?_eq_getElem (by omega)]

theorem stepCells : Tryd.prog.cellsOf 44 = 3 := by kernel_rfl
set_option maxRecDepth 100000 in
/-- A script that came in. -/
theorem steps_open {W : World} {base : Nat} {v : Value} {H : Type} {enc : TypeId × Value → H} {d : DataW H} {p : List MemPlace} (hv : Value.okWide Tryd.prog W .any base 41 v)
    (h : DataW.Trod enc Tryd.prog W 0 (fun _ => true) true 41 v d p) : ∃ S, Steps W v S ∧ S.length ≤ maxLen ∧ ∀ x ∈ S, x.1.2.length ≤ maxLen ∧ x.2.2.2.length ≤ maxLen := by
  obtain ⟨a0, len0, cap0, rfl⟩ := okWide_slice Tryd.underlying41 hv
  obtain ⟨fuel, hf⟩ := h
  rcases open_slice Tryd.underlying41 hf with ⟨hcs, _⟩ | ⟨a, l, c, m, k, D, Pl, hcs, _, hl, hm, hz, _, hcell⟩
  · simp [Value.cells] at hcs
    obtain ⟨rfl, rfl, rfl⟩ := hcs
    exact ⟨[], ⟨Rw.nil W 3, fun x hx => by cases hx⟩, by simp, fun x hx => by cases hx⟩
  · simp [Value.cells] at hcs
    obtain ⟨rfl, rfl, rfl⟩ := hcs
    have hz' : m = cap0 := by simpa using hz
    rw [stepCells] at hcell
    have each : ∀ i, i < m → ∃ y : Sp, W.cell? (a.add (i * 3)) = some y.1.1 ∧ W.cell? (a.add (i * 3 + 1)) = some (.int .i64 y.2.1) ∧ W.cell? (a.add (i * 3 + 2)) = some y.2.2.1 ∧ (Txts W y.1.1 y.1.2 ∧ y.1.2.length ≤ maxLen) ∧ (Bools W y.2.2.1 y.2.2.2 ∧ y.2.2.2.length ≤ maxLen) := by
      intro i hi
      obtain ⟨cs', h1, h2⟩ := hcell i hi
      obtain ⟨_, hlen, hc⟩ := World.cells?_some h1
      obtain ⟨xs, k2, _, _, _, hxl, hfs⟩ := DataW.trod_struct Tryd.underlying44 h2
      match xs, hxl, cs', hlen with
      | [y0, y1, y2], _, [v0, v1, v2], _ =>
        have g0 := hfs 0 _ rfl
        have g1 := hfs 1 _ rfl
        have g2 := hfs 2 _ rfl
        have c0 : Tryd.prog.cellsOf 22 = 1 := by kernel_rfl
        have c1 : Tryd.prog.cellsOf 3 = 1 := by kernel_rfl
        have c2 : Tryd.prog.cellsOf 37 = 1 := by kernel_rfl
        simp [c0] at g0
        simp [c1] at g1
        simp [c2] at g2
        have e0 := hc 0 (by omega)
        have e1 := hc 1 (by omega)
        have e2 := hc 2 (by omega)
        rw [add_add] at e0 e1 e2
        obtain ⟨T, t1, t2⟩ := txts_trod g0
        obtain ⟨z, z1, _, _⟩ := DataW.trod_int Tryd.underlying3 g1
        obtain ⟨K, k1, k2⟩ := bools_trod g2
        simp at z1
        subst z1
        exact ⟨((v0, T), z, (v2, K)), by simpa using e0, by simpa using e1, by simpa using e2, ⟨t1, t2⟩, ⟨k1, k2⟩⟩
    obtain ⟨Y, hY⟩ := choose_lt each
    have hll : ((List.range len0).map Y).length = len0 := by simp
    refine ⟨(List.range len0).map Y, ⟨⟨spcells_len _, some a, cap0, by rw [hll], by rw [hll]; omega, ?_⟩, ?_⟩, by rw [hll]; omega, ?_⟩
    · by_cases h0 : len0 = 0
      · left; rw [hll]; exact h0
      · right
        obtain ⟨b, off, spot⟩ := a
        have hspot : spot = none := by simpa [Addr.add] using World.cell?_spot (hY 0 (by omega)).1
        subst hspot
        refine ⟨b, off, rfl, fun j hj => ?_⟩
        have hj2 : j < len0 * 3 := by rw [spcells_len, hll] at hj; exact hj
        have hq : j / 3 < len0 := by omega
        obtain ⟨e0, e1, e2⟩ := spcells_at ((List.range len0).map Y) (j / 3) (by rw [hll]; exact hq)
        obtain ⟨y0, y1, y2, _⟩ := hY (j / 3) (by omega)
        rw [Go.WideShapes.add_plain] at y0 y1 y2
        simp only [List.getElem_map, List.getElem_range] at e0 e1 e2
        rcases (by omega : j % 3 = 0 ∨ j % 3 = 1 ∨ j % 3 = 2) with h | h | h
        · have ej : j / 3 * 3 = j := by omega
          rw [ej] at e0 y0
          rw [y0, ← e0, List.getElem?_eq_getElem hj]
        · have ej : j / 3 * 3 + 1 = j := by omega
          rw [ej] at e1 y1
          rw [y1, ← e1, List.getElem?_eq_getElem hj]
        · have ej : j / 3 * 3 + 2 = j := by omega
          rw [ej] at e2 y2
          rw [y2, ← e2, List.getElem?_eq_getElem hj]
    · intro x hx
      obtain ⟨r, hr, rfl⟩ := List.mem_map.1 hx
      have := hY r (by have := List.mem_range.1 hr; omega)
      exact ⟨this.2.2.2.1.1, this.2.2.2.2.1⟩
    · intro x hx
      obtain ⟨r, hr, rfl⟩ := List.mem_map.1 hx
      have := hY r (by have := List.mem_range.1 hr; omega)
      exact ⟨this.2.2.2.1.2, this.2.2.2.2.2⟩

end Go.Proofs.YtdbidfbjfongbaaDoor
