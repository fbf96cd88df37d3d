/-
  The texts of one folder in one: SoX, SoRefI, SoRefL, SoRefA, SoRefP, SoRefH.
-/
import Derived.Test.YtbadbfmeoiclfaaGreatDoorPks15b
import Derived.Test.YtbadbfmeoiclfaaGreatDoorPks08
import Derived.Test.YtbadbfmeoiclfaaGreatDoorPks12
import Derived.Test.YtbadbfmeoiclfaaGreatDoorPks09
import Derived.Test.YtbadbfmeoiclfaaGreatDoorPks14
import Derived.Deep.RegionHeld3
import Derived.Test.YtbadbfmeoiclfaaGreatDoorPks02
import Derived.Test.YtbadbfmeoiclfaaGreatDoorPks15a
import Derived.Test.YtbadbfmeoiclfaaGreatDoorPks13

/-
  store's calls of any tree: a store, or none.
-/
namespace Go.Proofs.YtbadbfmeoiclfaaGreatDoor
set_option maxRecDepth 100000
open Go.RowKit

/-- What is told of any pairs: of those that are no store there is ErrArg. -/
def refX (U : List Pr) (p : List UInt8) (n : Int) : Int := if isSt U then refE p n else 1
def asX (U : List Pr) (p : List UInt8) (n : Int) : Option En := if isSt U then asL U p n else none
def listX (U : List Pr) (d : List UInt8) (n : Int) : List En := if refX U d n = 0 then listL U d n else []
def histX (U : List Pr) (p : List UInt8) : List Pr := if refX U p 0 = 0 then histL U p else []
theorem refX_zero {U : List Pr} {s : List UInt8} {n : Int} : refX U s n = 0 ↔ isSt U = true ∧ isP s = true ∧ 0 ≤ n := by
  unfold refX
  cases isSt U with
  | false => simp
  | true => rw [if_pos rfl, ref_zero]; simp

set_option maxHeartbeats 2000000 in
theorem refusal_no {tv : Value} {U : List Pr} {w : World} (h : Sto w tv U) (hs : isSt U = false) (s : List UInt8) (n : Int) :
    Calls Tryz.prog 43 #[tv, .string ⟨s.toArray⟩, .int .i64 n] w fun e w' => e = .returned (.int .i64 1) ∧ Below w.heap.size w w' := by
  obtain ⟨tp, rfl⟩ := h.val
  have KI := Lib.hid (soIs_calls h)
  rw [hs] at KI
  clear h hs
  go_enter Tryz.func43, Tryz.ntmps43
  go_wp2_with fail
  refine KI.out.mono ?_
  rintro e w1 ⟨rfl, hB⟩
  go_wp2_with fail
  go_ret
  exact ⟨rfl, hB⟩

set_option maxHeartbeats 4000000 in
theorem asOf_no {tv : Value} {U : List Pr} {w : World} (h : Sto w tv U) (hs : isSt U = false) (p : List UInt8) (n : Int) :
    Calls Tryz.prog 14 #[tv, .string ⟨p.toArray⟩, .int .i64 n] w fun e w' => e = .returned (.tuple #[EV ([], 0, 0, 0, []) (.slice none 0 0), .bool false, .int .i64 1]) ∧ Below w.heap.size w w' := by
  obtain ⟨tp, rfl⟩ := h.val
  have hB0 := below_alloc w (.cells #[.string ⟨#[]⟩, .int .i64 0, .int .i64 0, .int .i64 0, .slice none 0 0] 41)
  have HE := Lib.hid (Cx.new w 41 [.string ⟨#[]⟩, .int .i64 0, .int .i64 0, .int .i64 0, .slice none 0 0])
  have KR := Lib.hid (fun W (hB : Below w.heap.size w W) => refusal_no (h.below hB) hs p n)
  have HH := Lib.hid hB0
  clear h hs hB0
  go_enter Tryz.func14, Tryz.ntmps14
  go_wp2_with fail
  refine (KR.out _ HH.out).mono ?_
  rintro e w1 ⟨rfl, hB1⟩
  have HB1 := Lib.hid (below2 HH.out hB1)
  have HE1 := Lib.hid (HE.out.below hB1)
  obtain ⟨⟨e0, e1, e2, e3, e4⟩, ⟨f0, f1, f2, f3, f4⟩, hlE⟩ := HE1.out.five2
  clear hB1
  go_wp2_with fail
  have hkk := keeps_sets5 w.heap.size w1 (.string ⟨#[]⟩) (.int .i64 0) (.int .i64 0) (.int .i64 0) (.slice none 0 0)
  exact ret_ent3 rfl rfl w.heap.size _ _ _ _ _ _ _ rfl rfl rfl (HE1.out.sets5 _ _ _ _ _) ⟨rfl, hkk.on HB1.out (Nat.le_refl _) HB1.out.size⟩

theorem asOfX_calls {tv : Value} {U : List Pr} {w : World} (h : Sto w tv U) (p : List UInt8) (n : Int) (hl : p.length ≤ 1000000) :
    Calls Tryz.prog 14 #[tv, .string ⟨p.toArray⟩, .int .i64 n] w fun e w' => ∃ v, e = .returned (.tuple #[EV (enD (asX U p n)) v, .bool (asX U p n).isSome, .int .i64 (refX U p n)]) ∧ OwnI w' w.heap.size v (enD (asX U p n)).2.2.2.2 ∧ Below w.heap.size w w' := by
  unfold asX refX
  cases hs : isSt U with
  | false => exact (asOf_no h hs p n).mono fun e w' he => ⟨_, he.1, World.ownsRow_nil _ _ _ _, he.2⟩
  | true => exact asOf_calls h hs p n hl

set_option maxHeartbeats 4000000 in
theorem list_no {tv : Value} {U : List Pr} {w : World} (h : Sto w tv U) (hs : isSt U = false) (d : List UInt8) (n : Int) :
    Calls Tryz.prog 16 #[tv, .string ⟨d.toArray⟩, .int .i64 n] w fun e w' => e = .returned (.tuple #[.slice none 0 0, .int .i64 1]) ∧ Below w.heap.size w w' := by
  obtain ⟨tp, rfl⟩ := h.val
  have HB0 := Lib.hid (below_alloc w (.cells #[.int .i64 n] 3))
  have HE := Lib.hid (Boxed.new w 3 (.int .i64 n))
  have KR := Lib.hid (fun W (hB : Below w.heap.size w W) => refusal_no (h.below hB) hs d n)
  obtain ⟨c0, f0⟩ := And.intro HE.out.cell HE.out.frozen
  clear h hs
  go_enter Tryz.func16, Tryz.ntmps16
  go_wp2_with fail
  refine (KR.out _ HB0.out).mono ?_
  rintro e w1 ⟨rfl, hB1⟩
  go_wp2_with fail
  go_ret2
  exact ⟨rfl, below2 HB0.out hB1⟩

theorem listX_calls {tv : Value} {U : List Pr} {w : World} (h : Sto w tv U) (d : List UInt8) (n : Int) (hl : d.length ≤ 1000000) :
    Calls Tryz.prog 16 #[tv, .string ⟨d.toArray⟩, .int .i64 n] w fun e w' => ∃ v S, e = .returned (.tuple #[v, .int .i64 (refX U d n)]) ∧ OwnE w' w.heap.size v S ∧ ens S = listX U d n ∧ Below w.heap.size w w' := by
  unfold listX refX
  cases hs : isSt U with
  | false => exact (list_no h hs d n).mono fun e w' he => ⟨_, [], he.1, OwnE.nil _ _, rfl, he.2⟩
  | true => exact list_calls h hs d n hl

set_option maxHeartbeats 4000000 in
theorem hist_no {tv : Value} {U : List Pr} {w : World} (h : Sto w tv U) (hs : isSt U = false) (p : List UInt8) :
    Calls Tryz.prog 18 #[tv, .string ⟨p.toArray⟩] w fun e w' => e = .returned (.tuple #[.slice none 0 0, .int .i64 1]) ∧ Below w.heap.size w w' := by
  obtain ⟨tp, rfl⟩ := h.val
  have HB0 := Lib.hid (below_alloc w (.cells #[.string ⟨p.toArray⟩] 9))
  have HE := Lib.hid (Boxed.new w 9 (.string ⟨p.toArray⟩))
  have KR := Lib.hid (fun W (hB : Below w.heap.size w W) => refusal_no (h.below hB) hs p 0)
  obtain ⟨c0, f0⟩ := And.intro HE.out.cell HE.out.frozen
  clear h hs
  go_enter Tryz.func18, Tryz.ntmps18
  go_wp2_with fail
  refine (KR.out _ HB0.out).mono ?_
  rintro e w1 ⟨rfl, hB1⟩
  go_wp2_with fail
  go_ret2
  exact ⟨rfl, below2 HB0.out hB1⟩

theorem histX_calls {tv : Value} {U : List Pr} {w : World} (h : Sto w tv U) (p : List UInt8) (hl : p.length ≤ 1000000) :
    Calls Tryz.prog 18 #[tv, .string ⟨p.toArray⟩] w fun e w' => ∃ v, e = .returned (.tuple #[v, .int .i64 (refX U p 0)]) ∧ OwnP w' w.heap.size v (histX U p) ∧ Below w.heap.size w w' := by
  unfold histX refX
  cases hs : isSt U with
  | false => exact (hist_no h hs p).mono fun e w' he => ⟨_, he.1, World.ownsRow_nil _ _ _ _, he.2⟩
  | true => exact hist_calls h hs p hl

/-- What Lay makes of any pairs, and its error. -/
def layX (U : List Pr) (n : Int) (l : List Cg) : Bool := isSt U && layB U n l
theorem layX_calls {tv : Value} {U : List Pr} {w : World} (h : Sto w tv U) (n : Int) (v : Value) (S : List Cv) (hS : Cgs w v S) (hn : S.length ≤ 1000000) (hs : SmallC (chs S)) :
    Calls Tryz.prog 12 #[tv, .int .i64 n, v] w fun e w' => ∃ u, e = .returned (.tuple #[.pointer u, .int .i64 (if layX U n (chs S) then 0 else 1)]) ∧ (layX U n (chs S) = true → TreeV w' (.pointer u) (layP U n (chs S))) ∧ Below w.heap.size w w' := by
  cases hx : layX U n (chs S) with
  | false =>
    rw [if_neg (by simp)]
    exact (lay_no h n v S hS hn hs hx).mono fun e w' he => ⟨_, he.1, fun hh => (by cases hh), he.2⟩
  | true =>
    rw [if_pos rfl]
    unfold layX at hx
    rw [Bool.and_eq_true] at hx
    refine (lay_ok h n v S hS hs hx.1 hx.2).mono fun e w' ⟨u, he, ht, hB⟩ => ?_
    obtain ⟨up, rfl⟩ := ht.val
    exact ⟨up, he, fun _ => ht, hB⟩

end Go.Proofs.YtbadbfmeoiclfaaGreatDoor

/-
  The document's own Is and Last, of pairs.
-/
namespace Go.Proofs.YtbadbfmeoiclfaaGreatDoor
set_option maxRecDepth 100000
open Go.RowKit

/-- The first k pairs are versions. -/
def stTo (l : List Pr) (k : Nat) : Prop := isSt (l.take k) = true
theorem stTo_succ {l : List Pr} {k : Nat} (h : stTo l k) (hk : k < l.length) (hv : verB l[k] = true) : stTo l (k + 1) := by
  unfold stTo isSt at h ⊢
  rw [List.take_succ_eq_append_getElem hk, List.all_append, h]
  simp [hv]
theorem stTo_all {l : List Pr} (h : stTo l l.length) : isSt l = true := by
  unfold stTo at h
  rwa [List.take_length] at h
theorem st_not {l : List Pr} {k : Nat} (hk : k < l.length) (hv : verB l[k] = false) : isSt l = false := by
  rw [isSt, List.all_eq_false]
  exact ⟨_, List.getElem_mem hk, by simp [hv]⟩

set_option maxHeartbeats 8000000 in
theorem refSt_calls (v : Value) (l : List Pr) (w : World) (h : Prs w v l) (hn : l.length ≤ 1000) (hs : ∀ x ∈ l, x.1.1.length ≤ 1000000 ∧ x.2.length ≤ 1000) :
    Calls Tryz.prog 25 #[v] w fun e w' => e = .returned (.bool (isSt l)) ∧ Below w.heap.size w w' := by
  obtain ⟨ao, cap, rfl⟩ := h.form
  have HH := Lib.hid h
  have HS := Lib.hid hs
  have HN := Lib.hid hn
  clear h hs hn
  go_enter Tryz.func25, Tryz.ntmps25
  go_wp2_with fail
  go_loopw [3] (fun i wr => ∃ k : Nat, i = .int .i64 k ∧ k ≤ l.length ∧ l.length ≤ 1000 ∧ Hid (stTo l k) ∧ Hid (Below w.heap.size w wr)) (fun i _ => l.length - (intOf i).toNat)
  case atStart => exact ⟨0, rfl, Nat.zero_le _, HN.out, Lib.hid (by simp [stTo, isSt]), Lib.hid (Below.refl _ _)⟩
  case round =>
    obtain ⟨k, rfl, hk, hn, hf, hB⟩ := hrel
    by_cases hlt : k < l.length
    · have hd : decide ((k : Int) < (l.length : Int)) = true := by rw [decide_eq_true_eq]; omega
      obtain ⟨b, off, rfl, c0, c1, c2⟩ := (HH.out.below hB.out).at hlt
      have hgo := stTo_succ hf.out hlt
      have hno := fun h => st_not hlt h
      obtain ⟨hl1, hl2⟩ := HS.out _ (List.getElem_mem hlt)
      obtain ⟨⟨⟨p, n⟩, s⟩, hx⟩ : ∃ x, l[k] = x := ⟨_, rfl⟩
      rw [hx] at c0 c1 c2 hgo hno hl1 hl2
      dsimp only at c0 c1 c2 hl1 hl2
      have KR := Lib.hid (fun W => rRead_calls s hl2 W)
      have KI := Lib.hid (fun W => kRefIs_calls p n hl1 W)
      have hv : verB ((p, n), s) = (keyB (p, n) && ((p != []) && decide (redE s = 0))) := rfl
      rw [hv] at hgo hno
      generalize (redM s).1 = z at *
      generalize (redM s).2.1 = d at *
      generalize (redM s).2.2 = cs at *
      generalize redG s = g at *
      obtain ⟨E, hE⟩ : ∃ E, redE s = E := ⟨_, rfl⟩
      rw [hE] at KR hgo hno
      obtain ⟨kb, hkb⟩ : ∃ b, keyB (p, n) = b := ⟨_, rfl⟩
      rw [hkb] at KI hgo hno
      clear hv hE hkb hx hl1 hl2
      have HC := Lib.hid (fun W (hW : Below wr.heap.size wr W) => (⟨look_below hW c0, look_below hW c1⟩ : W.cell? ⟨b, off + k * 3, none⟩ = some (.string ⟨p.toArray⟩) ∧ W.cell? ⟨b, off + k * 3 + 1, none⟩ = some (.int .i64 n)))
      cases kb with
      | false =>
        have HR := Lib.hid (hno rfl)
        clear hgo hno
        go_wp2_with fail
        refine (KR.out _).mono ?_
        rintro e w1 ⟨u, rfl, hI, hB1⟩
        obtain ⟨am, cm, rfl⟩ := (ints_own hI).form
        have hbr := below2 hB1 (below_alloc w1 (.cells #[.int .i64 z, .int .i64 d, .slice am cs.length cm] 39))
        obtain ⟨e0, e1⟩ := HC.out _ hbr
        have HB := Lib.hid (below2 hB.out hbr)
        clear hI hB1 hbr c0 c1 c2
        go_wp2_with fail
        refine (KI.out _).mono ?_
        rintro e w2 ⟨rfl, hB2⟩
        go_wp2_with fail
        go_ret
        exact ⟨by rw [HR.out]; rfl, below2 HB.out hB2⟩
      | true =>
        cases hp : (p == []) with
        | true =>
          have hp0 : p = [] := by simpa using hp
          subst hp0
          have HR := Lib.hid (hno (by simp))
          clear hgo hno
          go_wp2_with fail
          refine (KR.out _).mono ?_
          rintro e w1 ⟨u, rfl, hI, hB1⟩
          obtain ⟨am, cm, rfl⟩ := (ints_own hI).form
          have hbr := below2 hB1 (below_alloc w1 (.cells #[.int .i64 z, .int .i64 d, .slice am cs.length cm] 39))
          obtain ⟨e0, e1⟩ := HC.out _ hbr
          have HB := Lib.hid hbr
          clear hI hB1 hbr c0 c1 c2
          go_wp2_with fail
          refine (KI.out _).mono ?_
          rintro e w2 ⟨rfl, hB2⟩
          obtain ⟨f0, f1⟩ := HC.out _ (below2 HB.out hB2)
          clear e0 e1
          go_wp2_with fail
          go_ret
          exact ⟨by rw [HR.out]; rfl, below2 hB.out (below2 HB.out hB2)⟩
        | false =>
          have hp1 : (p != []) = true := by
            rw [bne_iff_ne]
            exact beq_eq_false_iff_ne.1 hp
          rw [hp1] at hgo hno
          clear hp1
          cases hE : (E != 0) with
          | true =>
            have HR := Lib.hid (hno (by simpa using hE))
            clear hgo hno
            go_wp2_with fail
            refine (KR.out _).mono ?_
            rintro e w1 ⟨u, rfl, hI, hB1⟩
            obtain ⟨am, cm, rfl⟩ := (ints_own hI).form
            have hbr := below2 hB1 (below_alloc w1 (.cells #[.int .i64 z, .int .i64 d, .slice am cs.length cm] 39))
            obtain ⟨e0, e1⟩ := HC.out _ hbr
            have HB := Lib.hid hbr
            clear hI hB1 hbr c0 c1 c2
            go_wp2_with fail
            refine (KI.out _).mono ?_
            rintro e w2 ⟨rfl, hB2⟩
            obtain ⟨f0, f1⟩ := HC.out _ (below2 HB.out hB2)
            clear e0 e1
            go_wp2_with fail
            go_ret
            exact ⟨by rw [HR.out]; rfl, below2 hB.out (below2 HB.out hB2)⟩
          | false =>
            have HR := Lib.hid (hgo (by simpa using hE))
            clear hgo hno
            go_wp2_with fail
            refine (KR.out _).mono ?_
            rintro e w1 ⟨u, rfl, hI, hB1⟩
            obtain ⟨am, cm, rfl⟩ := (ints_own hI).form
            have hbr := below2 hB1 (below_alloc w1 (.cells #[.int .i64 z, .int .i64 d, .slice am cs.length cm] 39))
            obtain ⟨e0, e1⟩ := HC.out _ hbr
            have HB := Lib.hid hbr
            clear hI hB1 hbr c0 c1 c2
            go_wp2_with fail
            refine (KI.out _).mono ?_
            rintro e w2 ⟨rfl, hB2⟩
            obtain ⟨f0, f1⟩ := HC.out _ (below2 HB.out hB2)
            clear e0 e1
            go_wp2_with fail
            go_roundw
            case rel => exact ⟨k + 1, by go_num, by omega, hn, HR, Lib.hid (below2 hB.out (below2 HB.out hB2))⟩
            case measure => simp [intOf]; omega
    · obtain rfl : k = l.length := by omega
      have hd : decide ((l.length : Int) < (l.length : Int)) = false := by simp
      have HR := Lib.hid (stTo_all hf.out)
      go_wp2_with fail
      go_ret
      exact ⟨by rw [HR.out]; rfl, hB.out⟩

/-! ### Last -/

theorem lastTo_succ {l : List Pr} {k : Nat} (hk : k < l.length) : lastI (l.take (k + 1)) = max (lastI (l.take k)) l[k].1.2 := by
  unfold lastI
  rw [List.take_succ_eq_append_getElem hk, List.foldl_append]
  rfl

set_option maxHeartbeats 8000000 in
theorem refLastSo_calls (v : Value) (l : List Pr) (w : World) (h : Prs w v l) (hn : l.length ≤ 1000) (hs : ∀ x ∈ l, x.1.1.length ≤ 1000000 ∧ x.2.length ≤ 1000) :
    Calls Tryz.prog 27 #[v] w fun e w' => e = .returned (.int .i64 (lastSo l)) ∧ Below w.heap.size w w' := by
  have K := Lib.hid (fun W (hB : Below w.heap.size w W) => refSt_calls v l W (h.below hB) hn hs)
  obtain ⟨ao, cap, rfl⟩ := h.form
  have HH := Lib.hid h
  have HN := Lib.hid hn
  clear h hs hn
  cases hb : isSt l with
  | false =>
    rw [hb] at K
    have HR := Lib.hid (show lastSo l = 0 by rw [lastSo, hb]; rfl)
    have h0 : 0 < l.length := by
      cases l with
      | nil => cases hb
      | cons x r => simp
    have hd : decide ((0 : Int) < (l.length : Int)) = true := by rw [decide_eq_true_eq]; omega
    have hn := HN.out
    clear hb
    go_enter Tryz.func27, Tryz.ntmps27
    go_wp2_with fail
    go_loopw [3, 4] (fun n i wr => n = .int .i64 0 ∧ i = .int .i64 0 ∧ Hid (Below w.heap.size w wr)) (fun _ _ _ => 0)
    case atStart => exact ⟨rfl, rfl, Lib.hid (Below.refl _ _)⟩
    case round =>
      obtain ⟨rfl, rfl, hB⟩ := hrel
      go_wp2_with fail
      refine (K.out _ hB.out).mono ?_
      rintro e w1 ⟨rfl, hB1⟩
      go_wp2_with fail
      go_ret
      exact ⟨by rw [HR.out]; rfl, below2 hB.out hB1⟩
  | true =>
    rw [hb] at K
    have HR := Lib.hid (show lastSo l = lastI l by rw [lastSo, hb, if_pos rfl])
    clear hb
    go_enter Tryz.func27, Tryz.ntmps27
    go_wp2_with fail
    go_loopw [3, 4] (fun n i wr => ∃ k : Nat, n = .int .i64 (lastI (l.take k)) ∧ i = .int .i64 k ∧ k ≤ l.length ∧ l.length ≤ 1000 ∧ Hid (Below w.heap.size w wr)) (fun _ i _ => l.length - (intOf i).toNat)
    case atStart => exact ⟨0, rfl, rfl, Nat.zero_le _, HN.out, Lib.hid (Below.refl _ _)⟩
    case round =>
      obtain ⟨k, rfl, rfl, hk, hn, hB⟩ := hrel
      by_cases hlt : k < l.length
      · have hd : decide ((k : Int) < (l.length : Int)) = true := by rw [decide_eq_true_eq]; omega
        have HC := Lib.hid (fun W (hW : Below wr.heap.size wr W) => ((HH.out.below hB.out).below hW).at hlt)
        have HL := Lib.hid (lastTo_succ hlt)
        obtain ⟨⟨⟨p, n⟩, s⟩, hx⟩ : ∃ x, l[k] = x := ⟨_, rfl⟩
        rw [hx] at HC HL
        dsimp only at HC HL
        generalize lastI (l.take k) = m at *
        clear hx
        go_wp2_with fail
        refine (K.out _ hB.out).mono ?_
        rintro e w1 ⟨rfl, hB1⟩
        obtain ⟨b, off, rfl, c0, c1, c2⟩ := HC.out _ hB1
        go_wp2_with fail
        go_roundw
        case rel => exact ⟨k + 1, by rw [HL.out], by go_num, by omega, hn, Lib.hid (below2 hB.out hB1)⟩
        case measure => simp [intOf]; omega
      · obtain rfl : k = l.length := by omega
        have hd : decide ((l.length : Int) < (l.length : Int)) = false := by simp
        rw [List.take_length]
        go_wp2_with fail
        go_ret
        exact ⟨by rw [HR.out]; rfl, hB.out⟩

end Go.Proofs.YtbadbfmeoiclfaaGreatDoor

/-
  The document's own Lay.
-/
namespace Go.Proofs.YtbadbfmeoiclfaaGreatDoor
set_option maxRecDepth 100000
open Go.RowKit

set_option maxHeartbeats 8000000 in
theorem refLay_no (v : Value) (l : List Pr) (n : Int) (c : Value) (S : List Cv) (w : World) (h : Prs w v l) (hn : l.length ≤ 1000) (hs : ∀ x ∈ l, x.1.1.length ≤ 1000000 ∧ x.2.length ≤ 1000) (hS : Cgs w c S) (hl : S.length ≤ 1000000) (hc : SmallC (chs S)) (hno : (isSt l && layB l n (chs S)) = false) :
    Calls Tryz.prog 13 #[v, .int .i64 n, c] w fun e w' => e = .returned (.tuple #[.slice none 0 0, .int .i64 1]) ∧ Below w.heap.size w w' := by
  have KS := Lib.hid (refSt_calls v l w h hn hs)
  have KL := Lib.hid (fun W (hB : Below w.heap.size w W) => refLastSo_calls v l W (h.below hB) hn hs)
  have KB := Lib.hid (fun W (hB : Below w.heap.size w W) => rBaIs_calls c S W (hS.below hB) hl hc)
  obtain ⟨av, cv, rfl⟩ := h.form
  obtain ⟨ac, cc, rfl⟩ := hS.form
  obtain ⟨k, hk⟩ : ∃ b, isSt l = b := ⟨_, rfl⟩
  obtain ⟨b, hb⟩ : ∃ b, isB (chs S) = b := ⟨_, rfl⟩
  obtain ⟨m, hm⟩ : ∃ b, lastSo l = b := ⟨_, rfl⟩
  have hor : k = false ∨ (k = true ∧ n < 1) ∨ (k = true ∧ 1 ≤ n ∧ 1000000000 < n) ∨ (k = true ∧ 1 ≤ n ∧ n ≤ 1000000000 ∧ b = false) ∨ (k = true ∧ 1 ≤ n ∧ n ≤ 1000000000 ∧ b = true ∧ n ≤ m) := by
    cases k with
    | false => exact .inl rfl
    | true =>
      by_cases h1 : n < 1
      · exact .inr (.inl ⟨rfl, h1⟩)
      by_cases h2 : 1000000000 < n
      · exact .inr (.inr (.inl ⟨rfl, by omega, h2⟩))
      cases b with
      | false => exact .inr (.inr (.inr (.inl ⟨rfl, by omega, by omega, rfl⟩)))
      | true =>
        refine .inr (.inr (.inr (.inr ⟨rfl, by omega, by omega, rfl, ?_⟩)))
        have h3 : ¬ (layB l n (chs S) = true) := by
          rw [hk] at hno
          simpa using hno
        rw [layB_iff] at h3
        have h4 : lastI l = m := by rw [← hm, lastSo, hk, if_pos rfl]
        rw [h4] at h3
        have h5 : ¬ m < n := fun h => h3 ⟨by omega, by omega, hb, h⟩
        omega
  rw [hk] at KS
  rw [hb] at KB
  rw [hm] at KL
  clear h hS hs hno hb hk hm hn hl hc
  rcases hor with rfl | ⟨rfl, h1⟩ | ⟨rfl, h1, h2⟩ | ⟨rfl, h1, h2, rfl⟩ | ⟨rfl, h1, h2, rfl, h3⟩
  · go_enter Tryz.func13, Tryz.ntmps13
    go_wp2_with fail
    refine KS.out.mono ?_
    rintro e w1 ⟨rfl, hB⟩
    go_wp2_with fail
    go_ret2
    exact ⟨rfl, hB⟩
  · have d1 : decide (n < 1) = true := decide_eq_true h1
    go_enter Tryz.func13, Tryz.ntmps13
    go_wp2_with fail
    refine KS.out.mono ?_
    rintro e w1 ⟨rfl, hB⟩
    go_wp2_with fail
    go_ret2
    exact ⟨rfl, hB⟩
  · have d1 : decide (n < 1) = false := decide_eq_false (by omega)
    have d2 : decide (1000000000 < n) = true := decide_eq_true h2
    go_enter Tryz.func13, Tryz.ntmps13
    go_wp2_with fail
    refine KS.out.mono ?_
    rintro e w1 ⟨rfl, hB⟩
    go_wp2_with fail
    go_ret2
    exact ⟨rfl, hB⟩
  · have d1 : decide (n < 1) = false := decide_eq_false (by omega)
    have d2 : decide (1000000000 < n) = false := decide_eq_false (by omega)
    go_enter Tryz.func13, Tryz.ntmps13
    go_wp2_with fail
    refine KS.out.mono ?_
    rintro e w1 ⟨rfl, hB⟩
    go_wp2_with fail
    refine (KB.out _ hB).mono ?_
    rintro e w2 ⟨rfl, hB2⟩
    go_wp2_with fail
    go_ret2
    exact ⟨rfl, below2 hB hB2⟩
  · have d1 : decide (n < 1) = false := decide_eq_false (by omega)
    have d2 : decide (1000000000 < n) = false := decide_eq_false (by omega)
    have d3 : decide (n ≤ m) = true := decide_eq_true h3
    go_enter Tryz.func13, Tryz.ntmps13
    go_wp2_with fail
    refine KS.out.mono ?_
    rintro e w1 ⟨rfl, hB⟩
    go_wp2_with fail
    refine (KB.out _ hB).mono ?_
    rintro e w2 ⟨rfl, hB2⟩
    have HB := Lib.hid (below2 hB hB2)
    clear hB hB2
    go_wp2_with fail
    refine (KL.out _ HB.out).mono ?_
    rintro e w3 ⟨rfl, hB3⟩
    go_wp2_with fail
    go_ret2
    exact ⟨rfl, below2 HB.out hB3⟩

set_option maxHeartbeats 8000000 in
theorem refLay_ok (v : Value) (l : List Pr) (n : Int) (c : Value) (S : List Cv) (w : World) (h : Prs w v l) (hn : l.length ≤ 1000) (hs : ∀ x ∈ l, x.1.1.length ≤ 1000000 ∧ x.2.length ≤ 1000) (hS : Cgs w c S) (hc : SmallC (chs S)) (hk : isSt l = true) (hl : layB l n (chs S) = true) :
    Calls Tryz.prog 13 #[v, .int .i64 n, c] w fun e w' => ∃ u, e = .returned (.tuple #[u, .int .i64 0]) ∧ Prs w' u (layP l n (chs S)) ∧ Below w.heap.size w w' := by
  obtain ⟨l1, l2, l3, l4⟩ := layB_iff.1 hl
  have hm20 : S.length ≤ 20 := by
    have := (isB_iff.1 l3).2.1
    simpa using this
  have KS := Lib.hid (refSt_calls v l w h hn hs)
  have KL := Lib.hid (fun W (hB : Below w.heap.size w W) => refLastSo_calls v l W (h.below hB) hn hs)
  have KB := Lib.hid (fun W (hB : Below w.heap.size w W) => rBaIs_calls c S W (hS.below hB) (by omega) hc)
  have hm : lastSo l = lastI l := by rw [lastSo, if_pos hk]
  rw [hk] at KS
  rw [l3] at KB
  rw [hm] at KL
  obtain ⟨m, hme⟩ : ∃ b, lastI l = b := ⟨_, rfl⟩
  rw [hme] at KL l4
  have d1 : decide (n < 1) = false := decide_eq_false (by omega)
  have d2 : decide (1000000000 < n) = false := decide_eq_false (by omega)
  have d3 : decide (n ≤ m) = false := decide_eq_false (by omega)
  have HH := Lib.hid (And.intro h (And.intro hS hc))
  obtain ⟨av, cv, rfl⟩ := h.form
  obtain ⟨ac, cc, rfl⟩ := hS.form
  have HL := Lib.hid (show (chs S).length = S.length by simp)
  have HN := Lib.hid hn
  clear h hS hs hc hk hl hm hme l3 hn
  go_enter Tryz.func13, Tryz.ntmps13
  go_wp2_with fail
  refine KS.out.mono ?_
  rintro e w1 ⟨rfl, hB⟩
  go_wp2_with fail
  refine (KB.out _ hB).mono ?_
  rintro e w2 ⟨rfl, hB2⟩
  have HB := Lib.hid (below2 hB hB2)
  clear hB hB2
  go_wp2_with fail
  refine (KL.out _ HB.out).mono ?_
  rintro e w3 ⟨rfl, hB3⟩
  have HB3 := Lib.hid (below2 HB.out hB3)
  clear hB3
  go_wp2_with fail
  go_loopw [0, 8] (fun t i wr => ∃ k : Nat, i = .int .i64 k ∧ k ≤ S.length ∧ Prs wr t (layP l n ((chs S).take k)) ∧ Below w.heap.size w wr) (fun _ i _ => S.length - (intOf i).toNat)
  case atStart => exact ⟨0, rfl, Nat.zero_le _, HH.out.1.below HB3.out, HB3.out⟩
  case round =>
    obtain ⟨k, rfl, hk, ht, hBr⟩ := hrel
    by_cases hlt : k < S.length
    · have hd : decide ((k : Int) < (S.length : Int)) = true := by rw [decide_eq_true_eq]; omega
      obtain ⟨b, off, rfl, ⟨c0, c1, c2, c3, c4⟩, hI⟩ := (HH.out.2.1.below hBr).at hlt
      have hltc : k < (chs S).length := by rw [HL.out]; exact hlt
      have hsm := (HH.out.2.2 _ (List.getElem_mem hltc)).2
      have hsn := Lib.hid (layP_snoc hltc l n)
      have hle := layP_len ((chs S).take k) l n
      rw [List.length_take, HL.out] at hle
      have hgt : (chs S)[k] = S[k].1 := by simp
      rw [hgt] at hsm hsn
      obtain ⟨⟨⟨q, g, z, d, cs⟩, vv⟩, hx⟩ : ∃ x, S[k] = x := ⟨_, rfl⟩
      rw [hx] at c0 c1 c2 c3 c4 hI hsm hsn
      dsimp only at c0 c1 c2 c3 c4 hI hsm hsn
      obtain ⟨s1, s3, rfl⟩ := hI.form
      obtain ⟨ta, tc, rfl⟩ := ht.form
      obtain ⟨s2, hs2⟩ : ∃ n, cs.length = n := ⟨_, rfl⟩
      have KV := Lib.hid (fun W (hB : Below wr.heap.size wr W) => rValue_calls z d _ cs g W (hI.below hB) (by omega))
      have hn2 := HN.out
      have KT := Lib.hid (fun s W (hB : Below wr.heap.size wr W) => refPut_calls _ _ q n s W (ht.below hB) (by omega))
      have HC := Lib.hid (fun W (hW : Below wr.heap.size wr W) => (⟨look_below hW c0, look_below hW c1, look_below hW c2, look_below hW c3, look_below hW c4⟩ : W.cell? ⟨b, off + k * 5, none⟩ = some (.string ⟨q.toArray⟩) ∧ W.cell? ⟨b, off + k * 5 + 1, none⟩ = some (.bool g) ∧ W.cell? ⟨b, off + k * 5 + 2, none⟩ = some (.int .i64 z) ∧ W.cell? ⟨b, off + k * 5 + 3, none⟩ = some (.int .i64 d) ∧ W.cell? ⟨b, off + k * 5 + 4, none⟩ = some (.slice s1 cs.length s3)))
      obtain ⟨tn, htn⟩ : ∃ x, (layP l n ((chs S).take k)).length = x := ⟨_, rfl⟩
      have HBR := Lib.hid hBr
      have hbr : Below wr.heap.size wr wr.drew := drew_below _
      rw [hs2] at c4 KV HC
      rw [htn] at KT ⊢
      clear hI hsm hx hgt ht hBr hle htn hn2 hs2
      go_wp2_with fail
      go_region_held3 (fun W => W.cell? ⟨b, off + k * 5, none⟩ = some (.string ⟨q.toArray⟩) ∧ W.cell? ⟨b, off + k * 5 + 1, none⟩ = some (.bool g) ∧ W.cell? ⟨b, off + k * 5 + 2, none⟩ = some (.int .i64 z) ∧ W.cell? ⟨b, off + k * 5 + 3, none⟩ = some (.int .i64 d) ∧ W.cell? ⟨b, off + k * 5 + 4, none⟩ = some (.slice s1 s2 s3)) (exact HC.out _ hbr) (first
        | (go_at_call 41; (with_reducible refine (KV.out _ hbr).mono ?_); rintro e w4 ⟨rfl, hB4⟩; have hbr := below2 hbr hB4))
      all_goals
        clear c0 c1 c2 c3 c4
        obtain ⟨c0, c1, c2, c3, c4⟩ := HC.out _ hbr
        have HB4 := Lib.hid hbr
        clear hbr
        go_wp2_with fail
        refine (KT.out _ _ HB4.out).mono ?_
        rintro e w5 ⟨ua, un, uc, rfl, hu, hB5⟩
        have HU := Lib.hid hu
        clear hu
        go_wp2_with fail
        go_roundw
        case rel => exact ⟨k + 1, by go_num, by omega, by rw [hsn.out]; exact HU.out.prs, below3 HBR.out HB4.out hB5⟩
        case measure => simp [intOf]; omega
    · obtain rfl : k = S.length := by omega
      have hd : decide ((S.length : Int) < (S.length : Int)) = false := by simp
      rw [List.take_of_length_le (Nat.le_of_eq HL.out)] at ht
      obtain ⟨ta, tc, rfl⟩ := ht.form
      obtain ⟨tn, htn⟩ : ∃ k, (layP l n (chs S)).length = k := ⟨_, rfl⟩
      rw [htn] at ht ⊢
      have HT := Lib.hid ht
      clear ht htn
      go_wp2_with fail
      go_ret2
      exact ⟨_, rfl, HT.out, hBr⟩

end Go.Proofs.YtbadbfmeoiclfaaGreatDoor

/-
  The document's own AsOf: the version that is the latest one not later, by going through all pairs.
-/
namespace Go.Proofs.YtbadbfmeoiclfaaGreatDoor
set_option maxRecDepth 100000
open Go.RowKit

/-- Of the first k pairs none is of the path and not later; the pair at j is the latest such. -/
def NoneTo (l : List Pr) (p : List UInt8) (n : Int) (k : Nat) : Prop := ∀ (i : Nat) (hi : i < l.length), i < k → l[i].1.1 = p → ¬ l[i].1.2 ≤ n
def BestTo (l : List Pr) (p : List UInt8) (n : Int) (k j : Nat) : Prop := ∃ hj : j < l.length, l[j].1.1 = p ∧ l[j].1.2 ≤ n ∧ ∀ (i : Nat) (hi : i < l.length), i < k → l[i].1.1 = p → l[i].1.2 ≤ n → l[i].1.2 ≤ l[j].1.2
theorem noneTo_succ {l : List Pr} {p : List UInt8} {n : Int} {k : Nat} (h : NoneTo l p n k) (hk : k < l.length) (hno : l[k].1.1 = p → ¬ l[k].1.2 ≤ n) : NoneTo l p n (k + 1) := by
  intro i hi hik
  by_cases e : i = k
  · subst e; exact hno
  · exact h i hi (by omega)
theorem noneTo_best {l : List Pr} {p : List UInt8} {n : Int} {k : Nat} (h : NoneTo l p n k) (hk : k < l.length) (h1 : l[k].1.1 = p) (h2 : l[k].1.2 ≤ n) : BestTo l p n (k + 1) k := by
  refine ⟨hk, h1, h2, fun i hi hik hp hn => ?_⟩
  by_cases e : i = k
  · subst e; exact Int.le_refl _
  · exact absurd hn (h i hi (by omega) hp)
theorem bestTo_same {l : List Pr} {p : List UInt8} {n : Int} {k j : Nat} (h : BestTo l p n k j) (hk : k < l.length) (hj : j < l.length) (hno : l[k].1.1 = p → l[k].1.2 ≤ n → l[k].1.2 ≤ l[j].1.2) : BestTo l p n (k + 1) j := by
  obtain ⟨_, h1, h2, h3⟩ := h
  refine ⟨hj, h1, h2, fun i hi hik hp hn => ?_⟩
  by_cases e : i = k
  · subst e; exact hno hp hn
  · exact h3 i hi (by omega) hp hn
theorem bestTo_new {l : List Pr} {p : List UInt8} {n : Int} {k j : Nat} (h : BestTo l p n k j) (hk : k < l.length) (hj : j < l.length) (h1 : l[k].1.1 = p) (h2 : l[k].1.2 ≤ n) (h3 : l[j].1.2 < l[k].1.2) : BestTo l p n (k + 1) k := by
  obtain ⟨_, _, _, h6⟩ := h
  refine ⟨hk, h1, h2, fun i hi hik hp hn => ?_⟩
  by_cases e : i = k
  · subst e; exact Int.le_refl _
  · have := h6 i hi (by omega) hp hn
    omega
theorem noneTo_all {l : List Pr} {p : List UInt8} {n : Int} (h : NoneTo l p n l.length) : asOf l p n = none := by
  rw [asOf_none]
  intro x hx hp
  obtain ⟨i, hi, rfl⟩ := List.getElem_of_mem hx
  have := h i hi hi hp
  omega
theorem bestTo_all {l : List Pr} (hr : Rises l) {p : List UInt8} {n : Int} {j : Nat} (h : BestTo l p n l.length j) (hj : j < l.length) : asOf l p n = some l[j] := by
  obtain ⟨_, h1, h2, h3⟩ := h
  rw [asOf_iff hr]
  refine ⟨List.getElem_mem hj, h1, h2, fun y hy hp hn => ?_⟩
  obtain ⟨i, hi, rfl⟩ := List.getElem_of_mem hy
  exact h3 i hi hi hp hn
theorem asX_told {l : List Pr} {p : List UInt8} {n : Int} (h : refX l p n = 0) : asX l p n = told (asOf l p n) := by
  obtain ⟨h1, h2, h3⟩ := refX_zero.1 h
  rw [asX, if_pos h1, asL, if_pos (ref_zero.2 ⟨h2, h3⟩)]
theorem asX_no {l : List Pr} {p : List UInt8} {n : Int} (h : refX l p n ≠ 0) : asX l p n = none := by
  unfold refX at h
  unfold asX
  cases hs : isSt l with
  | false => simp
  | true =>
    rw [hs, if_pos rfl] at h
    rw [if_pos rfl, asL, if_neg h]

/-- What is told behind all pairs: none, or what the version at j tells. -/
def asPost (w : World) (o : Option En) (E : Int) (e : Ending) (w' : World) : Prop :=
  ∃ v, e = .returned (.tuple #[EV (enD o) v, .bool o.isSome, .int .i64 E]) ∧ OwnI w' w.heap.size v (enD o).2.2.2.2 ∧ Below w.heap.size w w'

set_option maxHeartbeats 16000000 in
theorem refAs_calls (v : Value) (l : List Pr) (p : List UInt8) (n : Int) (w : World) (h : Prs w v l) (hr : Rises l) (hn : l.length ≤ 1000) (hs : ∀ x ∈ l, x.1.1.length ≤ 1000000 ∧ x.2.length ≤ 1000) (hl : p.length ≤ 1000000) :
    Calls Tryz.prog 15 #[v, .string ⟨p.toArray⟩, .int .i64 n] w (asPost w (asX l p n) (refX l p n)) := by
  have KS := Lib.hid (fun W (hB : Below w.heap.size w W) => refSt_calls v l W (h.below hB) hn hs)
  have KP := Lib.hid (fun W => refPathIs_calls p hl W)
  obtain ⟨av, cv, rfl⟩ := h.form
  have hB0 := below_alloc w (.cells #[.string ⟨#[]⟩, .int .i64 0, .int .i64 0, .int .i64 0, .slice none 0 0] 41)
  have HE := Lib.hid (Cx.new w 41 [.string ⟨#[]⟩, .int .i64 0, .int .i64 0, .int .i64 0, .slice none 0 0])
  have HB0 := Lib.hid hB0
  have hrX : refX l p n = if isSt l then (if isP p then (if n < 0 then 1 else 0) else 20) else 1 := rfl
  have htold := fun h => asX_told (l := l) (p := p) (n := n) h
  have hno := fun h => asX_no (l := l) (p := p) (n := n) h
  obtain ⟨E, hE⟩ : ∃ E, refX l p n = E := ⟨_, rfl⟩
  rw [hE] at hrX htold hno ⊢
  cases hb : isSt l with
  | false =>
    rw [hb] at KS hrX
    obtain rfl : E = 1 := hrX
    rw [hno (by decide)]
    clear h hr hn hs hl htold hno hE hb hB0
    go_enter Tryz.func15, Tryz.ntmps15
    go_wp2_with fail
    refine (KS.out _ HB0.out).mono ?_
    rintro e w1 ⟨rfl, hB1⟩
    have HB1 := Lib.hid (below2 HB0.out hB1)
    have HE1 := Lib.hid (HE.out.below hB1)
    obtain ⟨⟨e0, e1, e2, e3, e4⟩, ⟨f0, f1, f2, f3, f4⟩, hlE⟩ := HE1.out.five2
    clear hB1
    go_wp2_with fail
    have hkk := keeps_sets5 w.heap.size w1 (.string ⟨#[]⟩) (.int .i64 0) (.int .i64 0) (.int .i64 0) (.slice none 0 0)
    exact ret_ent3 rfl rfl w.heap.size _ _ _ _ _ _ _ rfl rfl rfl (HE1.out.sets5 _ _ _ _ _) ⟨_, rfl, World.ownsRow_nil _ _ _ _, hkk.on HB1.out (Nat.le_refl _) HB1.out.size⟩
  | true =>
    rw [hb] at KS hrX
    rw [if_pos rfl] at hrX
    cases hp : isP p with
    | false =>
      rw [hp] at KP hrX
      obtain rfl : E = 20 := hrX
      rw [hno (by decide)]
      clear h hr hn hs hl htold hno hE hb hp hB0
      go_enter Tryz.func15, Tryz.ntmps15
      go_wp2_with fail
      refine (KS.out _ HB0.out).mono ?_
      rintro e w1 ⟨rfl, hB1⟩
      have HB1 := Lib.hid (below2 HB0.out hB1)
      have HE1 := Lib.hid (HE.out.below hB1)
      clear hB1
      go_wp2_with fail
      refine (KP.out _).mono ?_
      rintro e w2 ⟨rfl, hB2⟩
      have HB2 := Lib.hid (below2 HB1.out hB2)
      have HE2 := Lib.hid (HE1.out.below hB2)
      obtain ⟨⟨e0, e1, e2, e3, e4⟩, ⟨f0, f1, f2, f3, f4⟩, hlE⟩ := HE2.out.five2
      clear hB2
      go_wp2_with fail
      have hkk := keeps_sets5 w.heap.size w2 (.string ⟨#[]⟩) (.int .i64 0) (.int .i64 0) (.int .i64 0) (.slice none 0 0)
      exact ret_ent3 rfl rfl w.heap.size _ _ _ _ _ _ _ rfl rfl rfl (HE2.out.sets5 _ _ _ _ _) ⟨_, rfl, World.ownsRow_nil _ _ _ _, hkk.on HB2.out (Nat.le_refl _) HB2.out.size⟩
    | true =>
      rw [hp] at KP hrX
      rw [if_pos rfl] at hrX
      by_cases hneg : n < 0
      · rw [if_pos hneg] at hrX
        subst hrX
        rw [hno (by decide)]
        have hd : decide (n < 0) = true := decide_eq_true hneg
        clear h hr hn hs hl htold hno hE hb hp hB0 hneg
        go_enter Tryz.func15, Tryz.ntmps15
        go_wp2_with fail
        refine (KS.out _ HB0.out).mono ?_
        rintro e w1 ⟨rfl, hB1⟩
        have HB1 := Lib.hid (below2 HB0.out hB1)
        have HE1 := Lib.hid (HE.out.below hB1)
        clear hB1
        go_wp2_with fail
        refine (KP.out _).mono ?_
        rintro e w2 ⟨rfl, hB2⟩
        have HB2 := Lib.hid (below2 HB1.out hB2)
        have HE2 := Lib.hid (HE1.out.below hB2)
        obtain ⟨⟨e0, e1, e2, e3, e4⟩, ⟨f0, f1, f2, f3, f4⟩, hlE⟩ := HE2.out.five2
        clear hB2
        go_wp2_with fail
        have hkk := keeps_sets5 w.heap.size w2 (.string ⟨#[]⟩) (.int .i64 0) (.int .i64 0) (.int .i64 0) (.slice none 0 0)
        exact ret_ent3 rfl rfl w.heap.size _ _ _ _ _ _ _ rfl rfl rfl (HE2.out.sets5 _ _ _ _ _) ⟨_, rfl, World.ownsRow_nil _ _ _ _, hkk.on HB2.out (Nat.le_refl _) HB2.out.size⟩
      · rw [if_neg hneg] at hrX
        subst hrX
        have HO := Lib.hid (htold rfl)
        have hd : decide (n < 0) = false := decide_eq_false hneg
        have HH := Lib.hid (And.intro h (And.intro hr (And.intro hs hn)))
        clear h hr hn hs hl htold hno hE hb hp hB0 hneg
        go_enter Tryz.func15, Tryz.ntmps15
        go_wp2_with fail
        refine (KS.out _ HB0.out).mono ?_
        rintro e w1 ⟨rfl, hB1⟩
        have HB1 := Lib.hid (below2 HB0.out hB1)
        have HE1 := Lib.hid (HE.out.below hB1)
        clear hB1
        go_wp2_with fail
        refine (KP.out _).mono ?_
        rintro e w2 ⟨rfl, hB2⟩
        have HB2 := Lib.hid (below2 HB1.out hB2)
        have HE2 := Lib.hid (HE1.out.below hB2)
        clear hB2
        go_wp2_with fail
        go_loopw [9, 10] (fun b i wr => ∃ k : Nat, i = .int .i64 k ∧ k ≤ l.length ∧ l.length ≤ 1000 ∧ Hid (Below w2.heap.size w2 wr) ∧ ((b = .int .i64 (-1) ∧ Hid (NoneTo l p n k)) ∨ ∃ j : Nat, b = .int .i64 j ∧ j < l.length ∧ Hid (BestTo l p n k j))) (fun _ i _ => l.length - (intOf i).toNat)
        case atStart => exact ⟨0, rfl, Nat.zero_le _, HH.out.2.2.2, Lib.hid (Below.refl _ _), .inl ⟨rfl, Lib.hid (fun _ _ h => absurd h (Nat.not_lt_zero _))⟩⟩
        case round =>
          obtain ⟨k, rfl, hk, hn, hB, hor⟩ := hrel
          by_cases hlt : k < l.length
          · have hd1 : decide ((k : Int) < (l.length : Int)) = true := by rw [decide_eq_true_eq]; omega
            obtain ⟨bb, off, rfl, c0, c1, c2⟩ := (HH.out.1.below (below2 HB2.out hB.out)).at hlt
            have hbr : Below wr.heap.size wr wr.drew := drew_below _
            rcases hor with ⟨rfl, hf⟩ | ⟨j, rfl, hj, hf⟩
            · have hgn := noneTo_succ hf.out hlt
              have hgb := noneTo_best hf.out hlt
              obtain ⟨⟨⟨q, m⟩, s⟩, hx⟩ : ∃ x, l[k] = x := ⟨_, rfl⟩
              rw [hx] at c0 c1 c2 hgn hgb
              dsimp only at c0 c1 c2 hgn hgb
              have HC := Lib.hid (fun W (hW : Below wr.heap.size wr W) => (⟨look_below hW c0, look_below hW c1⟩ : W.cell? ⟨bb, off + k * 3, none⟩ = some (.string ⟨q.toArray⟩) ∧ W.cell? ⟨bb, off + k * 3 + 1, none⟩ = some (.int .i64 m)))
              by_cases hq : q = p
              · have e1 : (q == p) = true := by simpa using hq
                by_cases hm : m ≤ n
                · have e2 : decide (m ≤ n) = true := decide_eq_true hm
                  have HG := Lib.hid (hgb hq hm)
                  clear hgn hgb hq hm hx c2
                  go_wp2_with fail
                  refine wp_region_held_drew (S := (fun W => W.cell? ⟨bb, off + k * 3, none⟩ = some (.string ⟨q.toArray⟩) ∧ W.cell? ⟨bb, off + k * 3 + 1, none⟩ = some (.int .i64 m))) (by kernel_rfl) (HC.out _ hbr) (fun hHeld => ?_)
                  refine wpAnyH_take (i := 0) (oi := ⟨_, _, _, _, _, _⟩) (v := ?_) rfl (by kernel_rfl) (by kernel_rfl) (by kernel_rfl) (fun _ _ _ h => h) (Or.inl ⟨by rfl, ?_⟩) hHeld ?_
                  rotate_left
                  · (intro w hSw; (try dsimp only at hSw); go_simp; try with_reducible rfl)
                  try simp only [Act.put, List.setIfInBounds_toArray, List.set_cons_zero, List.set_cons_succ]
                  refine wpAnyH_take (i := 1) (oi := ⟨_, _, _, _, _, _⟩) (v := ?_) rfl (by kernel_rfl) (by kernel_rfl) (by kernel_rfl) (fun _ _ _ h => h) (Or.inl ⟨by rfl, ?_⟩) hHeld ?_
                  rotate_left
                  · (intro w hSw; (try dsimp only at hSw); go_simp; try with_reducible rfl)
                  try simp only [Act.put, List.setIfInBounds_toArray, List.set_cons_zero, List.set_cons_succ]
                  refine wpAnyH_take (i := 2) (oi := ⟨_, _, _, _, _, _⟩) (v := ?_) rfl (by kernel_rfl) (by kernel_rfl) (by kernel_rfl) (fun _ _ _ h => h) (Or.inl ⟨by rfl, ?_⟩) hHeld ?_
                  rotate_left
                  · (intro w hSw; (try dsimp only at hSw); go_simp; try with_reducible rfl)
                  try simp only [Act.put, List.setIfInBounds_toArray, List.set_cons_zero, List.set_cons_succ]
                  refine wpAnyH_take (i := 3) (oi := ⟨_, _, _, _, _, _⟩) (v := ?_) rfl (by kernel_rfl) (by kernel_rfl) (by kernel_rfl) (fun _ _ _ h => h) (Or.inl ⟨by rfl, ?_⟩) hHeld ?_
                  rotate_left
                  · (intro w hSw; (try dsimp only at hSw); go_simp; try with_reducible rfl)
                  try simp only [Act.put, List.setIfInBounds_toArray, List.set_cons_zero, List.set_cons_succ]
                  refine wpAnyH_take (i := 4) (oi := ⟨_, _, _, _, _, _⟩) (v := ?_) rfl (by kernel_rfl) (by kernel_rfl) (by kernel_rfl) (fun _ _ _ h => h) (Or.inl ⟨by rfl, ?_⟩) hHeld ?_
                  rotate_left
                  · (intro w hSw; (try dsimp only at hSw); go_simp; try with_reducible rfl)
                  try simp only [Act.put, List.setIfInBounds_toArray, List.set_cons_zero, List.set_cons_succ]
                  refine wpAnyH_take (i := 5) (oi := ⟨_, _, _, _, _, _⟩) (v := ?_) rfl (by kernel_rfl) (by kernel_rfl) (by kernel_rfl) (fun _ _ _ h => h) (Or.inl ⟨by rfl, ?_⟩) hHeld ?_
                  rotate_left
                  · (intro w hSw; (try dsimp only at hSw); go_simp; try with_reducible rfl)
                  try simp only [Act.put, List.setIfInBounds_toArray, List.set_cons_zero, List.set_cons_succ]
                  refine wpAnyH_take (i := 6) (oi := ⟨_, _, _, _, _, _⟩) (v := ?_) rfl (by kernel_rfl) (by kernel_rfl) (by kernel_rfl) (fun _ _ _ h => h) (Or.inl ⟨by rfl, ?_⟩) hHeld ?_
                  rotate_left
                  · (intro w hSw; (try dsimp only at hSw); go_simp; try with_reducible rfl)
                  try simp only [Act.put, List.setIfInBounds_toArray, List.set_cons_zero, List.set_cons_succ]
                  refine wpAnyH_take (i := 7) (oi := ⟨_, _, _, _, _, _⟩) (v := ?_) rfl (by kernel_rfl) (by kernel_rfl) (by kernel_rfl) (fun _ _ _ h => h) (Or.inl ⟨by rfl, ?_⟩) hHeld ?_
                  rotate_left
                  · (intro w hSw; (try dsimp only at hSw); go_simp; try with_reducible rfl)
                  try simp only [Act.put, List.setIfInBounds_toArray, List.set_cons_zero, List.set_cons_succ]
                  refine wpAnyH_take (i := 8) (oi := ⟨_, _, _, _, _, _⟩) (v := ?_) rfl (by kernel_rfl) (by kernel_rfl) (by kernel_rfl) (fun _ _ _ h => h) (Or.inl ⟨by rfl, ?_⟩) hHeld ?_
                  rotate_left
                  · (intro w hSw; (try dsimp only at hSw); go_simp; try with_reducible rfl)
                  try simp only [Act.put, List.setIfInBounds_toArray, List.set_cons_zero, List.set_cons_succ]
                  refine wpAnyH_take (i := 9) (oi := ⟨_, _, _, _, _, _⟩) (v := ?_) rfl (by kernel_rfl) (by kernel_rfl) (by kernel_rfl) (fun _ _ _ h => h) (Or.inl ⟨by rfl, ?_⟩) hHeld ?_
                  rotate_left
                  · (intro w hSw; (try dsimp only at hSw); go_simp; try with_reducible rfl)
                  try simp only [Act.put, List.setIfInBounds_toArray, List.set_cons_zero, List.set_cons_succ]
                  refine wpAnyH_take (i := 10) (oi := ⟨_, _, _, _, _, _⟩) (v := ?_) rfl (by kernel_rfl) (by kernel_rfl) (by kernel_rfl) (fun _ _ _ h => h) (Or.inl ⟨by rfl, ?_⟩) hHeld ?_
                  rotate_left
                  · (intro w hSw; (try dsimp only at hSw); go_simp; try with_reducible rfl)
                  try simp only [Act.put, List.setIfInBounds_toArray, List.set_cons_zero, List.set_cons_succ]
                  refine wpAnyH_take (i := 11) (oi := ⟨_, _, _, _, _, _⟩) (v := ?_) rfl (by kernel_rfl) (by kernel_rfl) (by kernel_rfl) (fun _ _ _ h => h) (Or.inl ⟨by rfl, ?_⟩) hHeld ?_
                  rotate_left
                  · (intro w hSw; (try dsimp only at hSw); go_simp; try with_reducible rfl)
                  try simp only [Act.put, List.setIfInBounds_toArray, List.set_cons_zero, List.set_cons_succ]
                  refine wpAnyH_take (i := 12) (oi := ⟨_, _, _, _, _, _⟩) (v := ?_) rfl (by kernel_rfl) (by kernel_rfl) (by kernel_rfl) (fun _ _ _ h => h) (Or.inl ⟨by rfl, ?_⟩) hHeld ?_
                  rotate_left
                  · (intro w hSw; (try dsimp only at hSw); go_simp; try with_reducible rfl)
                  try simp only [Act.put, List.setIfInBounds_toArray, List.set_cons_zero, List.set_cons_succ]
                  refine wpAnyH_take (i := 13) (oi := ⟨_, _, _, _, _, _⟩) (v := ?_) rfl (by kernel_rfl) (by kernel_rfl) (by kernel_rfl) (fun _ _ _ h => h) (Or.inl ⟨by rfl, ?_⟩) hHeld ?_
                  rotate_left
                  · (intro w hSw; (try dsimp only at hSw); go_simp; try with_reducible rfl)
                  try simp only [Act.put, List.setIfInBounds_toArray, List.set_cons_zero, List.set_cons_succ]
                  refine wpAnyH_take (i := 14) (oi := ⟨_, _, _, _, _, _⟩) (v := ?_) rfl (by kernel_rfl) (by kernel_rfl) (by kernel_rfl) (fun _ _ _ h => h) (Or.inl ⟨by rfl, ?_⟩) hHeld ?_
                  rotate_left
                  · (intro w hSw; (try dsimp only at hSw); go_simp; try with_reducible rfl)
                  try simp only [Act.put, List.setIfInBounds_toArray, List.set_cons_zero, List.set_cons_succ]
                  refine wpAnyH_take (i := 15) (oi := ⟨_, _, _, _, _, _⟩) (v := ?_) rfl (by kernel_rfl) (by kernel_rfl) (by kernel_rfl) (fun _ _ _ h => h) (Or.inl ⟨by rfl, ?_⟩) hHeld ?_
                  rotate_left
                  · (intro w hSw; (try dsimp only at hSw); go_simp; try with_reducible rfl)
                  try simp only [Act.put, List.setIfInBounds_toArray, List.set_cons_zero, List.set_cons_succ]
                  refine wpAnyH_take (i := 16) (oi := ⟨_, _, _, _, _, _⟩) (v := ?_) rfl (by kernel_rfl) (by kernel_rfl) (by kernel_rfl) (fun _ _ _ h => h) (Or.inl ⟨by rfl, ?_⟩) hHeld ?_
                  rotate_left
                  · (intro w hSw; (try dsimp only at hSw); go_simp; try with_reducible rfl)
                  try simp only [Act.put, List.setIfInBounds_toArray, List.set_cons_zero, List.set_cons_succ]
                  refine wpAnyH_take (i := 17) (oi := ⟨_, _, _, _, _, _⟩) (v := ?_) rfl (by kernel_rfl) (by kernel_rfl) (by kernel_rfl) (fun _ _ _ h => h) (Or.inl ⟨by rfl, ?_⟩) hHeld ?_
                  rotate_left
                  · (intro w hSw; (try dsimp only at hSw); go_simp; try with_reducible rfl)
                  try simp only [Act.put, List.setIfInBounds_toArray, List.set_cons_zero, List.set_cons_succ]
                  refine wpAnyH_take (i := 18) (oi := ⟨_, _, _, _, _, _⟩) (v := ?_) rfl (by kernel_rfl) (by kernel_rfl) (by kernel_rfl) (fun _ _ _ h => h) (Or.inl ⟨by rfl, ?_⟩) hHeld ?_
                  rotate_left
                  · (intro w hSw; (try dsimp only at hSw); go_simp; try with_reducible rfl)
                  try simp only [Act.put, List.setIfInBounds_toArray, List.set_cons_zero, List.set_cons_succ]
                  refine wpAnyH_take (i := 19) (oi := ⟨_, _, _, _, _, _⟩) (v := ?_) rfl (by kernel_rfl) (by kernel_rfl) (by kernel_rfl) (fun _ _ _ h => h) (Or.inl ⟨by rfl, ?_⟩) hHeld ?_
                  rotate_left
                  · (intro w hSw; (try dsimp only at hSw); go_simp; try with_reducible rfl)
                  try simp only [Act.put, List.setIfInBounds_toArray, List.set_cons_zero, List.set_cons_succ]
                  refine wpAnyH_take (i := 20) (oi := ⟨_, _, _, _, _, _⟩) (v := ?_) rfl (by kernel_rfl) (by kernel_rfl) (by kernel_rfl) (fun _ _ _ h => h) (Or.inl ⟨by rfl, ?_⟩) hHeld ?_
                  rotate_left
                  · (intro w hSw; (try dsimp only at hSw); go_simp; try with_reducible rfl)
                  try simp only [Act.put, List.setIfInBounds_toArray, List.set_cons_zero, List.set_cons_succ]
                  refine wpAnyH_take (i := 21) (oi := ⟨_, _, _, _, _, _⟩) (v := ?_) rfl (by kernel_rfl) (by kernel_rfl) (by kernel_rfl) (fun _ _ _ h => h) (Or.inl ⟨by rfl, ?_⟩) hHeld ?_
                  rotate_left
                  · (intro w hSw; (try dsimp only at hSw); go_simp; try with_reducible rfl)
                  try simp only [Act.put, List.setIfInBounds_toArray, List.set_cons_zero, List.set_cons_succ]
                  refine wpAnyH_take (i := 22) (oi := ⟨_, _, _, _, _, _⟩) (v := undef) rfl (by kernel_rfl) (by kernel_rfl) (by kernel_rfl) (fun _ _ _ h => h) (Or.inr ⟨by rfl, rfl⟩) hHeld ?_
                  try simp only [Act.put, List.setIfInBounds_toArray, List.set_cons_zero, List.set_cons_succ]
                  refine wpAnyH_take (i := 23) (oi := ⟨_, _, _, _, _, _⟩) (v := undef) rfl (by kernel_rfl) (by kernel_rfl) (by kernel_rfl) (fun _ _ _ h => h) (Or.inr ⟨by rfl, rfl⟩) hHeld ?_
                  try simp only [Act.put, List.setIfInBounds_toArray, List.set_cons_zero, List.set_cons_succ]
                  refine wpAnyH_take (i := 24) (oi := ⟨_, _, _, _, _, _⟩) (v := undef) rfl (by kernel_rfl) (by kernel_rfl) (by kernel_rfl) (fun _ _ _ h => h) (Or.inr ⟨by rfl, rfl⟩) hHeld ?_
                  try simp only [Act.put, List.setIfInBounds_toArray, List.set_cons_zero, List.set_cons_succ]
                  refine wpAnyH_take (i := 25) (oi := ⟨_, _, _, _, _, _⟩) (v := undef) rfl (by kernel_rfl) (by kernel_rfl) (by kernel_rfl) (fun _ _ _ h => h) (Or.inr ⟨by rfl, rfl⟩) hHeld ?_
                  try simp only [Act.put, List.setIfInBounds_toArray, List.set_cons_zero, List.set_cons_succ]
                  refine wpAnyH_take (i := 26) (oi := ⟨_, _, _, _, _, _⟩) (v := undef) rfl (by kernel_rfl) (by kernel_rfl) (by kernel_rfl) (fun _ _ _ h => h) (Or.inr ⟨by rfl, rfl⟩) hHeld ?_
                  try simp only [Act.put, List.setIfInBounds_toArray, List.set_cons_zero, List.set_cons_succ]
                  refine wpAnyH_take (i := 27) (oi := ⟨_, _, _, _, _, _⟩) (v := undef) rfl (by kernel_rfl) (by kernel_rfl) (by kernel_rfl) (fun _ _ _ h => h) (Or.inr ⟨by rfl, rfl⟩) hHeld ?_
                  try simp only [Act.put, List.setIfInBounds_toArray, List.set_cons_zero, List.set_cons_succ]
                  refine wpAnyH_take (i := 28) (oi := ⟨_, _, _, _, _, _⟩) (v := undef) rfl (by kernel_rfl) (by kernel_rfl) (by kernel_rfl) (fun _ _ _ h => h) (Or.inr ⟨by rfl, rfl⟩) hHeld ?_
                  try simp only [Act.put, List.setIfInBounds_toArray, List.set_cons_zero, List.set_cons_succ]
                  refine wpAnyH_take (i := 29) (oi := ⟨_, _, _, _, _, _⟩) (v := undef) rfl (by kernel_rfl) (by kernel_rfl) (by kernel_rfl) (fun _ _ _ h => h) (Or.inr ⟨by rfl, rfl⟩) hHeld ?_
                  try simp only [Act.put, List.setIfInBounds_toArray, List.set_cons_zero, List.set_cons_succ]
                  refine wpAnyH_take (i := 30) (oi := ⟨_, _, _, _, _, _⟩) (v := undef) rfl (by kernel_rfl) (by kernel_rfl) (by kernel_rfl) (fun _ _ _ h => h) (Or.inr ⟨by rfl, rfl⟩) hHeld ?_
                  try simp only [Act.put, List.setIfInBounds_toArray, List.set_cons_zero, List.set_cons_succ]
                  refine wpAnyH_take (i := 31) (oi := ⟨_, _, _, _, _, _⟩) (v := undef) rfl (by kernel_rfl) (by kernel_rfl) (by kernel_rfl) (fun _ _ _ h => h) (Or.inr ⟨by rfl, rfl⟩) hHeld ?_
                  try simp only [Act.put, List.setIfInBounds_toArray, List.set_cons_zero, List.set_cons_succ]
                  refine wpAnyH_take (i := 32) (oi := ⟨_, _, _, _, _, _⟩) (v := undef) rfl (by kernel_rfl) (by kernel_rfl) (by kernel_rfl) (fun _ _ _ h => h) (Or.inr ⟨by rfl, rfl⟩) hHeld ?_
                  try simp only [Act.put, List.setIfInBounds_toArray, List.set_cons_zero, List.set_cons_succ]
                  refine wpAnyH_take (i := 33) (oi := ⟨_, _, _, _, _, _⟩) (v := undef) rfl (by kernel_rfl) (by kernel_rfl) (by kernel_rfl) (fun _ _ _ h => h) (Or.inr ⟨by rfl, rfl⟩) hHeld ?_
                  try simp only [Act.put, List.setIfInBounds_toArray, List.set_cons_zero, List.set_cons_succ]
                  refine wpAnyH_take (i := 34) (oi := ⟨_, _, _, _, _, _⟩) (v := undef) rfl (by kernel_rfl) (by kernel_rfl) (by kernel_rfl) (fun _ _ _ h => h) (Or.inr ⟨by rfl, rfl⟩) hHeld ?_
                  try simp only [Act.put, List.setIfInBounds_toArray, List.set_cons_zero, List.set_cons_succ]
                  refine wpAnyH_take (i := 35) (oi := ⟨_, _, _, _, _, _⟩) (v := ?_) rfl (by kernel_rfl) (by kernel_rfl) (by kernel_rfl) (fun _ _ _ h => h) (Or.inl ⟨by rfl, ?_⟩) hHeld ?_
                  rotate_left
                  · (intro w hSw; (try dsimp only at hSw); go_simp; try with_reducible rfl)
                  try simp only [Act.put, List.setIfInBounds_toArray, List.set_cons_zero, List.set_cons_succ]
                  refine wpAnyH_take (i := 36) (oi := ⟨_, _, _, _, _, _⟩) (v := ?_) rfl (by kernel_rfl) (by kernel_rfl) (by kernel_rfl) (fun _ _ _ h => h) (Or.inl ⟨by rfl, ?_⟩) hHeld ?_
                  rotate_left
                  · (intro w hSw; (try dsimp only at hSw); go_simp; try with_reducible rfl)
                  try simp only [Act.put, List.setIfInBounds_toArray, List.set_cons_zero, List.set_cons_succ]
                  refine wpAnyH_done (by kernel_rfl) ?_ _
                  have HB3 := Lib.hid (below2 hB.out hbr)
                  clear hbr
                  go_wp2_with fail
                  go_roundw
                  case rel => exact ⟨k + 1, by go_num, by omega, hn, HB3, .inr ⟨k, rfl, by omega, HG⟩⟩
                  case measure => simp [intOf]; omega
                · have e2 : decide (m ≤ n) = false := decide_eq_false hm
                  have HG := Lib.hid (hgn (fun _ => hm))
                  clear hgn hgb hq hm hx c2
                  go_wp2_with fail
                  refine wp_region_held_drew (S := (fun W => W.cell? ⟨bb, off + k * 3, none⟩ = some (.string ⟨q.toArray⟩) ∧ W.cell? ⟨bb, off + k * 3 + 1, none⟩ = some (.int .i64 m))) (by kernel_rfl) (HC.out _ hbr) (fun hHeld => ?_)
                  refine wpAnyH_take (i := 0) (oi := ⟨_, _, _, _, _, _⟩) (v := ?_) rfl (by kernel_rfl) (by kernel_rfl) (by kernel_rfl) (fun _ _ _ h => h) (Or.inl ⟨by rfl, ?_⟩) hHeld ?_
                  rotate_left
                  · (intro w hSw; (try dsimp only at hSw); go_simp; try with_reducible rfl)
                  try simp only [Act.put, List.setIfInBounds_toArray, List.set_cons_zero, List.set_cons_succ]
                  refine wpAnyH_take (i := 1) (oi := ⟨_, _, _, _, _, _⟩) (v := ?_) rfl (by kernel_rfl) (by kernel_rfl) (by kernel_rfl) (fun _ _ _ h => h) (Or.inl ⟨by rfl, ?_⟩) hHeld ?_
                  rotate_left
                  · (intro w hSw; (try dsimp only at hSw); go_simp; try with_reducible rfl)
                  try simp only [Act.put, List.setIfInBounds_toArray, List.set_cons_zero, List.set_cons_succ]
                  refine wpAnyH_take (i := 2) (oi := ⟨_, _, _, _, _, _⟩) (v := ?_) rfl (by kernel_rfl) (by kernel_rfl) (by kernel_rfl) (fun _ _ _ h => h) (Or.inl ⟨by rfl, ?_⟩) hHeld ?_
                  rotate_left
                  · (intro w hSw; (try dsimp only at hSw); go_simp; try with_reducible rfl)
                  try simp only [Act.put, List.setIfInBounds_toArray, List.set_cons_zero, List.set_cons_succ]
                  refine wpAnyH_take (i := 3) (oi := ⟨_, _, _, _, _, _⟩) (v := ?_) rfl (by kernel_rfl) (by kernel_rfl) (by kernel_rfl) (fun _ _ _ h => h) (Or.inl ⟨by rfl, ?_⟩) hHeld ?_
                  rotate_left
                  · (intro w hSw; (try dsimp only at hSw); go_simp; try with_reducible rfl)
                  try simp only [Act.put, List.setIfInBounds_toArray, List.set_cons_zero, List.set_cons_succ]
                  refine wpAnyH_take (i := 4) (oi := ⟨_, _, _, _, _, _⟩) (v := ?_) rfl (by kernel_rfl) (by kernel_rfl) (by kernel_rfl) (fun _ _ _ h => h) (Or.inl ⟨by rfl, ?_⟩) hHeld ?_
                  rotate_left
                  · (intro w hSw; (try dsimp only at hSw); go_simp; try with_reducible rfl)
                  try simp only [Act.put, List.setIfInBounds_toArray, List.set_cons_zero, List.set_cons_succ]
                  refine wpAnyH_take (i := 5) (oi := ⟨_, _, _, _, _, _⟩) (v := ?_) rfl (by kernel_rfl) (by kernel_rfl) (by kernel_rfl) (fun _ _ _ h => h) (Or.inl ⟨by rfl, ?_⟩) hHeld ?_
                  rotate_left
                  · (intro w hSw; (try dsimp only at hSw); go_simp; try with_reducible rfl)
                  try simp only [Act.put, List.setIfInBounds_toArray, List.set_cons_zero, List.set_cons_succ]
                  refine wpAnyH_take (i := 6) (oi := ⟨_, _, _, _, _, _⟩) (v := ?_) rfl (by kernel_rfl) (by kernel_rfl) (by kernel_rfl) (fun _ _ _ h => h) (Or.inl ⟨by rfl, ?_⟩) hHeld ?_
                  rotate_left
                  · (intro w hSw; (try dsimp only at hSw); go_simp; try with_reducible rfl)
                  try simp only [Act.put, List.setIfInBounds_toArray, List.set_cons_zero, List.set_cons_succ]
                  refine wpAnyH_take (i := 7) (oi := ⟨_, _, _, _, _, _⟩) (v := ?_) rfl (by kernel_rfl) (by kernel_rfl) (by kernel_rfl) (fun _ _ _ h => h) (Or.inl ⟨by rfl, ?_⟩) hHeld ?_
                  rotate_left
                  · (intro w hSw; (try dsimp only at hSw); go_simp; try with_reducible rfl)
                  try simp only [Act.put, List.setIfInBounds_toArray, List.set_cons_zero, List.set_cons_succ]
                  refine wpAnyH_take (i := 8) (oi := ⟨_, _, _, _, _, _⟩) (v := ?_) rfl (by kernel_rfl) (by kernel_rfl) (by kernel_rfl) (fun _ _ _ h => h) (Or.inl ⟨by rfl, ?_⟩) hHeld ?_
                  rotate_left
                  · (intro w hSw; (try dsimp only at hSw); go_simp; try with_reducible rfl)
                  try simp only [Act.put, List.setIfInBounds_toArray, List.set_cons_zero, List.set_cons_succ]
                  refine wpAnyH_take (i := 9) (oi := ⟨_, _, _, _, _, _⟩) (v := ?_) rfl (by kernel_rfl) (by kernel_rfl) (by kernel_rfl) (fun _ _ _ h => h) (Or.inl ⟨by rfl, ?_⟩) hHeld ?_
                  rotate_left
                  · (intro w hSw; (try dsimp only at hSw); go_simp; try with_reducible rfl)
                  try simp only [Act.put, List.setIfInBounds_toArray, List.set_cons_zero, List.set_cons_succ]
                  refine wpAnyH_take (i := 10) (oi := ⟨_, _, _, _, _, _⟩) (v := ?_) rfl (by kernel_rfl) (by kernel_rfl) (by kernel_rfl) (fun _ _ _ h => h) (Or.inl ⟨by rfl, ?_⟩) hHeld ?_
                  rotate_left
                  · (intro w hSw; (try dsimp only at hSw); go_simp; try with_reducible rfl)
                  try simp only [Act.put, List.setIfInBounds_toArray, List.set_cons_zero, List.set_cons_succ]
                  refine wpAnyH_take (i := 11) (oi := ⟨_, _, _, _, _, _⟩) (v := ?_) rfl (by kernel_rfl) (by kernel_rfl) (by kernel_rfl) (fun _ _ _ h => h) (Or.inl ⟨by rfl, ?_⟩) hHeld ?_
                  rotate_left
                  · (intro w hSw; (try dsimp only at hSw); go_simp; try with_reducible rfl)
                  try simp only [Act.put, List.setIfInBounds_toArray, List.set_cons_zero, List.set_cons_succ]
                  refine wpAnyH_take (i := 12) (oi := ⟨_, _, _, _, _, _⟩) (v := ?_) rfl (by kernel_rfl) (by kernel_rfl) (by kernel_rfl) (fun _ _ _ h => h) (Or.inl ⟨by rfl, ?_⟩) hHeld ?_
                  rotate_left
                  · (intro w hSw; (try dsimp only at hSw); go_simp; try with_reducible rfl)
                  try simp only [Act.put, List.setIfInBounds_toArray, List.set_cons_zero, List.set_cons_succ]
                  refine wpAnyH_take (i := 13) (oi := ⟨_, _, _, _, _, _⟩) (v := ?_) rfl (by kernel_rfl) (by kernel_rfl) (by kernel_rfl) (fun _ _ _ h => h) (Or.inl ⟨by rfl, ?_⟩) hHeld ?_
                  rotate_left
                  · (intro w hSw; (try dsimp only at hSw); go_simp; try with_reducible rfl)
                  try simp only [Act.put, List.setIfInBounds_toArray, List.set_cons_zero, List.set_cons_succ]
                  refine wpAnyH_take (i := 14) (oi := ⟨_, _, _, _, _, _⟩) (v := ?_) rfl (by kernel_rfl) (by kernel_rfl) (by kernel_rfl) (fun _ _ _ h => h) (Or.inl ⟨by rfl, ?_⟩) hHeld ?_
                  rotate_left
                  · (intro w hSw; (try dsimp only at hSw); go_simp; try with_reducible rfl)
                  try simp only [Act.put, List.setIfInBounds_toArray, List.set_cons_zero, List.set_cons_succ]
                  refine wpAnyH_take (i := 15) (oi := ⟨_, _, _, _, _, _⟩) (v := ?_) rfl (by kernel_rfl) (by kernel_rfl) (by kernel_rfl) (fun _ _ _ h => h) (Or.inl ⟨by rfl, ?_⟩) hHeld ?_
                  rotate_left
                  · (intro w hSw; (try dsimp only at hSw); go_simp; try with_reducible rfl)
                  try simp only [Act.put, List.setIfInBounds_toArray, List.set_cons_zero, List.set_cons_succ]
                  refine wpAnyH_take (i := 16) (oi := ⟨_, _, _, _, _, _⟩) (v := ?_) rfl (by kernel_rfl) (by kernel_rfl) (by kernel_rfl) (fun _ _ _ h => h) (Or.inl ⟨by rfl, ?_⟩) hHeld ?_
                  rotate_left
                  · (intro w hSw; (try dsimp only at hSw); go_simp; try with_reducible rfl)
                  try simp only [Act.put, List.setIfInBounds_toArray, List.set_cons_zero, List.set_cons_succ]
                  refine wpAnyH_take (i := 17) (oi := ⟨_, _, _, _, _, _⟩) (v := ?_) rfl (by kernel_rfl) (by kernel_rfl) (by kernel_rfl) (fun _ _ _ h => h) (Or.inl ⟨by rfl, ?_⟩) hHeld ?_
                  rotate_left
                  · (intro w hSw; (try dsimp only at hSw); go_simp; try with_reducible rfl)
                  try simp only [Act.put, List.setIfInBounds_toArray, List.set_cons_zero, List.set_cons_succ]
                  refine wpAnyH_take (i := 18) (oi := ⟨_, _, _, _, _, _⟩) (v := ?_) rfl (by kernel_rfl) (by kernel_rfl) (by kernel_rfl) (fun _ _ _ h => h) (Or.inl ⟨by rfl, ?_⟩) hHeld ?_
                  rotate_left
                  · (intro w hSw; (try dsimp only at hSw); go_simp; try with_reducible rfl)
                  try simp only [Act.put, List.setIfInBounds_toArray, List.set_cons_zero, List.set_cons_succ]
                  refine wpAnyH_take (i := 19) (oi := ⟨_, _, _, _, _, _⟩) (v := undef) rfl (by kernel_rfl) (by kernel_rfl) (by kernel_rfl) (fun _ _ _ h => h) (Or.inr ⟨by rfl, rfl⟩) hHeld ?_
                  try simp only [Act.put, List.setIfInBounds_toArray, List.set_cons_zero, List.set_cons_succ]
                  refine wpAnyH_take (i := 20) (oi := ⟨_, _, _, _, _, _⟩) (v := undef) rfl (by kernel_rfl) (by kernel_rfl) (by kernel_rfl) (fun _ _ _ h => h) (Or.inr ⟨by rfl, rfl⟩) hHeld ?_
                  try simp only [Act.put, List.setIfInBounds_toArray, List.set_cons_zero, List.set_cons_succ]
                  refine wpAnyH_take (i := 21) (oi := ⟨_, _, _, _, _, _⟩) (v := undef) rfl (by kernel_rfl) (by kernel_rfl) (by kernel_rfl) (fun _ _ _ h => h) (Or.inr ⟨by rfl, rfl⟩) hHeld ?_
                  try simp only [Act.put, List.setIfInBounds_toArray, List.set_cons_zero, List.set_cons_succ]
                  refine wpAnyH_take (i := 22) (oi := ⟨_, _, _, _, _, _⟩) (v := undef) rfl (by kernel_rfl) (by kernel_rfl) (by kernel_rfl) (fun _ _ _ h => h) (Or.inr ⟨by rfl, rfl⟩) hHeld ?_
                  try simp only [Act.put, List.setIfInBounds_toArray, List.set_cons_zero, List.set_cons_succ]
                  refine wpAnyH_take (i := 23) (oi := ⟨_, _, _, _, _, _⟩) (v := undef) rfl (by kernel_rfl) (by kernel_rfl) (by kernel_rfl) (fun _ _ _ h => h) (Or.inr ⟨by rfl, rfl⟩) hHeld ?_
                  try simp only [Act.put, List.setIfInBounds_toArray, List.set_cons_zero, List.set_cons_succ]
                  refine wpAnyH_take (i := 24) (oi := ⟨_, _, _, _, _, _⟩) (v := undef) rfl (by kernel_rfl) (by kernel_rfl) (by kernel_rfl) (fun _ _ _ h => h) (Or.inr ⟨by rfl, rfl⟩) hHeld ?_
                  try simp only [Act.put, List.setIfInBounds_toArray, List.set_cons_zero, List.set_cons_succ]
                  refine wpAnyH_take (i := 25) (oi := ⟨_, _, _, _, _, _⟩) (v := undef) rfl (by kernel_rfl) (by kernel_rfl) (by kernel_rfl) (fun _ _ _ h => h) (Or.inr ⟨by rfl, rfl⟩) hHeld ?_
                  try simp only [Act.put, List.setIfInBounds_toArray, List.set_cons_zero, List.set_cons_succ]
                  refine wpAnyH_take (i := 26) (oi := ⟨_, _, _, _, _, _⟩) (v := undef) rfl (by kernel_rfl) (by kernel_rfl) (by kernel_rfl) (fun _ _ _ h => h) (Or.inr ⟨by rfl, rfl⟩) hHeld ?_
                  try simp only [Act.put, List.setIfInBounds_toArray, List.set_cons_zero, List.set_cons_succ]
                  refine wpAnyH_take (i := 27) (oi := ⟨_, _, _, _, _, _⟩) (v := undef) rfl (by kernel_rfl) (by kernel_rfl) (by kernel_rfl) (fun _ _ _ h => h) (Or.inr ⟨by rfl, rfl⟩) hHeld ?_
                  try simp only [Act.put, List.setIfInBounds_toArray, List.set_cons_zero, List.set_cons_succ]
                  refine wpAnyH_take (i := 28) (oi := ⟨_, _, _, _, _, _⟩) (v := undef) rfl (by kernel_rfl) (by kernel_rfl) (by kernel_rfl) (fun _ _ _ h => h) (Or.inr ⟨by rfl, rfl⟩) hHeld ?_
                  try simp only [Act.put, List.setIfInBounds_toArray, List.set_cons_zero, List.set_cons_succ]
                  refine wpAnyH_take (i := 29) (oi := ⟨_, _, _, _, _, _⟩) (v := undef) rfl (by kernel_rfl) (by kernel_rfl) (by kernel_rfl) (fun _ _ _ h => h) (Or.inr ⟨by rfl, rfl⟩) hHeld ?_
                  try simp only [Act.put, List.setIfInBounds_toArray, List.set_cons_zero, List.set_cons_succ]
                  refine wpAnyH_take (i := 30) (oi := ⟨_, _, _, _, _, _⟩) (v := undef) rfl (by kernel_rfl) (by kernel_rfl) (by kernel_rfl) (fun _ _ _ h => h) (Or.inr ⟨by rfl, rfl⟩) hHeld ?_
                  try simp only [Act.put, List.setIfInBounds_toArray, List.set_cons_zero, List.set_cons_succ]
                  refine wpAnyH_take (i := 31) (oi := ⟨_, _, _, _, _, _⟩) (v := undef) rfl (by kernel_rfl) (by kernel_rfl) (by kernel_rfl) (fun _ _ _ h => h) (Or.inr ⟨by rfl, rfl⟩) hHeld ?_
                  try simp only [Act.put, List.setIfInBounds_toArray, List.set_cons_zero, List.set_cons_succ]
                  refine wpAnyH_take (i := 32) (oi := ⟨_, _, _, _, _, _⟩) (v := undef) rfl (by kernel_rfl) (by kernel_rfl) (by kernel_rfl) (fun _ _ _ h => h) (Or.inr ⟨by rfl, rfl⟩) hHeld ?_
                  try simp only [Act.put, List.setIfInBounds_toArray, List.set_cons_zero, List.set_cons_succ]
                  refine wpAnyH_take (i := 33) (oi := ⟨_, _, _, _, _, _⟩) (v := undef) rfl (by kernel_rfl) (by kernel_rfl) (by kernel_rfl) (fun _ _ _ h => h) (Or.inr ⟨by rfl, rfl⟩) hHeld ?_
                  try simp only [Act.put, List.setIfInBounds_toArray, List.set_cons_zero, List.set_cons_succ]
                  refine wpAnyH_take (i := 34) (oi := ⟨_, _, _, _, _, _⟩) (v := undef) rfl (by kernel_rfl) (by kernel_rfl) (by kernel_rfl) (fun _ _ _ h => h) (Or.inr ⟨by rfl, rfl⟩) hHeld ?_
                  try simp only [Act.put, List.setIfInBounds_toArray, List.set_cons_zero, List.set_cons_succ]
                  refine wpAnyH_take (i := 35) (oi := ⟨_, _, _, _, _, _⟩) (v := undef) rfl (by kernel_rfl) (by kernel_rfl) (by kernel_rfl) (fun _ _ _ h => h) (Or.inr ⟨by rfl, rfl⟩) hHeld ?_
                  try simp only [Act.put, List.setIfInBounds_toArray, List.set_cons_zero, List.set_cons_succ]
                  refine wpAnyH_take (i := 36) (oi := ⟨_, _, _, _, _, _⟩) (v := ?_) rfl (by kernel_rfl) (by kernel_rfl) (by kernel_rfl) (fun _ _ _ h => h) (Or.inl ⟨by rfl, ?_⟩) hHeld ?_
                  rotate_left
                  · (intro w hSw; (try dsimp only at hSw); go_simp; try with_reducible rfl)
                  try simp only [Act.put, List.setIfInBounds_toArray, List.set_cons_zero, List.set_cons_succ]
                  refine wpAnyH_done (by kernel_rfl) ?_ _
                  have HB3 := Lib.hid (below2 hB.out hbr)
                  clear hbr
                  go_wp2_with fail
                  go_roundw
                  case rel => exact ⟨k + 1, by go_num, by omega, hn, HB3, .inl ⟨rfl, HG⟩⟩
                  case measure => simp [intOf]; omega
              · have e1 : (q == p) = false := by simpa using hq
                have HG := Lib.hid (hgn (fun e => absurd e hq))
                clear hgn hgb hq hx c2
                go_wp2_with fail
                refine wp_region_held_drew (S := (fun W => W.cell? ⟨bb, off + k * 3, none⟩ = some (.string ⟨q.toArray⟩) ∧ W.cell? ⟨bb, off + k * 3 + 1, none⟩ = some (.int .i64 m))) (by kernel_rfl) (HC.out _ hbr) (fun hHeld => ?_)
                refine wpAnyH_take (i := 0) (oi := ⟨_, _, _, _, _, _⟩) (v := ?_) rfl (by kernel_rfl) (by kernel_rfl) (by kernel_rfl) (fun _ _ _ h => h) (Or.inl ⟨by rfl, ?_⟩) hHeld ?_
                rotate_left
                · (intro w hSw; (try dsimp only at hSw); go_simp; try with_reducible rfl)
                try simp only [Act.put, List.setIfInBounds_toArray, List.set_cons_zero, List.set_cons_succ]
                refine wpAnyH_take (i := 1) (oi := ⟨_, _, _, _, _, _⟩) (v := ?_) rfl (by kernel_rfl) (by kernel_rfl) (by kernel_rfl) (fun _ _ _ h => h) (Or.inl ⟨by rfl, ?_⟩) hHeld ?_
                rotate_left
                · (intro w hSw; (try dsimp only at hSw); go_simp; try with_reducible rfl)
                try simp only [Act.put, List.setIfInBounds_toArray, List.set_cons_zero, List.set_cons_succ]
                refine wpAnyH_take (i := 2) (oi := ⟨_, _, _, _, _, _⟩) (v := ?_) rfl (by kernel_rfl) (by kernel_rfl) (by kernel_rfl) (fun _ _ _ h => h) (Or.inl ⟨by rfl, ?_⟩) hHeld ?_
                rotate_left
                · (intro w hSw; (try dsimp only at hSw); go_simp; try with_reducible rfl)
                try simp only [Act.put, List.setIfInBounds_toArray, List.set_cons_zero, List.set_cons_succ]
                refine wpAnyH_take (i := 3) (oi := ⟨_, _, _, _, _, _⟩) (v := ?_) rfl (by kernel_rfl) (by kernel_rfl) (by kernel_rfl) (fun _ _ _ h => h) (Or.inl ⟨by rfl, ?_⟩) hHeld ?_
                rotate_left
                · (intro w hSw; (try dsimp only at hSw); go_simp; try with_reducible rfl)
                try simp only [Act.put, List.setIfInBounds_toArray, List.set_cons_zero, List.set_cons_succ]
                refine wpAnyH_take (i := 4) (oi := ⟨_, _, _, _, _, _⟩) (v := ?_) rfl (by kernel_rfl) (by kernel_rfl) (by kernel_rfl) (fun _ _ _ h => h) (Or.inl ⟨by rfl, ?_⟩) hHeld ?_
                rotate_left
                · (intro w hSw; (try dsimp only at hSw); go_simp; try with_reducible rfl)
                try simp only [Act.put, List.setIfInBounds_toArray, List.set_cons_zero, List.set_cons_succ]
                refine wpAnyH_take (i := 5) (oi := ⟨_, _, _, _, _, _⟩) (v := ?_) rfl (by kernel_rfl) (by kernel_rfl) (by kernel_rfl) (fun _ _ _ h => h) (Or.inl ⟨by rfl, ?_⟩) hHeld ?_
                rotate_left
                · (intro w hSw; (try dsimp only at hSw); go_simp; try with_reducible rfl)
                try simp only [Act.put, List.setIfInBounds_toArray, List.set_cons_zero, List.set_cons_succ]
                refine wpAnyH_take (i := 6) (oi := ⟨_, _, _, _, _, _⟩) (v := ?_) rfl (by kernel_rfl) (by kernel_rfl) (by kernel_rfl) (fun _ _ _ h => h) (Or.inl ⟨by rfl, ?_⟩) hHeld ?_
                rotate_left
                · (intro w hSw; (try dsimp only at hSw); go_simp; try with_reducible rfl)
                try simp only [Act.put, List.setIfInBounds_toArray, List.set_cons_zero, List.set_cons_succ]
                refine wpAnyH_take (i := 7) (oi := ⟨_, _, _, _, _, _⟩) (v := ?_) rfl (by kernel_rfl) (by kernel_rfl) (by kernel_rfl) (fun _ _ _ h => h) (Or.inl ⟨by rfl, ?_⟩) hHeld ?_
                rotate_left
                · (intro w hSw; (try dsimp only at hSw); go_simp; try with_reducible rfl)
                try simp only [Act.put, List.setIfInBounds_toArray, List.set_cons_zero, List.set_cons_succ]
                refine wpAnyH_take (i := 8) (oi := ⟨_, _, _, _, _, _⟩) (v := ?_) rfl (by kernel_rfl) (by kernel_rfl) (by kernel_rfl) (fun _ _ _ h => h) (Or.inl ⟨by rfl, ?_⟩) hHeld ?_
                rotate_left
                · (intro w hSw; (try dsimp only at hSw); go_simp; try with_reducible rfl)
                try simp only [Act.put, List.setIfInBounds_toArray, List.set_cons_zero, List.set_cons_succ]
                refine wpAnyH_take (i := 9) (oi := ⟨_, _, _, _, _, _⟩) (v := undef) rfl (by kernel_rfl) (by kernel_rfl) (by kernel_rfl) (fun _ _ _ h => h) (Or.inr ⟨by rfl, rfl⟩) hHeld ?_
                try simp only [Act.put, List.setIfInBounds_toArray, List.set_cons_zero, List.set_cons_succ]
                refine wpAnyH_take (i := 10) (oi := ⟨_, _, _, _, _, _⟩) (v := undef) rfl (by kernel_rfl) (by kernel_rfl) (by kernel_rfl) (fun _ _ _ h => h) (Or.inr ⟨by rfl, rfl⟩) hHeld ?_
                try simp only [Act.put, List.setIfInBounds_toArray, List.set_cons_zero, List.set_cons_succ]
                refine wpAnyH_take (i := 11) (oi := ⟨_, _, _, _, _, _⟩) (v := undef) rfl (by kernel_rfl) (by kernel_rfl) (by kernel_rfl) (fun _ _ _ h => h) (Or.inr ⟨by rfl, rfl⟩) hHeld ?_
                try simp only [Act.put, List.setIfInBounds_toArray, List.set_cons_zero, List.set_cons_succ]
                refine wpAnyH_take (i := 12) (oi := ⟨_, _, _, _, _, _⟩) (v := undef) rfl (by kernel_rfl) (by kernel_rfl) (by kernel_rfl) (fun _ _ _ h => h) (Or.inr ⟨by rfl, rfl⟩) hHeld ?_
                try simp only [Act.put, List.setIfInBounds_toArray, List.set_cons_zero, List.set_cons_succ]
                refine wpAnyH_take (i := 13) (oi := ⟨_, _, _, _, _, _⟩) (v := undef) rfl (by kernel_rfl) (by kernel_rfl) (by kernel_rfl) (fun _ _ _ h => h) (Or.inr ⟨by rfl, rfl⟩) hHeld ?_
                try simp only [Act.put, List.setIfInBounds_toArray, List.set_cons_zero, List.set_cons_succ]
                refine wpAnyH_take (i := 14) (oi := ⟨_, _, _, _, _, _⟩) (v := undef) rfl (by kernel_rfl) (by kernel_rfl) (by kernel_rfl) (fun _ _ _ h => h) (Or.inr ⟨by rfl, rfl⟩) hHeld ?_
                try simp only [Act.put, List.setIfInBounds_toArray, List.set_cons_zero, List.set_cons_succ]
                refine wpAnyH_take (i := 15) (oi := ⟨_, _, _, _, _, _⟩) (v := undef) rfl (by kernel_rfl) (by kernel_rfl) (by kernel_rfl) (fun _ _ _ h => h) (Or.inr ⟨by rfl, rfl⟩) hHeld ?_
                try simp only [Act.put, List.setIfInBounds_toArray, List.set_cons_zero, List.set_cons_succ]
                refine wpAnyH_take (i := 16) (oi := ⟨_, _, _, _, _, _⟩) (v := undef) rfl (by kernel_rfl) (by kernel_rfl) (by kernel_rfl) (fun _ _ _ h => h) (Or.inr ⟨by rfl, rfl⟩) hHeld ?_
                try simp only [Act.put, List.setIfInBounds_toArray, List.set_cons_zero, List.set_cons_succ]
                refine wpAnyH_take (i := 17) (oi := ⟨_, _, _, _, _, _⟩) (v := ?_) rfl (by kernel_rfl) (by kernel_rfl) (by kernel_rfl) (fun _ _ _ h => h) (Or.inl ⟨by rfl, ?_⟩) hHeld ?_
                rotate_left
                · (intro w hSw; (try dsimp only at hSw); go_simp; try with_reducible rfl)
                try simp only [Act.put, List.setIfInBounds_toArray, List.set_cons_zero, List.set_cons_succ]
                refine wpAnyH_take (i := 18) (oi := ⟨_, _, _, _, _, _⟩) (v := ?_) rfl (by kernel_rfl) (by kernel_rfl) (by kernel_rfl) (fun _ _ _ h => h) (Or.inl ⟨by rfl, ?_⟩) hHeld ?_
                rotate_left
                · (intro w hSw; (try dsimp only at hSw); go_simp; try with_reducible rfl)
                try simp only [Act.put, List.setIfInBounds_toArray, List.set_cons_zero, List.set_cons_succ]
                refine wpAnyH_take (i := 19) (oi := ⟨_, _, _, _, _, _⟩) (v := undef) rfl (by kernel_rfl) (by kernel_rfl) (by kernel_rfl) (fun _ _ _ h => h) (Or.inr ⟨by rfl, rfl⟩) hHeld ?_
                try simp only [Act.put, List.setIfInBounds_toArray, List.set_cons_zero, List.set_cons_succ]
                refine wpAnyH_take (i := 20) (oi := ⟨_, _, _, _, _, _⟩) (v := undef) rfl (by kernel_rfl) (by kernel_rfl) (by kernel_rfl) (fun _ _ _ h => h) (Or.inr ⟨by rfl, rfl⟩) hHeld ?_
                try simp only [Act.put, List.setIfInBounds_toArray, List.set_cons_zero, List.set_cons_succ]
                refine wpAnyH_take (i := 21) (oi := ⟨_, _, _, _, _, _⟩) (v := undef) rfl (by kernel_rfl) (by kernel_rfl) (by kernel_rfl) (fun _ _ _ h => h) (Or.inr ⟨by rfl, rfl⟩) hHeld ?_
                try simp only [Act.put, List.setIfInBounds_toArray, List.set_cons_zero, List.set_cons_succ]
                refine wpAnyH_take (i := 22) (oi := ⟨_, _, _, _, _, _⟩) (v := undef) rfl (by kernel_rfl) (by kernel_rfl) (by kernel_rfl) (fun _ _ _ h => h) (Or.inr ⟨by rfl, rfl⟩) hHeld ?_
                try simp only [Act.put, List.setIfInBounds_toArray, List.set_cons_zero, List.set_cons_succ]
                refine wpAnyH_take (i := 23) (oi := ⟨_, _, _, _, _, _⟩) (v := undef) rfl (by kernel_rfl) (by kernel_rfl) (by kernel_rfl) (fun _ _ _ h => h) (Or.inr ⟨by rfl, rfl⟩) hHeld ?_
                try simp only [Act.put, List.setIfInBounds_toArray, List.set_cons_zero, List.set_cons_succ]
                refine wpAnyH_take (i := 24) (oi := ⟨_, _, _, _, _, _⟩) (v := undef) rfl (by kernel_rfl) (by kernel_rfl) (by kernel_rfl) (fun _ _ _ h => h) (Or.inr ⟨by rfl, rfl⟩) hHeld ?_
                try simp only [Act.put, List.setIfInBounds_toArray, List.set_cons_zero, List.set_cons_succ]
                refine wpAnyH_take (i := 25) (oi := ⟨_, _, _, _, _, _⟩) (v := undef) rfl (by kernel_rfl) (by kernel_rfl) (by kernel_rfl) (fun _ _ _ h => h) (Or.inr ⟨by rfl, rfl⟩) hHeld ?_
                try simp only [Act.put, List.setIfInBounds_toArray, List.set_cons_zero, List.set_cons_succ]
                refine wpAnyH_take (i := 26) (oi := ⟨_, _, _, _, _, _⟩) (v := undef) rfl (by kernel_rfl) (by kernel_rfl) (by kernel_rfl) (fun _ _ _ h => h) (Or.inr ⟨by rfl, rfl⟩) hHeld ?_
                try simp only [Act.put, List.setIfInBounds_toArray, List.set_cons_zero, List.set_cons_succ]
                refine wpAnyH_take (i := 27) (oi := ⟨_, _, _, _, _, _⟩) (v := undef) rfl (by kernel_rfl) (by kernel_rfl) (by kernel_rfl) (fun _ _ _ h => h) (Or.inr ⟨by rfl, rfl⟩) hHeld ?_
                try simp only [Act.put, List.setIfInBounds_toArray, List.set_cons_zero, List.set_cons_succ]
                refine wpAnyH_take (i := 28) (oi := ⟨_, _, _, _, _, _⟩) (v := undef) rfl (by kernel_rfl) (by kernel_rfl) (by kernel_rfl) (fun _ _ _ h => h) (Or.inr ⟨by rfl, rfl⟩) hHeld ?_
                try simp only [Act.put, List.setIfInBounds_toArray, List.set_cons_zero, List.set_cons_succ]
                refine wpAnyH_take (i := 29) (oi := ⟨_, _, _, _, _, _⟩) (v := undef) rfl (by kernel_rfl) (by kernel_rfl) (by kernel_rfl) (fun _ _ _ h => h) (Or.inr ⟨by rfl, rfl⟩) hHeld ?_
                try simp only [Act.put, List.setIfInBounds_toArray, List.set_cons_zero, List.set_cons_succ]
                refine wpAnyH_take (i := 30) (oi := ⟨_, _, _, _, _, _⟩) (v := undef) rfl (by kernel_rfl) (by kernel_rfl) (by kernel_rfl) (fun _ _ _ h => h) (Or.inr ⟨by rfl, rfl⟩) hHeld ?_
                try simp only [Act.put, List.setIfInBounds_toArray, List.set_cons_zero, List.set_cons_succ]
                refine wpAnyH_take (i := 31) (oi := ⟨_, _, _, _, _, _⟩) (v := undef) rfl (by kernel_rfl) (by kernel_rfl) (by kernel_rfl) (fun _ _ _ h => h) (Or.inr ⟨by rfl, rfl⟩) hHeld ?_
                try simp only [Act.put, List.setIfInBounds_toArray, List.set_cons_zero, List.set_cons_succ]
                refine wpAnyH_take (i := 32) (oi := ⟨_, _, _, _, _, _⟩) (v := undef) rfl (by kernel_rfl) (by kernel_rfl) (by kernel_rfl) (fun _ _ _ h => h) (Or.inr ⟨by rfl, rfl⟩) hHeld ?_
                try simp only [Act.put, List.setIfInBounds_toArray, List.set_cons_zero, List.set_cons_succ]
                refine wpAnyH_take (i := 33) (oi := ⟨_, _, _, _, _, _⟩) (v := undef) rfl (by kernel_rfl) (by kernel_rfl) (by kernel_rfl) (fun _ _ _ h => h) (Or.inr ⟨by rfl, rfl⟩) hHeld ?_
                try simp only [Act.put, List.setIfInBounds_toArray, List.set_cons_zero, List.set_cons_succ]
                refine wpAnyH_take (i := 34) (oi := ⟨_, _, _, _, _, _⟩) (v := undef) rfl (by kernel_rfl) (by kernel_rfl) (by kernel_rfl) (fun _ _ _ h => h) (Or.inr ⟨by rfl, rfl⟩) hHeld ?_
                try simp only [Act.put, List.setIfInBounds_toArray, List.set_cons_zero, List.set_cons_succ]
                refine wpAnyH_take (i := 35) (oi := ⟨_, _, _, _, _, _⟩) (v := undef) rfl (by kernel_rfl) (by kernel_rfl) (by kernel_rfl) (fun _ _ _ h => h) (Or.inr ⟨by rfl, rfl⟩) hHeld ?_
                try simp only [Act.put, List.setIfInBounds_toArray, List.set_cons_zero, List.set_cons_succ]
                refine wpAnyH_take (i := 36) (oi := ⟨_, _, _, _, _, _⟩) (v := ?_) rfl (by kernel_rfl) (by kernel_rfl) (by kernel_rfl) (fun _ _ _ h => h) (Or.inl ⟨by rfl, ?_⟩) hHeld ?_
                rotate_left
                · (intro w hSw; (try dsimp only at hSw); go_simp; try with_reducible rfl)
                try simp only [Act.put, List.setIfInBounds_toArray, List.set_cons_zero, List.set_cons_succ]
                refine wpAnyH_done (by kernel_rfl) ?_ _
                have HB3 := Lib.hid (below2 hB.out hbr)
                clear hbr
                go_wp2_with fail
                go_roundw
                case rel => exact ⟨k + 1, by go_num, by omega, hn, HB3, .inl ⟨rfl, HG⟩⟩
                case measure => simp [intOf]; omega
            · have hgs := bestTo_same hf.out hlt hj
              have hgb := bestTo_new hf.out hlt hj
              have hj0 : decide ((j : Int) < 0) = false := by rw [decide_eq_false_iff_not]; omega
              obtain ⟨bb2, off2, hbb, y0, y1, y2⟩ := (HH.out.1.below (below2 HB2.out hB.out)).at hj
              cases hbb
              obtain ⟨⟨⟨q, m⟩, s⟩, hx⟩ : ∃ x, l[k] = x := ⟨_, rfl⟩
              obtain ⟨⟨⟨q', m'⟩, s'⟩, hy⟩ : ∃ x, l[j] = x := ⟨_, rfl⟩
              rw [hx] at c0 c1 c2 hgs hgb
              rw [hy] at y0 y1 y2 hgs hgb
              dsimp only at c0 c1 c2 y0 y1 y2 hgs hgb
              have HC := Lib.hid (fun W (hW : Below wr.heap.size wr W) => (⟨look_below hW c0, look_below hW c1, look_below hW y1⟩ : W.cell? ⟨bb, off + k * 3, none⟩ = some (.string ⟨q.toArray⟩) ∧ W.cell? ⟨bb, off + k * 3 + 1, none⟩ = some (.int .i64 m) ∧ W.cell? ⟨bb, off + j * 3 + 1, none⟩ = some (.int .i64 m')))
              by_cases hq : q = p
              · have e1 : (q == p) = true := by simpa using hq
                by_cases hm : m ≤ n
                · have e2 : decide (m ≤ n) = true := decide_eq_true hm
                  by_cases hmm : m' < m
                  · have e3 : decide (m' < m) = true := decide_eq_true hmm
                    have HG := Lib.hid (hgb hq hm hmm)
                    clear hgs hgb hq hm hmm hx hy c2 y0 y2
                    go_wp2_with fail
                    go_region_held3 (fun W => W.cell? ⟨bb, off + k * 3, none⟩ = some (.string ⟨q.toArray⟩) ∧ W.cell? ⟨bb, off + k * 3 + 1, none⟩ = some (.int .i64 m) ∧ W.cell? ⟨bb, off + j * 3 + 1, none⟩ = some (.int .i64 m')) (exact HC.out _ hbr) (first | fail)
                    all_goals
                      have HB3 := Lib.hid (below2 hB.out hbr)
                      clear hbr
                      go_wp2_with fail
                      go_roundw
                      case rel => exact ⟨k + 1, by go_num, by omega, hn, HB3, .inr ⟨k, rfl, by omega, HG⟩⟩
                      case measure => simp [intOf]; omega
                  · have e3 : decide (m' < m) = false := decide_eq_false hmm
                    have HG := Lib.hid (hgs (fun _ _ => by omega))
                    clear hgs hgb hq hm hmm hx hy c2 y0 y2
                    go_wp2_with fail
                    go_region_held3 (fun W => W.cell? ⟨bb, off + k * 3, none⟩ = some (.string ⟨q.toArray⟩) ∧ W.cell? ⟨bb, off + k * 3 + 1, none⟩ = some (.int .i64 m) ∧ W.cell? ⟨bb, off + j * 3 + 1, none⟩ = some (.int .i64 m')) (exact HC.out _ hbr) (first | fail)
                    all_goals
                      have HB3 := Lib.hid (below2 hB.out hbr)
                      clear hbr
                      go_wp2_with fail
                      go_roundw
                      case rel => exact ⟨k + 1, by go_num, by omega, hn, HB3, .inr ⟨j, rfl, by omega, HG⟩⟩
                      case measure => simp [intOf]; omega
                · have e2 : decide (m ≤ n) = false := decide_eq_false hm
                  have HG := Lib.hid (hgs (fun _ h => absurd h hm))
                  clear hgs hgb hq hm hx hy c2 y0 y2
                  go_wp2_with fail
                  refine wp_region_held_drew (S := (fun W => W.cell? ⟨bb, off + k * 3, none⟩ = some (.string ⟨q.toArray⟩) ∧ W.cell? ⟨bb, off + k * 3 + 1, none⟩ = some (.int .i64 m) ∧ W.cell? ⟨bb, off + j * 3 + 1, none⟩ = some (.int .i64 m'))) (by kernel_rfl) (HC.out _ hbr) (fun hHeld => ?_)
                  refine wpAnyH_take (i := 0) (oi := ⟨_, _, _, _, _, _⟩) (v := ?_) rfl (by kernel_rfl) (by kernel_rfl) (by kernel_rfl) (fun _ _ _ h => h) (Or.inl ⟨by rfl, ?_⟩) hHeld ?_
                  rotate_left
                  · (intro w hSw; (try dsimp only at hSw); go_simp; try with_reducible rfl)
                  try simp only [Act.put, List.setIfInBounds_toArray, List.set_cons_zero, List.set_cons_succ]
                  refine wpAnyH_take (i := 1) (oi := ⟨_, _, _, _, _, _⟩) (v := ?_) rfl (by kernel_rfl) (by kernel_rfl) (by kernel_rfl) (fun _ _ _ h => h) (Or.inl ⟨by rfl, ?_⟩) hHeld ?_
                  rotate_left
                  · (intro w hSw; (try dsimp only at hSw); go_simp; try with_reducible rfl)
                  try simp only [Act.put, List.setIfInBounds_toArray, List.set_cons_zero, List.set_cons_succ]
                  refine wpAnyH_take (i := 2) (oi := ⟨_, _, _, _, _, _⟩) (v := ?_) rfl (by kernel_rfl) (by kernel_rfl) (by kernel_rfl) (fun _ _ _ h => h) (Or.inl ⟨by rfl, ?_⟩) hHeld ?_
                  rotate_left
                  · (intro w hSw; (try dsimp only at hSw); go_simp; try with_reducible rfl)
                  try simp only [Act.put, List.setIfInBounds_toArray, List.set_cons_zero, List.set_cons_succ]
                  refine wpAnyH_take (i := 3) (oi := ⟨_, _, _, _, _, _⟩) (v := ?_) rfl (by kernel_rfl) (by kernel_rfl) (by kernel_rfl) (fun _ _ _ h => h) (Or.inl ⟨by rfl, ?_⟩) hHeld ?_
                  rotate_left
                  · (intro w hSw; (try dsimp only at hSw); go_simp; try with_reducible rfl)
                  try simp only [Act.put, List.setIfInBounds_toArray, List.set_cons_zero, List.set_cons_succ]
                  refine wpAnyH_take (i := 4) (oi := ⟨_, _, _, _, _, _⟩) (v := ?_) rfl (by kernel_rfl) (by kernel_rfl) (by kernel_rfl) (fun _ _ _ h => h) (Or.inl ⟨by rfl, ?_⟩) hHeld ?_
                  rotate_left
                  · (intro w hSw; (try dsimp only at hSw); go_simp; try with_reducible rfl)
                  try simp only [Act.put, List.setIfInBounds_toArray, List.set_cons_zero, List.set_cons_succ]
                  refine wpAnyH_take (i := 5) (oi := ⟨_, _, _, _, _, _⟩) (v := ?_) rfl (by kernel_rfl) (by kernel_rfl) (by kernel_rfl) (fun _ _ _ h => h) (Or.inl ⟨by rfl, ?_⟩) hHeld ?_
                  rotate_left
                  · (intro w hSw; (try dsimp only at hSw); go_simp; try with_reducible rfl)
                  try simp only [Act.put, List.setIfInBounds_toArray, List.set_cons_zero, List.set_cons_succ]
                  refine wpAnyH_take (i := 6) (oi := ⟨_, _, _, _, _, _⟩) (v := ?_) rfl (by kernel_rfl) (by kernel_rfl) (by kernel_rfl) (fun _ _ _ h => h) (Or.inl ⟨by rfl, ?_⟩) hHeld ?_
                  rotate_left
                  · (intro w hSw; (try dsimp only at hSw); go_simp; try with_reducible rfl)
                  try simp only [Act.put, List.setIfInBounds_toArray, List.set_cons_zero, List.set_cons_succ]
                  refine wpAnyH_take (i := 7) (oi := ⟨_, _, _, _, _, _⟩) (v := ?_) rfl (by kernel_rfl) (by kernel_rfl) (by kernel_rfl) (fun _ _ _ h => h) (Or.inl ⟨by rfl, ?_⟩) hHeld ?_
                  rotate_left
                  · (intro w hSw; (try dsimp only at hSw); go_simp; try with_reducible rfl)
                  try simp only [Act.put, List.setIfInBounds_toArray, List.set_cons_zero, List.set_cons_succ]
                  refine wpAnyH_take (i := 8) (oi := ⟨_, _, _, _, _, _⟩) (v := ?_) rfl (by kernel_rfl) (by kernel_rfl) (by kernel_rfl) (fun _ _ _ h => h) (Or.inl ⟨by rfl, ?_⟩) hHeld ?_
                  rotate_left
                  · (intro w hSw; (try dsimp only at hSw); go_simp; try with_reducible rfl)
                  try simp only [Act.put, List.setIfInBounds_toArray, List.set_cons_zero, List.set_cons_succ]
                  refine wpAnyH_take (i := 9) (oi := ⟨_, _, _, _, _, _⟩) (v := ?_) rfl (by kernel_rfl) (by kernel_rfl) (by kernel_rfl) (fun _ _ _ h => h) (Or.inl ⟨by rfl, ?_⟩) hHeld ?_
                  rotate_left
                  · (intro w hSw; (try dsimp only at hSw); go_simp; try with_reducible rfl)
                  try simp only [Act.put, List.setIfInBounds_toArray, List.set_cons_zero, List.set_cons_succ]
                  refine wpAnyH_take (i := 10) (oi := ⟨_, _, _, _, _, _⟩) (v := ?_) rfl (by kernel_rfl) (by kernel_rfl) (by kernel_rfl) (fun _ _ _ h => h) (Or.inl ⟨by rfl, ?_⟩) hHeld ?_
                  rotate_left
                  · (intro w hSw; (try dsimp only at hSw); go_simp; try with_reducible rfl)
                  try simp only [Act.put, List.setIfInBounds_toArray, List.set_cons_zero, List.set_cons_succ]
                  refine wpAnyH_take (i := 11) (oi := ⟨_, _, _, _, _, _⟩) (v := ?_) rfl (by kernel_rfl) (by kernel_rfl) (by kernel_rfl) (fun _ _ _ h => h) (Or.inl ⟨by rfl, ?_⟩) hHeld ?_
                  rotate_left
                  · (intro w hSw; (try dsimp only at hSw); go_simp; try with_reducible rfl)
                  try simp only [Act.put, List.setIfInBounds_toArray, List.set_cons_zero, List.set_cons_succ]
                  refine wpAnyH_take (i := 12) (oi := ⟨_, _, _, _, _, _⟩) (v := ?_) rfl (by kernel_rfl) (by kernel_rfl) (by kernel_rfl) (fun _ _ _ h => h) (Or.inl ⟨by rfl, ?_⟩) hHeld ?_
                  rotate_left
                  · (intro w hSw; (try dsimp only at hSw); go_simp; try with_reducible rfl)
                  try simp only [Act.put, List.setIfInBounds_toArray, List.set_cons_zero, List.set_cons_succ]
                  refine wpAnyH_take (i := 13) (oi := ⟨_, _, _, _, _, _⟩) (v := ?_) rfl (by kernel_rfl) (by kernel_rfl) (by kernel_rfl) (fun _ _ _ h => h) (Or.inl ⟨by rfl, ?_⟩) hHeld ?_
                  rotate_left
                  · (intro w hSw; (try dsimp only at hSw); go_simp; try with_reducible rfl)
                  try simp only [Act.put, List.setIfInBounds_toArray, List.set_cons_zero, List.set_cons_succ]
                  refine wpAnyH_take (i := 14) (oi := ⟨_, _, _, _, _, _⟩) (v := ?_) rfl (by kernel_rfl) (by kernel_rfl) (by kernel_rfl) (fun _ _ _ h => h) (Or.inl ⟨by rfl, ?_⟩) hHeld ?_
                  rotate_left
                  · (intro w hSw; (try dsimp only at hSw); go_simp; try with_reducible rfl)
                  try simp only [Act.put, List.setIfInBounds_toArray, List.set_cons_zero, List.set_cons_succ]
                  refine wpAnyH_take (i := 15) (oi := ⟨_, _, _, _, _, _⟩) (v := ?_) rfl (by kernel_rfl) (by kernel_rfl) (by kernel_rfl) (fun _ _ _ h => h) (Or.inl ⟨by rfl, ?_⟩) hHeld ?_
                  rotate_left
                  · (intro w hSw; (try dsimp only at hSw); go_simp; try with_reducible rfl)
                  try simp only [Act.put, List.setIfInBounds_toArray, List.set_cons_zero, List.set_cons_succ]
                  refine wpAnyH_take (i := 16) (oi := ⟨_, _, _, _, _, _⟩) (v := ?_) rfl (by kernel_rfl) (by kernel_rfl) (by kernel_rfl) (fun _ _ _ h => h) (Or.inl ⟨by rfl, ?_⟩) hHeld ?_
                  rotate_left
                  · (intro w hSw; (try dsimp only at hSw); go_simp; try with_reducible rfl)
                  try simp only [Act.put, List.setIfInBounds_toArray, List.set_cons_zero, List.set_cons_succ]
                  refine wpAnyH_take (i := 17) (oi := ⟨_, _, _, _, _, _⟩) (v := ?_) rfl (by kernel_rfl) (by kernel_rfl) (by kernel_rfl) (fun _ _ _ h => h) (Or.inl ⟨by rfl, ?_⟩) hHeld ?_
                  rotate_left
                  · (intro w hSw; (try dsimp only at hSw); go_simp; try with_reducible rfl)
                  try simp only [Act.put, List.setIfInBounds_toArray, List.set_cons_zero, List.set_cons_succ]
                  refine wpAnyH_take (i := 18) (oi := ⟨_, _, _, _, _, _⟩) (v := ?_) rfl (by kernel_rfl) (by kernel_rfl) (by kernel_rfl) (fun _ _ _ h => h) (Or.inl ⟨by rfl, ?_⟩) hHeld ?_
                  rotate_left
                  · (intro w hSw; (try dsimp only at hSw); go_simp; try with_reducible rfl)
                  try simp only [Act.put, List.setIfInBounds_toArray, List.set_cons_zero, List.set_cons_succ]
                  refine wpAnyH_take (i := 19) (oi := ⟨_, _, _, _, _, _⟩) (v := undef) rfl (by kernel_rfl) (by kernel_rfl) (by kernel_rfl) (fun _ _ _ h => h) (Or.inr ⟨by rfl, rfl⟩) hHeld ?_
                  try simp only [Act.put, List.setIfInBounds_toArray, List.set_cons_zero, List.set_cons_succ]
                  refine wpAnyH_take (i := 20) (oi := ⟨_, _, _, _, _, _⟩) (v := undef) rfl (by kernel_rfl) (by kernel_rfl) (by kernel_rfl) (fun _ _ _ h => h) (Or.inr ⟨by rfl, rfl⟩) hHeld ?_
                  try simp only [Act.put, List.setIfInBounds_toArray, List.set_cons_zero, List.set_cons_succ]
                  refine wpAnyH_take (i := 21) (oi := ⟨_, _, _, _, _, _⟩) (v := undef) rfl (by kernel_rfl) (by kernel_rfl) (by kernel_rfl) (fun _ _ _ h => h) (Or.inr ⟨by rfl, rfl⟩) hHeld ?_
                  try simp only [Act.put, List.setIfInBounds_toArray, List.set_cons_zero, List.set_cons_succ]
                  refine wpAnyH_take (i := 22) (oi := ⟨_, _, _, _, _, _⟩) (v := undef) rfl (by kernel_rfl) (by kernel_rfl) (by kernel_rfl) (fun _ _ _ h => h) (Or.inr ⟨by rfl, rfl⟩) hHeld ?_
                  try simp only [Act.put, List.setIfInBounds_toArray, List.set_cons_zero, List.set_cons_succ]
                  refine wpAnyH_take (i := 23) (oi := ⟨_, _, _, _, _, _⟩) (v := undef) rfl (by kernel_rfl) (by kernel_rfl) (by kernel_rfl) (fun _ _ _ h => h) (Or.inr ⟨by rfl, rfl⟩) hHeld ?_
                  try simp only [Act.put, List.setIfInBounds_toArray, List.set_cons_zero, List.set_cons_succ]
                  refine wpAnyH_take (i := 24) (oi := ⟨_, _, _, _, _, _⟩) (v := undef) rfl (by kernel_rfl) (by kernel_rfl) (by kernel_rfl) (fun _ _ _ h => h) (Or.inr ⟨by rfl, rfl⟩) hHeld ?_
                  try simp only [Act.put, List.setIfInBounds_toArray, List.set_cons_zero, List.set_cons_succ]
                  refine wpAnyH_take (i := 25) (oi := ⟨_, _, _, _, _, _⟩) (v := undef) rfl (by kernel_rfl) (by kernel_rfl) (by kernel_rfl) (fun _ _ _ h => h) (Or.inr ⟨by rfl, rfl⟩) hHeld ?_
                  try simp only [Act.put, List.setIfInBounds_toArray, List.set_cons_zero, List.set_cons_succ]
                  refine wpAnyH_take (i := 26) (oi := ⟨_, _, _, _, _, _⟩) (v := undef) rfl (by kernel_rfl) (by kernel_rfl) (by kernel_rfl) (fun _ _ _ h => h) (Or.inr ⟨by rfl, rfl⟩) hHeld ?_
                  try simp only [Act.put, List.setIfInBounds_toArray, List.set_cons_zero, List.set_cons_succ]
                  refine wpAnyH_take (i := 27) (oi := ⟨_, _, _, _, _, _⟩) (v := undef) rfl (by kernel_rfl) (by kernel_rfl) (by kernel_rfl) (fun _ _ _ h => h) (Or.inr ⟨by rfl, rfl⟩) hHeld ?_
                  try simp only [Act.put, List.setIfInBounds_toArray, List.set_cons_zero, List.set_cons_succ]
                  refine wpAnyH_take (i := 28) (oi := ⟨_, _, _, _, _, _⟩) (v := undef) rfl (by kernel_rfl) (by kernel_rfl) (by kernel_rfl) (fun _ _ _ h => h) (Or.inr ⟨by rfl, rfl⟩) hHeld ?_
                  try simp only [Act.put, List.setIfInBounds_toArray, List.set_cons_zero, List.set_cons_succ]
                  refine wpAnyH_take (i := 29) (oi := ⟨_, _, _, _, _, _⟩) (v := undef) rfl (by kernel_rfl) (by kernel_rfl) (by kernel_rfl) (fun _ _ _ h => h) (Or.inr ⟨by rfl, rfl⟩) hHeld ?_
                  try simp only [Act.put, List.setIfInBounds_toArray, List.set_cons_zero, List.set_cons_succ]
                  refine wpAnyH_take (i := 30) (oi := ⟨_, _, _, _, _, _⟩) (v := undef) rfl (by kernel_rfl) (by kernel_rfl) (by kernel_rfl) (fun _ _ _ h => h) (Or.inr ⟨by rfl, rfl⟩) hHeld ?_
                  try simp only [Act.put, List.setIfInBounds_toArray, List.set_cons_zero, List.set_cons_succ]
                  refine wpAnyH_take (i := 31) (oi := ⟨_, _, _, _, _, _⟩) (v := undef) rfl (by kernel_rfl) (by kernel_rfl) (by kernel_rfl) (fun _ _ _ h => h) (Or.inr ⟨by rfl, rfl⟩) hHeld ?_
                  try simp only [Act.put, List.setIfInBounds_toArray, List.set_cons_zero, List.set_cons_succ]
                  refine wpAnyH_take (i := 32) (oi := ⟨_, _, _, _, _, _⟩) (v := undef) rfl (by kernel_rfl) (by kernel_rfl) (by kernel_rfl) (fun _ _ _ h => h) (Or.inr ⟨by rfl, rfl⟩) hHeld ?_
                  try simp only [Act.put, List.setIfInBounds_toArray, List.set_cons_zero, List.set_cons_succ]
                  refine wpAnyH_take (i := 33) (oi := ⟨_, _, _, _, _, _⟩) (v := undef) rfl (by kernel_rfl) (by kernel_rfl) (by kernel_rfl) (fun _ _ _ h => h) (Or.inr ⟨by rfl, rfl⟩) hHeld ?_
                  try simp only [Act.put, List.setIfInBounds_toArray, List.set_cons_zero, List.set_cons_succ]
                  refine wpAnyH_take (i := 34) (oi := ⟨_, _, _, _, _, _⟩) (v := undef) rfl (by kernel_rfl) (by kernel_rfl) (by kernel_rfl) (fun _ _ _ h => h) (Or.inr ⟨by rfl, rfl⟩) hHeld ?_
                  try simp only [Act.put, List.setIfInBounds_toArray, List.set_cons_zero, List.set_cons_succ]
                  refine wpAnyH_take (i := 35) (oi := ⟨_, _, _, _, _, _⟩) (v := undef) rfl (by kernel_rfl) (by kernel_rfl) (by kernel_rfl) (fun _ _ _ h => h) (Or.inr ⟨by rfl, rfl⟩) hHeld ?_
                  try simp only [Act.put, List.setIfInBounds_toArray, List.set_cons_zero, List.set_cons_succ]
                  refine wpAnyH_take (i := 36) (oi := ⟨_, _, _, _, _, _⟩) (v := ?_) rfl (by kernel_rfl) (by kernel_rfl) (by kernel_rfl) (fun _ _ _ h => h) (Or.inl ⟨by rfl, ?_⟩) hHeld ?_
                  rotate_left
                  · (intro w hSw; (try dsimp only at hSw); go_simp; try with_reducible rfl)
                  try simp only [Act.put, List.setIfInBounds_toArray, List.set_cons_zero, List.set_cons_succ]
                  refine wpAnyH_done (by kernel_rfl) ?_ _
                  have HB3 := Lib.hid (below2 hB.out hbr)
                  clear hbr
                  go_wp2_with fail
                  go_roundw
                  case rel => exact ⟨k + 1, by go_num, by omega, hn, HB3, .inr ⟨j, rfl, by omega, HG⟩⟩
                  case measure => simp [intOf]; omega
              · have e1 : (q == p) = false := by simpa using hq
                have HG := Lib.hid (hgs (fun e _ => absurd e hq))
                clear hgs hgb hq hx hy c2 y0 y2
                go_wp2_with fail
                refine wp_region_held_drew (S := (fun W => W.cell? ⟨bb, off + k * 3, none⟩ = some (.string ⟨q.toArray⟩) ∧ W.cell? ⟨bb, off + k * 3 + 1, none⟩ = some (.int .i64 m) ∧ W.cell? ⟨bb, off + j * 3 + 1, none⟩ = some (.int .i64 m'))) (by kernel_rfl) (HC.out _ hbr) (fun hHeld => ?_)
                refine wpAnyH_take (i := 0) (oi := ⟨_, _, _, _, _, _⟩) (v := ?_) rfl (by kernel_rfl) (by kernel_rfl) (by kernel_rfl) (fun _ _ _ h => h) (Or.inl ⟨by rfl, ?_⟩) hHeld ?_
                rotate_left
                · (intro w hSw; (try dsimp only at hSw); go_simp; try with_reducible rfl)
                try simp only [Act.put, List.setIfInBounds_toArray, List.set_cons_zero, List.set_cons_succ]
                refine wpAnyH_take (i := 1) (oi := ⟨_, _, _, _, _, _⟩) (v := ?_) rfl (by kernel_rfl) (by kernel_rfl) (by kernel_rfl) (fun _ _ _ h => h) (Or.inl ⟨by rfl, ?_⟩) hHeld ?_
                rotate_left
                · (intro w hSw; (try dsimp only at hSw); go_simp; try with_reducible rfl)
                try simp only [Act.put, List.setIfInBounds_toArray, List.set_cons_zero, List.set_cons_succ]
                refine wpAnyH_take (i := 2) (oi := ⟨_, _, _, _, _, _⟩) (v := ?_) rfl (by kernel_rfl) (by kernel_rfl) (by kernel_rfl) (fun _ _ _ h => h) (Or.inl ⟨by rfl, ?_⟩) hHeld ?_
                rotate_left
                · (intro w hSw; (try dsimp only at hSw); go_simp; try with_reducible rfl)
                try simp only [Act.put, List.setIfInBounds_toArray, List.set_cons_zero, List.set_cons_succ]
                refine wpAnyH_take (i := 3) (oi := ⟨_, _, _, _, _, _⟩) (v := ?_) rfl (by kernel_rfl) (by kernel_rfl) (by kernel_rfl) (fun _ _ _ h => h) (Or.inl ⟨by rfl, ?_⟩) hHeld ?_
                rotate_left
                · (intro w hSw; (try dsimp only at hSw); go_simp; try with_reducible rfl)
                try simp only [Act.put, List.setIfInBounds_toArray, List.set_cons_zero, List.set_cons_succ]
                refine wpAnyH_take (i := 4) (oi := ⟨_, _, _, _, _, _⟩) (v := ?_) rfl (by kernel_rfl) (by kernel_rfl) (by kernel_rfl) (fun _ _ _ h => h) (Or.inl ⟨by rfl, ?_⟩) hHeld ?_
                rotate_left
                · (intro w hSw; (try dsimp only at hSw); go_simp; try with_reducible rfl)
                try simp only [Act.put, List.setIfInBounds_toArray, List.set_cons_zero, List.set_cons_succ]
                refine wpAnyH_take (i := 5) (oi := ⟨_, _, _, _, _, _⟩) (v := ?_) rfl (by kernel_rfl) (by kernel_rfl) (by kernel_rfl) (fun _ _ _ h => h) (Or.inl ⟨by rfl, ?_⟩) hHeld ?_
                rotate_left
                · (intro w hSw; (try dsimp only at hSw); go_simp; try with_reducible rfl)
                try simp only [Act.put, List.setIfInBounds_toArray, List.set_cons_zero, List.set_cons_succ]
                refine wpAnyH_take (i := 6) (oi := ⟨_, _, _, _, _, _⟩) (v := ?_) rfl (by kernel_rfl) (by kernel_rfl) (by kernel_rfl) (fun _ _ _ h => h) (Or.inl ⟨by rfl, ?_⟩) hHeld ?_
                rotate_left
                · (intro w hSw; (try dsimp only at hSw); go_simp; try with_reducible rfl)
                try simp only [Act.put, List.setIfInBounds_toArray, List.set_cons_zero, List.set_cons_succ]
                refine wpAnyH_take (i := 7) (oi := ⟨_, _, _, _, _, _⟩) (v := ?_) rfl (by kernel_rfl) (by kernel_rfl) (by kernel_rfl) (fun _ _ _ h => h) (Or.inl ⟨by rfl, ?_⟩) hHeld ?_
                rotate_left
                · (intro w hSw; (try dsimp only at hSw); go_simp; try with_reducible rfl)
                try simp only [Act.put, List.setIfInBounds_toArray, List.set_cons_zero, List.set_cons_succ]
                refine wpAnyH_take (i := 8) (oi := ⟨_, _, _, _, _, _⟩) (v := ?_) rfl (by kernel_rfl) (by kernel_rfl) (by kernel_rfl) (fun _ _ _ h => h) (Or.inl ⟨by rfl, ?_⟩) hHeld ?_
                rotate_left
                · (intro w hSw; (try dsimp only at hSw); go_simp; try with_reducible rfl)
                try simp only [Act.put, List.setIfInBounds_toArray, List.set_cons_zero, List.set_cons_succ]
                refine wpAnyH_take (i := 9) (oi := ⟨_, _, _, _, _, _⟩) (v := undef) rfl (by kernel_rfl) (by kernel_rfl) (by kernel_rfl) (fun _ _ _ h => h) (Or.inr ⟨by rfl, rfl⟩) hHeld ?_
                try simp only [Act.put, List.setIfInBounds_toArray, List.set_cons_zero, List.set_cons_succ]
                refine wpAnyH_take (i := 10) (oi := ⟨_, _, _, _, _, _⟩) (v := undef) rfl (by kernel_rfl) (by kernel_rfl) (by kernel_rfl) (fun _ _ _ h => h) (Or.inr ⟨by rfl, rfl⟩) hHeld ?_
                try simp only [Act.put, List.setIfInBounds_toArray, List.set_cons_zero, List.set_cons_succ]
                refine wpAnyH_take (i := 11) (oi := ⟨_, _, _, _, _, _⟩) (v := undef) rfl (by kernel_rfl) (by kernel_rfl) (by kernel_rfl) (fun _ _ _ h => h) (Or.inr ⟨by rfl, rfl⟩) hHeld ?_
                try simp only [Act.put, List.setIfInBounds_toArray, List.set_cons_zero, List.set_cons_succ]
                refine wpAnyH_take (i := 12) (oi := ⟨_, _, _, _, _, _⟩) (v := undef) rfl (by kernel_rfl) (by kernel_rfl) (by kernel_rfl) (fun _ _ _ h => h) (Or.inr ⟨by rfl, rfl⟩) hHeld ?_
                try simp only [Act.put, List.setIfInBounds_toArray, List.set_cons_zero, List.set_cons_succ]
                refine wpAnyH_take (i := 13) (oi := ⟨_, _, _, _, _, _⟩) (v := undef) rfl (by kernel_rfl) (by kernel_rfl) (by kernel_rfl) (fun _ _ _ h => h) (Or.inr ⟨by rfl, rfl⟩) hHeld ?_
                try simp only [Act.put, List.setIfInBounds_toArray, List.set_cons_zero, List.set_cons_succ]
                refine wpAnyH_take (i := 14) (oi := ⟨_, _, _, _, _, _⟩) (v := undef) rfl (by kernel_rfl) (by kernel_rfl) (by kernel_rfl) (fun _ _ _ h => h) (Or.inr ⟨by rfl, rfl⟩) hHeld ?_
                try simp only [Act.put, List.setIfInBounds_toArray, List.set_cons_zero, List.set_cons_succ]
                refine wpAnyH_take (i := 15) (oi := ⟨_, _, _, _, _, _⟩) (v := undef) rfl (by kernel_rfl) (by kernel_rfl) (by kernel_rfl) (fun _ _ _ h => h) (Or.inr ⟨by rfl, rfl⟩) hHeld ?_
                try simp only [Act.put, List.setIfInBounds_toArray, List.set_cons_zero, List.set_cons_succ]
                refine wpAnyH_take (i := 16) (oi := ⟨_, _, _, _, _, _⟩) (v := undef) rfl (by kernel_rfl) (by kernel_rfl) (by kernel_rfl) (fun _ _ _ h => h) (Or.inr ⟨by rfl, rfl⟩) hHeld ?_
                try simp only [Act.put, List.setIfInBounds_toArray, List.set_cons_zero, List.set_cons_succ]
                refine wpAnyH_take (i := 17) (oi := ⟨_, _, _, _, _, _⟩) (v := ?_) rfl (by kernel_rfl) (by kernel_rfl) (by kernel_rfl) (fun _ _ _ h => h) (Or.inl ⟨by rfl, ?_⟩) hHeld ?_
                rotate_left
                · (intro w hSw; (try dsimp only at hSw); go_simp; try with_reducible rfl)
                try simp only [Act.put, List.setIfInBounds_toArray, List.set_cons_zero, List.set_cons_succ]
                refine wpAnyH_take (i := 18) (oi := ⟨_, _, _, _, _, _⟩) (v := ?_) rfl (by kernel_rfl) (by kernel_rfl) (by kernel_rfl) (fun _ _ _ h => h) (Or.inl ⟨by rfl, ?_⟩) hHeld ?_
                rotate_left
                · (intro w hSw; (try dsimp only at hSw); go_simp; try with_reducible rfl)
                try simp only [Act.put, List.setIfInBounds_toArray, List.set_cons_zero, List.set_cons_succ]
                refine wpAnyH_take (i := 19) (oi := ⟨_, _, _, _, _, _⟩) (v := undef) rfl (by kernel_rfl) (by kernel_rfl) (by kernel_rfl) (fun _ _ _ h => h) (Or.inr ⟨by rfl, rfl⟩) hHeld ?_
                try simp only [Act.put, List.setIfInBounds_toArray, List.set_cons_zero, List.set_cons_succ]
                refine wpAnyH_take (i := 20) (oi := ⟨_, _, _, _, _, _⟩) (v := undef) rfl (by kernel_rfl) (by kernel_rfl) (by kernel_rfl) (fun _ _ _ h => h) (Or.inr ⟨by rfl, rfl⟩) hHeld ?_
                try simp only [Act.put, List.setIfInBounds_toArray, List.set_cons_zero, List.set_cons_succ]
                refine wpAnyH_take (i := 21) (oi := ⟨_, _, _, _, _, _⟩) (v := undef) rfl (by kernel_rfl) (by kernel_rfl) (by kernel_rfl) (fun _ _ _ h => h) (Or.inr ⟨by rfl, rfl⟩) hHeld ?_
                try simp only [Act.put, List.setIfInBounds_toArray, List.set_cons_zero, List.set_cons_succ]
                refine wpAnyH_take (i := 22) (oi := ⟨_, _, _, _, _, _⟩) (v := undef) rfl (by kernel_rfl) (by kernel_rfl) (by kernel_rfl) (fun _ _ _ h => h) (Or.inr ⟨by rfl, rfl⟩) hHeld ?_
                try simp only [Act.put, List.setIfInBounds_toArray, List.set_cons_zero, List.set_cons_succ]
                refine wpAnyH_take (i := 23) (oi := ⟨_, _, _, _, _, _⟩) (v := undef) rfl (by kernel_rfl) (by kernel_rfl) (by kernel_rfl) (fun _ _ _ h => h) (Or.inr ⟨by rfl, rfl⟩) hHeld ?_
                try simp only [Act.put, List.setIfInBounds_toArray, List.set_cons_zero, List.set_cons_succ]
                refine wpAnyH_take (i := 24) (oi := ⟨_, _, _, _, _, _⟩) (v := undef) rfl (by kernel_rfl) (by kernel_rfl) (by kernel_rfl) (fun _ _ _ h => h) (Or.inr ⟨by rfl, rfl⟩) hHeld ?_
                try simp only [Act.put, List.setIfInBounds_toArray, List.set_cons_zero, List.set_cons_succ]
                refine wpAnyH_take (i := 25) (oi := ⟨_, _, _, _, _, _⟩) (v := undef) rfl (by kernel_rfl) (by kernel_rfl) (by kernel_rfl) (fun _ _ _ h => h) (Or.inr ⟨by rfl, rfl⟩) hHeld ?_
                try simp only [Act.put, List.setIfInBounds_toArray, List.set_cons_zero, List.set_cons_succ]
                refine wpAnyH_take (i := 26) (oi := ⟨_, _, _, _, _, _⟩) (v := undef) rfl (by kernel_rfl) (by kernel_rfl) (by kernel_rfl) (fun _ _ _ h => h) (Or.inr ⟨by rfl, rfl⟩) hHeld ?_
                try simp only [Act.put, List.setIfInBounds_toArray, List.set_cons_zero, List.set_cons_succ]
                refine wpAnyH_take (i := 27) (oi := ⟨_, _, _, _, _, _⟩) (v := undef) rfl (by kernel_rfl) (by kernel_rfl) (by kernel_rfl) (fun _ _ _ h => h) (Or.inr ⟨by rfl, rfl⟩) hHeld ?_
                try simp only [Act.put, List.setIfInBounds_toArray, List.set_cons_zero, List.set_cons_succ]
                refine wpAnyH_take (i := 28) (oi := ⟨_, _, _, _, _, _⟩) (v := undef) rfl (by kernel_rfl) (by kernel_rfl) (by kernel_rfl) (fun _ _ _ h => h) (Or.inr ⟨by rfl, rfl⟩) hHeld ?_
                try simp only [Act.put, List.setIfInBounds_toArray, List.set_cons_zero, List.set_cons_succ]
                refine wpAnyH_take (i := 29) (oi := ⟨_, _, _, _, _, _⟩) (v := undef) rfl (by kernel_rfl) (by kernel_rfl) (by kernel_rfl) (fun _ _ _ h => h) (Or.inr ⟨by rfl, rfl⟩) hHeld ?_
                try simp only [Act.put, List.setIfInBounds_toArray, List.set_cons_zero, List.set_cons_succ]
                refine wpAnyH_take (i := 30) (oi := ⟨_, _, _, _, _, _⟩) (v := undef) rfl (by kernel_rfl) (by kernel_rfl) (by kernel_rfl) (fun _ _ _ h => h) (Or.inr ⟨by rfl, rfl⟩) hHeld ?_
                try simp only [Act.put, List.setIfInBounds_toArray, List.set_cons_zero, List.set_cons_succ]
                refine wpAnyH_take (i := 31) (oi := ⟨_, _, _, _, _, _⟩) (v := undef) rfl (by kernel_rfl) (by kernel_rfl) (by kernel_rfl) (fun _ _ _ h => h) (Or.inr ⟨by rfl, rfl⟩) hHeld ?_
                try simp only [Act.put, List.setIfInBounds_toArray, List.set_cons_zero, List.set_cons_succ]
                refine wpAnyH_take (i := 32) (oi := ⟨_, _, _, _, _, _⟩) (v := undef) rfl (by kernel_rfl) (by kernel_rfl) (by kernel_rfl) (fun _ _ _ h => h) (Or.inr ⟨by rfl, rfl⟩) hHeld ?_
                try simp only [Act.put, List.setIfInBounds_toArray, List.set_cons_zero, List.set_cons_succ]
                refine wpAnyH_take (i := 33) (oi := ⟨_, _, _, _, _, _⟩) (v := undef) rfl (by kernel_rfl) (by kernel_rfl) (by kernel_rfl) (fun _ _ _ h => h) (Or.inr ⟨by rfl, rfl⟩) hHeld ?_
                try simp only [Act.put, List.setIfInBounds_toArray, List.set_cons_zero, List.set_cons_succ]
                refine wpAnyH_take (i := 34) (oi := ⟨_, _, _, _, _, _⟩) (v := undef) rfl (by kernel_rfl) (by kernel_rfl) (by kernel_rfl) (fun _ _ _ h => h) (Or.inr ⟨by rfl, rfl⟩) hHeld ?_
                try simp only [Act.put, List.setIfInBounds_toArray, List.set_cons_zero, List.set_cons_succ]
                refine wpAnyH_take (i := 35) (oi := ⟨_, _, _, _, _, _⟩) (v := undef) rfl (by kernel_rfl) (by kernel_rfl) (by kernel_rfl) (fun _ _ _ h => h) (Or.inr ⟨by rfl, rfl⟩) hHeld ?_
                try simp only [Act.put, List.setIfInBounds_toArray, List.set_cons_zero, List.set_cons_succ]
                refine wpAnyH_take (i := 36) (oi := ⟨_, _, _, _, _, _⟩) (v := ?_) rfl (by kernel_rfl) (by kernel_rfl) (by kernel_rfl) (fun _ _ _ h => h) (Or.inl ⟨by rfl, ?_⟩) hHeld ?_
                rotate_left
                · (intro w hSw; (try dsimp only at hSw); go_simp; try with_reducible rfl)
                try simp only [Act.put, List.setIfInBounds_toArray, List.set_cons_zero, List.set_cons_succ]
                refine wpAnyH_done (by kernel_rfl) ?_ _
                have HB3 := Lib.hid (below2 hB.out hbr)
                clear hbr
                go_wp2_with fail
                go_roundw
                case rel => exact ⟨k + 1, by go_num, by omega, hn, HB3, .inr ⟨j, rfl, by omega, HG⟩⟩
                case measure => simp [intOf]; omega
          · obtain rfl : k = l.length := by omega
            have hd1 : decide ((l.length : Int) < (l.length : Int)) = false := by simp
            have HB3 := Lib.hid (below2 HB2.out hB.out)
            have HE3 := Lib.hid (HE2.out.below hB.out)
            rcases hor with ⟨rfl, hf⟩ | ⟨j, rfl, hj, hf⟩
            · have HO2 := Lib.hid (show asX l p n = none by rw [HO.out, noneTo_all hf.out]; rfl)
              obtain ⟨⟨e0, e1, e2, e3, e4⟩, ⟨f0, f1, f2, f3, f4⟩, hlE⟩ := HE3.out.five2
              clear hf
              go_wp2_with fail
              have hkk := keeps_sets5 w.heap.size wr (.string ⟨#[]⟩) (.int .i64 0) (.int .i64 0) (.int .i64 0) (.slice none 0 0)
              exact ret_ent3 rfl rfl w.heap.size _ _ _ _ _ _ _ rfl rfl rfl (HE3.out.sets5 _ _ _ _ _) ⟨.slice none 0 0, by rw [HO2.out]; rfl, by rw [HO2.out]; exact World.ownsRow_nil _ _ _ _, hkk.on HB3.out (Nat.le_refl _) HB3.out.size⟩
            · have HO2 := Lib.hid (show asX l p n = told (some l[j]) by rw [HO.out, bestTo_all HH.out.2.1 hf.out hj])
              have hj0 : decide ((j : Int) < 0) = false := by rw [decide_eq_false_iff_not]; omega
              have hqp := hf.out.choose_spec.1
              have hl2 := (HH.out.2.2.1 _ (List.getElem_mem hj)).2
              obtain ⟨bb, off, rfl, c0, c1, c2⟩ := (HH.out.1.below HB3.out).at hj
              obtain ⟨⟨⟨q, m⟩, s⟩, hx⟩ : ∃ x, l[j] = x := ⟨_, rfl⟩
              rw [hx] at c0 c1 c2 hqp hl2 HO2
              dsimp only at c0 c1 c2 hqp hl2
              subst hqp
              have KR := Lib.hid (fun W => rRead_calls s hl2 W)
              have htd : told (some ((q, m), s)) = if redG s then none else some (q, m, redM s) := rfl
              rw [htd] at HO2
              obtain ⟨⟨z, d, cs⟩, hM⟩ : ∃ x, redM s = x := ⟨_, rfl⟩
              rw [hM] at KR HO2
              dsimp only at KR
              generalize redE s = y at *
              have HC := Lib.hid (fun W (hW : Below wr.heap.size wr W) => look_below hW c1)
              clear hf hl2 hx htd hM c0 c1
              cases hg : redG s with
              | true =>
                rw [hg] at KR HO2
                rw [if_pos rfl] at HO2
                clear hg
                go_wp2_with fail
                refine (KR.out _).mono ?_
                rintro e w3 ⟨u, rfl, hI, hB4⟩
                obtain ⟨am, cm, rfl⟩ := (ints_own hI).form
                have hbr := below2 hB4 (below_alloc w3 (.cells #[.int .i64 z, .int .i64 d, .slice am cs.length cm] 39))
                have HB4 := Lib.hid (below2 HB3.out hbr)
                have HE4 := Lib.hid (HE3.out.below hbr)
                obtain ⟨⟨e0, e1, e2, e3, e4⟩, ⟨f0, f1, f2, f3, f4⟩, hlE⟩ := HE4.out.five2
                clear hI hB4 hbr c2
                go_wp2_with fail
                have hkk := keeps_sets5 w.heap.size (w3.alloc (.cells #[.int .i64 z, .int .i64 d, .slice am cs.length cm] 39)) (.string ⟨#[]⟩) (.int .i64 0) (.int .i64 0) (.int .i64 0) (.slice none 0 0)
                exact ret_ent3 rfl rfl w.heap.size _ _ _ _ _ _ _ rfl rfl rfl (HE4.out.sets5 _ _ _ _ _) ⟨.slice none 0 0, by rw [HO2.out]; rfl, by rw [HO2.out]; exact World.ownsRow_nil _ _ _ _, hkk.on HB4.out (Nat.le_refl _) HB4.out.size⟩
              | false =>
                rw [hg] at KR HO2
                rw [if_neg (by simp)] at HO2
                clear hg
                go_wp2_with fail
                refine (KR.out _).mono ?_
                rintro e w3 ⟨u, rfl, hI, hB4⟩
                obtain ⟨am, cm, rfl⟩ := (ints_own hI).form
                obtain ⟨nM, hnM⟩ : ∃ k, cs.length = k := ⟨_, rfl⟩
                rw [hnM]
                have hba := below_alloc w3 (.cells #[.int .i64 z, .int .i64 d, .slice am nM cm] 39)
                have hbr := below2 hB4 hba
                have HB4 := Lib.hid (below2 HB3.out hbr)
                have HE4 := Lib.hid (HE3.out.below hbr)
                have HI := Lib.hid (own_stays hI hba)
                have HN := Lib.hid hnM
                have HX := Lib.hid (Cx.new w3 39 [.int .i64 z, .int .i64 d, .slice am nM cm])
                obtain ⟨⟨e0, e1, e2, e3, e4⟩, ⟨f0, f1, f2, f3, f4⟩, hlE⟩ := HE4.out.five2
                obtain ⟨x0, x1, x2, _⟩ := HX.out.three
                have c1 := HC.out _ hbr
                have hsz : w.heap.size < wr.heap.size := HE3.out.lt
                clear hI hB4 hbr hba hnM c2
                go_wp2_with fail
                go_region
                all_goals
                  go_wp2_with fail
                  have hkk := keeps_sets5 w.heap.size (w3.alloc (.cells #[.int .i64 z, .int .i64 d, .slice am nM cm] 39)) (.string ⟨q.toArray⟩) (.int .i64 m) (.int .i64 z) (.int .i64 d) (.slice am nM cm)
                  refine ret_ent3 rfl rfl w.heap.size _ _ _ _ _ _ _ rfl rfl rfl ((HE4.out.sets5 _ _ _ _ _).below (drew_below _)) ⟨.slice am nM cm, by rw [HO2.out]; rfl, ?_, below2 (hkk.on HB4.out (Nat.le_refl _) HB4.out.size) (drew_below _)⟩
                  rw [HO2.out]
                  dsimp only [enD, Option.getD]
                  have h1 := HI.out
                  rw [← HN.out] at h1 ⊢
                  refine own_stays ?_ (drew_below _)
                  exact own_weak (own_above (own_above (own_above (own_above (own_above h1 hsz 0 _) hsz 1 _) hsz 2 _) hsz 3 _) hsz 4 _) (Nat.le_of_lt hsz)

end Go.Proofs.YtbadbfmeoiclfaaGreatDoor

/-
  The document's own Paths: those that have a version, each once.
-/
namespace Go.Proofs.YtbadbfmeoiclfaaGreatDoor
set_option maxRecDepth 100000
open Go.RowKit

theorem paths_snoc (x : Pr) : ∀ V : List Pr, pathsL (V ++ [x]) = if (V.getLast?.map fun y => y.1.1) = some x.1.1 then pathsL V else pathsL V ++ [x.1.1]
  | [] => by simp [pathsL]
  | [a] => by
    show pathsL (a :: x :: []) = _
    rw [pathsL]
    by_cases h : a.1.1 = x.1.1
    · simp [pathsL, h]
    · simp [pathsL, h]
  | a :: b :: r => by
    have ih := paths_snoc x (b :: r)
    show pathsL (a :: b :: (r ++ [x])) = _
    rw [pathsL, show b :: (r ++ [x]) = (b :: r) ++ [x] from rfl, ih, List.getLast?_cons_cons]
    rw [show pathsL (a :: b :: r) = if a.1.1 = b.1.1 then pathsL (b :: r) else a.1.1 :: pathsL (b :: r) from rfl]
    by_cases h1 : a.1.1 = b.1.1 <;> by_cases h2 : ((b :: r).getLast?.map fun y => y.1.1) = some x.1.1
    · rw [if_pos h1, if_pos h1, if_pos h2]
    · rw [if_pos h1, if_pos h1, if_neg h2]
    · rw [if_neg h1, if_neg h1, if_pos h2, if_pos h2]
    · rw [if_neg h1, if_neg h1, if_neg h2, if_neg h2, List.cons_append]
theorem paths_first {l : List Pr} {k : Nat} (hk : k < l.length) (h : k = 0) : pathsL (l.take (k + 1)) = pathsL (l.take k) ++ [l[k].1.1] := by
  subst h
  rw [List.take_succ_eq_append_getElem hk, paths_snoc]
  simp
theorem paths_next {l : List Pr} {j k : Nat} (hj : j < l.length) (hk : k < l.length) (h : k = j + 1) : pathsL (l.take (k + 1)) = if l[j].1.1 = l[k].1.1 then pathsL (l.take k) else pathsL (l.take k) ++ [l[k].1.1] := by
  subst h
  rw [List.take_succ_eq_append_getElem hk, paths_snoc]
  have e : (l.take (j + 1)).getLast? = some l[j] := by rw [List.take_succ_eq_append_getElem hj]; exact List.getLast?_concat
  rw [e]
  simp
theorem paths_short : ∀ V : List Pr, (pathsL V).length ≤ V.length
  | [] => by simp [pathsL]
  | [x] => by simp [pathsL]
  | x :: y :: r => by
    have ih := paths_short (y :: r)
    rw [pathsL]
    split
    · simp at ih ⊢
      omega
    · simp at ih ⊢
      omega

set_option maxHeartbeats 8000000 in
theorem refPaths_calls (v : Value) (l : List Pr) (w : World) (h : Prs w v l) (hn : l.length ≤ 1000) :
    Calls Tryz.prog 52 #[v] w fun e w' => ∃ u, e = .returned u ∧ OwnL w' w.heap.size u (pathsL l) ∧ Below w.heap.size w w' := by
  obtain ⟨av, cv, rfl⟩ := h.form
  have HH := Lib.hid (And.intro h hn)
  clear h hn
  go_enter Tryz.func52, Tryz.ntmps52
  go_wp2_with fail
  go_loopw [3, 4] (fun u i wr => ∃ k : Nat, i = .int .i64 k ∧ k ≤ l.length ∧ l.length ≤ 1000 ∧ OwnL wr w.heap.size u (pathsL (l.take k)) ∧ Below w.heap.size w wr) (fun _ i _ => l.length - (intOf i).toNat)
  case atStart => exact ⟨0, rfl, Nat.zero_le _, HH.out.2, by simpa [pathsL] using ownL_nil _ _, Below.refl _ _⟩
  case round =>
    obtain ⟨k, rfl, hk, hn, hown, hB⟩ := hrel
    have hlp := paths_short (l.take k)
    rw [List.length_take] at hlp
    have hl6 : (pathsL (l.take k)).length ≤ 1000000 := by omega
    clear hlp
    have hsz := hB.size
    by_cases hlt : k < l.length
    · have hd : decide ((k : Int) < (l.length : Int)) = true := by rw [decide_eq_true_eq]; omega
      have HF := Lib.hid (paths_first hlt)
      have HX := Lib.hid (fun (j : Nat) hj => paths_next (j := j) hj hlt)
      have HP := HH.out.1.below hB
      obtain ⟨b, off, rfl, c0, _, _⟩ := HP.at hlt
      have HPH := Lib.hid HP
      obtain ⟨q, hx⟩ : ∃ x, l[k].1.1 = x := ⟨_, rfl⟩
      rw [hx] at c0
      have hbr : Below wr.heap.size wr wr.drew := drew_below _
      by_cases hk0 : k = 0
      · have hd0 : ((k : Int) == 0) = true := by rw [beq_iff_eq]; omega
        have hd0' : (k == 0) = true := by rw [beq_iff_eq]; omega
        have HG := Lib.hid (show pathsL (l.take (k + 1)) = pathsL (l.take k) ++ [q] by rw [HF.out hk0, hx])
        have HC := Lib.hid (fun W (hW : Below wr.heap.size wr W) => look_below hW c0)
        obtain ⟨ao, nn, cap, rfl⟩ := own_form hown
        have HO := Lib.hid (And.intro hown hB)
        clear hk0 hx hown hB HP
        go_wp2_with fail
        refine wp_region_held_drew (S := (fun W => W.cell? ⟨b, off + k * 3, none⟩ = some (.string ⟨q.toArray⟩))) (by kernel_rfl) (HC.out _ hbr) (fun hHeld => ?_)
        refine wpAnyH_take (i := 0) (oi := ⟨_, _, _, _, _, _⟩) (v := ?_) rfl (by kernel_rfl) (by kernel_rfl) (by kernel_rfl) (fun _ _ _ h => h) (Or.inl ⟨by rfl, ?_⟩) hHeld ?_
        rotate_left
        · (intro w hSw; (try dsimp only at hSw); go_simp; try with_reducible rfl)
        try simp only [Act.put, List.setIfInBounds_toArray, List.set_cons_zero, List.set_cons_succ]
        refine wpAnyH_take (i := 1) (oi := ⟨_, _, _, _, _, _⟩) (v := ?_) rfl (by kernel_rfl) (by kernel_rfl) (by kernel_rfl) (fun _ _ _ h => h) (Or.inl ⟨by rfl, ?_⟩) hHeld ?_
        rotate_left
        · (intro w hSw; (try dsimp only at hSw); go_simp; try with_reducible rfl)
        try simp only [Act.put, List.setIfInBounds_toArray, List.set_cons_zero, List.set_cons_succ]
        refine wpAnyH_take (i := 2) (oi := ⟨_, _, _, _, _, _⟩) (v := ?_) rfl (by kernel_rfl) (by kernel_rfl) (by kernel_rfl) (fun _ _ _ h => h) (Or.inl ⟨by rfl, ?_⟩) hHeld ?_
        rotate_left
        · (intro w hSw; (try dsimp only at hSw); go_simp; try with_reducible rfl)
        try simp only [Act.put, List.setIfInBounds_toArray, List.set_cons_zero, List.set_cons_succ]
        refine wpAnyH_take (i := 3) (oi := ⟨_, _, _, _, _, _⟩) (v := undef) rfl (by kernel_rfl) (by kernel_rfl) (by kernel_rfl) (fun _ _ _ h => h) (Or.inr ⟨by rfl, rfl⟩) hHeld ?_
        try simp only [Act.put, List.setIfInBounds_toArray, List.set_cons_zero, List.set_cons_succ]
        refine wpAnyH_take (i := 4) (oi := ⟨_, _, _, _, _, _⟩) (v := undef) rfl (by kernel_rfl) (by kernel_rfl) (by kernel_rfl) (fun _ _ _ h => h) (Or.inr ⟨by rfl, rfl⟩) hHeld ?_
        try simp only [Act.put, List.setIfInBounds_toArray, List.set_cons_zero, List.set_cons_succ]
        refine wpAnyH_take (i := 5) (oi := ⟨_, _, _, _, _, _⟩) (v := undef) rfl (by kernel_rfl) (by kernel_rfl) (by kernel_rfl) (fun _ _ _ h => h) (Or.inr ⟨by rfl, rfl⟩) hHeld ?_
        try simp only [Act.put, List.setIfInBounds_toArray, List.set_cons_zero, List.set_cons_succ]
        refine wpAnyH_take (i := 6) (oi := ⟨_, _, _, _, _, _⟩) (v := undef) rfl (by kernel_rfl) (by kernel_rfl) (by kernel_rfl) (fun _ _ _ h => h) (Or.inr ⟨by rfl, rfl⟩) hHeld ?_
        try simp only [Act.put, List.setIfInBounds_toArray, List.set_cons_zero, List.set_cons_succ]
        refine wpAnyH_take (i := 7) (oi := ⟨_, _, _, _, _, _⟩) (v := undef) rfl (by kernel_rfl) (by kernel_rfl) (by kernel_rfl) (fun _ _ _ h => h) (Or.inr ⟨by rfl, rfl⟩) hHeld ?_
        try simp only [Act.put, List.setIfInBounds_toArray, List.set_cons_zero, List.set_cons_succ]
        refine wpAnyH_take (i := 8) (oi := ⟨_, _, _, _, _, _⟩) (v := undef) rfl (by kernel_rfl) (by kernel_rfl) (by kernel_rfl) (fun _ _ _ h => h) (Or.inr ⟨by rfl, rfl⟩) hHeld ?_
        try simp only [Act.put, List.setIfInBounds_toArray, List.set_cons_zero, List.set_cons_succ]
        refine wpAnyH_take (i := 9) (oi := ⟨_, _, _, _, _, _⟩) (v := undef) rfl (by kernel_rfl) (by kernel_rfl) (by kernel_rfl) (fun _ _ _ h => h) (Or.inr ⟨by rfl, rfl⟩) hHeld ?_
        try simp only [Act.put, List.setIfInBounds_toArray, List.set_cons_zero, List.set_cons_succ]
        refine wpAnyH_take (i := 10) (oi := ⟨_, _, _, _, _, _⟩) (v := undef) rfl (by kernel_rfl) (by kernel_rfl) (by kernel_rfl) (fun _ _ _ h => h) (Or.inr ⟨by rfl, rfl⟩) hHeld ?_
        try simp only [Act.put, List.setIfInBounds_toArray, List.set_cons_zero, List.set_cons_succ]
        refine wpAnyH_take (i := 11) (oi := ⟨_, _, _, _, _, _⟩) (v := undef) rfl (by kernel_rfl) (by kernel_rfl) (by kernel_rfl) (fun _ _ _ h => h) (Or.inr ⟨by rfl, rfl⟩) hHeld ?_
        try simp only [Act.put, List.setIfInBounds_toArray, List.set_cons_zero, List.set_cons_succ]
        refine wpAnyH_take (i := 12) (oi := ⟨_, _, _, _, _, _⟩) (v := undef) rfl (by kernel_rfl) (by kernel_rfl) (by kernel_rfl) (fun _ _ _ h => h) (Or.inr ⟨by rfl, rfl⟩) hHeld ?_
        try simp only [Act.put, List.setIfInBounds_toArray, List.set_cons_zero, List.set_cons_succ]
        refine wpAnyH_take (i := 13) (oi := ⟨_, _, _, _, _, _⟩) (v := undef) rfl (by kernel_rfl) (by kernel_rfl) (by kernel_rfl) (fun _ _ _ h => h) (Or.inr ⟨by rfl, rfl⟩) hHeld ?_
        try simp only [Act.put, List.setIfInBounds_toArray, List.set_cons_zero, List.set_cons_succ]
        refine wpAnyH_take (i := 14) (oi := ⟨_, _, _, _, _, _⟩) (v := undef) rfl (by kernel_rfl) (by kernel_rfl) (by kernel_rfl) (fun _ _ _ h => h) (Or.inr ⟨by rfl, rfl⟩) hHeld ?_
        try simp only [Act.put, List.setIfInBounds_toArray, List.set_cons_zero, List.set_cons_succ]
        refine wpAnyH_take (i := 15) (oi := ⟨_, _, _, _, _, _⟩) (v := undef) rfl (by kernel_rfl) (by kernel_rfl) (by kernel_rfl) (fun _ _ _ h => h) (Or.inr ⟨by rfl, rfl⟩) hHeld ?_
        try simp only [Act.put, List.setIfInBounds_toArray, List.set_cons_zero, List.set_cons_succ]
        refine wpAnyH_take (i := 16) (oi := ⟨_, _, _, _, _, _⟩) (v := undef) rfl (by kernel_rfl) (by kernel_rfl) (by kernel_rfl) (fun _ _ _ h => h) (Or.inr ⟨by rfl, rfl⟩) hHeld ?_
        try simp only [Act.put, List.setIfInBounds_toArray, List.set_cons_zero, List.set_cons_succ]
        refine wpAnyH_take (i := 17) (oi := ⟨_, _, _, _, _, _⟩) (v := ?_) rfl (by kernel_rfl) (by kernel_rfl) (by kernel_rfl) (fun _ _ _ h => h) (Or.inl ⟨by rfl, ?_⟩) hHeld ?_
        rotate_left
        · (intro w hSw; (try dsimp only at hSw); go_simp; try with_reducible rfl)
        try simp only [Act.put, List.setIfInBounds_toArray, List.set_cons_zero, List.set_cons_succ]
        refine wpAnyH_done (by kernel_rfl) ?_ _
        have hown := own_stays HO.out.1 hbr
        have hB := below2 HO.out.2 hbr
        have hsz := hB.size
        have c1 := HC.out _ hbr
        clear c0 hbr
        go_wp2_with (at_builtin; refine app_text rfl _ _ rfl w.heap.size _ (pathsL (l.take k)) rfl hown q rfl hl6 hsz ?_; intro v3 w3 ho3 hB3)
        go_roundw
        case rel => exact ⟨k + 1, by go_num, by omega, hn, by rw [HG.out]; exact ho3, hB3 _ hB⟩
        case measure => simp [intOf]; omega
      · obtain ⟨j, hj⟩ : ∃ j, k = j + 1 := ⟨k - 1, by omega⟩
        have hd0 : ((k : Int) == 0) = false := by rw [beq_eq_false_iff_ne]; omega
        have hd0' : (k == 0) = false := by rw [beq_eq_false_iff_ne]; omega
        have hw1 : IntKind.i64.wrap ((k : Int) - 1) = (j : Int) := by rw [IntWalk.i64_in _ (by omega)]; omega
        have hw2 : IntKind.i64.wrap (j : Int) = (j : Int) := IntWalk.i64_in _ (by omega)
        have hjl : j < l.length := by omega
        have hj4 : (0 : Int) ≤ (j : Int) := by omega
        have hj5 : (j : Int) < (l.length : Int) := by omega
        obtain ⟨b2, off2, he2, e0, _, _⟩ := HP.at hjl
        cases he2
        have hgo := HX.out j hjl hj
        obtain ⟨q0, hq0⟩ : ∃ x, l[j].1.1 = x := ⟨_, rfl⟩
        rw [hx, hq0] at hgo
        rw [hq0] at e0
        have HC : Hid (∀ W, Below wr.heap.size wr W → W.cell? ⟨b, off + k * 3, none⟩ = some (.string ⟨q.toArray⟩) ∧ W.cell? ⟨b, off + j * 3, none⟩ = some (.string ⟨q0.toArray⟩)) := Lib.hid (fun W hW => ⟨look_below hW c0, look_below hW e0⟩)
        obtain ⟨ao, nn, cap, rfl⟩ := own_form hown
        have HO := Lib.hid (And.intro hown hB)
        by_cases hq : q0 = q
        · have e1 : (q0 == q) = true := by simpa using hq
          have HG := Lib.hid (show pathsL (l.take (k + 1)) = pathsL (l.take k) by rw [hgo, if_pos hq])
          clear hj hk0 hx hown hB HP hgo hq0 hq c0 e0
          go_wp2_with fail
          go_region_held3 (fun W => W.cell? ⟨b, off + k * 3, none⟩ = some (.string ⟨q.toArray⟩) ∧ W.cell? ⟨b, off + j * 3, none⟩ = some (.string ⟨q0.toArray⟩)) (exact HC.out _ hbr) (first | fail)
          all_goals
            have hown := own_stays HO.out.1 hbr
            have hB := below2 HO.out.2 hbr
            clear hbr
            go_wp2_with fail
            go_roundw
            case rel => exact ⟨k + 1, by go_num, by omega, hn, by rw [HG.out]; exact hown, hB⟩
            case measure => simp [intOf]; omega
        · have e1 : (q0 == q) = false := by simpa using hq
          have HG := Lib.hid (show pathsL (l.take (k + 1)) = pathsL (l.take k) ++ [q] by rw [hgo, if_neg hq])
          clear hj hk0 hx hown hB HP hgo hq0 hq c0 e0
          go_wp2_with fail
          go_region_held3 (fun W => W.cell? ⟨b, off + k * 3, none⟩ = some (.string ⟨q.toArray⟩) ∧ W.cell? ⟨b, off + j * 3, none⟩ = some (.string ⟨q0.toArray⟩)) (exact HC.out _ hbr) (first | fail)
          all_goals
            have hown := own_stays HO.out.1 hbr
            have hB := below2 HO.out.2 hbr
            have hsz := hB.size
            obtain ⟨c1, _⟩ := HC.out _ hbr
            clear hbr
            generalize wr.drew = B at *
            go_wp2_with (at_builtin; refine app_text rfl _ _ rfl w.heap.size _ (pathsL (l.take k)) rfl hown q rfl hl6 hsz ?_; intro v3 w3 ho3 hB3)
            go_roundw
            case rel => exact ⟨k + 1, by go_num, by omega, hn, by rw [HG.out]; exact ho3, hB3 _ hB⟩
            case measure => simp [intOf]; omega
    · obtain rfl : k = l.length := by omega
      have hd : decide ((l.length : Int) < (l.length : Int)) = false := by simp
      obtain ⟨ao, nn, cap, rfl⟩ := own_form hown
      rw [List.take_length] at hown
      go_wp2_with fail
      go_ret
      exact ⟨_, rfl, hown, hB⟩

end Go.Proofs.YtbadbfmeoiclfaaGreatDoor

/-
  The document's own History and List.
-/
namespace Go.Proofs.YtbadbfmeoiclfaaGreatDoor
set_option maxRecDepth 100000
open Go.RowKit

theorem hist_snoc {l : List Pr} {k : Nat} (hk : k < l.length) (p : List UInt8) : histL (l.take (k + 1)) p = if l[k].1.1 = p then histL (l.take k) p ++ [l[k]] else histL (l.take k) p := by
  unfold histL
  rw [List.take_succ_eq_append_getElem hk, List.filter_append]
  by_cases h : l[k].1.1 = p
  · rw [if_pos h]; simp [h]
  · rw [if_neg h]; simp [h]
theorem hist_short (l : List Pr) (k : Nat) (p : List UInt8) : (histL (l.take k) p).length ≤ k := by
  unfold histL
  refine Nat.le_trans (List.length_filter_le _ _) ?_
  rw [List.length_take]
  omega

set_option maxHeartbeats 8000000 in
theorem refHist_calls (v : Value) (l : List Pr) (p : List UInt8) (w : World) (h : Prs w v l) (hn : l.length ≤ 1000) (hs : ∀ x ∈ l, x.1.1.length ≤ 1000000 ∧ x.2.length ≤ 1000) (hl : p.length ≤ 1000000) :
    Calls Tryz.prog 19 #[v, .string ⟨p.toArray⟩] w fun e w' => ∃ u, e = .returned (.tuple #[u, .int .i64 (refX l p 0)]) ∧ OwnP w' w.heap.size u (histX l p) ∧ Below w.heap.size w w' := by
  have KS := Lib.hid (refSt_calls v l w h hn hs)
  have KP := Lib.hid (fun W => refPathIs_calls p hl W)
  obtain ⟨av, cv, rfl⟩ := h.form
  have hrX : refX l p 0 = if isSt l then (if isP p then 0 else 20) else 1 := rfl
  have hhX : histX l p = if refX l p 0 = 0 then histL l p else [] := rfl
  rw [hhX]
  obtain ⟨E, hE⟩ : ∃ E, refX l p 0 = E := ⟨_, rfl⟩
  rw [hE] at hrX ⊢
  cases hb : isSt l with
  | false =>
    rw [hb] at KS hrX
    obtain rfl : E = 1 := hrX
    rw [if_neg (by decide)]
    clear h hn hs hl hE hb hhX
    go_enter Tryz.func19, Tryz.ntmps19
    go_wp2_with fail
    refine KS.out.mono ?_
    rintro e w1 ⟨rfl, hB1⟩
    go_wp2_with fail
    go_ret2
    exact ⟨_, rfl, OwnP.nil _ _, hB1⟩
  | true =>
    rw [hb] at KS hrX
    rw [if_pos rfl] at hrX
    cases hp : isP p with
    | false =>
      rw [hp] at KP hrX
      obtain rfl : E = 20 := hrX
      rw [if_neg (by decide)]
      clear h hn hs hl hE hb hp hhX
      go_enter Tryz.func19, Tryz.ntmps19
      go_wp2_with fail
      refine KS.out.mono ?_
      rintro e w1 ⟨rfl, hB1⟩
      go_wp2_with fail
      refine (KP.out _).mono ?_
      rintro e w2 ⟨rfl, hB2⟩
      go_wp2_with fail
      go_ret2
      exact ⟨_, rfl, OwnP.nil _ _, below2 hB1 hB2⟩
    | true =>
      rw [hp] at KP hrX
      rw [if_pos rfl] at hrX
      subst hrX
      rw [if_pos rfl]
      have HH := Lib.hid (And.intro h hn)
      clear h hn hs hl hE hb hp hhX
      go_enter Tryz.func19, Tryz.ntmps19
      go_wp2_with fail
      refine KS.out.mono ?_
      rintro e w1 ⟨rfl, hB1⟩
      go_wp2_with fail
      refine (KP.out _).mono ?_
      rintro e w2 ⟨rfl, hB2⟩
      have HB2 := Lib.hid (below2 hB1 hB2)
      clear hB1 hB2
      go_wp2_with fail
      go_loopw [6, 7] (fun u i wr => ∃ k : Nat, i = .int .i64 k ∧ k ≤ l.length ∧ l.length ≤ 1000 ∧ OwnP wr w.heap.size u (histL (l.take k) p) ∧ Below w.heap.size w wr) (fun _ i _ => l.length - (intOf i).toNat)
      case atStart => exact ⟨0, rfl, Nat.zero_le _, HH.out.2, by simpa [histL] using OwnP.nil _ _, HB2.out⟩
      case round =>
        obtain ⟨k, rfl, hk, hn, hown, hB⟩ := hrel
        have hls := hist_short l k p
        by_cases hlt : k < l.length
        · have hd : decide ((k : Int) < (l.length : Int)) = true := by rw [decide_eq_true_eq]; omega
          have hsn := hist_snoc hlt p
          obtain ⟨b, off, rfl, c0, c1, c2⟩ := (HH.out.1.below hB).at hlt
          obtain ⟨⟨⟨q, m⟩, s⟩, hx⟩ : ∃ x, l[k] = x := ⟨_, rfl⟩
          rw [hx] at c0 c1 c2 hsn
          dsimp only at c0 c1 c2 hsn
          obtain ⟨ao, cap, rfl⟩ := hown.form
          obtain ⟨L, hL⟩ : ∃ L, histL (l.take k) p = L := ⟨_, rfl⟩
          rw [hL] at hown hsn hls ⊢
          obtain ⟨nL, hnL⟩ : ∃ n, L.length = n := ⟨_, rfl⟩
          have HNL := Lib.hid hnL
          rw [hnL] at hown hls ⊢
          clear hL hnL hx
          by_cases hq : q = p
          · have e1 : (q == p) = true := by simpa using hq
            have HG := Lib.hid (hsn.trans (if_pos hq))
            have HO := Lib.hid (And.intro hown hB)
            clear hq hsn hown hB
            go_wp2_with (at_builtin; refine wpList_append_prs rfl (.tmp 28) (.tmp 33) rfl w.heap.size _ L rfl (HO.out.1.stays (below_alloc _ _)) (some ⟨wr.heap.size, 0, none⟩) 1 1 ([((q, m), s)]) rfl (prs_lit wr [((q, m), s)] _) (L ++ [((q, m), s)]) rfl (nL + 1) (by rw [List.length_append, HNL.out]; rfl) (by omega) w (below2 HO.out.2 (below_alloc _ _)) (Nat.le_refl _) ?_; intro a3 c3 w3 ho3 hB3)
            go_roundw
            case rel => exact ⟨k + 1, by go_num, by omega, hn, by rw [HG.out]; exact ho3, hB3⟩
            case measure => simp [intOf]; omega
          · have e1 : (q == p) = false := by simpa using hq
            have HG := Lib.hid (hsn.trans (if_neg hq))
            clear hq hsn
            go_wp2_with fail
            go_roundw
            case rel => exact ⟨k + 1, by go_num, by omega, hn, by rw [HG.out]; exact hown, hB⟩
            case measure => simp [intOf]; omega
        · obtain rfl : k = l.length := by omega
          have hd : decide ((l.length : Int) < (l.length : Int)) = false := by simp
          rw [List.take_length] at hown
          obtain ⟨ao, cap, rfl⟩ := hown.form
          obtain ⟨nL, hnL⟩ : ∃ n, (histL l p).length = n := ⟨_, rfl⟩
          rw [hnL] at hown ⊢
          clear hnL hls
          go_wp2_with fail
          go_ret2
          exact ⟨_, rfl, hown, hB⟩

/-! ### List -/

def lsL (l : List Pr) (d : List UInt8) (n : Int) (ps : List (List UInt8)) : List En := (ps.filter (underOf d)).filterMap fun p => told (asOf l p n)
theorem ls_snoc {l : List Pr} {d : List UInt8} {n : Int} {ps : List (List UInt8)} {k : Nat} (hk : k < ps.length) :
    lsL l d n (ps.take (k + 1)) = lsL l d n (ps.take k) ++ (if underOf d ps[k] then (told (asOf l ps[k] n)).toList else []) := by
  unfold lsL
  rw [List.take_succ_eq_append_getElem hk, List.filter_append, List.filterMap_append]
  congr 1
  cases hu : underOf d ps[k] with
  | false => simp [hu]
  | true =>
    rw [List.filter_cons, if_pos hu, List.filter_nil, List.filterMap_cons, List.filterMap_nil]
    cases told (asOf l ps[k] n) <;> rfl

set_option maxHeartbeats 16000000 in
theorem refList_calls (v : Value) (l : List Pr) (d : List UInt8) (n : Int) (w : World) (h : Prs w v l) (hr : Rises l) (hn : l.length ≤ 1000) (hs : ∀ x ∈ l, x.1.1.length ≤ 1000000 ∧ x.2.length ≤ 1000) (hl : d.length ≤ 1000000) :
    Calls Tryz.prog 17 #[v, .string ⟨d.toArray⟩, .int .i64 n] w fun e w' => ∃ u S, e = .returned (.tuple #[u, .int .i64 (refX l d n)]) ∧ OwnE w' w.heap.size u S ∧ ens S = listX l d n ∧ Below w.heap.size w w' := by
  have KS := Lib.hid (refSt_calls v l w h hn hs)
  have KP := Lib.hid (fun W => refPathIs_calls d hl W)
  have hrX : refX l d n = if isSt l then (if isP d then (if n < 0 then 1 else 0) else 20) else 1 := rfl
  have hlX : listX l d n = if refX l d n = 0 then listL l d n else [] := rfl
  have hx0 := fun (q : List UInt8) (hq : refX l q n = 0) => asX_told hq
  have hz := fun (q : List UInt8) => refX_zero (U := l) (s := q) (n := n)
  rw [hlX]
  obtain ⟨E, hE⟩ : ∃ E, refX l d n = E := ⟨_, rfl⟩
  rw [hE] at hrX ⊢
  cases hb : isSt l with
  | false =>
    obtain ⟨av, cv, rfl⟩ := h.form
    rw [hb] at KS hrX
    obtain rfl : E = 1 := hrX
    rw [if_neg (by decide)]
    clear h hn hs hl hE hb hlX hr hx0 hz
    go_enter Tryz.func17, Tryz.ntmps17
    go_wp2_with fail
    refine KS.out.mono ?_
    rintro e w1 ⟨rfl, hB1⟩
    go_wp2_with fail
    go_ret2
    exact ⟨_, [], rfl, OwnE.nil _ _, rfl, hB1⟩
  | true =>
    rw [hb] at KS hrX
    rw [if_pos rfl] at hrX
    cases hp : isP d with
    | false =>
      obtain ⟨av, cv, rfl⟩ := h.form
      rw [hp] at KP hrX
      obtain rfl : E = 20 := hrX
      rw [if_neg (by decide)]
      clear h hn hs hl hE hb hp hlX hr hx0 hz
      go_enter Tryz.func17, Tryz.ntmps17
      go_wp2_with fail
      refine KS.out.mono ?_
      rintro e w1 ⟨rfl, hB1⟩
      go_wp2_with fail
      refine (KP.out _).mono ?_
      rintro e w2 ⟨rfl, hB2⟩
      go_wp2_with fail
      go_ret2
      exact ⟨_, [], rfl, OwnE.nil _ _, rfl, below2 hB1 hB2⟩
    | true =>
      rw [hp] at KP hrX
      rw [if_pos rfl] at hrX
      by_cases hneg : n < 0
      · obtain ⟨av, cv, rfl⟩ := h.form
        rw [if_pos hneg] at hrX
        subst hrX
        rw [if_neg (by decide)]
        have hd : decide (n < 0) = true := decide_eq_true hneg
        clear h hn hs hl hE hb hp hlX hr hx0 hz hneg
        go_enter Tryz.func17, Tryz.ntmps17
        go_wp2_with fail
        refine KS.out.mono ?_
        rintro e w1 ⟨rfl, hB1⟩
        go_wp2_with fail
        refine (KP.out _).mono ?_
        rintro e w2 ⟨rfl, hB2⟩
        go_wp2_with fail
        go_ret2
        exact ⟨_, [], rfl, OwnE.nil _ _, rfl, below2 hB1 hB2⟩
      · rw [if_neg hneg] at hrX
        subst hrX
        rw [if_pos rfl]
        have hd : decide (n < 0) = false := decide_eq_false hneg
        have hpt : ∀ p ∈ pathsL l, isP p = true ∧ p.length ≤ 1000000 ∧ asX l p n = told (asOf l p n) := fun p hpp => by
          obtain ⟨x, hx, rfl⟩ := (mem_paths _ _).1 hpp
          have h1 := (st_times hb x hx).2.2.1
          exact ⟨h1, (hs x hx).1, hx0 _ ((hz _).2 ⟨hb, h1, by omega⟩)⟩
        have KQ := Lib.hid (fun W (hB : Below w.heap.size w W) => refPaths_calls v l W (h.below hB) hn)
        have KA := Lib.hid (fun W (hB : Below w.heap.size w W) q (hq : q ∈ pathsL l) => refAs_calls v l q n W (h.below hB) hr hn hs (hpt q hq).2.1)
        have KU := Lib.hid (fun W q (hq : q ∈ pathsL l) => refUnder_calls d q hl (hpt q hq).2.1 W)
        have hlL : listL l d n = lsL l d n (pathsL l) := rfl
        have hps := paths_short l
        rw [hlL]
        obtain ⟨ps, hpse⟩ : ∃ x, pathsL l = x := ⟨_, rfl⟩
        rw [hpse] at hpt KQ KA KU hps ⊢
        have HP := Lib.hid (fun q hq => (hpt q hq).2.2)
        have hpn : ps.length ≤ 1000 := by omega
        obtain ⟨av, cv, rfl⟩ := h.form
        have HN := Lib.hid hpn
        clear h hn hs hl hE hb hp hlX hr hx0 hz hneg hpt hlL hps hpse hpn
        go_enter Tryz.func17, Tryz.ntmps17
        go_wp2_with fail
        refine KS.out.mono ?_
        rintro e w1 ⟨rfl, hB1⟩
        go_wp2_with fail
        refine (KP.out _).mono ?_
        rintro e w2 ⟨rfl, hB2⟩
        have HB2 := Lib.hid (below2 hB1 hB2)
        clear hB1 hB2
        go_wp2_with fail
        refine (KQ.out _ HB2.out).mono ?_
        rintro e w3 ⟨u, rfl, hu, hB3⟩
        obtain ⟨au, cu, rfl, _⟩ := ownL_txts hu
        have HU := Lib.hid (ownL_txts hu)
        have HB3 := Lib.hid (below2 HB2.out hB3)
        clear hu hB3
        go_wp2_with fail
        go_loopw [9, 10] (fun o i wr => ∃ (k : Nat) (S : List Ev), i = .int .i64 k ∧ k ≤ ps.length ∧ ps.length ≤ 1000 ∧ S.length ≤ k ∧ OwnE wr w3.heap.size o S ∧ Hid (ens S = lsL l d n (ps.take k)) ∧ Below w3.heap.size w3 wr) (fun _ i _ => ps.length - (intOf i).toNat)
        case atStart => exact ⟨0, [], rfl, Nat.zero_le _, HN.out, Nat.zero_le _, OwnE.nil _ _, Lib.hid rfl, Below.refl _ _⟩
        case round =>
          obtain ⟨k, S, rfl, hk, hpn, hSk, hown, hS, hB⟩ := hrel
          obtain ⟨ao, cap, rfl⟩ := hown.form
          by_cases hlt : k < ps.length
          · have hdk : decide ((k : Int) < (ps.length : Int)) = true := by rw [decide_eq_true_eq]; omega
            have hmem := List.getElem_mem hlt
            have hsn := ls_snoc (l := l) (d := d) (n := n) hlt
            have hap := HP.out _ hmem
            have KA1 := KA.out wr (below2 HB3.out hB) _ hmem
            have KU1 := fun W => KU.out W _ hmem
            obtain ⟨b, off, rfl, c0⟩ := (HU.out.below hB).strs.at hlt
            obtain ⟨q, hq⟩ : ∃ x, ps[k] = x := ⟨_, rfl⟩
            rw [hq] at c0 hsn hap KA1 KU1
            obtain ⟨nS, hnS⟩ : ∃ x, S.length = x := ⟨_, rfl⟩
            rw [hnS] at hSk hown ⊢
            rw [← hap] at hsn
            obtain ⟨o, ho⟩ : ∃ o, asX l q n = o := ⟨_, rfl⟩
            rw [ho] at KA1 hsn
            obtain ⟨E, hE⟩ : ∃ E, refX l q n = E := ⟨_, rfl⟩
            rw [hE] at KA1
            obtain ⟨ub, hub⟩ : ∃ b, underOf d q = b := ⟨_, rfl⟩
            rw [hub] at KU1 hsn
            have KA2 := Lib.hid KA1
            have KU2 := Lib.hid KU1
            have HO := Lib.hid (And.intro hown hB)
            have HC := Lib.hid (fun W (hW : Below wr.heap.size wr W) => look_below hW c0)
            clear hmem hap KA1 KU1 hq ho hE hub hown hB
            cases o with
            | none =>
              have HG := Lib.hid (show lsL l d n (ps.take (k + 1)) = lsL l d n (ps.take k) by rw [hsn]; cases ub <;> simp)
              clear hsn
              go_wp2_with fail
              refine KA2.out.mono ?_
              rintro e w4 ⟨v4, rfl, hI, hB4⟩
              obtain ⟨a4, c4, rfl⟩ := (ints_own hI).form
              obtain ⟨n4, hn4⟩ : ∃ k, (enD none).2.2.2.2.length = k := ⟨_, rfl⟩
              rw [hn4]
              dsimp only [EV, enD, Option.getD, Option.isSome]
              have hbr := below2 hB4 (below_alloc w4 (.cells #[.string ⟨#[]⟩, .int .i64 0, .int .i64 0, .int .i64 0, .slice a4 n4 c4] 41))
              have HO4 := Lib.hid (And.intro (HO.out.1.stays hbr) (HO.out.2.trans (hbr.mono HO.out.2.size)))
              clear hI hB4 hn4 hbr c0
              go_wp2_with fail
              go_roundw
              case rel => exact ⟨k + 1, S, by go_num, by omega, hpn, by omega, HO4.out.1, Lib.hid (by rw [HG.out]; exact hS.out), HO4.out.2⟩
              case measure => simp [intOf]; omega
            | some x =>
              obtain ⟨q', tm, z, dd, cs⟩ := x
              cases ub with
              | false =>
                have HG := Lib.hid (show lsL l d n (ps.take (k + 1)) = lsL l d n (ps.take k) by rw [hsn]; simp)
                clear hsn
                go_wp2_with fail
                refine KA2.out.mono ?_
                rintro e w4 ⟨v4, rfl, hI, hB4⟩
                obtain ⟨a4, c4, rfl⟩ := (ints_own hI).form
                obtain ⟨n4, hn4⟩ : ∃ k, (enD (some (q', tm, z, dd, cs))).2.2.2.2.length = k := ⟨_, rfl⟩
                rw [hn4]
                dsimp only [EV, enD, Option.getD, Option.isSome]
                have hbr := below2 hB4 (below_alloc w4 (.cells #[.string ⟨q'.toArray⟩, .int .i64 tm, .int .i64 z, .int .i64 dd, .slice a4 n4 c4] 41))
                have HO4 := Lib.hid (And.intro (HO.out.1.stays hbr) (HO.out.2.trans (hbr.mono HO.out.2.size)))
                have c1 := HC.out _ hbr
                clear hI hB4 hn4 hbr c0
                go_wp2_with fail
                refine (KU2.out _).mono ?_
                rintro e w5 ⟨rfl, hB5⟩
                have HO5 := Lib.hid (And.intro (HO4.out.1.stays hB5) (HO4.out.2.trans (hB5.mono HO4.out.2.size)))
                clear hB5 c1
                go_wp2_with fail
                go_roundw
                case rel => exact ⟨k + 1, S, by go_num, by omega, hpn, by omega, HO5.out.1, Lib.hid (by rw [HG.out]; exact hS.out), HO5.out.2⟩
                case measure => simp [intOf]; omega
              | true =>
                have HG := Lib.hid (show lsL l d n (ps.take (k + 1)) = lsL l d n (ps.take k) ++ [(q', tm, z, dd, cs)] by rw [hsn]; simp)
                clear hsn
                go_wp2_with fail
                refine KA2.out.mono ?_
                rintro e w4 ⟨v4, rfl, hI, hB4⟩
                obtain ⟨a4, c4, rfl⟩ := (ints_own hI).form
                obtain ⟨n4, hn4⟩ : ∃ k, (enD (some (q', tm, z, dd, cs))).2.2.2.2.length = k := ⟨_, rfl⟩
                rw [hn4] at hI ⊢
                dsimp only [EV, enD, Option.getD, Option.isSome] at hI ⊢
                have hba := below_alloc w4 (.cells #[.string ⟨q'.toArray⟩, .int .i64 tm, .int .i64 z, .int .i64 dd, .slice a4 n4 c4] 41)
                have hbr := below2 hB4 hba
                have hwr := HO.out.2.size
                have HO4 := Lib.hid (And.intro (HO.out.1.stays hbr) (And.intro (HO.out.2.trans (hbr.mono HO.out.2.size)) (own_weak (own_stays hI hba) hwr)))
                have HX := Lib.hid (Cx.new w4 41 [.string ⟨q'.toArray⟩, .int .i64 tm, .int .i64 z, .int .i64 dd, .slice a4 n4 c4])
                have c1 := HC.out _ hbr
                clear hI hB4 hn4 hbr c0 hba
                go_wp2_with fail
                refine (KU2.out _).mono ?_
                rintro e w5 ⟨rfl, hB5⟩
                have HO5 := Lib.hid (And.intro (HO4.out.1.stays hB5) (And.intro (HO4.out.2.1.trans (hB5.mono HO4.out.2.1.size)) (own_stays HO4.out.2.2 hB5)))
                obtain ⟨⟨y0, y1, y2, y3, y4⟩, _, _⟩ := (HX.out.below hB5).five2
                have hS100 : S.length ≤ 100000 := by omega
                have hw5 := HO5.out.2.1.size
                clear hB5 c1
                go_wp2_with (at_builtin; refine app_ent rfl _ _ rfl w3.heap.size _ S rfl HO5.out.1 q' tm z dd _ cs HO5.out.2.2 rfl hS100 hw5 ?_; intro v6 w6 ho6 hB6 _)
                go_roundw
                case rel => exact ⟨k + 1, S ++ [((q', tm, z, dd, cs), .slice a4 n4 c4)], by go_num, by omega, hpn, by rw [List.length_append, hnS]; simp; omega, ho6, Lib.hid (by rw [HG.out, ← hS.out]; simp [ens]), hB6 _ HO5.out.2.1⟩
                case measure => simp [intOf]; omega
          · obtain rfl : k = ps.length := by omega
            have hdk : decide ((ps.length : Int) < (ps.length : Int)) = false := by simp
            have hS2 := hS.out
            rw [List.take_length] at hS2
            have HS := Lib.hid hS2
            obtain ⟨nS, hnS⟩ : ∃ x, S.length = x := ⟨_, rfl⟩
            have HO := Lib.hid (And.intro hown hB)
            rw [hnS] at HO ⊢
            clear hS2 hnS hown hB hSk
            go_wp2_with fail
            go_ret2
            exact ⟨_, S, rfl, HO.out.1.weak HB3.out.size, HS.out, HB3.out.trans (HO.out.2.mono HB3.out.size)⟩

end Go.Proofs.YtbadbfmeoiclfaaGreatDoor
