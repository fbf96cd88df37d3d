/-
  The texts of one folder in one: SoSpec, SoVer, Ranged, SoTold, SoRange, SoCatch, SoMath, SoCur, SoSurv, SoStore, SoTook, SoList, SoMadeL, SoRefI, EntR, SoEnts, Lds, SoBig, SoTookK, SoLay, SoFile, SoAsOf, SoHistL, SoX, SoXA, SoPathL, SoSkip, SoLists, SoXS, SoSame, SoChunks, LdsOpen.
-/
import Derived.Test.YtaaabmnaindgaaaGreatDoorPks11
import Derived.Test.YtaaabmnaindgaaaGreatDoorPks08
import Derived.Test.YtaaabmnaindgaaaGreatDoorPks14
import Derived.Test.YtaaabmnaindgaaaGreatDoorPks12
import Derived.WalkLawsBesides
import Derived.Test.YtaaabmnaindgaaaGreatDoorPkbase
import Derived.RangeFuncNested
import Derived.RangeFuncBound
import Derived.RangeFuncCalls
import Derived.RangeFuncLeaves
import Derived.RangeFuncBox
import Derived.Shelf.Abstract
import Derived.Shelf.RegionOpen
import Derived.OwnWalkIn
import Derived.TacticsInMore
import Derived.LoopNIn
import Derived.LoopIn
import Derived.Outline
import Derived.RecoverIn
import Derived.Tactics
import Derived.Tactics2
import Derived.Defers
import Derived.Recover
import Derived.Laws.Pointers
import Derived.BigQuiet
import Derived.Deep.QuietTactic
import Derived.Test.YtaaabmnaindgaaaGreatDoorPks02
import Derived.Test.YtaaabmnaindgaaaGreatDoorPks09
import Derived.Test.YtaaabmnaindgaaaGreatDoorPks10
import Derived.Deep.RegionHeld3
import Derived.Deep.Grids

/-
  Stores in plain words: versions of paths, what is laid, what is told of a time. No program is named here.
-/
namespace Go.Proofs.YtaaabmnaindgaaaGreatDoor
set_option maxRecDepth 100000

/-- Is the pair a version? Are all of them? -/
def verB (x : Pr) : Bool := keyB x.1 && ((x.1.1 != []) && decide (redE x.2 = 0))
def isSt (U : List Pr) : Bool := U.all verB
/-- The latest time of all; 0 of none. -/
def lastI (U : List Pr) : Int := U.foldl (fun n x => max n x.1.2) 0
/-- A batch, laid at a time. -/
def layP (U : List Pr) (n : Int) (l : List Cg) : List Pr := l.foldl (fun V c => putL V ((c.1, n), cval c)) U
/-- The version of a path at a time. -/
def asOf (U : List Pr) (p : List UInt8) (n : Int) : Option Pr := U.find? fun x => x.1.1 == p && decide (x.1.2 ≤ n)

theorem rises_one {U : List Pr} (h : Rises U) {x y : Pr} (hx : x ∈ U) (hy : y ∈ U) (e : x.1 = y.1) : x = y := by
  have h1 := (rises_mem h hx).2
  have h2 := (rises_mem h hy).2
  rw [e, h2] at h1
  exact (Option.some.inj h1).symm
theorem asOf_iff {U : List Pr} (h : Rises U) {p : List UInt8} {n : Int} {x : Pr} :
    asOf U p n = some x ↔ x ∈ U ∧ x.1.1 = p ∧ x.1.2 ≤ n ∧ ∀ y ∈ U, y.1.1 = p → y.1.2 ≤ n → y.1.2 ≤ x.1.2 := by
  have hgo : ∀ {x : Pr}, asOf U p n = some x → x ∈ U ∧ x.1.1 = p ∧ x.1.2 ≤ n ∧ ∀ y ∈ U, y.1.1 = p → y.1.2 ≤ n → y.1.2 ≤ x.1.2 := by
    intro x hx
    unfold asOf at hx
    rw [List.find?_eq_some_iff_append] at hx
    obtain ⟨h1, us, vs, rfl, h2⟩ := hx
    rw [Bool.and_eq_true, beq_iff_eq, decide_eq_true_eq] at h1
    refine ⟨by simp, h1.1, h1.2, fun y hy hp hn => ?_⟩
    rcases List.mem_append.1 hy with hy | hy
    · have := h2 y hy
      simp [hp, hn] at this
    · rcases List.mem_cons.1 hy with rfl | hy
      · exact Int.le_refl _
      · have hl := (List.pairwise_cons.1 (List.pairwise_append.1 h).2.1).1 y hy
        rw [lessK_eq, h1.1, hp, less_irrefl] at hl
        simp at hl
        omega
  refine ⟨hgo, fun ⟨h1, h2, h3, h4⟩ => ?_⟩
  cases hf : asOf U p n with
  | none =>
    unfold asOf at hf
    rw [List.find?_eq_none] at hf
    exact absurd (show (x.1.1 == p && decide (x.1.2 ≤ n)) = true by simp [h2, h3]) (hf x h1)
  | some z =>
    obtain ⟨z1, z2, z3, z4⟩ := hgo hf
    have e1 := h4 z z1 z2 z3
    have e2 := z4 x h1 h2 h3
    have e : z.1 = x.1 := Prod.ext (z2.trans h2.symm) (by omega)
    rw [rises_one h z1 h1 e]
theorem asOf_none {U : List Pr} {p : List UInt8} {n : Int} : asOf U p n = none ↔ ∀ x ∈ U, x.1.1 = p → n < x.1.2 := by
  unfold asOf
  rw [List.find?_eq_none]
  constructor
  · intro h x hx hp
    have := h x hx
    simp [hp] at this
    exact this
  · intro h x hx hc
    rw [Bool.and_eq_true, beq_iff_eq, decide_eq_true_eq] at hc
    have := h x hx hc.1
    omega
theorem lay_rises : ∀ (l : List Cg) {U : List Pr} (n : Int), Rises U → Rises (layP U n l)
  | [], _, _, h => h
  | c :: r, U, n, h => lay_rises r (U := putL U ((c.1, n), cval c)) n (put_rises h _)
theorem mem_lay : ∀ (l : List Cg) {U : List Pr} (n : Int), Rises U → UnlikeC l → ∀ x : Pr, x ∈ layP U n l ↔ (x ∈ U ∧ ∀ c ∈ l, x.1 ≠ (c.1, n)) ∨ ∃ c ∈ l, x = ((c.1, n), cval c)
  | [], U, n, _, _, x => by simp [layP]
  | c :: r, U, n, h, hu, x => by
    obtain ⟨u1, u2⟩ := List.pairwise_cons.1 hu
    have ih := mem_lay r n (put_rises h ((c.1, n), cval c)) u2 x
    show x ∈ layP (putL U ((c.1, n), cval c)) n r ↔ _
    rw [ih, mem_put h]
    constructor
    · rintro (⟨rfl | ⟨h1, h2⟩, h3⟩ | ⟨d, hd, rfl⟩)
      · exact .inr ⟨c, by simp, rfl⟩
      · refine .inl ⟨h1, fun d hd => ?_⟩
        rcases List.mem_cons.1 hd with rfl | hd
        · exact h2
        · exact h3 d hd
      · exact .inr ⟨d, List.mem_cons_of_mem _ hd, rfl⟩
    · rintro (⟨h1, h2⟩ | ⟨d, hd, rfl⟩)
      · exact .inl ⟨.inr ⟨h1, h2 c (by simp)⟩, fun d hd => h2 d (List.mem_cons_of_mem _ hd)⟩
      · rcases List.mem_cons.1 hd with rfl | hd
        · refine .inl ⟨.inl rfl, fun e he hc => u1 e he ?_⟩
          exact (Prod.mk.inj (show ((d.1, n) : Ky) = (e.1, n) from hc)).1
        · exact .inr ⟨d, hd, rfl⟩
/-- Are all versions ahead of a time? -/
def tillB (U : List Pr) (n : Int) : Prop := ∀ x ∈ U, x.1.2 < n
theorem mem_lay_new {l : List Cg} {U : List Pr} {n : Int} (h : Rises U) (hu : UnlikeC l) (ht : tillB U n) (x : Pr) : x ∈ layP U n l ↔ x ∈ U ∨ ∃ c ∈ l, x = ((c.1, n), cval c) := by
  rw [mem_lay l n h hu]
  constructor
  · rintro (⟨h1, _⟩ | h1)
    · exact .inl h1
    · exact .inr h1
  · rintro (h1 | h1)
    · refine .inl ⟨h1, fun c _ e => ?_⟩
      have := ht x h1
      rw [e] at this
      dsimp only at this
      omega
    · exact .inr h1
theorem lay_length : ∀ (l : List Cg) {U : List Pr} (n : Int), Rises U → UnlikeC l → tillB U n → (layP U n l).length = U.length + l.length := by
  have hgo : ∀ (l : List Cg) {U : List Pr} (n : Int), Rises U → UnlikeC l → (∀ x ∈ U, ∀ c ∈ l, x.1 ≠ (c.1, n)) → (layP U n l).length = U.length + l.length := by
    intro l
    induction l with
    | nil => intro U n _ _ _; rfl
    | cons c r ih =>
      intro U n h hu ht
      obtain ⟨u1, u2⟩ := List.pairwise_cons.1 hu
      have e : (putL U ((c.1, n), cval c)).length = U.length + 1 := by
        rw [putL_length, if_neg]
        intro hh
        obtain ⟨x, hx, e⟩ := here_mem hh
        exact ht x hx c (by simp) e
      have := ih n (put_rises h ((c.1, n), cval c)) u2 fun x hx d hd => by
        rcases (mem_put h _ _).1 hx with rfl | ⟨h1, _⟩
        · intro e
          exact u1 d hd (Prod.mk.inj (show ((c.1, n) : Ky) = (d.1, n) from e)).1
        · exact ht x h1 d (List.mem_cons_of_mem _ hd)
      show (layP (putL U ((c.1, n), cval c)) n r).length = _
      rw [this, e, List.length_cons]
      omega
  intro l U n h hu ht
  refine hgo l n h hu fun x hx c _ e => ?_
  have := ht x hx
  rw [e] at this
  dsimp only at this
  omega

/-! ### The last time -/

theorem last_ge : ∀ (U : List Pr) (n : Int), n ≤ U.foldl (fun n x => max n x.1.2) n ∧ ∀ x ∈ U, x.1.2 ≤ U.foldl (fun n x => max n x.1.2) n
  | [], n => ⟨Int.le_refl _, fun x hx => by cases hx⟩
  | y :: r, n => by
    obtain ⟨h1, h2⟩ := last_ge r (max n y.1.2)
    rw [List.foldl_cons]
    refine ⟨by omega, fun x hx => ?_⟩
    rcases List.mem_cons.1 hx with rfl | hx
    · omega
    · exact h2 x hx
theorem till_last {U : List Pr} {n : Int} (h : lastI U < n) : tillB U n := fun x hx => by
  have h1 := (last_ge U 0).2 x hx
  have h2 : lastI U = U.foldl (fun n x => max n x.1.2) 0 := rfl
  omega
/-! ### Stores stay stores -/

theorem ver_lay {c : Cg} {n : Int} (h : mayB c = true) (h0 : 0 ≤ n) (h1 : n ≤ 1000000000) : verB ((c.1, n), cval c) = true := by
  obtain ⟨m1, m2, _⟩ := mayB_iff.1 h
  unfold verB keyB
  rw [(val_red h).1]
  simp [h0, h1, m1, m2]
theorem isSt_lay {l : List Cg} {U : List Pr} {n : Int} (h : Rises U) (hu : UnlikeC l) (hs : isSt U = true) (hl : ∀ c ∈ l, mayB c = true) (h0 : 0 ≤ n) (h1 : n ≤ 1000000000) : isSt (layP U n l) = true := by
  refine List.all_eq_true.2 fun x hx => ?_
  rcases (mem_lay l n h hu x).1 hx with ⟨hx, _⟩ | ⟨c, hc, rfl⟩
  · exact List.all_eq_true.1 hs x hx
  · exact ver_lay (hl c hc) h0 h1
theorem sort_unlike {l : List Cg} (h : SortC l) : UnlikeC l := List.Pairwise.imp (fun {x y} hxy e => by rw [e, less_irrefl] at hxy; cases hxy) h

end Go.Proofs.YtaaabmnaindgaaaGreatDoor

/-
  store.version: the meta that a version tells; at what is none it panics.
-/
namespace Go.Proofs.YtaaabmnaindgaaaGreatDoor
set_option maxRecDepth 100000
open Go.RowKit

/-- What is thrown at what is no version. -/
def thrownV : PanicEntry := { v := .iface 28 (.int .i64 1), recovered := false }
theorem ver_iff {x : Pr} : verB x = true ↔ keyB x.1 = true ∧ x.1.1 ≠ [] ∧ redE x.2 = 0 := by
  unfold verB
  simp

set_option maxHeartbeats 4000000 in
theorem ver_ok (p : List UInt8) (m : Int) (s : List UInt8) (hp : p.length ≤ 1000000) (hs : s.length ≤ 4611686018427387904) (w : World) (hml : Ml w) (hv : verB ((p, m), s) = true) :
    Calls Tryz.prog 78 #[.agg #[.string ⟨p.toArray⟩, .int .i64 m, .string ⟨s.toArray⟩]] w fun e w' => ∃ v, e = .returned (.tuple #[MV (redM s).1 (redM s).2.1 v, .bool (redG s)]) ∧ OwnI w' w.heap.size v (redM s).2.2 ∧ Below w.heap.size w w' := by
  obtain ⟨h1, h2, h3⟩ := ver_iff.1 hv
  dsimp only at h1 h2 h3
  have K := Lib.hid (fun W => mRead_calls s hs W)
  rw [h3] at K
  have KI := Lib.hid (fun W hm => (kIs_calls p m (by omega) W hm))
  rw [h1] at KI
  have hne : (p == []) = false := by simpa using h2
  have HM := Lib.hid hml
  generalize (redM s).1 = z at *
  generalize (redM s).2.1 = d at *
  generalize (redM s).2.2 = cs at *
  generalize redG s = g at *
  have hB0 := below_alloc2 w (.cells #[.string ⟨p.toArray⟩, .int .i64 m, .string ⟨s.toArray⟩] 67) (.cells #[.int .i64 0, .int .i64 0, .slice none 0 0] 51)
  have HP := Lib.hid ((Cx.new w 67 [.string ⟨p.toArray⟩, .int .i64 m, .string ⟨s.toArray⟩]).below (below_alloc _ (.cells #[.int .i64 0, .int .i64 0, .slice none 0 0] 51)))
  have HR := Lib.hid (Cx.new (w.alloc (.cells #[.string ⟨p.toArray⟩, .int .i64 m, .string ⟨s.toArray⟩] 67)) 51 [.int .i64 0, .int .i64 0, .slice none 0 0])
  rw [World.size_alloc] at HR
  have HB0 := Lib.hid hB0
  clear hml hB0 h1 h2 h3 hv
  go_enter Tryz.func78, Tryz.ntmps78
  go_wp2_with fail
  refine (K.out _).mono ?_
  rintro e w1 ⟨v, rfl, hI, hB1⟩
  obtain ⟨ao, cap, rfl⟩ := (ints_own hI).form
  have hBa := below_alloc w1 (.cells #[.int .i64 z, .int .i64 d, .slice ao cs.length cap] 51)
  have HI := Lib.hid (own_stays hI hBa)
  have HB1 := Lib.hid (below3 HB0.out hB1 hBa)
  have HR1 := Lib.hid ((HR.out.below hB1).below hBa)
  have HX := Lib.hid (Cx.new w1 51 [.int .i64 z, .int .i64 d, .slice ao cs.length cap])
  obtain ⟨p0, p1, p2, _⟩ := ((HP.out.below hB1).below hBa).three
  have HM1 := Lib.hid (HM.out.below HB1.out)
  clear hI hBa
  go_wp2_with fail
  refine (KI.out _ HM1.out).mono ?_
  rintro e w2 ⟨rfl, hB2⟩
  clear p0 p1 p2
  obtain ⟨x0, x1, x2, _⟩ := (HX.out.below hB2).three
  obtain ⟨r0, r1, r2, f0, f1, f2, hlt⟩ := (HR1.out.below hB2).three
  have HRe := Lib.hid (HR1.out.below hB2)
  have HI2 := Lib.hid (own_stays HI.out hB2)
  have HB2 := Lib.hid (below2 HB1.out hB2)
  clear hB2
  go_wp2_with fail
  obtain ⟨y0, y1, y2, _⟩ := (HRe.out.sets3 (.int .i64 z) (.int .i64 d) (.slice ao cs.length cap)).three
  refine ret_meta2 rfl rfl (w.heap.size + 1) _ _ _ _ rfl rfl y0 y1 y2 ⟨_, rfl, ?_, below_sets3 HB2.out (Nat.le_succ _) _ _ _⟩
  have hl : w.heap.size + 1 < ((w.alloc (.cells #[.string ⟨p.toArray⟩, .int .i64 m, .string ⟨s.toArray⟩] 67)).alloc (.cells #[.int .i64 0, .int .i64 0, .slice none 0 0] 51)).heap.size := by
    rw [World.size_alloc, World.size_alloc]
    omega
  exact own_weak (own_above (own_above (own_above HI2.out hl 0 _) hl 1 _) hl 2 _) (by rw [World.size_alloc, World.size_alloc]; omega)

set_option maxHeartbeats 4000000 in
theorem ver_no (p : List UInt8) (m : Int) (s : List UInt8) (hp : p.length ≤ 1000000) (hs : s.length ≤ 4611686018427387904) (w : World) (hml : Ml w) (hv : verB ((p, m), s) = false) :
    Calls Tryz.prog 78 #[.agg #[.string ⟨p.toArray⟩, .int .i64 m, .string ⟨s.toArray⟩]] w fun e w' => e = .panicked [thrownV] ∧ Below w.heap.size w w' := by
  have K := Lib.hid (fun W => mRead_calls s hs W)
  have KI := Lib.hid (fun W hm => (kIs_calls p m (by omega) W hm))
  have hor : redE s ≠ 0 ∨ (redE s = 0 ∧ p = []) ∨ (redE s = 0 ∧ p ≠ [] ∧ keyB (p, m) = false) := by
    by_cases h1 : redE s = 0
    · by_cases h2 : p = []
      · exact .inr (.inl ⟨h1, h2⟩)
      · refine .inr (.inr ⟨h1, h2, ?_⟩)
        cases h3 : keyB (p, m) with
        | false => rfl
        | true => rw [ver_iff.2 ⟨h3, h2, h1⟩] at hv; cases hv
    · exact .inl h1
  have HM := Lib.hid hml
  generalize (redM s).1 = z at *
  generalize (redM s).2.1 = d at *
  generalize (redM s).2.2 = cs at *
  generalize redG s = g at *
  generalize redE s = y at *
  have hB0 := below_alloc2 w (.cells #[.string ⟨p.toArray⟩, .int .i64 m, .string ⟨s.toArray⟩] 67) (.cells #[.int .i64 0, .int .i64 0, .slice none 0 0] 51)
  have HP := Lib.hid ((Cx.new w 67 [.string ⟨p.toArray⟩, .int .i64 m, .string ⟨s.toArray⟩]).below (below_alloc _ (.cells #[.int .i64 0, .int .i64 0, .slice none 0 0] 51)))
  have HB0 := Lib.hid hB0
  clear hml hB0 hv
  go_enter Tryz.func78, Tryz.ntmps78
  go_wp2_with fail
  refine (K.out _).mono ?_
  rintro e w1 ⟨v, rfl, hI, hB1⟩
  obtain ⟨ao, cap, rfl⟩ := (ints_own hI).form
  have hBa := below_alloc w1 (.cells #[.int .i64 z, .int .i64 d, .slice ao cs.length cap] 51)
  have HB1 := Lib.hid (below3 HB0.out hB1 hBa)
  obtain ⟨p0, p1, p2, _⟩ := ((HP.out.below hB1).below hBa).three
  have HM1 := Lib.hid (HM.out.below HB1.out)
  clear hI hBa
  rcases hor with h1 | ⟨rfl, rfl⟩ | ⟨rfl, h2, h3⟩
  · have hy : (y != 0) = true := by simpa using h1
    clear h1
    go_wp2_with fail
    exact panic_out rfl ⟨rfl, HB1.out⟩
  · go_wp2_with fail
    exact panic_out rfl ⟨rfl, HB1.out⟩
  · have hne : (p == []) = false := by simpa using h2
    rw [h3] at KI
    clear h2 h3
    go_wp2_with fail
    refine (KI.out _ HM1.out).mono ?_
    rintro e w2 ⟨rfl, hB2⟩
    go_wp2_with fail
    exact panic_out rfl ⟨rfl, below2 HB1.out hB2⟩

end Go.Proofs.YtaaabmnaindgaaaGreatDoor

/-
  A range over a function whose iterator calls a function that writes what lay ahead of the loop, and whose rounds may panic: rules of the walk. No program is named here.
-/
namespace Go.Proofs.YtaaabmnaindgaaaGreatDoor
set_option maxRecDepth 100000
open Go.RowKit
variable {P : Program} {Q : Exit → Act → World → Prop} {a : Act} {w : World}

/-- The walk of code in a frame of a function that there is. -/
def WpE (P : Program) (c : Code) (Q : Exit → Act → World → Prop) (a : Act) (w : World) : Prop :=
  ∀ (b : Frame) (k : List Item) (cs : List Frame), b.roundOf = none → (∃ fn, P.funcs[b.fn]? = some fn) →
    ∃ e a' w', Q e a' w' ∧ ArrivesIn (Machine.fenced P Fence.wide) P (lone (b.atR a (.code c :: k)) cs w) b k cs e a' w'
theorem wpE_of {c : Code} (h : c.wp P Q a w) : WpE P c Q a w := fun b k cs hro _ => (wpIn_wide (n := 0)).2 h b k cs hro trivial (room_wide _)
theorem fenced_any {fr : Frame} {cs : List Frame} {w : World} (ha : fr.about P w = none) : (lone fr cs w).fenced P Fence.wide := fenced_calm (n := 0) trivial (room_wide _) ha
theorem wpE_seq {x y : Code} (h : WpE P x (Exit.then (WpE P y Q) Q) a w) : WpE P (.seq x y) Q a w := by
  intro b k cs hro hb
  obtain ⟨e, a1, w1, hq, harr⟩ := h b (.code y :: k) cs hro hb
  by_cases hn : e = .normal
  · subst hn
    obtain ⟨e2, a2, w2, hq2, harr2⟩ := hq b k cs hro hb
    exact ⟨e2, a2, w2, hq2, .of_steps (.head (fenced_any rfl) stepR_seq harr) harr2⟩
  · refine ⟨e, a1, w1, ?_, .of_steps (.one (fenced_any rfl) stepR_seq) (.pass (x := .code y) rfl (fun _ _ => .inl hn) harr)⟩
    cases e <;> first | exact absurd rfl hn | exact hq
/-- A function's contract out of its body's walk in a frame of its own. -/
theorem calls_of_wpE {n : Nat} {f : FuncId} {fn : Func} {c : Code} {args : Array Value} {R : Ending → World → Prop} (hf : P.funcs[f]? = some fn) (hb : fn.body = some c)
    (h : WpE P c (bodyPostM Fence.wide n P fn R) { tmps := args ++ Array.replicate (fn.ntmps - args.size) undef, defers := [] } w) : Calls P f args w R := by
  refine (callsIn_wide (n := n)).1 ⟨trivial, fun cs hr => ?_⟩
  let b : Frame := { (default : Frame) with fn := f, kind := .normal, roundOf := none }
  have henter : Frame.enter P f args .normal = b.atR { tmps := args ++ Array.replicate (fn.ntmps - args.size) undef, defers := [] } [.code c] := by
    simp [Frame.enter, Frame.atR, hf, hb, b]
  obtain ⟨e, a', w', hq, harr⟩ := h b [] cs rfl ⟨fn, hf⟩
  rw [← henter] at harr
  have out : ∀ (u : FrameMode) (todo : List Item), StepsIn (Machine.fenced P Fence.wide) P (lone (Frame.enter P f args .normal) cs w) (lone { b.atR a' todo with mode := u } cs w') → LeavesInM Fence.wide n P fn a'.tmps R a'.defers u w' →
      ∃ e w' fr', R e w' ∧ ComesIn (Machine.fenced P Fence.wide) P (lone (Frame.enter P f args .normal) cs w) (lone fr' cs w') e ∧ fr'.fn = f ∧ fr'.leaving P w' e := fun u todo hs hl => by
    obtain ⟨e', w'', fr', hR, hs', hfn, hl'⟩ := leaves_stepsInM (n := n) a'.defers u w' { b.atR a' todo with mode := u } cs rfl rfl rfl hf rfl trivial hr hl
    exact ⟨e', w'', fr', hR, ComesIn.of_steps hs hs', hfn, hl'⟩
  cases e with
  | normal => exact out .returning [] (StepsIn.trans harr (.one (fenced_any rfl) (stepR_end rfl))) hq
  | ret =>
    obtain ⟨todo, hs⟩ := harr.1 rfl
    exact out .returning todo hs hq
  | panic chain =>
    obtain ⟨todo, hs⟩ := harr
    exact out (.panicking chain) todo hs hq
  | exit id => exact hq.elim
  | goto l => exact hq.elim
  | outgrown => exact ⟨.outgrown, w', b, hq, harr.resolve_left (by simp [b]), rfl, trivial⟩

/-! ### One round -/

/-- How a round's body may end, a panic among the ways. -/
def rdPost (P : Program) (l : Nat) (R : Ending → World → Prop) : Exit → Act → World → Prop
  | .normal, _, w => ∃ v w', (Instr.endRound l none).run P w = .ok v w' ∧ R (.returned v) w'
  | .ret, _, w => ∃ v w', (Instr.endRound l (some .ret)).run P w = .ok v w' ∧ R (.returned v) w'
  | .exit id, _, w => ∃ v w', (Instr.endRound l (some (.exit id))).run P w = .ok v w' ∧ R (.returned v) w'
  | .panic chain, a, w => a.defers = [] ∧ R (.panicked chain) w
  | _, _, _ => False
theorem round_of_walk {n l : Nat} {f : FuncId} {tmps : Array Value} {assign body : Code} {w : World} {R : Ending → World → Prop} (hf : ∃ fn, P.funcs[f]? = some fn)
    (h : assign.wpIn (Fence.wide.inRound l) n P (Exit.then (fun a1 w1 => ∃ w2, (Instr.beginRound l).run P w1 = .ok () w2 ∧ body.wpIn (Fence.wide.inRound l) n P (rdPost P l R) a1 w2) (fun _ _ _ => False)) { tmps := tmps, defers := [] } w) :
    RoundIn Fence.wide n P l f tmps assign body w R := by
  refine ⟨trivial, fun c cs _ => ?_⟩
  let b : Frame := { (default : Frame) with fn := f, kind := .normal, roundOf := some l }
  have hb0 : Frame.round l f tmps assign body .normal = b.atR { tmps := tmps, defers := [] } [.code assign, .beginRound, .code body] := by
    simp [Frame.round, Frame.atR, b]
  obtain ⟨e, a1, w1, hq, harr⟩ := h b [.beginRound, .code body] (c :: cs) rfl trivial (room_wide _)
  rw [← hb0] at harr
  cases e with
  | normal =>
    obtain ⟨w2, hbr, hbody⟩ := hq
    obtain ⟨e2, a2, w3, hq2, harr2⟩ := hbody b [] (c :: cs) rfl trivial (room_wide _)
    have s1 := StepsIn.trans harr (.one (fenced_any (P := P) (fr := b.atR a1 [.beginRound, .code body]) rfl) (stepR_beginRound rfl hbr))
    cases e2 with
    | normal =>
      obtain ⟨v, w4, hend, hR⟩ := hq2
      exact ⟨.returned v, w4, hR, s1.trans (StepsIn.trans harr2 (.one (fenced_any (fr := b.atR a2 []) rfl) (stepR_round_end rfl rfl hend)))⟩
    | ret =>
      obtain ⟨v, w4, hend, hR⟩ := hq2
      obtain ⟨k1, hs⟩ := harr2.2 rfl
      exact ⟨.returned v, w4, hR, s1.trans (StepsIn.trans hs (.one (fenced_any (fr := b.atR a2 (.code .ret :: k1)) rfl) (stepR_round_ret rfl rfl hend)))⟩
    | exit id =>
      obtain ⟨v, w4, hend, hR⟩ := hq2
      obtain ⟨k1, hk, hs⟩ := harr2.2 rfl rfl
      exact ⟨.returned v, w4, hR, s1.trans (StepsIn.trans hs (.one (fenced_any (fr := b.atR a2 (.code (.exit id) :: k1)) rfl) (stepR_round_exit rfl rfl hk hend)))⟩
    | panic chain =>
      obtain ⟨hd, hR⟩ := hq2
      obtain ⟨todo, hs⟩ := harr2
      refine ⟨.panicked chain, w3, hR, s1.trans (StepsIn.trans hs (.one (fenced_any ?_) (step_leave_panicked ⟨rfl, hd, hf⟩)))⟩
      simp [Frame.about, Frame.atR, hd]
    | goto t => exact hq2.elim
    | outgrown => exact hq2.elim
  | exit id => exact hq.elim
  | goto t => exact hq.elim
  | ret => exact hq.elim
  | panic chain => exact hq.elim
  | outgrown => exact hq.elim

/-! ### The statement -/

/-- What is asked behind the function that was ranged over. -/
def rgPost (P : Program) (l : Nat) (Q : Exit → Act → World → Prop) (a' : Act) : Ending → World → Prop
  | .returned _, w3 => ∃ jump w4, (Instr.endLoop l).run P w3 = .ok jump w4 ∧ (match jump with | none => Q .normal a' w4 | some c => WpE P c Q a' w4)
  | .panicked chain, w3 => Q (.panic chain) a' w3
  | .outgrown, _ => False
/-- The record of a loop. -/
abbrev recL (fn : FuncId) (a : Act) (ps : Array Tmp) (assign body : Code) (D : Nat) (st : LoopState) (pe : Option Code) : Loop := { state := st, pending := pe, fn := fn, tmps := a.tmps, params := ps, assign := assign, body := body, defers := D }
theorem wpE_range {n : Nat} {g : Operand} {ps : Array Tmp} {assign body : Code} {gf : Nat} {lb : Array Value} (hg : a.eval g = .func (.func gf) #[] lb) (eg : ∀ args w, (callFunc gf args).run P w = .ok (.enter gf args) w)
    (h : ∀ fn, (∃ f, P.funcs[fn]? = some f) → CallsIn Fence.wide n P gf (#[.func (.yield (w.heap.size + 1)) #[] #[]] ++ lb) ((w.alloc (.deferred (some []))).alloc (.loop (recL fn a ps assign body w.heap.size .ready none)))
      (rgPost P (w.heap.size + 1) Q { a with defers := { target := .collected w.heap.size, args := #[] } :: a.defers })) :
    WpE P (.rangeFunc g ps assign body) Q a w := by
  intro b k cs hro hb
  have he := run_enterLoop_outer (P := P) (w := w) b.fn a.tmps ps assign body
  obtain ⟨W1, hW1⟩ : ∃ x, (w.alloc (.deferred (some []))).alloc (.loop (recL b.fn a ps assign body w.heap.size .ready none)) = x := ⟨_, rfl⟩
  have hcall := h b.fn hb
  rw [hW1] at hcall
  replace he := he.trans (congrArg (Result.ok _) hW1)
  have hres : (resolve a.eval (rangeCall g (w.heap.size + 1)) 0).run P W1 = .ok { target := .fn (.func gf) lb, args := #[.func (.yield (w.heap.size + 1)) #[] #[]] } W1 := by
    simp only [resolve, hg]
    simp [go_sem]
  have hinv : (invoke (.fn (.func gf) lb) #[.func (.yield (w.heap.size + 1)) #[] #[]]).run P W1 = .ok (.enter gf (#[.func (.yield (w.heap.size + 1)) #[] #[]] ++ lb)) W1 := by
    simp [invoke, go_sem, eg]
  rw [← hro] at he
  have henter := stepR_rangeFunc (P := P) (b := b) (a := a) (k := k) (cs := cs) (w := w) he hres hinv
  have h0 : (lone (b.atR a (.code (.rangeFunc g ps assign body) :: k)) cs w).fenced P Fence.wide := fenced_lone (.inl trivial) (fun _ _ => trivial) (room_wide _)
  obtain ⟨e, w3, fr, hR, hsteps, hfn, hleave⟩ := hcall.2 (b.atR { a with defers := [{ target := .collected w.heap.size, args := #[] }] ++ a.defers } (.inRangeFunc (w.heap.size + 1) :: k) :: cs) (room_wide _)
  cases e with
  | outgrown => exact hR.elim
  | returned v =>
    have hl := fenced_leaving (F := Fence.wide) (n := 0) (fr := fr) (cs := b.atR { a with defers := [{ target := .collected w.heap.size, args := #[] }] ++ a.defers } (.inRangeFunc (w.heap.size + 1) :: k) :: cs) trivial (room_wide _) hleave
    obtain ⟨jump, w4, hend, hj⟩ := hR
    have sback : StepsIn (Machine.fenced P Fence.wide) P (lone (b.atR a (.code (.rangeFunc g ps assign body) :: k)) cs w) (lone (b.atR { a with defers := [{ target := .collected w.heap.size, args := #[] }] ++ a.defers } ((jump.map Item.code).toList ++ k)) cs w4) := by
      refine .head h0 henter (StepsIn.trans hsteps (.head hl ?_ (.one (fenced_any (fr := b.atR { a with defers := [{ target := .collected w.heap.size, args := #[] }] ++ a.defers } (.endRangeFunc (w.heap.size + 1) :: k)) rfl) (stepR_endRangeFunc hend))))
      rw [← finish_atR_inRangeFunc (w.heap.size + 1) v]
      exact step_leave_returned hleave
    cases jump with
    | none => exact ⟨.normal, _, w4, hj, sback⟩
    | some c =>
      obtain ⟨e', a'', w5, hq, harr⟩ := hj b k cs hro hb
      exact ⟨e', a'', w5, hq, .of_steps sback harr⟩
  | panicked chain =>
    have hl := fenced_leaving (F := Fence.wide) (n := 0) (fr := fr) (cs := b.atR { a with defers := [{ target := .collected w.heap.size, args := #[] }] ++ a.defers } (.inRangeFunc (w.heap.size + 1) :: k) :: cs) trivial (room_wide _) hleave
    refine ⟨.panic chain, _, w3, hR, .inRangeFunc (w.heap.size + 1) :: k, .head h0 henter (StepsIn.trans hsteps (.one hl ?_))⟩
    rw [← Frame.raise_atR]
    exact step_leave_panicked hleave

end Go.Proofs.YtaaabmnaindgaaaGreatDoor

/-
  store.told: what a call tells, again and again, till it tells none; a round may panic.
-/
namespace Go.Proofs.YtaaabmnaindgaaaGreatDoor
set_option maxRecDepth 100000
open Go.RowKit Go.Shelf
attribute [local go_sem] Oper.semAt_some

/-- What speaks of all blocks but b (where that plays a part); and of blocks that there were alone. -/
def Roams (fl : Prop) (J : Nat → World → Prop) : Prop := (fl → ∀ b A B, J b A → Keeps b A B → J b B) ∧ ∀ b A B b', J b A → Below A.heap.size A B → A.heap.size ≤ b' → J b' B
/-- The least of what a relation lets a measure be. -/
theorem measure_of {α β : Type} (N : Nat) (R : Nat → α → β → Prop) : ∃ μ : α → β → Nat, (∀ i p w, i ≤ N → R i p w → μ p w ≤ N - i) ∧ ∀ p w, (∃ i, i ≤ N ∧ R i p w) → ∃ i, i ≤ N ∧ R i p w ∧ μ p w = N - i := by
  have key : ∀ p w, ∃ m, (∀ i, i ≤ N → R i p w → m ≤ N - i) ∧ ((∃ i, i ≤ N ∧ R i p w) → ∃ i, i ≤ N ∧ R i p w ∧ m = N - i) := by
    intro p w
    by_cases h : ∃ i, i ≤ N ∧ R i p w
    · have hgo : ∀ k i, i ≤ N → R i p w → N - i ≤ k → ∃ m, (∀ i, i ≤ N → R i p w → m ≤ N - i) ∧ ((∃ i, i ≤ N ∧ R i p w) → ∃ i, i ≤ N ∧ R i p w ∧ m = N - i) := by
        intro k
        induction k with
        | zero => exact fun i hi hr hk => ⟨0, fun _ _ _ => Nat.zero_le _, fun _ => ⟨i, hi, hr, by omega⟩⟩
        | succ k ih =>
          intro i hi hr hk
          by_cases hs : ∃ j, j ≤ N ∧ R j p w ∧ N - j ≤ k
          · obtain ⟨j, hj, hrj, hjk⟩ := hs
            exact ih j hj hrj hjk
          · refine ⟨N - i, fun j hj hrj => ?_, fun _ => ⟨i, hi, hr, rfl⟩⟩
            have : ¬ N - j ≤ k := fun h => hs ⟨j, hj, hrj, h⟩
            omega
      obtain ⟨i, hi, hr⟩ := h
      exact hgo (N - i) i hi hr (Nat.le_refl _)
    · exact ⟨0, fun i hi hr => Nat.zero_le _, fun h' => absurd h' h⟩
  exact ⟨fun p w => (key p w).choose, fun i p w => (key p w).choose_spec.1 i, fun p w => (key p w).choose_spec.2⟩

/-- What an iterator of told needs and gives. b is a block that the caller's facts don't speak of. -/
def ToldK (fl : Prop) (gf : Nat) (lb : Array Value) (cf : Nat) (cargs : Array Value) (encs : Nat → Array Value) (res : Nat → Value) (N : Nat) (Box : World → Prop) : Prop :=
  ∀ (y : Nat) (J Jc : Nat → Nat → World → Prop) (Je : Nat → World → Prop) (Jx : World → Prop) (Jp : List PanicEntry → World → Prop) (W : World),
    (∀ i, Roams fl (J i)) → (∀ i, Roams fl (Jc i)) → Roams fl Je → (∀ i b A, J i b A → Box A) →
    (∀ i b A, i < N → J i b A → Calls Tryz.prog cf cargs A fun e B => e = .returned (res i) ∧ Jc i b B ∧ A.heap.size ≤ B.heap.size ∧ (fl → b < A.heap.size → B.heap[b]? = A.heap[b]?)) →
    (∀ b A, J N b A → Calls Tryz.prog cf cargs A fun e B => e = .returned (res N) ∧ Je b B ∧ A.heap.size ≤ B.heap.size ∧ (fl → b < A.heap.size → B.heap[b]? = A.heap[b]?)) →
    (∀ i b A, i < N → Jc i b A → (fl → b < A.heap.size) → YieldAt Fence.wide 4 Tryz.prog y (encs i) A fun e B => (e = .returned (.bool true) ∧ J (i + 1) b B ∧ A.heap.size ≤ B.heap.size ∧ (fl → b < A.heap.size → B.heap[b]? = A.heap[b]?)) ∨ (e = .returned (.bool false) ∧ Jx B) ∨ ∃ ch, e = .panicked ch ∧ Jp ch B) →
    J 0 W.heap.size W →
    CallsIn Fence.wide 5 Tryz.prog gf (#[.func (.yield y) #[] #[]] ++ lb) W fun e B => ((∃ v, e = .returned v) ∧ ((∃ b, Je b B) ∨ Jx B)) ∨ ∃ ch, e = .panicked ch ∧ Jp ch B
/-- What stands behind a call: an element, or the end. -/
def MidT (Jc : Nat → Nat → World → Prop) (Je : Nat → World → Prop) (N i b : Nat) (A : World) : Prop := (i < N → Jc i b A) ∧ (i = N → Je b A)
theorem MidT.roams {fl : Prop} {Jc : Nat → Nat → World → Prop} {Je : Nat → World → Prop} {N : Nat} (hc : ∀ i, Roams fl (Jc i)) (he : Roams fl Je) (i : Nat) : Roams fl (MidT Jc Je N i) :=
  ⟨fun hf b A B h hk => ⟨fun hi => (hc i).1 hf b A B (h.1 hi) hk, fun hi => he.1 hf b A B (h.2 hi) hk⟩, fun b A B b' h hk hb => ⟨fun hi => (hc i).2 b A B b' (h.1 hi) hk hb, fun hi => he.2 b A B b' (h.2 hi) hk hb⟩⟩

set_option maxHeartbeats 4000000 in
theorem toldP (g Bc : Nat) (xs : Nat → Pr) (N : Nat) :
    ToldK True 108 #[.pointer (some ⟨Bc, 0, none⟩)] 50 #[.pointer (some ⟨g, 0, none⟩)] (fun i => #[PV (xs i)]) (fun i => .tuple #[PV (xs i), .bool (decide (i < N))]) N
      (fun W => W.cell? ⟨Bc, 0, none⟩ = some (.func (.func 50) #[.pointer (some ⟨g, 0, none⟩)] #[])) := by
  intro y J Jc Je Jx Jp W hJ hJc hJe hbox hcall hend hY h0
  have K : ∀ i b A, i ≤ N → J i b A → Calls Tryz.prog 50 #[.pointer (some ⟨g, 0, none⟩)] A fun e B => e = .returned (.tuple #[.agg #[.string ⟨(xs i).1.1.toArray⟩, .int .i64 (xs i).1.2, .string ⟨(xs i).2.toArray⟩], .bool (decide (i < N))]) ∧ MidT Jc Je N i b B ∧ A.heap.size ≤ B.heap.size ∧ (b < A.heap.size → B.heap[b]? = A.heap[b]?) := by
    intro i b A hi hA
    by_cases hlt : i < N
    · exact (hcall i b A hlt hA).mono fun e B he => ⟨he.1, ⟨fun _ => he.2.1, fun hi => by omega⟩, he.2.2.1, he.2.2.2 trivial⟩
    · obtain rfl : i = N := by omega
      exact (hend b A hA).mono fun e B he => ⟨he.1, ⟨fun hi => absurd hi hlt, fun _ => he.2.1⟩, he.2.2.1, he.2.2.2 trivial⟩
  have HM := Lib.hid (MidT.roams (N := N) hJc hJe)
  have HK := Lib.hid K
  have HB := Lib.hid hbox
  have HJ := Lib.hid hJ
  have HY := Lib.hid hY
  have HS := Lib.hid h0
  have hb0 := hbox _ _ _ h0
  clear hcall hend K hbox hJ hJc hJe hY h0
  have hfw : ∀ f, Fence.wide.fn f := fun _ => trivial
  refine callsIn_of_wp Tryz.func108 rfl trivial ?_ rfl
  simp only [Tryz.ntmps108, List.size_toArray, List.length_cons, List.length_nil, Nat.reduceAdd, Nat.reduceSub, Array.replicate_succ, Array.replicate_zero, List.push_toArray, List.append_toArray, List.nil_append, List.cons_append]
  gi_wp2_with fail
  refine (callsIn_wide.2 (HK.out 0 W.heap.size W (Nat.zero_le _) HS.out)).mono ?_
  rintro e w1 ⟨rfl, hm1, hsz1, _⟩
  have HM1 := Lib.hid hm1
  clear hm1 hb0
  gi_wp2_with fail
  obtain ⟨μ, hμ1, hμ2⟩ := measure_of N (fun i (p : Value × Value) (wr : World) => p.2 = .bool (decide (i < N)) ∧ ∃ b, p.1 = .pointer (some ⟨b, 0, none⟩) ∧ W.heap.size ≤ b ∧ Cx wr b 67 (pcell (xs i)) ∧ MidT Jc Je N i b wr)
  have M1 := Lib.hid hμ1
  have M2 := Lib.hid hμ2
  clear hμ1 hμ2
  gi_loopw [3, 4] (fun p q wr => ∃ i, i ≤ N ∧ (q = .bool (decide (i < N)) ∧ ∃ b, p = .pointer (some ⟨b, 0, none⟩) ∧ W.heap.size ≤ b ∧ Cx wr b 67 (pcell (xs i)) ∧ MidT Jc Je N i b wr)) (fun p q wr => μ (p, q) wr)
  case atStart =>
    exact ⟨0, Nat.zero_le _, rfl, w1.heap.size, rfl, hsz1, Cx.new w1 _ (pcell (xs 0)), (HM.out 0).2 _ _ _ _ HM1.out (below_alloc _ _) (Nat.le_refl _)⟩
  case round =>
    obtain ⟨i, hi, ⟨hq, b, hp, hbW, hx, hm⟩, hμ⟩ := M2.out (_, _) _ hrel
    dsimp only at hq hp
    subst hq
    subst hp
    clear hrel
    have HU := Lib.hid hμ
    clear hμ
    obtain ⟨x0, x1, x2, _, _, _, hbl⟩ := Cx.three hx
    by_cases hlt : i < N
    · have hd : decide (i < N) = true := decide_eq_true hlt
      obtain ⟨fn, tmps, assign, body, hy, hR⟩ := HY.out i b _ hlt (hm.1 hlt) (fun _ => hbl)
      dsimp only [PV] at hy
      have HX := Lib.hid hx
      clear hx hm
      gi_wp2_with fail
      refine hR.mono ?_
      rintro e' W3 (⟨rfl, hJ3, hsz3, hb3⟩ | ⟨rfl, hx3⟩ | ⟨ch, rfl, hp3⟩)
      · clear x0 x1 x2
        have hx3 : Cx W3 b 67 (pcell (xs i)) := (hb3 trivial hbl).trans HX.out
        obtain ⟨x0, x1, x2, _⟩ := Cx.three hx3
        have hJ4 := (HJ.out (i + 1)).2 _ _ _ W3.heap.size hJ3 (below_alloc W3 (.cells #[.string ⟨(xs i).1.1.toArray⟩, .int .i64 (xs i).1.2, .string ⟨(xs i).2.toArray⟩] 67)) (Nat.le_refl _)
        have hb4 := HB.out _ _ _ hJ4
        have HJ4 := Lib.hid hJ4
        clear hx3 hJ4
        gi_wp2_with fail
        refine (callsIn_wide.2 (HK.out (i + 1) W3.heap.size _ (by omega) HJ4.out)).mono ?_
        rintro e' W4 ⟨rfl, hm4, hsz4, hb5⟩
        have hx4 : Cx W4 W3.heap.size 67 (pcell (xs i)) := (hb5 (by simp)).trans (Cx.new W3 _ (pcell (xs i)))
        obtain ⟨z0, z1, z2, y0, y1, y2, hl3⟩ := Cx.three hx4
        clear x0 x1 x2 hb4
        have HM4 := Lib.hid hm4
        clear hm4 hb5
        gi_wp2_with fail
        have hks : Keeps W3.heap.size W4 (((W4.setCell ⟨W3.heap.size, 0, none⟩ (.string ⟨(xs (i + 1)).1.1.toArray⟩)).setCell ⟨W3.heap.size, 1, none⟩ (.int .i64 (xs (i + 1)).1.2)).setCell ⟨W3.heap.size, 2, none⟩ (.string ⟨(xs (i + 1)).2.toArray⟩)) := (((Keeps.refl W3.heap.size W4).set 0 _).set 1 _).set 2 _
        go_roundw
        case rel => exact ⟨i + 1, by omega, rfl, W3.heap.size, rfl, by omega, (((hx4.set 0 _).set 1 _).set 2 _ : Cx _ _ _ (pcell (xs (i + 1)))), (HM.out (i + 1)).1 trivial _ _ _ HM4.out hks⟩
        case measure =>
          have h1 := M1.out (i + 1) (_, _) _ (by omega) ⟨rfl, W3.heap.size, rfl, by omega, (((hx4.set 0 _).set 1 _).set 2 _ : Cx _ _ _ (pcell (xs (i + 1)))), (HM.out (i + 1)).1 trivial _ _ _ HM4.out hks⟩
          have h2 := HU.out
          omega
      · gi_wp2_with fail
        go_end0
        exact .inl ⟨⟨_, rfl⟩, .inr hx3⟩
      · exact ⟨rfl, .inr ⟨ch, rfl, hp3⟩⟩
    · have hd : decide (i < N) = false := decide_eq_false hlt
      have hm2 := hm.2 (by omega)
      clear hx hm
      gi_wp2_with fail
      go_end0
      exact .inl ⟨⟨_, rfl⟩, .inl ⟨_, hm2⟩⟩

set_option maxHeartbeats 4000000 in
theorem toldS (g Bc : Nat) (xs : Nat → List UInt8) (N : Nat) :
    ToldK False 74 #[.pointer (some ⟨Bc, 0, none⟩)] 47 #[.pointer (some ⟨g, 0, none⟩)] (fun i => #[.string ⟨(xs i).toArray⟩]) (fun i => .tuple #[.string ⟨(xs i).toArray⟩, .bool (decide (i < N))]) N
      (fun W => W.cell? ⟨Bc, 0, none⟩ = some (.func (.func 47) #[.pointer (some ⟨g, 0, none⟩)] #[])) := by
  intro y J Jc Je Jx Jp W hJ hJc hJe hbox hcall hend hY h0
  have K : ∀ i b A, i ≤ N → J i b A → Calls Tryz.prog 47 #[.pointer (some ⟨g, 0, none⟩)] A fun e B => e = .returned (.tuple #[.string ⟨(xs i).toArray⟩, .bool (decide (i < N))]) ∧ MidT Jc Je N i b B ∧ A.heap.size ≤ B.heap.size := by
    intro i b A hi hA
    by_cases hlt : i < N
    · exact (hcall i b A hlt hA).mono fun e B he => ⟨he.1, ⟨fun _ => he.2.1, fun hi => by omega⟩, he.2.2.1⟩
    · obtain rfl : i = N := by omega
      exact (hend b A hA).mono fun e B he => ⟨he.1, ⟨fun hi => absurd hi hlt, fun _ => he.2.1⟩, he.2.2.1⟩
  have HK := Lib.hid K
  have HB := Lib.hid hbox
  have HY := Lib.hid hY
  have HS := Lib.hid h0
  have hb0 := hbox _ _ _ h0
  clear hcall hend K hbox hJ hJc hJe hY h0
  have hfw : ∀ f, Fence.wide.fn f := fun _ => trivial
  refine callsIn_of_wp Tryz.func74 rfl trivial ?_ rfl
  simp only [Tryz.ntmps74, List.size_toArray, List.length_cons, List.length_nil, Nat.reduceAdd, Nat.reduceSub, Array.replicate_succ, Array.replicate_zero, List.push_toArray, List.append_toArray, List.nil_append, List.cons_append]
  gi_wp2_with fail
  refine (callsIn_wide.2 (HK.out 0 W.heap.size W (Nat.zero_le _) HS.out)).mono ?_
  rintro e w1 ⟨rfl, hm1, hsz1⟩
  have HM1 := Lib.hid hm1
  clear hm1 hb0
  gi_wp2_with fail
  obtain ⟨μ, hμ1, hμ2⟩ := measure_of N (fun i (p : Value × Value) (wr : World) => p.2 = .bool (decide (i < N)) ∧ p.1 = .string ⟨(xs i).toArray⟩ ∧ ∃ b, MidT Jc Je N i b wr)
  have M1 := Lib.hid hμ1
  have M2 := Lib.hid hμ2
  clear hμ1 hμ2
  gi_loopw [3, 4] (fun p q wr => ∃ i, i ≤ N ∧ (q = .bool (decide (i < N)) ∧ p = .string ⟨(xs i).toArray⟩ ∧ ∃ b, MidT Jc Je N i b wr)) (fun p q wr => μ (p, q) wr)
  case atStart => exact ⟨0, Nat.zero_le _, rfl, rfl, _, HM1.out⟩
  case round =>
    obtain ⟨i, hi, ⟨hq, hp, b, hm⟩, hμ⟩ := M2.out (_, _) _ hrel
    dsimp only at hq hp
    subst hq
    subst hp
    clear hrel
    have HU := Lib.hid hμ
    clear hμ
    by_cases hlt : i < N
    · have hd : decide (i < N) = true := decide_eq_true hlt
      obtain ⟨fn, tmps, assign, body, hy, hR⟩ := HY.out i b _ hlt (hm.1 hlt) (fun h => h.elim)
      clear hm
      gi_wp2_with fail
      refine hR.mono ?_
      rintro e' W3 (⟨rfl, hJ3, hsz3, hb3⟩ | ⟨rfl, hx3⟩ | ⟨ch, rfl, hp3⟩)
      · have hb4 := HB.out _ _ _ hJ3
        have HJ4 := Lib.hid hJ3
        clear hJ3 hb3
        gi_wp2_with fail
        refine (callsIn_wide.2 (HK.out (i + 1) _ _ (by omega) HJ4.out)).mono ?_
        rintro e' W4 ⟨rfl, hm4, hsz4⟩
        clear hb4
        have HM4 := Lib.hid hm4
        clear hm4
        gi_wp2_with fail
        go_roundw
        case rel => exact ⟨i + 1, by omega, rfl, rfl, _, HM4.out⟩
        case measure =>
          have h1 := M1.out (i + 1) (_, _) _ (by omega) ⟨rfl, rfl, _, HM4.out⟩
          have h2 := HU.out
          omega
      · gi_wp2_with fail
        go_end0
        exact .inl ⟨⟨_, rfl⟩, .inr hx3⟩
      · exact ⟨rfl, .inr ⟨ch, rfl, hp3⟩⟩
    · have hd : decide (i < N) = false := decide_eq_false hlt
      have hm2 := hm.2 (by omega)
      clear hm
      gi_wp2_with fail
      go_end0
      exact .inl ⟨⟨_, rfl⟩, .inl ⟨_, hm2⟩⟩

end Go.Proofs.YtaaabmnaindgaaaGreatDoor

/-
  A range over what store.told tells: one rule for the loop, whatever it carries along. No loop of the program is named here.
-/
namespace Go.Proofs.YtaaabmnaindgaaaGreatDoor
set_option maxRecDepth 100000
open Go.RowKit
variable {Q : Exit → Act → World → Prop} {a : Act} {w : World}

/-- What speaks of all blocks but b, n and n + 1; and of blocks that there were alone. -/
def Roam3 (fl : Prop) (n : Nat) (J : Nat → World → Prop) : Prop := (∀ b k A B, J b A → (fl ∧ k = b ∨ k = n ∨ k = n + 1) → Keeps k A B → J b B) ∧ ∀ b A B b', J b A → Below A.heap.size A B → A.heap.size ≤ b' → J b' B
/-- These blocks are as they were. -/
def Same3 (fl : Prop) (n b : Nat) (A B : World) : Prop := A.heap.size ≤ B.heap.size ∧ ∀ k, (k = n ∨ k = n + 1 ∨ fl ∧ k = b) → k < A.heap.size → B.heap[k]? = A.heap[k]?
theorem Same3.of_keeps {fl : Prop} {n b g : Nat} {A B : World} (h : Keeps g A B) (h1 : g ≠ n) (h2 : g ≠ n + 1) (h3 : g ≠ b) : Same3 fl n b A B :=
  ⟨h.size, fun k hk hl => h.block k hl (fun e => by cases e; rcases hk with h | h | ⟨_, h⟩ <;> omega)⟩
theorem Same3.of_below {fl : Prop} {n b : Nat} {A B : World} (h : Below A.heap.size A B) : Same3 fl n b A B := ⟨h.size, fun k _ hl => h.block k hl⟩
theorem Same3.trans {fl : Prop} {n b : Nat} {A B C : World} (h : Same3 fl n b A B) (k : Same3 fl n b B C) : Same3 fl n b A C :=
  ⟨Nat.le_trans h.1 k.1, fun i hi hl => (k.2 i hi (Nat.lt_of_lt_of_le hl h.1)).trans (h.2 i hi hl)⟩
theorem keeps_put {A : World} {l : Nat} (o : Obj) : Keeps l A (A.putObj l o) := grownBy_putObj' A l o
/-- How a round's body may end. -/
def bdPost (fl : Prop) (n b : Nat) (I : World → Prop) (Ix : Code → World → Prop) (Ip : List PanicEntry → World → Prop) (A : World) : Exit → Act → World → Prop
  | .normal, _, B => Same3 fl n b A B ∧ I B
  | .ret, _, B => Same3 fl n b A B ∧ Ix .ret B
  | .exit id, _, B => Same3 fl n b A B ∧ Ix (.exit id) B
  | .panic ch, a, B => Same3 fl n b A B ∧ a.defers = [] ∧ Ip ch B
  | _, _, _ => False

theorem get_lt {A : World} {k : Nat} {o : Obj} (h : A.heap[k]? = some o) : k < A.heap.size := (Array.getElem?_eq_some_iff.1 h).1

set_option maxHeartbeats 2000000 in
theorem wpE_told {fl : Prop} {g : Operand} {ps : Array Tmp} {assign body : Code} {gf : Nat} {lb : Array Value} {cf : Nat} {cargs : Array Value} {encs : Nat → Array Value} {res : Nat → Value} {N : Nat} {Box : World → Prop}
    (hg : a.eval g = .func (.func gf) #[] lb) (eg : ∀ args w, (callFunc gf args).run Tryz.prog w = .ok (.enter gf args) w) (hT : ToldK fl gf lb cf cargs encs res N Box) (hps : ∀ i, (encs i).size = ps.size)
    (I Ic : Nat → Nat → World → Prop) (Ie : Nat → World → Prop) (Ix : Code → World → Prop) (Ip : List PanicEntry → World → Prop) (Ax : Nat → Nat → Act → World → Prop) (g0 : Nat) (hg0 : g0 < w.heap.size)
    (sI : ∀ i, Roam3 fl w.heap.size (I i)) (sIc : ∀ i, Roam3 fl w.heap.size (Ic i)) (sIe : Roam3 fl w.heap.size Ie) (sIx : ∀ c A B, Ix c A → Keeps (w.heap.size + 1) A B → Ix c B)
    (sAx : ∀ i b a' A B, Ax i b a' A → Keeps (w.heap.size + 1) A B → Ax i b a' B)
    (hbox : ∀ i b A, I i b A → Box A) (h0 : I 0 w.heap.size w)
    (hcall : ∀ i b A, i < N → I i b A → Calls Tryz.prog cf cargs A fun e B => e = .returned (res i) ∧ Ic i b B ∧ Keeps g0 A B)
    (hend : ∀ b A, I N b A → Calls Tryz.prog cf cargs A fun e B => e = .returned (res N) ∧ Ie b B ∧ Keeps g0 A B)
    (hassign : ∀ (l i b : Nat) (A : World) (K : Act → World → Prop), l = w.heap.size + 1 → l < A.heap.size → i < N → Ic i b A → (∀ a' B, Below A.heap.size A B → Ax i b a' B → K a' B) →
      assign.wpIn (Fence.wide.inRound l) 4 Tryz.prog (Exit.then K (fun _ _ _ => False)) { tmps := (ps.zip (encs i)).foldl (fun t (p, v) => t.setIfInBounds p v) a.tmps, defers := [] } A)
    (hbody : ∀ (l i b : Nat) (a' : Act) (A : World), l = w.heap.size + 1 → l < A.heap.size → w.heap.size + 2 ≤ b ∧ (fl → b < A.heap.size) → i < N → Ax i b a' A → body.wpIn (Fence.wide.inRound l) 4 Tryz.prog (bdPost fl w.heap.size b (I (i + 1) b) Ix Ip A) a' A)
    (hdone : ∀ (D b : Nat) (A : World), D = w.heap.size → Ie b A → A.heap[D]? = some (.deferred (some [])) → Q .normal { a with defers := { target := .collected D, args := #[] } :: a.defers } A)
    (hstop : ∀ (D : Nat) (c : Code) (A : World), D = w.heap.size → Ix c A → A.heap[D]? = some (.deferred (some [])) → WpE Tryz.prog c Q { a with defers := { target := .collected D, args := #[] } :: a.defers } A)
    (hpan : ∀ (D : Nat) (ch : List PanicEntry) (A : World), D = w.heap.size → Ip ch A → A.heap[D]? = some (.deferred (some [])) → Q (.panic ch) { a with defers := { target := .collected D, args := #[] } :: a.defers } A) :
    WpE Tryz.prog (.rangeFunc g ps assign body) Q a w := by
  refine wpE_range (n := 5) hg eg fun fn hfn => ?_
  obtain ⟨n, hn⟩ : ∃ n, n = w.heap.size := ⟨_, rfl⟩
  obtain ⟨rec, hrec⟩ : ∃ r, r = recL fn a ps assign body n := ⟨_, rfl⟩
  rw [← hn, ← hrec]
  rw [← hn] at hg0 sI sIc sIe sIx sAx h0 hassign hbody hdone hstop hpan
  obtain ⟨W1, hW1⟩ : ∃ x, x = (w.alloc (.deferred (some []))).alloc (.loop (rec .ready none)) := ⟨_, rfl⟩
  rw [← hW1]
  have hL1 : W1.heap[n + 1]? = some (.loop (rec .ready none)) := by
    rw [hW1, hn]
    have := World.alloc_heap_new (w.alloc (.deferred (some []))) (.loop (rec .ready none))
    rwa [World.size_alloc] at this
  have hD1 : W1.heap[n]? = some (.deferred (some [])) := by
    rw [hW1, hn]
    exact (Below.heap_alloc _ _ _ (by simp)).trans (World.alloc_heap_new w _)
  have hB1 : Below w.heap.size w W1 := by
    rw [hW1]
    exact below_alloc2 w _ _
  have hs1 : n + 2 = W1.heap.size := by rw [hW1, hn]; simp
  have hI1 : I 0 W1.heap.size W1 := (sI 0).2 _ _ _ _ h0 hB1 hB1.size
  clear h0
  have roam : ∀ {J : Nat → World → Prop} {o : Obj}, Roam3 fl n J → Roams fl (fun b A => J b A ∧ A.heap[n + 1]? = some o ∧ A.heap[n]? = some (.deferred (some [])) ∧ n + 2 ≤ b) := by
    intro J o hJ
    refine ⟨fun hf b A B h hk => ⟨hJ.1 b b A B h.1 (.inl ⟨hf, rfl⟩) hk, ?_, ?_, h.2.2.2⟩, fun b A B b' h hk hb => ⟨hJ.2 b A B b' h.1 hk hb, ?_, ?_, ?_⟩⟩
    · exact (hk.block _ (get_lt h.2.1) (by have := h.2.2.2; simp; omega)).trans h.2.1
    · exact (hk.block _ (get_lt h.2.2.1) (by have := h.2.2.2; simp; omega)).trans h.2.2.1
    · exact (hk.block _ (get_lt h.2.1)).trans h.2.1
    · exact (hk.block _ (get_lt h.2.2.1)).trans h.2.2.1
    · have := get_lt h.2.1
      omega
  refine (hT (n + 1) (fun i b A => I i b A ∧ A.heap[n + 1]? = some (.loop (rec .ready none)) ∧ A.heap[n]? = some (.deferred (some [])) ∧ n + 2 ≤ b)
    (fun i b A => Ic i b A ∧ A.heap[n + 1]? = some (.loop (rec .ready none)) ∧ A.heap[n]? = some (.deferred (some [])) ∧ n + 2 ≤ b)
    (fun b A => Ie b A ∧ A.heap[n + 1]? = some (.loop (rec .ready none)) ∧ A.heap[n]? = some (.deferred (some [])) ∧ n + 2 ≤ b)
    (fun A => ∃ c, Ix c A ∧ A.heap[n + 1]? = some (.loop (rec .done (some c))) ∧ A.heap[n]? = some (.deferred (some [])))
    (fun ch A => Ip ch A ∧ A.heap[n]? = some (.deferred (some []))) W1 (fun i => roam (sI i)) (fun i => roam (sIc i)) (roam sIe) (fun i b A h => hbox i b A h.1) ?_ ?_ ?_ ⟨hI1, hL1, hD1, by omega⟩).mono ?_
  · rintro i b A hi ⟨h1, h2, h3, h4⟩
    refine (hcall i b A hi h1).mono ?_
    rintro e B ⟨he, hc, hk⟩
    exact ⟨he, ⟨hc, (hk.block _ (get_lt h2) (by simp; omega)).trans h2, (hk.block _ (get_lt h3) (by simp; omega)).trans h3, h4⟩, hk.size, fun _ hb => hk.block _ hb (by simp; omega)⟩
  · rintro b A ⟨h1, h2, h3, h4⟩
    refine (hend b A h1).mono ?_
    rintro e B ⟨he, hc, hk⟩
    exact ⟨he, ⟨hc, (hk.block _ (get_lt h2) (by simp; omega)).trans h2, (hk.block _ (get_lt h3) (by simp; omega)).trans h3, h4⟩, hk.size, fun _ hb => hk.block _ hb (by simp; omega)⟩
  · rintro i b A hi ⟨h1, h2, h3, h4⟩ hfb
    have hy := run_yield (P := Tryz.prog) (args := encs i) h2 (by rw [hrec]; exact hps i)
    rw [hrec] at hy
    refine ⟨fn, _, assign, body, hy, round_of_walk hfn (hassign (n + 1) i b A _ rfl (get_lt h2) hi h1 ?_)⟩
    clear hy
    intro a' B hB hax
    have hl := (hB.block _ (get_lt h2)).trans h2
    have hd := (hB.block _ (get_lt h3)).trans h3
    have hlt := get_lt hl
    refine ⟨_, run_beginRound hl (by rw [hrec]), ?_⟩
    have hl2 : (B.putObj (n + 1) (.loop { rec .ready none with state := .busy })).heap[n + 1]? = some (.loop { rec .ready none with state := .busy }) := World.putObj_heap_same hlt
    have hd2 : (B.putObj (n + 1) (.loop { rec .ready none with state := .busy })).heap[n]? = some (.deferred (some [])) := (World.putObj_heap_other (by omega)).trans hd
    have hz2 : (B.putObj (n + 1) (.loop { rec .ready none with state := .busy })).heap.size = B.heap.size := World.putObj_size
    have hbk : b < A.heap.size → (B.putObj (n + 1) (.loop { rec .ready none with state := .busy })).heap[b]? = A.heap[b]? := fun hb => (World.putObj_heap_other (by omega)).trans (hB.block _ hb)
    have hax2 := sAx i b a' _ (B.putObj (n + 1) (.loop { rec .ready none with state := .busy })) hax (keeps_put _)
    obtain ⟨C, hC⟩ : ∃ x, x = B.putObj (n + 1) (.loop { rec .ready none with state := .busy }) := ⟨_, rfl⟩
    rw [← hC] at hl2 hd2 hz2 hax2 hbk ⊢
    have hsz := hB.size
    refine wpIn_mono (hbody (n + 1) i b a' C rfl (by omega) ⟨h4, fun hf => by have := hfb hf; omega⟩ hi hax2) ?_
    have fin : ∀ (jump : Option Code) (D : World), Same3 fl n b C D → (Instr.endRound (n + 1) jump).run Tryz.prog D = .ok (.bool jump.isNone) (D.putObj (n + 1) (.loop (rec (if jump.isNone then .ready else .done) jump))) ∧
        (D.putObj (n + 1) (.loop (rec (if jump.isNone then .ready else .done) jump))).heap[n + 1]? = some (.loop (rec (if jump.isNone then .ready else .done) jump)) ∧
        (D.putObj (n + 1) (.loop (rec (if jump.isNone then .ready else .done) jump))).heap[n]? = some (.deferred (some [])) := fun jump D hD => by
      have hl3 := (hD.2 (n + 1) (.inr (.inl rfl)) (by omega)).trans hl2
      have := run_endRound (P := Tryz.prog) jump hl3
      rw [hrec] at this ⊢
      exact ⟨this, World.putObj_heap_same (get_lt hl3), (World.putObj_heap_other (by omega)).trans ((hD.2 n (.inl rfl) (get_lt hd2)).trans hd2)⟩
    rintro e a3 D hp
    cases e with
    | normal =>
      obtain ⟨hS, hi3⟩ := hp
      obtain ⟨hr, hl4, hd4⟩ := fin none D hS
      refine ⟨_, _, hr, .inl ⟨rfl, ⟨(sI (i + 1)).1 b (n + 1) _ _ hi3 (.inr (.inr rfl)) (keeps_put _), hl4, hd4, h4⟩, ?_, fun hf hb => ?_⟩⟩
      · have := hS.1
        simp
        omega
      · exact (World.putObj_heap_other (by omega)).trans ((hS.2 b (.inr (.inr ⟨hf, rfl⟩)) (by omega)).trans (hbk hb))
    | ret =>
      obtain ⟨hS, hi3⟩ := hp
      obtain ⟨hr, hl4, hd4⟩ := fin (some .ret) D hS
      exact ⟨_, _, hr, .inr (.inl ⟨rfl, .ret, sIx _ _ _ hi3 (keeps_put _), hl4, hd4⟩)⟩
    | exit id =>
      obtain ⟨hS, hi3⟩ := hp
      obtain ⟨hr, hl4, hd4⟩ := fin (some (.exit id)) D hS
      exact ⟨_, _, hr, .inr (.inl ⟨rfl, .exit id, sIx _ _ _ hi3 (keeps_put _), hl4, hd4⟩)⟩
    | panic ch =>
      obtain ⟨hS, hdd, hi3⟩ := hp
      exact ⟨hdd, .inr (.inr ⟨ch, rfl, hi3, (hS.2 n (.inl rfl) (get_lt hd2)).trans hd2⟩)⟩
    | goto t => exact hp.elim
    | outgrown => exact hp.elim
  · rintro e B (⟨⟨v, rfl⟩, ⟨b, h1, h2, h3, h4⟩ | ⟨c, h1, h2, h3⟩⟩ | ⟨ch, rfl, h1, h2⟩)
    · exact ⟨none, _, by have := run_endLoop (P := Tryz.prog) h2 (by rw [hrec]; simp); rw [hrec] at this; exact this, hdone n b _ rfl (sIe.1 b (n + 1) _ _ h1 (.inr (.inr rfl)) (keeps_put _)) ((World.putObj_heap_other (by omega)).trans h3)⟩
    · exact ⟨some c, _, by have := run_endLoop (P := Tryz.prog) h2 (by rw [hrec]; simp); rw [hrec] at this; exact this, hstop n c _ rfl (sIx _ _ _ h1 (keeps_put _)) ((World.putObj_heap_other (by omega)).trans h3)⟩
    · exact hpan n ch _ rfl h1 h2

end Go.Proofs.YtaaabmnaindgaaaGreatDoor

/-
  store.survey's deferred function; how a call leaves behind a range over a function and a deferred one.
-/
namespace Go.Proofs.YtaaabmnaindgaaaGreatDoor
set_option maxRecDepth 100000
open Go.RowKit
variable {P : Program} {Q : Exit → Act → World → Prop} {a : Act} {w : World}

theorem wpE_block {id : Nat} {c : Code} (h : WpE P c (Exit.inBlock id Q) a w) : WpE P (.block id c) Q a w := by
  intro b k cs hro hb
  have h0 : (lone (b.atR a (.code (.block id c) :: k)) cs w).fenced P Fence.wide := fenced_any rfl
  obtain ⟨e, a1, w1, hq, harr⟩ := h b (.inBlock id :: k) cs hro hb
  have hp : (Item.inBlock id).plain = true ∨ True := .inr trivial
  cases e with
  | normal => exact ⟨.normal, a1, w1, hq, .head h0 stepR_block (StepsIn.trans harr (.one (fenced_any rfl) stepR_inBlock))⟩
  | exit id' =>
    by_cases hid : id' = id
    · subst hid
      simp only [Exit.inBlock, if_true] at hq
      exact ⟨.normal, a1, w1, hq, .head h0 stepR_block (harr.1 k (by simp [exitTo]))⟩
    · simp only [Exit.inBlock, hid, if_false] at hq
      have hx : exitTo id' (.inBlock id :: k) = exitTo id' k := by
        have : (id == id') = false := by simpa using fun h => hid h.symm
        simp [exitTo, this]
      exact ⟨.exit id', a1, w1, hq, .of_steps (.one h0 stepR_block) ⟨fun k' hk => harr.1 k' (by rw [hx]; exact hk), fun hr => by rw [hro] at hr; cases hr⟩⟩
  | goto l => exact ⟨.goto l, a1, w1, hq, .of_steps (.one h0 stepR_block) ⟨fun k' hk => harr.1 k' (by simpa [gotoIn] using hk), fun hr => by rw [hro] at hr; cases hr⟩⟩
  | ret => exact ⟨.ret, a1, w1, hq, .of_steps (.one h0 stepR_block) ⟨harr.1, fun hr => by rw [hro] at hr; cases hr⟩⟩
  | panic ch => exact ⟨.panic ch, a1, w1, hq, .of_steps (.one h0 stepR_block) harr⟩
  | outgrown => exact ⟨.outgrown, a1, w1, hq, .of_steps (.one h0 stepR_block) harr⟩

/-- A mark behind a range over a function: no call was deferred in its rounds. -/
theorem leavesM_mark {n D : Nat} {fn : Func} {tmps : Array Value} {R : Ending → World → Prop} {ds : List Deferred} {u : FrameMode} {w : World} (hu : u ≠ .run) (hD : w.heap[D]? = some (.deferred (some []))) (h : LeavesInM Fence.wide n P fn tmps R ds u (w.putObj D (.deferred none))) :
    LeavesInM Fence.wide n P fn tmps R ({ target := .collected D, args := #[] } :: ds) u w := ⟨hu, .inl ⟨_, _, rfl, run_takeDeferred hD, h⟩⟩
/-- One deferred call. -/
theorem leavesM_cons {n : Nat} {fn : Func} {tmps : Array Value} {R : Ending → World → Prop} {fv : Fn} {cap dargs : Array Value} {ds : List Deferred} {u : FrameMode} {w : World} {f : FuncId} {args : Array Value} (hu : u ≠ .run) (hi : (invoke (.fn fv cap) dargs).run P w = .ok (.enter f args) w)
    (h : CallsDIn Fence.wide (n - 1) P f args u w fun
      | .returned _, u', w' => LeavesInM Fence.wide n P fn tmps R ds (settle u') w'
      | .panicked chain, u', w' => LeavesInM Fence.wide n P fn tmps R ds (raised u' chain) w'
      | .outgrown, _, w' => R .outgrown w') :
    LeavesInM Fence.wide n P fn tmps R ({ target := .fn fv cap, args := dargs } :: ds) u w := ⟨hu, .inr ⟨fun h => by simp [Fence.wide] at h, fv, cap, f, args, rfl, hi, fun _ _ => trivial, h⟩⟩

theorem catchS_panicking (n g q : Nat) (x : Int) (y : Bool) (u : TypeId) (pv : Value) (older : List PanicEntry) (w : World) (hc : Boxed w g 3 (.int .i64 x)) (hq : Boxed w q 4 (.bool y)) (hne : g ≠ q) :
    CallsDIn Fence.wide n Tryz.prog 81 #[.pointer (some ⟨g, 0, none⟩), .pointer (some ⟨q, 0, none⟩)] (.panicking ({ v := .iface u pv, recovered := false } :: older)) w fun e u' w' =>
      e = .returned (.tuple #[]) ∧ u' = .panicking ({ v := .iface u pv, recovered := true } :: older) ∧ w' = (w.setCell ⟨g, 0, none⟩ (.int .i64 0)).setCell ⟨q, 0, none⟩ (.bool false) := by
  have c0 := hc.cell
  have f0 := hc.frozen
  have hq2 := hq.other hne.symm (.int .i64 0)
  have c1 := hq2.cell
  have f1 := hq2.frozen
  refine callsDIn_of_wpSIn Tryz.func81 rfl trivial fun c₀ cs hu => ?_
  apply wpSIn_seq
  apply wpSIn_region
  simp [wpOpsSIn, go_sem, recoverD, hu, Tryz.ntmps81, Exit.thenS]
  refine wpSIn_cond (t := true) (by simp [Act.eval, Array.replicate]) ?_
  simp only [if_true]
  apply wpSIn_region
  simp [wpOpsSIn, go_sem, c0, f0, c1, f1, bodyPostS, results, Tryz.results81]

theorem catchS_idle (n : Nat) (g q : Addr) (w : World) :
    CallsDIn Fence.wide n Tryz.prog 81 #[.pointer (some g), .pointer (some q)] .returning w fun e u' w' => e = .returned (.tuple #[]) ∧ u' = .returning ∧ w' = w := by
  refine callsDIn_of_wpSIn Tryz.func81 rfl trivial fun c₀ cs hu => ?_
  apply wpSIn_seq
  apply wpSIn_region
  simp [wpOpsSIn, go_sem, recoverD, hu, Tryz.ntmps81, Exit.thenS]
  refine wpSIn_cond (t := false) (by simp [Act.eval, Array.replicate]) ?_
  simp only [Bool.false_eq_true, if_false]
  refine wpSIn_of_wpIn rfl (wpIn_skip ?_)
  cases c₀
  simp_all [bodyPostS, results, Tryz.results81]

/-- Both results of survey. -/
theorem sv_results (b0 : Nat) (x y : Value) (tmps : Array Value) (Z : World) (h2 : tmps.getD 2 undef = .pointer (some ⟨b0, 0, none⟩)) (h3 : tmps.getD 3 undef = .pointer (some ⟨b0 + 1, 0, none⟩)) (hx : Boxed Z b0 3 x) (hy : Boxed Z (b0 + 1) 4 y) :
    (results Tryz.f52 tmps).run Tryz.prog Z = .ok (.tuple #[x, y]) Z := by
  have c0 := hx.cell
  have c1 := hy.cell
  have h2' : tmps[2]?.getD undef = .pointer (some ⟨b0, 0, none⟩) := by simpa using h2
  have h3' : tmps[3]?.getD undef = .pointer (some ⟨b0 + 1, 0, none⟩) := by simpa using h3
  simp [results, Tryz.results52, h2', h3', go_sem, c0, c1]
theorem sv_ends_ok (b0 D : Nat) (x y : Value) (tmps : Array Value) (R : Ending → World → Prop) (Z : World) (h2 : tmps.getD 2 undef = .pointer (some ⟨b0, 0, none⟩)) (h3 : tmps.getD 3 undef = .pointer (some ⟨b0 + 1, 0, none⟩)) (hx : Boxed Z b0 3 x) (hy : Boxed Z (b0 + 1) 4 y)
    (hD : Z.heap[D]? = some (.deferred (some []))) (hne : b0 + 1 < D) (hR : R (.returned (.tuple #[x, y])) (Z.putObj D (.deferred none))) :
    LeavesInM Fence.wide 6 Tryz.prog Tryz.f52 tmps R [{ target := .collected D, args := #[] }, { target := .fn (.func 81) #[.pointer (some ⟨b0, 0, none⟩), .pointer (some ⟨b0 + 1, 0, none⟩)], args := #[] }] .returning Z := by
  refine leavesM_mark (by simp) hD ?_
  refine leavesM_cons (f := 81) (args := #[.pointer (some ⟨b0, 0, none⟩), .pointer (some ⟨b0 + 1, 0, none⟩)]) (by simp) (by simp [go_sem]) ?_
  refine (catchS_idle _ _ _ _).mono ?_
  rintro e u' w' ⟨rfl, rfl, rfl⟩
  have hk : Keeps D Z (Z.putObj D (.deferred none)) := keeps_put _
  exact ⟨_, sv_results b0 x y tmps _ h2 h3 (hx.kept hk (fun e => by cases e; omega)) (hy.kept hk (fun e => by cases e; omega)), hR⟩
theorem sv_ends_no (b0 D : Nat) (x : Int) (y : Bool) (tmps : Array Value) (R : Ending → World → Prop) (Z : World) (h2 : tmps.getD 2 undef = .pointer (some ⟨b0, 0, none⟩)) (h3 : tmps.getD 3 undef = .pointer (some ⟨b0 + 1, 0, none⟩)) (hx : Boxed Z b0 3 (.int .i64 x)) (hy : Boxed Z (b0 + 1) 4 (.bool y))
    (hD : Z.heap[D]? = some (.deferred (some []))) (hne : b0 + 1 < D) (hR : ∀ Z', Keeps b0 (Z.putObj D (.deferred none)) Z' → ∀ Z'', Keeps (b0 + 1) Z' Z'' → R (.returned (.tuple #[.int .i64 0, .bool false])) Z'') :
    LeavesInM Fence.wide 6 Tryz.prog Tryz.f52 tmps R [{ target := .collected D, args := #[] }, { target := .fn (.func 81) #[.pointer (some ⟨b0, 0, none⟩), .pointer (some ⟨b0 + 1, 0, none⟩)], args := #[] }] (.panicking [thrownV]) Z := by
  have hk : Keeps D Z (Z.putObj D (.deferred none)) := keeps_put _
  have hx1 : Boxed (Z.putObj D (.deferred none)) b0 3 (.int .i64 x) := hx.kept hk (fun e => by cases e; omega)
  have hy1 : Boxed (Z.putObj D (.deferred none)) (b0 + 1) 4 (.bool y) := hy.kept hk (fun e => by cases e; omega)
  refine leavesM_mark (by simp) hD ?_
  refine leavesM_cons (f := 81) (args := #[.pointer (some ⟨b0, 0, none⟩), .pointer (some ⟨b0 + 1, 0, none⟩)]) (by simp) (by simp [go_sem]) ?_
  refine (catchS_panicking _ b0 (b0 + 1) x y 28 (.int .i64 1) [] _ hx1 hy1 (by omega)).mono ?_
  rintro e u' w' ⟨rfl, rfl, rfl⟩
  exact ⟨_, sv_results b0 _ _ tmps _ h2 h3 ((hx1.set (.int .i64 0)).other (by omega) _) ((hy1.other (B' := b0) (by omega) (.int .i64 0)).set (.bool false)), hR _ ((Keeps.refl _ _).set 0 _) _ ((Keeps.refl _ _).set 0 _)⟩

end Go.Proofs.YtaaabmnaindgaaaGreatDoor

/-
  Stores in plain words: a version's place, the files under a path, batches one behind the other. No program is named here.
-/
namespace Go.Proofs.YtaaabmnaindgaaaGreatDoor
set_option maxRecDepth 100000

/-- The version of a path at a time is the first pair that does not stand ahead of both, if it has that path. -/
theorem asOf_tail {U : List Pr} (h : Rises U) (p : List UInt8) (n : Int) : asOf U p n = match tailL U (p, n) with | [] => none | x :: _ => if x.1.1 = p then some x else none := by
  cases ht : tailL U (p, n) with
  | nil =>
    rw [asOf_none]
    intro x hx hp
    have := tail_nil ht x hx
    rw [lessK_eq, hp, less_irrefl] at this
    simpa using this
  | cons y r =>
    obtain ⟨h1, h2, h3, _⟩ := tail_cons h ht
    dsimp only
    by_cases hp : y.1.1 = p
    · rw [if_pos hp, asOf_iff h]
      rw [lessK_eq, hp, less_irrefl] at h2
      refine ⟨h1, hp, by simpa using h2, fun z hz hzp hzn => ?_⟩
      rcases h3 z hz (by rw [lessK_eq, hzp, less_irrefl]; simpa using hzn) with rfl | hl
      · exact Int.le_refl _
      · rw [lessK_eq, hp, hzp, less_irrefl] at hl
        simp at hl
        omega
    · rw [if_neg hp, asOf_none]
      intro z hz hzp
      by_cases hzn : z.1.2 ≤ n
      · rcases h3 z hz (by rw [lessK_eq, hzp, less_irrefl]; simpa using hzn) with rfl | hl
        · exact absurd hzp hp
        · rw [lessK_eq, hzp] at hl
          rw [lessK_eq] at h2
          simp [hp] at hl h2
          rw [hl] at h2
          cases h2
      · omega
/-- A time above all times is as the highest of them. -/
theorem asOf_top {U : List Pr} (h : ∀ x ∈ U, x.1.2 ≤ 1000000000) (p : List UInt8) (n : Int) : asOf U p (min n 1000000000) = asOf U p n := by
  unfold asOf
  induction U with
  | nil => rfl
  | cons x r ih =>
    have h1 := h x (by simp)
    rw [List.find?_cons, List.find?_cons, ih fun y hy => h y (List.mem_cons_of_mem _ hy)]
    have e : decide (x.1.2 ≤ min n 1000000000) = decide (x.1.2 ≤ n) := by
      rw [decide_eq_decide]
      omega
    rw [e]
theorem ver_times {x : Pr} (h : verB x = true) : 0 ≤ x.1.2 ∧ x.1.2 ≤ 1000000000 := by
  unfold verB keyB at h
  simp at h
  omega
theorem st_times {U : List Pr} (h : isSt U = true) : ∀ x ∈ U, 0 ≤ x.1.2 ∧ x.1.2 ≤ 1000000000 ∧ isP x.1.1 = true ∧ x.1.1 ≠ [] ∧ redE x.2 = 0 := by
  intro x hx
  have := List.all_eq_true.1 h x hx
  unfold verB keyB at this
  simp at this
  obtain ⟨⟨⟨h1, h2⟩, h3⟩, h4, h5⟩ := this
  exact ⟨h1, h2, h3, by simpa using h4, h5⟩

/-! ### The files under a path -/

/-- The paths that have a version, each once; of pairs that rise. -/
def pathsL : List Pr → List (List UInt8)
  | [] => []
  | [x] => [x.1.1]
  | x :: y :: r => if x.1.1 = y.1.1 then pathsL (y :: r) else x.1.1 :: pathsL (y :: r)
/-- What is told of a version: its path, its time, its meta; nothing of one that is gone. -/
abbrev En := List UInt8 × Int × Mt
def told (x : Option Pr) : Option En := match x with
  | none => none
  | some x => if redG x.2 then none else some (x.1.1, x.1.2, redM x.2)
def listL (U : List Pr) (d : List UInt8) (n : Int) : List En := ((pathsL U).filter (underOf d)).filterMap fun p => told (asOf U p n)
theorem mem_paths : ∀ (U : List Pr) (p : List UInt8), p ∈ pathsL U ↔ ∃ x ∈ U, x.1.1 = p
  | [], p => by simp [pathsL]
  | [x], p => by simp [pathsL, eq_comm]
  | x :: y :: r, p => by
    have ih := mem_paths (y :: r) p
    rw [pathsL]
    split
    · rename_i e
      rw [ih]
      constructor
      · rintro ⟨z, hz, h⟩
        exact ⟨z, List.mem_cons_of_mem _ hz, h⟩
      · rintro ⟨z, hz, h⟩
        rcases List.mem_cons.1 hz with rfl | hz
        · exact ⟨y, by simp, by rw [← e]; exact h⟩
        · exact ⟨z, hz, h⟩
    · rw [List.mem_cons, ih]
      constructor
      · rintro (rfl | ⟨z, hz, h⟩)
        · exact ⟨x, by simp, rfl⟩
        · exact ⟨z, List.mem_cons_of_mem _ hz, h⟩
      · rintro ⟨z, hz, h⟩
        rcases List.mem_cons.1 hz with rfl | hz
        · exact .inl h.symm
        · exact .inr ⟨z, hz, h⟩
theorem paths_rise : ∀ {U : List Pr}, Rises U → (pathsL U).Pairwise fun a b => Op.bytesLess a b = true
  | [], _ => List.Pairwise.nil
  | [x], _ => by simp [pathsL]
  | x :: y :: r, h => by
    obtain ⟨h1, h2⟩ := List.pairwise_cons.1 h
    have ih := paths_rise h2
    rw [pathsL]
    split
    · exact ih
    · rename_i hne
      refine List.pairwise_cons.2 ⟨fun p hp => ?_, ih⟩
      obtain ⟨z, hz, rfl⟩ := (mem_paths _ _).1 hp
      have hxz := h1 z hz
      rw [lessK_eq, Bool.or_eq_true, Bool.and_eq_true, beq_iff_eq] at hxz
      rcases hxz with hxz | ⟨e, _⟩
      · exact hxz
      · exfalso
        have hxy := h1 y (by simp)
        rw [lessK_eq, Bool.or_eq_true, Bool.and_eq_true, beq_iff_eq] at hxy
        rcases hxy with hxy | ⟨e', _⟩
        · rcases List.mem_cons.1 hz with rfl | hz
          · exact hne e
          · have hyz := (List.pairwise_cons.1 h2).1 z hz
            rw [lessK_eq, Bool.or_eq_true, Bool.and_eq_true, beq_iff_eq] at hyz
            rcases hyz with hyz | ⟨e'', _⟩
            · have := less_trans hxy hyz
              rw [e, less_irrefl] at this
              cases this
            · exact hne (e.trans e''.symm)
        · exact hne e'
/-- List tells just what AsOf tells of the paths under one. -/
theorem mem_list {U : List Pr} (h : Rises U) {d : List UInt8} {n : Int} {e : En} : e ∈ listL U d n ↔ underOf d e.1 = true ∧ told (asOf U e.1 n) = some e := by
  unfold listL
  rw [List.mem_filterMap]
  constructor
  · rintro ⟨p, hp, ht⟩
    obtain ⟨_, hu⟩ := List.mem_filter.1 hp
    have hpe : p = e.1 := by
      cases ha : asOf U p n with
      | none => rw [ha] at ht; cases ht
      | some x =>
        rw [ha] at ht
        unfold told at ht
        dsimp only at ht
        split at ht
        · cases ht
        · cases ht
          exact ((asOf_iff h).1 ha).2.1.symm
    subst hpe
    exact ⟨hu, ht⟩
  · rintro ⟨hu, ht⟩
    refine ⟨e.1, List.mem_filter.2 ⟨?_, hu⟩, ht⟩
    cases ha : asOf U e.1 n with
    | none => rw [ha] at ht; cases ht
    | some x =>
      obtain ⟨h1, h2, _⟩ := (asOf_iff h).1 ha
      exact (mem_paths _ _).2 ⟨x, h1, h2⟩

end Go.Proofs.YtaaabmnaindgaaaGreatDoor

/-
  cursor: a cursor whose tree lies below, and what was made between the tree and it may be written.
-/
namespace Go.Proofs.YtaaabmnaindgaaaGreatDoor
set_option maxRecDepth 100000
open Go.RowKit

/-- What a cursor needs lies below wt, and from lo on to the cursor's own block. -/
def BaseH (wt : World) (lo g : Nat) (A : World) (L : List Pr) (S : List Spn) (P : List UInt8 → Bool) (tv sv pv : Value) : Prop :=
  ∀ W, Below wt.heap.size wt W → g ≤ W.heap.size → (∀ j, lo ≤ j → j < g → W.heap[j]? = A.heap[j]?) → Base W L S P tv sv pv
def CurH (wt : World) (lo : Nat) (A : World) (g : Nat) (U : List Pr) (i : Nat) : Prop :=
  ∃ (L : List Pr) (S : List Spn) (P : List UInt8 → Bool) (tv sv pv : Value) (k : Ky), BaseH wt lo g A L S P tv sv pv ∧ SpsRise S ∧ TimesK L ∧ L.length ≤ 1000 ∧ (∀ x ∈ L, x.1.1.length ≤ 1000) ∧ S.length ≤ 1000 ∧ U = cuL L S P ∧ Below wt.heap.size wt A ∧ wt.heap.size ≤ lo ∧ lo ≤ g ∧ CBox A g tv sv pv k ∧ placeN U k = i
theorem BaseH.same {wt A B : World} {lo g : Nat} {L : List Pr} {S : List Spn} {P : List UInt8 → Bool} {tv sv pv : Value} (h : BaseH wt lo g A L S P tv sv pv) (hs : ∀ j, lo ≤ j → j < g → B.heap[j]? = A.heap[j]?) : BaseH wt lo g B L S P tv sv pv :=
  fun W h1 h2 h3 => h W h1 h2 fun j hj hj2 => (h3 j hj hj2).trans (hs j hj hj2)
/-- A block of what lies between, or behind, is written. -/
theorem CurH.hole {wt A B : World} {lo g k : Nat} {U : List Pr} {i : Nat} (h : CurH wt lo A g U i) (hk : Keeps k A B) (h1 : wt.heap.size ≤ k) (h2 : k < lo ∨ g < k) : CurH wt lo B g U i := by
  obtain ⟨L, S, P, tv, sv, pv, k0, b1, b2, b3, b4, b5, b6, b7, b8, b9, b10, b11, b12⟩ := h
  have hg := Cx.lt b11
  exact ⟨L, S, P, tv, sv, pv, k0, b1.same fun j hj hj2 => hk.block j (by omega) (fun e => by cases e; omega), b2, b3, b4, b5, b6, b7, hk.on b8 h1 b8.size, b9, b10, Cx.keeps b11 (by omega) hk, b12⟩
theorem CurH.other {wt A B : World} {lo g k : Nat} {U : List Pr} {i : Nat} (h : CurH wt lo A g U i) (hk : Keeps k A B) (h1 : g ≠ k) (h2 : g ≤ k) : CurH wt lo B g U i := by
  have hl : wt.heap.size ≤ g := by
    obtain ⟨L, S, P, tv, sv, pv, k0, b1, b2, b3, b4, b5, b6, b7, b8, b9, b10, _⟩ := h
    omega
  exact h.hole hk (by omega) (by omega)
theorem CurH.below {wt A B : World} {lo g : Nat} {U : List Pr} {i : Nat} (h : CurH wt lo A g U i) (hb : Below A.heap.size A B) : CurH wt lo B g U i := by
  obtain ⟨L, S, P, tv, sv, pv, k0, b1, b2, b3, b4, b5, b6, b7, b8, b9, b10, b11, b12⟩ := h
  have hg := Cx.lt b11
  exact ⟨L, S, P, tv, sv, pv, k0, b1.same fun j hj hj2 => hb.block j (by omega), b2, b3, b4, b5, b6, b7, below2 b8 (hb.mono (Nat.le_refl _)), b9, b10, b11.below hb, b12⟩
theorem CurH.set {wt A : World} {lo g : Nat} {U : List Pr} {i : Nat} (h : CurH wt lo A g U i) (k : Ky) : CurH wt lo ((A.setCell ⟨g, 1, none⟩ (.string ⟨k.1.toArray⟩)).setCell ⟨g, 2, none⟩ (.int .i64 k.2)) g U (placeN U k) := by
  obtain ⟨L, S, P, tv, sv, pv, k0, b1, b2, b3, b4, b5, b6, b7, b8, b9, b10, b11, b12⟩ := h
  have hg := Cx.lt b11
  have hk : Keeps g A ((A.setCell ⟨g, 1, none⟩ (.string ⟨k.1.toArray⟩)).setCell ⟨g, 2, none⟩ (.int .i64 k.2)) := (Keeps.refl g A).set2 _ _
  exact ⟨L, S, P, tv, sv, pv, k, b1.same fun j hj hj2 => hk.block j (by omega) (fun e => by cases e; omega), b2, b3, b4, b5, b6, b7, hk.on b8 (by omega) b8.size, b9, b10, b11.set k, rfl⟩
theorem CurH.cells {wt w : World} {lo g : Nat} {U : List Pr} {i : Nat} (h : CurH wt lo w g U i) : ∃ k : Ky, w.cell? ⟨g, 1, none⟩ = some (.string ⟨k.1.toArray⟩) ∧ w.cell? ⟨g, 2, none⟩ = some (.int .i64 k.2) ∧ w.frozen? ⟨g, 1, none⟩ = false ∧ w.frozen? ⟨g, 2, none⟩ = false ∧ g < w.heap.size := by
  obtain ⟨L, S, P, tv, sv, pv, k, b1, b2, b3, b4, b5, b6, b7, b8, b9, b10, b11, b12⟩ := h
  obtain ⟨_, c1, c2, _, _, f1, f2, hl⟩ := b11.cells
  exact ⟨k, c1, c2, f1, f2, hl⟩
theorem CurH.facts {wt w : World} {lo g : Nat} {U : List Pr} {i : Nat} (h : CurH wt lo w g U i) : Rises U ∧ TimesK U ∧ U.length ≤ 1000 ∧ (∀ x ∈ U, x.1.1.length ≤ 1000) ∧ i ≤ U.length ∧ wt.heap.size ≤ g ∧ Below wt.heap.size wt w := by
  obtain ⟨L, S, P, tv, sv, pv, k, b1, b2, b3, b4, b5, b6, rfl, b8, b9, b10, b11, b12⟩ := h
  refine ⟨?_, b3.cuL S P, Nat.le_trans (cuL_le L S P) b4, fun x hx => b5 x (mem_cuL.1 hx).1, b12 ▸ placeN_le _ _, by omega, b8⟩
  exact cuL_rises (b1 w b8 (Nat.le_of_lt (Cx.lt b11)) (fun _ _ _ => rfl)).1.1 S P

theorem CurH.lo_le {wt w : World} {lo g : Nat} {U : List Pr} {i : Nat} (h : CurH wt lo w g U i) : lo ≤ g ∧ wt.heap.size ≤ lo := by
  obtain ⟨L, S, P, tv, sv, pv, k, b1, b2, b3, b4, b5, b6, b7, b8, b9, b10, _⟩ := h
  exact ⟨b10, b9⟩
theorem here_curH {wt w : World} {lo g : Nat} {U : List Pr} {i : Nat} (h : CurH wt lo w g U i) :
    Calls Tryz.prog 75 #[.pointer (some ⟨g, 0, none⟩)] w fun e w' => e = .returned (.tuple #[PV (hereP U i), .bool (decide (i < U.length))]) ∧ CurH wt lo w' g U i ∧ Keeps g w w' := by
  obtain ⟨L, S, P, tv, sv, pv, k, b1, b2, b3, b4, b5, b6, rfl, b8, b9, b10, b11, rfl⟩ := h
  have hg := Cx.lt b11
  obtain ⟨wb, hwb⟩ : ∃ x : World, x = { w with heap := w.heap.extract 0 g } := ⟨_, rfl⟩
  have hz : wb.heap.size = g := by rw [hwb]; simp; omega
  have hsm : ∀ j, j < g → wb.heap[j]? = w.heap[j]? := by
    intro j hj
    rw [hwb]
    simp [Array.getElem?_extract]
    omega
  have hbb : Below wb.heap.size wb w := by
    refine ⟨by rw [hwb], by rw [hwb], by rw [hwb], by omega, fun j hj => (hsm j (by omega)).symm⟩
  have hbt : Below wt.heap.size wt wb := by
    refine ⟨by rw [hwb]; exact b8.os, by rw [hwb]; exact b8.tape, by rw [hwb]; exact b8.output, by omega, fun j hj => (hsm j (by omega)).trans (b8.block j hj)⟩
  have hbase := b1 wb hbt (by omega) (fun j _ hj => hsm j hj)
  refine (here_calls wb w L S P tv sv pv g k hbase b2 b3 b4 b5 b6 hbb (by omega) b11).mono ?_
  rintro e w' ⟨k', hp, rfl, hc, hk⟩
  exact ⟨rfl, ⟨L, S, P, tv, sv, pv, k', b1.same fun j hj hj2 => hk.block j (by omega) (fun e => by cases e; omega), b2, b3, b4, b5, b6, rfl, hk.on b8 (by omega) b8.size, b9, b10, hc, hp⟩, hk⟩

set_option maxHeartbeats 8000000 in
theorem hNext_calls {wt w : World} {lo g : Nat} {U : List Pr} {i : Nat} (h : CurH wt lo w g U i) :
    Calls Tryz.prog 50 #[.pointer (some ⟨g, 0, none⟩)] w fun e w' => e = .returned (.tuple #[PV (hereP U i), .bool (decide (i < U.length))]) ∧ CurH wt lo w' g U (nextI U i) ∧ Keeps g w w' := by
  have hB0 := below_alloc w (.cells (pcell (([], 0), [])).toArray 67)
  have hZ := Cx.new w 67 (pcell (([], 0), []))
  have K := Lib.hid (here_curH (h.below hB0))
  obtain ⟨hr, ht, hl, hp, hi, _⟩ := h.facts
  have hgl := h.cells.choose_spec.2.2.2.2
  by_cases hlt : i < U.length
  · have hb : decide (i < U.length) = true := decide_eq_true hlt
    have hx := hereP_lt hlt
    have hnx := next_place hr ht hlt
    have hm := List.getElem_mem hlt
    have htx := ht _ hm
    have hpx := hp _ hm
    have hni : nextI U i = i + 1 := by simp [nextI, hlt]
    rw [hb, hx] at K ⊢
    rw [hni, ← hnx]
    obtain ⟨⟨⟨p, m⟩, s⟩, hxe⟩ : ∃ x, U[i] = x := ⟨_, rfl⟩
    rw [hxe] at K htx hpx ⊢
    have hpl : p.length ≤ 1000 := hpx
    have KB := Lib.hid (fun W => cBehind_calls p m (by omega) htx W)
    have HH := Lib.hid hZ
    clear h hZ hb hx hnx hni hm htx hr ht hp hpx
    go_enter Tryz.func50, Tryz.ntmps50
    go_wp2_with fail
    refine K.out.mono ?_
    rintro e w1 ⟨rfl, hc1, hk1⟩
    have hsz := hk1.size
    rw [World.size_alloc] at hsz
    have HC := Lib.hid (And.intro hc1 (Keeps.start hB0 hk1))
    have HZ1 := Lib.hid (HH.out.keeps (by omega) hk1)
    clear hc1 hk1
    go_wp2_with fail
    refine (KB.out _).mono ?_
    rintro e w2 ⟨rfl, hB2⟩
    have hB3 := below2 (below_alloc w1 (.cells #[.string ⟨p.toArray⟩, .int .i64 m, .string ⟨s.toArray⟩] 67)) hB2
    have hc2 := HC.out.1.below hB3
    obtain ⟨k, c1, c2, f1, f2, hl2⟩ := hc2.cells
    have hs2 := hc2.set (cuBehind (p, m))
    have hX := (Cx.new w1 67 (pcell ((p, m), s))).below hB2
    dsimp only [KV]
    go_upto_region 4 with (fail)
    have hks := (HC.out.2.then hB3).set2 (.string ⟨(cuBehind (p, m)).1.toArray⟩) (.int .i64 (cuBehind (p, m)).2)
    have hX2 := hX.keeps (b := w1.heap.size) (by omega) ((Keeps.refl g _).set2 (.string ⟨(cuBehind (p, m)).1.toArray⟩) (.int .i64 (cuBehind (p, m)).2))
    have hZ2 := (HZ1.out.below hB3).keeps (b := w.heap.size) (by omega) ((Keeps.refl g _).set2 (.string ⟨(cuBehind (p, m)).1.toArray⟩) (.int .i64 (cuBehind (p, m)).2))
    obtain ⟨w3, hw3⟩ : ∃ x, (w2.setCell ⟨g, 1, none⟩ (.string ⟨(cuBehind (p, m)).1.toArray⟩)).setCell ⟨g, 2, none⟩ (.int .i64 (cuBehind (p, m)).2) = x := ⟨_, rfl⟩
    rw [hw3] at hks hX2 hZ2 hs2 ⊢
    have HF := Lib.hid (And.intro hks hs2)
    obtain ⟨x0, x1, x2, _⟩ := Cx.three hX2
    obtain ⟨z0, z1, z2, y0, y1, y2, hl3⟩ := Cx.three hZ2
    clear hw3 hks hs2 hX hc2 c1 c2 f1 f2 hl2 hX2
    go_wp2_with fail
    have hcr : Cx (((w3.setCell ⟨w.heap.size, 0, none⟩ (.string ⟨p.toArray⟩)).setCell ⟨w.heap.size, 1, none⟩ (.int .i64 m)).setCell ⟨w.heap.size, 2, none⟩ (.string ⟨s.toArray⟩)) w.heap.size 67 (pcell ((p, m), s)) := ((hZ2.set 0 _).set 1 _).set 2 _
    refine ret_pair2 (p := 2) (q := 3) (by kernel_rfl) rfl w.heap.size ((p, m), s) _ rfl rfl hcr ?_
    exact ⟨rfl, HF.out.2.other ((((Keeps.refl w.heap.size w3).set 0 _).set 1 _).set 2 _) (by omega) (by omega), ((HF.out.1.other (Nat.le_refl _) 0 _).other (Nat.le_refl _) 1 _).other (Nat.le_refl _) 2 _⟩
  · have hb : decide (i < U.length) = false := decide_eq_false hlt
    have hx : hereP U i = (([], 0), []) := hereP_none (by omega)
    have hni : nextI U i = i := by simp [nextI, hlt]
    rw [hb, hx] at K ⊢
    rw [hni]
    have HH := Lib.hid hZ
    clear h hZ hb hx hni hr ht hp
    go_enter Tryz.func50, Tryz.ntmps50
    go_wp2_with fail
    refine K.out.mono ?_
    rintro e w1 ⟨rfl, hc1, hk1⟩
    have hsz := hk1.size
    rw [World.size_alloc] at hsz
    have HC := Lib.hid (And.intro hc1 (Keeps.start hB0 hk1))
    have HZ1 := (HH.out.keeps (by omega) hk1).below (below_alloc w1 (.cells #[.string ⟨#[]⟩, .int .i64 0, .string ⟨#[]⟩] 67))
    clear hc1 hk1
    obtain ⟨z0, z1, z2, y0, y1, y2, hl3⟩ := Cx.three HZ1
    go_wp2_with fail
    obtain ⟨w3, hw3⟩ : ∃ x, w1.alloc (.cells #[.string ⟨#[]⟩, .int .i64 0, .string ⟨#[]⟩] 67) = x := ⟨_, rfl⟩
    have hB3 := below_alloc w1 (.cells #[.string ⟨#[]⟩, .int .i64 0, .string ⟨#[]⟩] 67)
    rw [hw3] at HZ1 hB3 ⊢
    have hcr : Cx (((w3.setCell ⟨w.heap.size, 0, none⟩ (.string ⟨#[]⟩)).setCell ⟨w.heap.size, 1, none⟩ (.int .i64 0)).setCell ⟨w.heap.size, 2, none⟩ (.string ⟨#[]⟩)) w.heap.size 67 (pcell (([], 0), [])) := ((HZ1.set 0 _).set 1 _).set 2 _
    refine ret_pair2 (p := 2) (q := 3) (by kernel_rfl) rfl w.heap.size (([], 0), []) _ rfl rfl hcr ?_
    exact ⟨rfl, (HC.out.1.below hB3).other ((((Keeps.refl w.heap.size w3).set 0 _).set 1 _).set 2 _) (by omega) (by omega), (((HC.out.2.then hB3).other (Nat.le_refl _) 0 _).other (Nat.le_refl _) 1 _).other (Nat.le_refl _) 2 _⟩

set_option maxHeartbeats 8000000 in
theorem hSkip_calls {wt w : World} {lo g : Nat} {U : List Pr} {i : Nat} (h : CurH wt lo w g U i) :
    Calls Tryz.prog 47 #[.pointer (some ⟨g, 0, none⟩)] w fun e w' => e = .returned (.tuple #[.string ⟨(hereP U i).1.1.toArray⟩, .bool (decide (i < U.length))]) ∧ CurH wt lo w' g U (skipI U i) ∧ Keeps g w w' := by
  have K := Lib.hid (here_curH h)
  obtain ⟨hr, ht, hl, hp, hi, _⟩ := h.facts
  by_cases hlt : i < U.length
  · have hb : decide (i < U.length) = true := decide_eq_true hlt
    have hx := hereP_lt hlt
    have hpx := hp _ (List.getElem_mem hlt)
    have hni : skipI U i = placeN U (cuPast (hereP U i).1.1) := by simp [skipI, hlt]
    rw [hx] at hni
    rw [hb, hx] at K ⊢
    rw [hni]
    obtain ⟨⟨⟨p, m⟩, s⟩, hxe⟩ : ∃ x, U[i] = x := ⟨_, rfl⟩
    rw [hxe] at K hpx ⊢
    have hpl : p.length ≤ 1000 := hpx
    have KB := Lib.hid (fun W => cPast_calls p (by omega) W)
    clear h hb hx hni hr ht hp hpx
    go_enter Tryz.func47, Tryz.ntmps47
    go_wp2_with fail
    refine K.out.mono ?_
    rintro e w1 ⟨rfl, hc1, hk1⟩
    have HC := Lib.hid (And.intro hc1 hk1)
    clear hc1 hk1
    go_wp2_with fail
    refine (KB.out _).mono ?_
    rintro e w2 ⟨rfl, hB2⟩
    have hB3 := below2 (below_alloc w1 (.cells #[.string ⟨p.toArray⟩, .int .i64 m, .string ⟨s.toArray⟩] 67)) hB2
    have hc2 := HC.out.1.below hB3
    have hgl1 := HC.out.1.cells.choose_spec.2.2.2.2
    obtain ⟨k, c1, c2, f1, f2, hl2⟩ := hc2.cells
    have hs2 := hc2.set (cuPast p)
    have hX := (Cx.new w1 67 (pcell ((p, m), s))).below hB2
    go_upto_region 4 with (fail)
    have hks := (HC.out.2.then hB3).set2 (.string ⟨(cuPast p).1.toArray⟩) (.int .i64 (cuPast p).2)
    have hX2 := hX.keeps (b := w1.heap.size) (by omega) ((Keeps.refl g _).set2 (.string ⟨(cuPast p).1.toArray⟩) (.int .i64 (cuPast p).2))
    obtain ⟨w3, hw3⟩ : ∃ x, (w2.setCell ⟨g, 1, none⟩ (.string ⟨(cuPast p).1.toArray⟩)).setCell ⟨g, 2, none⟩ (.int .i64 (cuPast p).2) = x := ⟨_, rfl⟩
    rw [hw3] at hks hX2 hs2
    change (w2.setCell ⟨g, 1, none⟩ (.string ⟨(p ++ [0]).toArray⟩)).setCell ⟨g, 2, none⟩ (.int .i64 9223372036854775807) = w3 at hw3
    rw [hw3]
    have HF := Lib.hid (And.intro hks hs2)
    obtain ⟨x0, x1, x2, _⟩ := Cx.three hX2
    clear hw3 hks hs2 hX hc2 c1 c2 f1 f2 hl2 hX2
    go_wp2_with fail
    go_ret2
    exact ⟨rfl, HF.out.2, HF.out.1⟩
  · have hb : decide (i < U.length) = false := decide_eq_false hlt
    have hx : hereP U i = (([], 0), []) := hereP_none (by omega)
    have hni : skipI U i = i := by simp [skipI, hlt]
    rw [hb, hx] at K ⊢
    rw [hni]
    clear h hb hx hni hr ht hp
    go_enter Tryz.func47, Tryz.ntmps47
    go_wp2_with fail
    refine K.out.mono ?_
    rintro e w1 ⟨rfl, hc1, hk1⟩
    have HC := Lib.hid (And.intro hc1 hk1)
    clear hc1 hk1
    go_wp2_with fail
    go_ret2
    exact ⟨rfl, HC.out.1.below (below_alloc _ _), HC.out.2.then (below_alloc _ _)⟩

set_option maxHeartbeats 4000000 in
theorem hSeek_calls {wt w : World} {lo g : Nat} {U : List Pr} {i : Nat} (h : CurH wt lo w g U i) (k : Ky) :
    Calls Tryz.prog 49 #[.pointer (some ⟨g, 0, none⟩), KV k] w fun e w' => e = .returned (.tuple #[]) ∧ CurH wt lo w' g U (placeN U k) ∧ Keeps g w w' := by
  obtain ⟨k0, c1, c2, f1, f2, hl2⟩ := h.cells
  have HC := Lib.hid (And.intro (h.set k) ((Keeps.refl g w).set2 (.string ⟨k.1.toArray⟩) (.int .i64 k.2)))
  clear h
  dsimp only [KV]
  go_enter Tryz.func49, Tryz.ntmps49
  go_wp2_with fail
  go_end0
  exact ⟨rfl, HC.out.1.below (below_alloc _ _), HC.out.2.then (below_alloc _ _)⟩

theorem sps_same {w W : World} {b n cap : Nat} {S : List Spn} (h : Sps w (.slice (some ⟨b, 0, none⟩) n cap) S) (hs : b < w.heap.size → W.heap[b]? = w.heap[b]?) : Sps W (.slice (some ⟨b, 0, none⟩) n cap) S := by
  obtain ⟨hl, ao, cp, he, hc, h | ⟨b', off, rfl, hcs⟩⟩ := h
  · exact ⟨hl, ao, cp, he, hc, .inl h⟩
  · cases he
    refine ⟨hl, _, _, rfl, hc, .inr ⟨_, _, rfl, fun j hj => ?_⟩⟩
    have h1 := hcs j hj
    have h2 := hs (World.block_lt_of_cell? w _ h1)
    unfold World.cell? at h1 ⊢
    dsimp only at h1 ⊢
    rw [h2]
    exact h1

set_option maxHeartbeats 4000000 in
theorem hNew_calls (tv : Value) (L : List Pr) (d : List UInt8) (wt w : World) (htt : TreeV wt tv L) (hbt : Below wt.heap.size wt w) (hmt : Ml wt) (hti : TimesK L) (hm : L.length ≤ 1000) (hp : ∀ x ∈ L, x.1.1.length ≤ 1000) (hd : d.length ≤ 1000) (hi : isP d = true) :
    Calls Tryz.prog 45 #[tv, .string ⟨d.toArray⟩] w fun e w' => ∃ g, e = .returned (.tuple #[.pointer (some ⟨g, 0, none⟩), .int .i64 0]) ∧ CurH wt w.heap.size w' g (underL L d) 0 ∧ Below w.heap.size w w' := by
  have ht := htt.below hbt
  have hml := hmt.below hbt
  have HT := Lib.hid (And.intro htt (And.intro hbt hmt))
  have hB0 := below_alloc w (.cells #[.string ⟨d.toArray⟩] 9)
  have KI := Lib.hid (is_calls d (by omega) _ (hml.below hB0))
  rw [hi] at KI
  have KF := Lib.hid (fun W => cFirst_calls d W)
  have KS := Lib.hid (fun W => spansN_calls d hd W)
  have hz := Cx.new w 9 [.string ⟨d.toArray⟩]
  obtain ⟨tp, rfl⟩ := ht.val
  have HH := Lib.hid (And.intro ht (And.intro hti (And.intro hml (And.intro hp (And.intro hz hB0)))))
  clear ht hti hml hp hz hB0 hi htt hbt hmt
  go_enter Tryz.func45, Tryz.ntmps45
  go_wp2_with fail
  refine KI.out.mono ?_
  rintro e w1 ⟨rfl, hB1⟩
  have hbr : Below w1.heap.size w1 w1.drew := drew_below _
  have HS : Hid (∀ W, Below w1.heap.size w1 W → W.cell? ⟨w.heap.size, 0, none⟩ = some (.string ⟨d.toArray⟩)) :=
    Lib.hid (fun W hB => (HH.out.2.2.2.2.1.below (below2 hB1 hB)).cell rfl)
  go_wp2_with fail
  go_region_held3 (fun w' => w'.cell? ⟨w.heap.size, 0, none⟩ = some (.string ⟨d.toArray⟩)) (first | exact HS.out _ hbr | exact HS.out _ (hbr.alloc hbr.size _)) (first
    | ((with_reducible refine (KF.out _).mono ?_); rintro e w2 ⟨rfl, hB2⟩; have hbr := below2 hbr hB2; (try have HSP := Lib.hid (And.intro (HSP.out.1.below hB2) HSP.out.2)); obtain ⟨wf, hwf⟩ : ∃ x, x = w2 := ⟨_, rfl⟩)
    | ((with_reducible refine (KS.out _).mono ?_); rintro e w3 ⟨aS, cS, rfl, ⟨hsp, bS, rfl, hbS⟩, hB3⟩; have hbS2 := Nat.le_trans hbr.size hbS; have hbr := below2 hbr hB3; have HSP := Lib.hid (And.intro hsp hbS2); clear hsp; obtain ⟨wf, hwf⟩ : ∃ x, x = w3 := ⟨_, rfl⟩))
  all_goals
    obtain ⟨i1, i2, i3, i4, i5, i6⟩ := HH.out
    rw [← hwf] at HSP hbr ⊢
    have hB9 : Below w.heap.size w wf := below2 i6 (below2 hB1 hbr)
    obtain ⟨t1, t2, t3⟩ := HT.out
    have hdc := HS.out _ hbr
    have hsz := hB9.size
    have hlt := hbS2
    have hza : (w.alloc (.cells #[.string ⟨d.toArray⟩] 9)).heap.size = w.heap.size + 1 := by simp
    have hs1 := hB1.size
    have hs2 := hbr.size
    have hss := HSP.out.1
    have hcu : CurH wt w.heap.size (wf.alloc (.cells #[.pointer tp, .string ⟨d.toArray⟩, .int .i64 9223372036854775807, .slice (some ⟨bS, 0, none⟩) (spansOf d).length cS, .func (.func 70) #[] #[.pointer (some ⟨w.heap.size, 0, none⟩)]] 135)) wf.heap.size (underL L d) 0 := by
      refine ⟨L, spansOf d, underOf d, _, _, _, cuFirst d, fun W hb1 hb2 hb3 => ?_, spans_rise d, i2, hm, i4, by unfold spansOf; split <;> simp, (cuL_under i2 d).symm, below2 t2 (below2 hB9 (below_alloc _ _)), t2.size, hB9.size, CBox.new wf _ _ _ (cuFirst d), under_first i2 d⟩
      have hsame : ∀ j, w.heap.size ≤ j → j < wf.heap.size → W.heap[j]? = wf.heap[j]? := fun j h1 h2 => (hb3 j h1 h2).trans (heap_alloc_old wf _ h2)
      refine ⟨t1.below hb1, ?_, puts_under (d := d) ?_ hd (t3.below hb1)⟩
      · exact sps_same hss (fun hl => hsame bS (by omega) hl)
      · have h1 : W.heap[w.heap.size]? = wf.heap[w.heap.size]? := hsame _ (Nat.le_refl _) (by omega)
        unfold World.cell? at hdc ⊢
        dsimp only at hdc ⊢
        rw [h1]
        exact hdc
    have HCU := Lib.hid hcu
    clear hcu hss hdc hza hs1 hs2 t1 t2 t3 i1 i2 i3 i4 i5 i6
    go_wp2_with fail
    go_ret2
    exact ⟨wf.heap.size, rfl, HCU.out, below2 hB9 (below_alloc _ _)⟩

end Go.Proofs.YtaaabmnaindgaaaGreatDoor

/-
  store.survey: all of a tree is gone through; what is no version is thrown, and caught.
-/
namespace Go.Proofs.YtaaabmnaindgaaaGreatDoor
set_option maxRecDepth 100000
open Go.RowKit Go.Shelf
attribute [local go_sem] Oper.semAt_some

set_option maxHeartbeats 1000000 in
theorem toldP_calls (f : Fn) (x y : Array Value) (w : World) :
    Calls Tryz.prog 82 #[.func f x y] w fun e w' => e = .returned (.func (.func 108) #[] #[.pointer (some ⟨w.heap.size, 0, none⟩)]) ∧ w' = w.alloc (.cells #[.func f x y] 104) := by
  have hmf : ∀ (fn : Fn) (first cap : Array Value) (w : World), (Instr.makeFunc fn first cap).run Tryz.prog w = .ok (.func fn first cap) w := fun _ _ _ _ => rfl
  go_enter Tryz.func82, Tryz.ntmps82
  go_wp2_with fail
  go_ret
  exact ⟨rfl, rfl⟩
set_option maxHeartbeats 1000000 in
theorem toldS_calls (f : Fn) (x y : Array Value) (w : World) :
    Calls Tryz.prog 46 #[.func f x y] w fun e w' => e = .returned (.func (.func 74) #[] #[.pointer (some ⟨w.heap.size, 0, none⟩)]) ∧ w' = w.alloc (.cells #[.func f x y] 100) := by
  have hmf : ∀ (fn : Fn) (first cap : Array Value) (w : World), (Instr.makeFunc fn first cap).run Tryz.prog w = .ok (.func fn first cap) w := fun _ _ _ _ => rfl
  go_enter Tryz.func46, Tryz.ntmps46
  go_wp2_with fail
  go_ret
  exact ⟨rfl, rfl⟩

/-- What stands in survey's boxes, and the cursor, behind i pairs. -/
def SvI (w : World) (lo n b0 g Bc : Nat) (V : List Pr) (i c b : Nat) (A : World) : Prop :=
  (n ≤ b ∧ n ≤ A.heap.size) ∧ CurH w lo A g V c ∧ Boxed A b0 3 (.int .i64 (lastI (V.take i))) ∧ Boxed A (b0 + 1) 4 (.bool false) ∧ Boxed A (b0 + 1 + 1) 3 (.int .i64 (i : Int)) ∧
  A.cell? ⟨Bc, 0, none⟩ = some (.func (.func 50) #[.pointer (some ⟨g, 0, none⟩)] #[]) ∧ Below w.heap.size w A ∧ ∀ x ∈ V.take i, verB x = true
theorem SvI.keeps {w : World} {lo n b0 g Bc : Nat} {V : List Pr} {i c b k : Nat} {A B : World} (h : SvI w lo n b0 g Bc V i c b A) (hk : Keeps k A B) (hn : n ≤ k) (hg : g < n) (h0 : b0 + 2 < n) (hB : Bc < n) (hw : w.heap.size ≤ n) : SvI w lo n b0 g Bc V i c b B := by
  obtain ⟨h1, h2, h3, h4, h5, h6, h7, h8⟩ := h
  exact ⟨⟨h1.1, Nat.le_trans h1.2 hk.size⟩, h2.other hk (by omega) (by omega), boxed_keeps h3 hk (by omega), boxed_keeps h4 hk (by omega), boxed_keeps h5 hk (by omega), cell_keeps h6 hk (by omega), hk.on h7 (by omega) h7.size, h8⟩
theorem SvI.below {w : World} {lo n b0 g Bc : Nat} {V : List Pr} {i c b b' : Nat} {A B : World} (h : SvI w lo n b0 g Bc V i c b A) (hk : Below A.heap.size A B) (hb : n ≤ b') : SvI w lo n b0 g Bc V i c b' B := by
  obtain ⟨h1, h2, h3, h4, h5, h6, h7, h8⟩ := h
  exact ⟨⟨hb, Nat.le_trans h1.2 hk.size⟩, h2.below hk, boxed_stays h3 hk, boxed_stays h4 hk, boxed_stays h5 hk, look_below hk h6, below2 h7 hk, h8⟩
theorem SvI.roams {w : World} {lo n b0 g Bc : Nat} {V : List Pr} {i c : Nat} (hg : g < n) (h0 : b0 + 2 < n) (hB : Bc < n) (hw : w.heap.size ≤ n) : Roam3 True n (SvI w lo n b0 g Bc V i c) :=
  ⟨fun b k A B h hk hK => h.keeps hK (by have := h.1.1; rcases hk with ⟨_, hk⟩ | hk | hk <;> omega) hg h0 hB hw, fun b A B b' h hk hb => h.below hk (Nat.le_trans h.1.2 hb)⟩

theorem lastI_take {V : List Pr} {i : Nat} (h : i < V.length) : lastI (V.take (i + 1)) = max (lastI (V.take i)) (hereP V i).1.2 := by
  have e : V.take (i + 1) = V.take i ++ [V[i]] := by rw [List.take_append_getElem]
  rw [e, hereP_lt h]
  unfold lastI
  rw [List.foldl_append]
  rfl
theorem take_all {V : List Pr} {i : Nat} {f : Pr → Bool} (h : i < V.length) (h1 : ∀ x ∈ V.take i, f x = true) (h2 : f (hereP V i) = true) : ∀ x ∈ V.take (i + 1), f x = true := by
  have e : V.take (i + 1) = V.take i ++ [V[i]] := by rw [List.take_append_getElem]
  intro x hx
  rw [e, List.mem_append] at hx
  rcases hx with hx | hx
  · exact h1 x hx
  · rw [hereP_lt h] at h2
    simp at hx
    rw [hx]
    exact h2

theorem SvI.step {w : World} {lo n b0 g Bc : Nat} {V : List Pr} {i c c' b : Nat} {A B : World} (h : SvI w lo n b0 g Bc V i c b A) (hc : CurH w lo B g V c') (hk : Keeps g A B) (h0 : b0 + 2 < g) (hB : Bc ≠ g) (hw : w.heap.size ≤ g) : SvI w lo n b0 g Bc V i c' b B := by
  obtain ⟨h1, h2, h3, h4, h5, h6, h7, h8⟩ := h
  exact ⟨⟨h1.1, Nat.le_trans h1.2 hk.size⟩, hc, boxed_keeps h3 hk (by omega), boxed_keeps h4 hk (by omega), boxed_keeps h5 hk (by omega), cell_keeps h6 hk (by omega), hk.on h7 (by omega) h7.size, h8⟩

set_option maxHeartbeats 8000000 in
theorem survey_calls (tv : Value) (U : List Pr) (w : World) (ht : TreeV w tv U) (hr : Rises U) (hti : TimesK U) (hm : U.length ≤ 1000) (hp : ∀ x ∈ U, x.1.1.length ≤ 1000) (hv : ∀ x ∈ U, x.2.length ≤ 4611686018427387904) (hml : Ml w) :
    Calls Tryz.prog 52 #[tv] w fun e w' => e = .returned (.tuple #[.int .i64 (if isSt U then lastI U else 0), .bool (isSt U)]) ∧ Below w.heap.size w w' := by
  have hmf : ∀ (fn : Fn) (first cap : Array Value) (w : World), (Instr.makeFunc fn first cap).run Tryz.prog w = .ok (.func fn first cap) w := fun _ _ _ _ => rfl
  obtain ⟨tp, rfl⟩ := ht.val
  obtain ⟨E, hE⟩ : ∃ E, (if isSt U then lastI U else 0) = E := ⟨_, rfl⟩
  obtain ⟨ok, hok⟩ : ∃ b, isSt U = b := ⟨_, rfl⟩
  rw [hE, hok]
  have HE := Lib.hid (And.intro hE hok)
  clear hE hok
  obtain ⟨w0, hw0⟩ : ∃ x, x = ((w.alloc (.cells #[.int .i64 0] 3)).alloc (.cells #[.bool false] 4)).alloc (.cells #[.int .i64 0] 3) := ⟨_, rfl⟩
  have hB0 : Below w.heap.size w w0 := by rw [hw0]; exact below_alloc3 _ _ _ _
  have hs0 : w0.heap.size = w.heap.size + 3 := by rw [hw0]; simp
  have hx0 : Boxed w0 w.heap.size 3 (.int .i64 0) := by rw [hw0]; exact ((Boxed.new w _ _).alloc _).alloc _
  have hx1 : Boxed w0 (w.heap.size + 1) 4 (.bool false) := by
    rw [hw0]
    have := (Boxed.new (w.alloc (.cells #[.int .i64 0] 3)) 4 (.bool false)).alloc (.cells #[.int .i64 0] 3)
    rwa [World.size_alloc] at this
  have hx2 : Boxed w0 (w.heap.size + 1 + 1) 3 (.int .i64 0) := by
    rw [hw0]
    have := Boxed.new ((w.alloc (.cells #[.int .i64 0] 3)).alloc (.cells #[.bool false] 4)) 3 (.int .i64 0)
    rwa [World.size_alloc, World.size_alloc] at this
  obtain ⟨V, hV⟩ : ∃ V, V = underL U [] := ⟨_, rfl⟩
  have KN := Lib.hid (hNew_calls _ U [] w w0 ht hB0 hml hti hm hp (by simp) rfl)
  rw [← hV] at KN
  have HV := Lib.hid hV
  clear hV
  have HW := Lib.hid hw0
  have HH := Lib.hid (And.intro ht (And.intro hti (And.intro hml (And.intro hp (And.intro hB0 (And.intro hs0 (And.intro hx0 (And.intro hx1 hx2))))))))
  have HR := Lib.hid (And.intro hr (And.intro hm hv))
  clear ht hti hml hp hB0 hs0 hx0 hx1 hx2 hw0 hr hm hv
  refine calls_of_wpE (n := 6) Tryz.func52 rfl ?_
  simp only [Tryz.ntmps52, List.size_toArray, List.length_cons, List.length_nil, Nat.reduceAdd, Nat.reduceSub, Array.replicate_succ, Array.replicate_zero, List.push_toArray, List.append_toArray, List.nil_append, List.cons_append]
  refine wpE_seq (wpE_of ?_)
  go_wp2_with fail
  refine wpE_seq (wpE_of ?_)
  go_wp2_with fail
  refine wpE_seq (wpE_of ?_)
  go_wp2_with fail
  refine wpE_seq (wpE_of ?_)
  go_wp2_with fail
  rw [← HW.out]
  refine KN.out.mono ?_
  rintro e w1 ⟨g, rfl, hcu, hB1⟩
  have HC := Lib.hid (And.intro hcu hB1)
  clear hcu hB1
  go_wp2_with fail
  refine wpE_seq (wpE_seq (wpE_of ?_))
  go_wp2_with fail
  refine (toldP_calls _ _ _ _).mono ?_
  rintro e w2 ⟨rfl, hw2⟩
  have HW2 := Lib.hid hw2
  clear hw2
  go_wp2_with fail
  refine wpE_block ?_
  obtain ⟨n, hn⟩ : ∃ n, n = w2.heap.size := ⟨_, rfl⟩
  obtain ⟨Bc, hBc⟩ : ∃ n, n = w1.heap.size := ⟨_, rfl⟩
  have hgl := HC.out.1.cells.choose_spec.2.2.2.2
  obtain ⟨hVr, hVt, hVl, hVp, _, hwg, _⟩ := HC.out.1.facts
  have hB2 : Below w1.heap.size w1 w2 := by rw [HW2.out]; exact below_alloc _ _
  have hnB : n = Bc + 1 := by rw [hn, hBc, HW2.out]; simp
  have hBw : Below w.heap.size w w2 := below3 HH.out.2.2.2.2.1 HC.out.2 hB2
  have hs0 := HH.out.2.2.2.2.2.1
  have hg3 : w.heap.size + 2 < g := by have := HC.out.1.lo_le; omega
  have hI0 : SvI w w0.heap.size n w.heap.size g Bc V 0 0 n w2 := by
    obtain ⟨_, _, _, _, _, _, hx0, hx1, hx2⟩ := HH.out
    refine ⟨⟨Nat.le_refl _, Nat.le_of_eq hn⟩, HC.out.1.below hB2, boxed_stays (boxed_stays hx0 HC.out.2) hB2, boxed_stays (boxed_stays hx1 HC.out.2) hB2, boxed_stays (boxed_stays hx2 HC.out.2) hB2, ?_, hBw, fun x hx => by simp at hx⟩
    rw [HW2.out, hBc]
    exact (Boxed.new w1 _ _).cell
  rw [← hBc]
  have hgB : g < Bc := by omega
  have hw03 : w.heap.size + 3 ≤ w0.heap.size := by omega
  have hBn : Bc < n := by omega
  have HN := Lib.hid hn
  clear hnB hBc hs0 hn hgl
  refine wpE_told (N := V.length) (encs := fun i => #[PV (hereP V i)]) (res := fun i => .tuple #[PV (hereP V i), .bool (decide (i < V.length))]) (Box := fun W => W.cell? ⟨Bc, 0, none⟩ = some (.func (.func 50) #[.pointer (some ⟨g, 0, none⟩)] #[])) rfl (enters_of Tryz.func108 (by kernel_rfl) rfl)
    (toldP g Bc (hereP V) V.length) (fun _ => rfl) (fun i b A => SvI w w0.heap.size n w.heap.size g Bc V i i b A) (fun i b A => SvI w w0.heap.size n w.heap.size g Bc V i (i + 1) b A) (fun b A => SvI w w0.heap.size n w.heap.size g Bc V V.length V.length b A) (fun _ _ => False)
    (fun ch A => ch = [thrownV] ∧ isSt U = false ∧ (∃ x, Boxed A w.heap.size 3 (.int .i64 x)) ∧ Boxed A (w.heap.size + 1) 4 (.bool false) ∧ Below w.heap.size w A)
    (fun i b a' A => SvI w w0.heap.size n w.heap.size g Bc V i (i + 1) b A ∧ ∃ q, n + 2 ≤ q ∧ a' = { tmps := #[.pointer tp, undef, .pointer (some ⟨w.heap.size, 0, none⟩), .pointer (some ⟨w.heap.size + 1, 0, none⟩), .pointer (some ⟨w.heap.size + 1 + 1, 0, none⟩), .pointer (some ⟨g, 0, none⟩), .int .i64 0, .pointer (some ⟨q, 0, none⟩), .func (.func 81) #[] #[.pointer (some ⟨w.heap.size, 0, none⟩), .pointer (some ⟨w.heap.size + 1, 0, none⟩)], .tuple #[.pointer (some ⟨g, 0, none⟩), .int .i64 0], .pointer tp, .tuple #[.pointer (some ⟨g, 0, none⟩), .int .i64 0], .pointer (some ⟨g, 0, none⟩), .int .i64 0, .pointer (some ⟨g, 0, none⟩), .func (.func 50) #[.pointer (some ⟨g, 0, none⟩)] #[], .func (.func 108) #[] #[.pointer (some ⟨Bc, 0, none⟩)], PV (hereP V i), undef, undef, undef, undef, undef, undef, undef, undef, undef, undef, undef, undef, undef, undef, undef], defers := [] } ∧ Cx A q 67 (pcell (hereP V i))) g ?_ ?_ ?_ ?_ ?_ ?_ ?_ ?_ ?_ ?_ ?_ ?_ ?_ ?_ ?_
  · rw [← HN.out]
    omega
  · intro i
    rw [← HN.out]
    exact SvI.roams (by omega) (by omega) (by omega) (by omega)
  · intro i
    rw [← HN.out]
    exact SvI.roams (by omega) (by omega) (by omega) (by omega)
  · rw [← HN.out]
    exact SvI.roams (by omega) (by omega) (by omega) (by omega)
  · exact fun _ _ _ h => h.elim
  · rintro i b a' A B ⟨h1, q, hq, h2, h3⟩ hk
    rw [← HN.out] at hk
    exact ⟨h1.keeps hk (by omega) (by omega) (by omega) (by omega) (by omega), q, hq, h2, Cx.keeps h3 (by omega) hk⟩
  · exact fun i b A h => h.2.2.2.2.2.1
  · rw [← HN.out]
    exact hI0
  · intro i b A hi h
    refine (hNext_calls h.2.1).mono ?_
    rintro e B ⟨rfl, hc, hk⟩
    have hx : nextI V i = i + 1 := by simp [nextI, hi]
    rw [hx] at hc
    exact ⟨rfl, h.step hc hk (by omega) (by omega) (by omega), hk⟩
  · intro b A h
    refine (hNext_calls h.2.1).mono ?_
    rintro e B ⟨rfl, hc, hk⟩
    have hx : nextI V V.length = V.length := by simp [nextI]
    rw [hx] at hc
    exact ⟨rfl, h.step hc hk (by omega) (by omega) (by omega), hk⟩
  · intro l i b A K hl hlA hi hI hK
    have hA := hI.1.2
    rw [← HN.out] at hl
    have HK := Lib.hid hK
    have HI := Lib.hid hI
    clear hI hK
    gi_wp2_with fail
    exact HK.out _ _ (below_alloc _ _) ⟨HI.out.below (below_alloc _ _) HI.out.1.1, A.heap.size, by omega, rfl, Cx.new A _ (pcell (hereP V i))⟩
  · rintro l i b a' A hl hlA ⟨hb, _⟩ hi ⟨hI, q, hq, rfl, hx⟩
    rw [← HN.out] at hl hb ⊢
    have hVi := hereP_lt hi
    have hmem : hereP V i ∈ U := by
      rw [hVi]
      have h1 : V[i] ∈ underL U [] := HV.out ▸ List.getElem_mem hi
      exact (List.mem_filter.1 h1).1
    have hpl := HH.out.2.2.2.1 _ hmem
    have hvl := HR.out.2.2 _ hmem
    have hmA : Ml A := HH.out.2.2.1.below hI.2.2.2.2.2.2.1
    obtain ⟨⟨⟨p, m⟩, s⟩, hxe⟩ : ∃ x, hereP V i = x := ⟨_, rfl⟩
    have hLT := Lib.hid (lastI_take hi)
    have hTA := Lib.hid (take_all (f := verB) hi hI.2.2.2.2.2.2.2)
    rw [hxe] at hx hpl hvl hmem hLT hTA ⊢
    dsimp only at hpl hvl
    cases hver : verB ((p, m), s) with
    | true =>
      have K := Lib.hid (ver_ok p m s (by omega) hvl A hmA hver)
      have hTB := Lib.hid (hTA.out hver)
      have HI := Lib.hid hI
      have HX := Lib.hid hx
      obtain ⟨x0, x1, x2, _⟩ := Cx.three hx
      have hfw : ∀ f, Fence.wide.fn f := fun _ => trivial
      have h14 : 1 ≤ 4 := by omega
      clear hI hx hpl hvl hmem hmA hTA hver hVi hxe
      gi_wp2_with fail
      refine (CallsIn.inRound _ (callsIn_wide.2 K.out)).mono ?_
      rintro e B ⟨v, rfl, _, hB1⟩
      obtain ⟨y0, y1, y2, y3, y4, y5, y6, _⟩ := HI.out.below hB1 HI.out.1.1
      clear x0 x1 x2
      obtain ⟨x0, x1, x2, _⟩ := Cx.three (Cx.below HX.out hB1)
      have c0 := y2.cell
      have f0 := y2.frozen
      have hy4 := y4.other (B' := w.heap.size) (by omega) (.int .i64 (max (lastI (V.take i)) m))
      have c4 := hy4.cell
      have f4 := hy4.frozen
      have HY := Lib.hid (And.intro y0 (And.intro y1 (And.intro y2 (And.intro y3 (And.intro y4 (And.intro y5 y6))))))
      have HB1 := Lib.hid hB1
      clear y0 y1 y2 y3 y4 y5 y6 hy4 hB1
      gi_wp2_with fail
      obtain ⟨z0, z1, z2, z3, z4, z5, z6⟩ := HY.out
      have k1 : Keeps w.heap.size B (B.setCell ⟨w.heap.size, 0, none⟩ (.int .i64 (max (lastI (V.take i)) m))) := (Keeps.refl _ B).set 0 _
      obtain ⟨C, hC⟩ : ∃ x, x = B.setCell ⟨w.heap.size, 0, none⟩ (.int .i64 (max (lastI (V.take i)) m)) := ⟨_, rfl⟩
      have b0 := z2.set (.int .i64 (max (lastI (V.take i)) m))
      have b1 := z3.other (B' := w.heap.size) (by omega) (.int .i64 (max (lastI (V.take i)) m))
      have b2 := z4.other (B' := w.heap.size) (by omega) (.int .i64 (max (lastI (V.take i)) m))
      rw [← hC] at k1 b0 b1 b2 ⊢
      have k2 : Keeps (w.heap.size + 1 + 1) C (C.setCell ⟨w.heap.size + 1 + 1, 0, none⟩ (.int .i64 ((i : Int) + 1))) := (Keeps.refl _ C).set 0 _
      refine ⟨((Same3.of_below HB1.out).trans (Same3.of_keeps k1 (by omega) (by omega) (by omega))).trans (Same3.of_keeps k2 (by omega) (by omega) (by omega)), ⟨z0.1, Nat.le_trans z0.2 (Nat.le_trans k1.size k2.size)⟩, (z1.hole k1 (by omega) (by omega)).hole k2 (by omega) (by omega), ?_, b1.other (by omega) _, ?_, cell_keeps (cell_keeps z5 k1 (by omega)) k2 (by omega), k2.on (k1.on z6 (Nat.le_refl _) z6.size) (by omega) (Nat.le_trans z6.size k1.size), hTB.out⟩
      · rw [hLT.out]
        exact b0.other (by omega) _
      · exact b2.set _
    | false =>
      have K := Lib.hid (ver_no p m s (by omega) hvl A hmA hver)
      have hst : isSt U = false := by
        cases h : isSt U with
        | false => rfl
        | true => rw [List.all_eq_true.1 h _ hmem] at hver; cases hver
      have HI := Lib.hid hI
      obtain ⟨x0, x1, x2, _⟩ := Cx.three hx
      have hfw : ∀ f, Fence.wide.fn f := fun _ => trivial
      have h14 : 1 ≤ 4 := by omega
      have HS := Lib.hid hst
      clear hI hx hpl hvl hmem hmA hTA hver hVi hxe hst
      gi_wp2_with fail
      refine (CallsIn.inRound _ (callsIn_wide.2 K.out)).mono ?_
      rintro e B ⟨rfl, hB1⟩
      obtain ⟨y0, y1, y2, y3, y4, y5, y6, _⟩ := HI.out.below hB1 HI.out.1.1
      exact ⟨Same3.of_below hB1, rfl, rfl, HS.out, ⟨_, y2⟩, y3, y6⟩
  · intro D b A hD hI hK
    obtain ⟨y0, y1, y2, y3, y4, y5, y6, y7⟩ := hI
    rw [List.take_of_length_le (Nat.le_refl _)] at y2 y7
    have htA := HH.out.1.below y6
    have K := Lib.hid (fun W (hB : Below A.heap.size A W) => tlen_calls _ U W (htA.below hB))
    have hlen : V.length ≤ U.length := by rw [HV.out]; exact List.length_filter_le _ _
    have c0 := y2.cell
    have f0 := y2.frozen
    have c1 := y3.cell
    have f1 := y3.frozen
    have c2 := y4.cell
    have HY := Lib.hid (And.intro y2 (And.intro y3 (And.intro y4 y6)))
    have HK := Lib.hid hK
    by_cases hl : V.length = U.length
    · have hVU : V = U := by
        rw [HV.out] at hl ⊢
        exact List.filter_eq_self.2 (List.length_filter_eq_length_iff.1 hl)
      have hst : isSt U = true := by
        rw [← hVU]
        exact List.all_eq_true.2 y7
      obtain ⟨e1, e2⟩ := HE.out
      rw [hst] at e1 e2
      simp only [if_true] at e1
      subst e1
      subst e2
      have hlb : ((V.length : Int) != (U.length : Int)) = false := by rw [hl]; simp
      rw [hVU] at HY c0
      clear hst y7 htA hlen y2 y3 y4 y5 y6 y1 y0 hK hVU
      change WpE _ _ _ _ _
      refine wpE_of ?_
      go_wp2_with fail
      have hbr : Below A.heap.size A A.drew := drew_below _
      go_region_held3 (fun w' => w'.cell? ⟨w.heap.size + 1 + 1, 0, none⟩ = some (.int .i64 (V.length : Int))) (first | exact look_below hbr c2) (first
        | (go_at_call 27; (with_reducible refine (K.out _ hbr).mono ?_); rintro e wx ⟨rfl, rfl⟩))
      have hd1 := HY.out.2.1.other (B' := w.heap.size) (by omega) (.int .i64 (lastI U))
      have c1 := hd1.cell
      have f1 := hd1.frozen
      clear hd1 hbr c2
      go_wp2_with fail
      obtain ⟨y2, y3, _, y6⟩ := HY.out
      have q0 := (y2.set (.int .i64 (lastI U))).other (B' := w.heap.size + 1) (by omega) (.bool true)
      have q1 := (y3.other (B' := w.heap.size) (by omega) (.int .i64 (lastI U))).set (.bool true)
      have k1 : Keeps w.heap.size A (A.setCell ⟨w.heap.size, 0, none⟩ (.int .i64 (lastI U))) := (Keeps.refl _ A).set 0 _
      have k2 : Keeps (w.heap.size + 1) (A.setCell ⟨w.heap.size, 0, none⟩ (.int .i64 (lastI U))) ((A.setCell ⟨w.heap.size, 0, none⟩ (.int .i64 (lastI U))).setCell ⟨w.heap.size + 1, 0, none⟩ (.bool true)) := (Keeps.refl _ _).set 0 _
      have hDn := hD.trans HN.out.symm
      have hdd := (k2.block D (get_lt ((k1.block D (get_lt HK.out) (fun e => by cases e; omega)).trans HK.out)) (fun e => by cases e; omega)).trans ((k1.block D (get_lt HK.out) (fun e => by cases e; omega)).trans HK.out)
      have hbb := k2.on (k1.on y6 (Nat.le_refl _) y6.size) (by omega) (Nat.le_trans y6.size k1.size)
      rw [← hD]
      exact sv_ends_ok w.heap.size D _ _ _ _ _ rfl rfl q0 q1 hdd (by omega) ⟨rfl, (keeps_put (l := D) _).on (hbb.drew) (by omega) hbb.size⟩
    · have hst : isSt U = false := by
        cases h : isSt U with
        | false => rfl
        | true =>
          refine absurd ?_ hl
          rw [HV.out]
          refine List.length_filter_eq_length_iff.2 fun x hx => ?_
          exact (under_root _).trans (st_times h x hx).2.2.1
      obtain ⟨e1, e2⟩ := HE.out
      rw [hst] at e1 e2
      simp only [Bool.false_eq_true, if_false] at e1
      subst e1
      subst e2
      have hlb : ((V.length : Int) != (U.length : Int)) = true := by
        simp
        omega
      clear hst y7 htA hlen y2 y3 y4 y5 y6 y1 y0 hK hl c0 f0 c1 f1
      change WpE _ _ _ _ _
      refine wpE_of ?_
      go_wp2_with fail
      have hbr : Below A.heap.size A A.drew := drew_below _
      go_region_held3 (fun w' => w'.cell? ⟨w.heap.size + 1 + 1, 0, none⟩ = some (.int .i64 (V.length : Int))) (first | exact look_below hbr c2) (first
        | (go_at_call 27; (with_reducible refine (K.out _ hbr).mono ?_); rintro e wx ⟨rfl, rfl⟩))
      clear c2
      go_wp2_with fail
      obtain ⟨y2, y3, _, y6⟩ := HY.out
      have hDn := hD.trans HN.out.symm
      rw [← hD]
      refine sv_ends_no w.heap.size D _ _ _ _ _ rfl rfl (boxed_stays y2 hbr) (boxed_stays y3 hbr) HK.out (by omega) fun Z1 h1 Z2 h2 => ⟨rfl, ?_⟩
      have hb1 := (keeps_put (l := D) (.deferred none)).on (below2 y6 (hbr.mono (Nat.le_refl _))) (by omega) (below2 y6 (hbr.mono (Nat.le_refl _))).size
      exact h2.on (h1.on hb1 (Nat.le_refl _) hb1.size) (by omega) (Nat.le_trans hb1.size h1.size)
  · exact fun _ _ _ _ h _ => h.elim
  · rintro D ch A hD ⟨rfl, hst, ⟨x, hx0⟩, hx1, hB⟩ hK
    obtain ⟨e1, e2⟩ := HE.out
    rw [hst] at e1 e2
    simp only [Bool.false_eq_true, if_false] at e1
    subst e1
    subst e2
    have hDn := hD.trans HN.out.symm
    refine sv_ends_no w.heap.size D _ _ _ _ _ rfl rfl hx0 hx1 hK (by omega) fun Z1 h1 Z2 h2 => ⟨rfl, ?_⟩
    have hb1 := (keeps_put (l := D) (.deferred none)).on hB (by omega) hB.size
    exact h2.on (h1.on hb1 (Nat.le_refl _) hb1.size) (by omega) (Nat.le_trans hb1.size h1.size)

end Go.Proofs.YtaaabmnaindgaaaGreatDoor

/-
  store: Is, Last, and the error of a call.
-/
namespace Go.Proofs.YtaaabmnaindgaaaGreatDoor
set_option maxRecDepth 100000
open Go.RowKit

/-- A tree that is small enough to be gone through. -/
def Sto (w : World) (tv : Value) (U : List Pr) : Prop := TreeV w tv U ∧ TimesK U ∧ U.length ≤ 1000 ∧ (∀ x ∈ U, x.1.1.length ≤ 1000) ∧ (∀ x ∈ U, x.2.length ≤ 4611686018427387904) ∧ Ml w
theorem Sto.below {w w' : World} {tv : Value} {U : List Pr} (h : Sto w tv U) (hb : Below w.heap.size w w') : Sto w' tv U := ⟨h.1.below hb, h.2.1, h.2.2.1, h.2.2.2.1, h.2.2.2.2.1, h.2.2.2.2.2.below hb⟩
theorem Sto.rises {w : World} {tv : Value} {U : List Pr} (h : Sto w tv U) : Rises U := h.1.1
theorem Sto.val {w : World} {tv : Value} {U : List Pr} (h : Sto w tv U) : ∃ p, tv = .pointer p := h.1.val
/-- What Last tells. -/
def lastSo (U : List Pr) : Int := if isSt U then lastI U else 0
theorem surv_calls {tv : Value} {U : List Pr} {w : World} (h : Sto w tv U) :
    Calls Tryz.prog 52 #[tv] w fun e w' => e = .returned (.tuple #[.int .i64 (lastSo U), .bool (isSt U)]) ∧ Below w.heap.size w w' :=
  survey_calls tv U w h.1 h.rises h.2.1 h.2.2.1 h.2.2.2.1 h.2.2.2.2.1 h.2.2.2.2.2

set_option maxHeartbeats 1000000 in
theorem soIs_calls {tv : Value} {U : List Pr} {w : World} (h : Sto w tv U) :
    Calls Tryz.prog 26 #[tv] w fun e w' => e = .returned (.bool (isSt U)) ∧ Below w.heap.size w w' := by
  obtain ⟨tp, rfl⟩ := h.val
  have K := Lib.hid (surv_calls h)
  generalize isSt U = b at *
  generalize lastSo U = n at *
  clear h
  go_enter Tryz.func26, Tryz.ntmps26
  go_wp2_with fail
  refine K.out.mono ?_
  rintro e w1 ⟨rfl, hB⟩
  go_wp2_with fail
  go_ret
  exact ⟨rfl, hB⟩
/-- The error of a call that asks of a store; of a tree that is none another one may be told. -/
def refE (s : List UInt8) (n : Int) : Int := if isP s then (if n < 0 then 1 else 0) else 20

set_option maxHeartbeats 2000000 in
theorem refusal_calls {tv : Value} {U : List Pr} {w : World} (h : Sto w tv U) (hs : isSt U = true) (s : List UInt8) (n : Int) (hl : s.length ≤ 1000000) :
    Calls Tryz.prog 44 #[tv, .string ⟨s.toArray⟩, .int .i64 n] w fun e w' => e = .returned (.int .i64 (refE s n)) ∧ Below w.heap.size w w' := by
  obtain ⟨tp, rfl⟩ := h.val
  have KP := Lib.hid (fun W hm => is_calls s (by omega) W hm)
  have KI := Lib.hid (fun W (hB : Below w.heap.size w W) => soIs_calls (h.below hB))
  rw [hs] at KI
  have HM := Lib.hid (fun W (hB : Below w.heap.size w W) => h.2.2.2.2.2.below hB)
  clear h
  cases hp : isP s with
  | false =>
    have HE := Lib.hid (show refE s n = 20 by simp [refE, hp])
    rw [HE.out]
    rw [hp] at KP
    clear hp
    go_enter Tryz.func44, Tryz.ntmps44
    go_wp2_with fail
    first
      | (refine (KP.out _ (HM.out _ (Below.refl _ _))).mono ?_
         rintro e w1 ⟨rfl, hB⟩
         go_wp2_with fail
         go_ret
         exact ⟨rfl, hB⟩)
      | (refine (KI.out _ (Below.refl _ _)).mono ?_
         rintro e w1 ⟨rfl, hB⟩
         go_wp2_with fail
         refine (KP.out _ (HM.out _ hB)).mono ?_
         rintro e w2 ⟨rfl, hB2⟩
         go_wp2_with fail
         go_ret
         exact ⟨rfl, below2 hB hB2⟩)
  | true =>
    rw [hp] at KP
    by_cases hn : n < 0
    · have HE := Lib.hid (show refE s n = 1 by simp [refE, hp, hn])
      rw [HE.out]
      have hd : decide (n < 0) = true := decide_eq_true hn
      clear hp hn
      go_enter Tryz.func44, Tryz.ntmps44
      go_wp2_with fail
      first
        | (refine (KP.out _ (HM.out _ (Below.refl _ _))).mono ?_
           rintro e w1 ⟨rfl, hB⟩
           go_wp2_with fail
           go_ret
           exact ⟨rfl, hB⟩)
        | (refine (KI.out _ (Below.refl _ _)).mono ?_
           rintro e w1 ⟨rfl, hB⟩
           go_wp2_with fail
           refine (KP.out _ (HM.out _ hB)).mono ?_
           rintro e w2 ⟨rfl, hB2⟩
           go_wp2_with fail
           go_ret
           exact ⟨rfl, below2 hB hB2⟩)
    · have HE := Lib.hid (show refE s n = 0 by simp [refE, hp, hn])
      rw [HE.out]
      have hd : decide (n < 0) = false := decide_eq_false hn
      clear hp hn
      go_enter Tryz.func44, Tryz.ntmps44
      go_wp2_with fail
      first
        | (refine (KP.out _ (HM.out _ (Below.refl _ _))).mono ?_
           rintro e w1 ⟨rfl, hB⟩
           go_wp2_with fail
           refine (KI.out _ hB).mono ?_
           rintro e w2 ⟨rfl, hB2⟩
           go_wp2_with fail
           go_ret
           exact ⟨rfl, below2 hB hB2⟩)
        | (refine (KI.out _ (Below.refl _ _)).mono ?_
           rintro e w1 ⟨rfl, hB⟩
           go_wp2_with fail
           refine (KP.out _ (HM.out _ hB)).mono ?_
           rintro e w2 ⟨rfl, hB2⟩
           go_wp2_with fail
           go_ret
           exact ⟨rfl, below2 hB hB2⟩)

end Go.Proofs.YtaaabmnaindgaaaGreatDoor

/-
  Stores in plain words: batches that were laid one behind the other, the latest one first. No program is named here.
-/
namespace Go.Proofs.YtaaabmnaindgaaaGreatDoor
set_option maxRecDepth 100000

/-- A batch, and the time at which it is laid. -/
abbrev Ld := Int × List Cg
/-- May it be laid? -/
def layB (U : List Pr) (n : Int) (l : List Cg) : Bool := decide (1 ≤ n) && (decide (n ≤ 1000000000) && (isB l && decide (lastI U < n)))
theorem layB_iff {U : List Pr} {n : Int} {l : List Cg} : layB U n l = true ↔ 1 ≤ n ∧ n ≤ 1000000000 ∧ isB l = true ∧ lastI U < n := by
  unfold layB
  simp
/-- The pairs of a store in which these were laid, the latest one first; and whether each could be laid. -/
def layR : List Ld → List Pr
  | [] => []
  | b :: r => layP (layR r) b.1 b.2
def TookR : List Ld → Prop
  | [] => True
  | b :: r => TookR r ∧ layB (layR r) b.1 b.2 = true
theorem layR_facts : ∀ {r : List Ld}, TookR r → Rises (layR r) ∧ isSt (layR r) = true
  | [], _ => ⟨List.Pairwise.nil, rfl⟩
  | b :: r, h => by
    obtain ⟨h1, h2⟩ := layR_facts h.1
    obtain ⟨l1, l2, l3, l4⟩ := layB_iff.1 h.2
    obtain ⟨_, _, b3, b4⟩ := isB_iff.1 l3
    exact ⟨lay_rises _ _ h1, isSt_lay h1 (sort_unlike b4) h2 b3 (by omega) l2⟩
theorem layR_len : ∀ {r : List Ld}, TookR r → (layR r).length ≤ 20 * r.length
  | [], _ => by simp [layR]
  | b :: r, h => by
    have ih := layR_len h.1
    obtain ⟨h1, _⟩ := layR_facts h.1
    obtain ⟨_, _, l3, l4⟩ := layB_iff.1 h.2
    obtain ⟨_, b2, _, b4⟩ := isB_iff.1 l3
    rw [layR, lay_length _ _ h1 (sort_unlike b4) (till_last l4), List.length_cons]
    omega

end Go.Proofs.YtaaabmnaindgaaaGreatDoor

/-
  Stores in plain words: what List tells stays, and rises. No program is named here.
-/
namespace Go.Proofs.YtaaabmnaindgaaaGreatDoor
set_option maxRecDepth 100000

/-- Entries whose paths rise. -/
def RiseE (l : List En) : Prop := l.Pairwise fun a b => Op.bytesLess a.1 b.1 = true
theorem riseE_same : ∀ {a b : List En}, RiseE a → RiseE b → (∀ x, x ∈ a ↔ x ∈ b) → a = b
  | [], [], _, _, _ => rfl
  | [], y :: s, _, _, h => absurd ((h y).2 (by simp)) (by simp)
  | x :: r, [], _, _, h => absurd ((h x).1 (by simp)) (by simp)
  | x :: r, y :: s, ha, hb, h => by
    obtain ⟨a1, a2⟩ := List.pairwise_cons.1 ha
    obtain ⟨b1, b2⟩ := List.pairwise_cons.1 hb
    have e : x = y := by
      rcases List.mem_cons.1 ((h x).1 (by simp)) with e | hx
      · exact e
      · rcases List.mem_cons.1 ((h y).2 (by simp)) with e | hy
        · exact e.symm
        · have := less_trans (a1 y hy) (b1 x hx)
          rw [less_irrefl] at this
          cases this
    subst e
    refine congrArg (x :: ·) (riseE_same a2 b2 fun z => ⟨fun hz => ?_, fun hz => ?_⟩)
    · rcases List.mem_cons.1 ((h z).1 (List.mem_cons_of_mem _ hz)) with rfl | hz'
      · have := a1 z hz
        rw [less_irrefl] at this
        cases this
      · exact hz'
    · rcases List.mem_cons.1 ((h z).2 (List.mem_cons_of_mem _ hz)) with rfl | hz'
      · have := b1 z hz
        rw [less_irrefl] at this
        cases this
      · exact hz'
theorem list_rise {U : List Pr} (h : Rises U) (d : List UInt8) (n : Int) : RiseE (listL U d n) := by
  have hp : ((pathsL U).filter (underOf d)).Pairwise fun a b => Op.bytesLess a b = true := List.Pairwise.filter _ (paths_rise h)
  have hpath : ∀ {p : List UInt8} {e : En}, told (asOf U p n) = some e → e.1 = p := by
    intro p e ht
    cases ha : asOf U p n with
    | none => rw [ha] at ht; cases ht
    | some x =>
      rw [ha] at ht
      unfold told at ht
      dsimp only at ht
      split at ht
      · cases ht
      · cases ht
        exact ((asOf_iff h).1 ha).2.1
  unfold listL RiseE
  rw [List.pairwise_filterMap]
  refine List.Pairwise.imp (fun {a b} hab e he f hf => ?_) hp
  rw [hpath he, hpath hf]
  exact hab
end Go.Proofs.YtaaabmnaindgaaaGreatDoor

/-
  A tree of some pairs: which pairs are there. No program is named here.
-/
namespace Go.Proofs.YtaaabmnaindgaaaGreatDoor
set_option maxRecDepth 100000

/-- The pairs of the tree: each put, one behind the other. -/
def madeL (l : List Pr) : List Pr := l.foldl putL []
theorem made_snoc {l : List Pr} {k : Nat} (h : k < l.length) : madeL (l.take (k + 1)) = putL (madeL (l.take k)) l[k] := by
  unfold madeL
  rw [List.take_succ_eq_append_getElem h, List.foldl_append]
  rfl
theorem made_len : ∀ (l acc : List Pr), (l.foldl putL acc).length ≤ acc.length + l.length
  | [], acc => by simp
  | x :: r, acc => by
    have h := made_len r (putL acc x)
    have h2 : (putL acc x).length ≤ acc.length + 1 := by rw [putL_length]; split <;> omega
    rw [List.foldl_cons, List.length_cons]
    omega
theorem made_rises : ∀ (l : List Pr) {acc : List Pr}, Rises acc → Rises (l.foldl putL acc)
  | [], _, h => h
  | x :: r, _, h => made_rises r (put_rises h x)
theorem mem_made : ∀ (l : List Pr) {acc : List Pr}, Rises acc → ∀ x ∈ l.foldl putL acc, x ∈ acc ∨ x ∈ l
  | [], _, _, x, hx => .inl hx
  | y :: r, _, h, x, hx => by
    rcases mem_made r (put_rises h y) x hx with h1 | h1
    · rcases (mem_put h _ _).1 h1 with rfl | ⟨h2, _⟩
      · exact .inr (by simp)
      · exact .inl h2
    · exact .inr (List.mem_cons_of_mem _ h1)
theorem made_facts (l : List Pr) : Rises (madeL l) ∧ (madeL l).length ≤ l.length ∧ ∀ x ∈ madeL l, x ∈ l := by
  refine ⟨made_rises l List.Pairwise.nil, ?_, fun x hx => ?_⟩
  · have := made_len l []
    simpa [madeL] using this
  · rcases mem_made l List.Pairwise.nil x hx with h | h
    · cases h
    · exact h

end Go.Proofs.YtaaabmnaindgaaaGreatDoor

/-
  The document's own Is and Last, of pairs.
-/
namespace Go.Proofs.YtaaabmnaindgaaaGreatDoor
set_option maxRecDepth 100000
open Go.RowKit

/-- The first k pairs are versions. -/
def stTo (l : List Pr) (k : Nat) : Prop := isSt (l.take k) = true
theorem stTo_succ {l : List Pr} {k : Nat} (h : stTo l k) (hk : k < l.length) (hv : verB l[k] = true) : stTo l (k + 1) := by
  unfold stTo isSt at h ⊢
  rw [List.take_succ_eq_append_getElem hk, List.all_append, h]
  simp [hv]
theorem stTo_all {l : List Pr} (h : stTo l l.length) : isSt l = true := by
  unfold stTo at h
  rwa [List.take_length] at h
theorem st_not {l : List Pr} {k : Nat} (hk : k < l.length) (hv : verB l[k] = false) : isSt l = false := by
  rw [isSt, List.all_eq_false]
  exact ⟨_, List.getElem_mem hk, by simp [hv]⟩

set_option maxHeartbeats 8000000 in
theorem refSt_calls (v : Value) (l : List Pr) (w : World) (h : Prs w v l) (hn : l.length ≤ 1000) (hs : ∀ x ∈ l, x.1.1.length ≤ 1000000 ∧ x.2.length ≤ 1000) :
    Calls Tryz.prog 36 #[v] w fun e w' => e = .returned (.bool (isSt l)) ∧ Below w.heap.size w w' := by
  obtain ⟨ao, cap, rfl⟩ := h.form
  have HH := Lib.hid h
  have HS := Lib.hid hs
  have HN := Lib.hid hn
  clear h hs hn
  go_enter Tryz.func36, Tryz.ntmps36
  go_wp2_with fail
  go_loopw [3] (fun i wr => ∃ k : Nat, i = .int .i64 k ∧ k ≤ l.length ∧ l.length ≤ 1000 ∧ Hid (stTo l k) ∧ Hid (Below w.heap.size w wr)) (fun i _ => l.length - (intOf i).toNat)
  case atStart => exact ⟨0, rfl, Nat.zero_le _, HN.out, Lib.hid (by simp [stTo, isSt]), Lib.hid (Below.refl _ _)⟩
  case round =>
    obtain ⟨k, rfl, hk, hn, hf, hB⟩ := hrel
    by_cases hlt : k < l.length
    · have hd : decide ((k : Int) < (l.length : Int)) = true := by rw [decide_eq_true_eq]; omega
      obtain ⟨b, off, rfl, c0, c1, c2⟩ := (HH.out.below hB.out).at hlt
      have hgo := stTo_succ hf.out hlt
      have hno := fun h => st_not hlt h
      obtain ⟨hl1, hl2⟩ := HS.out _ (List.getElem_mem hlt)
      obtain ⟨⟨⟨p, n⟩, s⟩, hx⟩ : ∃ x, l[k] = x := ⟨_, rfl⟩
      rw [hx] at c0 c1 c2 hgo hno hl1 hl2
      dsimp only at c0 c1 c2 hl1 hl2
      have KR := Lib.hid (fun W => rRead_calls s hl2 W)
      have KI := Lib.hid (fun W => kRefIs_calls p n hl1 W)
      have hv : verB ((p, n), s) = (keyB (p, n) && ((p != []) && decide (redE s = 0))) := rfl
      rw [hv] at hgo hno
      generalize (redM s).1 = z at *
      generalize (redM s).2.1 = d at *
      generalize (redM s).2.2 = cs at *
      generalize redG s = g at *
      obtain ⟨E, hE⟩ : ∃ E, redE s = E := ⟨_, rfl⟩
      rw [hE] at KR hgo hno
      obtain ⟨kb, hkb⟩ : ∃ b, keyB (p, n) = b := ⟨_, rfl⟩
      rw [hkb] at KI hgo hno
      clear hv hE hkb hx hl1 hl2
      have HC := Lib.hid (fun W (hW : Below wr.heap.size wr W) => (⟨look_below hW c0, look_below hW c1⟩ : W.cell? ⟨b, off + k * 3, none⟩ = some (.string ⟨p.toArray⟩) ∧ W.cell? ⟨b, off + k * 3 + 1, none⟩ = some (.int .i64 n)))
      cases kb with
      | false =>
        have HR := Lib.hid (hno rfl)
        clear hgo hno
        go_wp2_with fail
        refine (KR.out _).mono ?_
        rintro e w1 ⟨u, rfl, hI, hB1⟩
        obtain ⟨am, cm, rfl⟩ := (ints_own hI).form
        have hbr := below2 hB1 (below_alloc w1 (.cells #[.int .i64 z, .int .i64 d, .slice am cs.length cm] 51))
        obtain ⟨e0, e1⟩ := HC.out _ hbr
        have HB := Lib.hid (below2 hB.out hbr)
        clear hI hB1 hbr c0 c1 c2
        go_wp2_with fail
        refine (KI.out _).mono ?_
        rintro e w2 ⟨rfl, hB2⟩
        go_wp2_with fail
        go_ret
        exact ⟨by rw [HR.out]; rfl, below2 HB.out hB2⟩
      | true =>
        cases hp : (p == []) with
        | true =>
          have hp0 : p = [] := by simpa using hp
          subst hp0
          have HR := Lib.hid (hno (by simp))
          clear hgo hno
          go_wp2_with fail
          refine (KR.out _).mono ?_
          rintro e w1 ⟨u, rfl, hI, hB1⟩
          obtain ⟨am, cm, rfl⟩ := (ints_own hI).form
          have hbr := below2 hB1 (below_alloc w1 (.cells #[.int .i64 z, .int .i64 d, .slice am cs.length cm] 51))
          obtain ⟨e0, e1⟩ := HC.out _ hbr
          have HB := Lib.hid hbr
          clear hI hB1 hbr c0 c1 c2
          go_wp2_with fail
          refine (KI.out _).mono ?_
          rintro e w2 ⟨rfl, hB2⟩
          obtain ⟨f0, f1⟩ := HC.out _ (below2 HB.out hB2)
          clear e0 e1
          go_wp2_with fail
          go_ret
          exact ⟨by rw [HR.out]; rfl, below2 hB.out (below2 HB.out hB2)⟩
        | false =>
          have hp1 : (p != []) = true := by
            rw [bne_iff_ne]
            exact beq_eq_false_iff_ne.1 hp
          rw [hp1] at hgo hno
          clear hp1
          cases hE : (E != 0) with
          | true =>
            have HR := Lib.hid (hno (by simpa using hE))
            clear hgo hno
            go_wp2_with fail
            refine (KR.out _).mono ?_
            rintro e w1 ⟨u, rfl, hI, hB1⟩
            obtain ⟨am, cm, rfl⟩ := (ints_own hI).form
            have hbr := below2 hB1 (below_alloc w1 (.cells #[.int .i64 z, .int .i64 d, .slice am cs.length cm] 51))
            obtain ⟨e0, e1⟩ := HC.out _ hbr
            have HB := Lib.hid hbr
            clear hI hB1 hbr c0 c1 c2
            go_wp2_with fail
            refine (KI.out _).mono ?_
            rintro e w2 ⟨rfl, hB2⟩
            obtain ⟨f0, f1⟩ := HC.out _ (below2 HB.out hB2)
            clear e0 e1
            go_wp2_with fail
            go_ret
            exact ⟨by rw [HR.out]; rfl, below2 hB.out (below2 HB.out hB2)⟩
          | false =>
            have HR := Lib.hid (hgo (by simpa using hE))
            clear hgo hno
            go_wp2_with fail
            refine (KR.out _).mono ?_
            rintro e w1 ⟨u, rfl, hI, hB1⟩
            obtain ⟨am, cm, rfl⟩ := (ints_own hI).form
            have hbr := below2 hB1 (below_alloc w1 (.cells #[.int .i64 z, .int .i64 d, .slice am cs.length cm] 51))
            obtain ⟨e0, e1⟩ := HC.out _ hbr
            have HB := Lib.hid hbr
            clear hI hB1 hbr c0 c1 c2
            go_wp2_with fail
            refine (KI.out _).mono ?_
            rintro e w2 ⟨rfl, hB2⟩
            obtain ⟨f0, f1⟩ := HC.out _ (below2 HB.out hB2)
            clear e0 e1
            go_wp2_with fail
            go_roundw
            case rel => exact ⟨k + 1, by go_num, by omega, hn, HR, Lib.hid (below2 hB.out (below2 HB.out hB2))⟩
            case measure => simp [intOf]; omega
    · obtain rfl : k = l.length := by omega
      have hd : decide ((l.length : Int) < (l.length : Int)) = false := by simp
      have HR := Lib.hid (stTo_all hf.out)
      go_wp2_with fail
      go_ret
      exact ⟨by rw [HR.out]; rfl, hB.out⟩

/-! ### Last -/

end Go.Proofs.YtaaabmnaindgaaaGreatDoor

/-
  Rows of entries, read: five cells each, the last one a row of numbers.
-/
namespace Go.Proofs.YtaaabmnaindgaaaGreatDoor
set_option maxRecDepth 100000
open Go.RowKit

/-- An entry, and the slice of its meta's Chunks. -/
abbrev Ev := En × Value
/-- An entry as a value. -/
abbrev EV (e : En) (v : Value) : Value := .agg #[.string ⟨e.1.toArray⟩, .int .i64 e.2.1, .int .i64 e.2.2.1, .int .i64 e.2.2.2.1, v]
theorem ent_agg (w : World) : (isAgg 53).run Tryz.prog w = .ok true w := by simp [isAgg, run_underlying Tryz.underlying53]
def ecell (x : Ev) : List Value := [.string ⟨x.1.1.toArray⟩, .int .i64 x.1.2.1, .int .i64 x.1.2.2.1, .int .i64 x.1.2.2.2.1, x.2]
def ecells (S : List Ev) : List Value := S.flatMap ecell
/-- The changes alone. -/
abbrev ens (S : List Ev) : List En := S.map Prod.fst
theorem ecells_cons (x : Ev) (r : List Ev) : ecells (x :: r) = .string ⟨x.1.1.toArray⟩ :: .int .i64 x.1.2.1 :: .int .i64 x.1.2.2.1 :: .int .i64 x.1.2.2.2.1 :: x.2 :: ecells r := rfl
theorem ecells_len (S : List Ev) : (ecells S).length = S.length * 5 := by
  induction S with
  | nil => rfl
  | cons x r ih => rw [ecells_cons]; simp only [List.length_cons, ih]; omega
theorem ecells_append (a b : List Ev) : ecells (a ++ b) = ecells a ++ ecells b := by simp [ecells]
theorem ecells_take (S : List Ev) (n : Nat) : ecells (S.take n) = (ecells S).take (n * 5) := by
  induction S generalizing n with
  | nil => simp [ecells]
  | cons x r ih =>
    cases n with
    | zero => simp [ecells]
    | succ n =>
      rw [List.take_succ_cons, ecells_cons, ecells_cons, ih, show (n + 1) * 5 = n * 5 + 1 + 1 + 1 + 1 + 1 by omega]
      simp
theorem ecells_drop (S : List Ev) (n : Nat) : ecells (S.drop n) = (ecells S).drop (n * 5) := by
  induction S generalizing n with
  | nil => simp [ecells]
  | cons x r ih =>
    cases n with
    | zero => simp
    | succ n =>
      rw [List.drop_succ_cons, ecells_cons, ih, show (n + 1) * 5 = n * 5 + 1 + 1 + 1 + 1 + 1 by omega]
      simp
theorem ecells_at (S : List Ev) (i : Nat) (h : i < S.length) : (ecells S)[i * 5]? = some (.string ⟨S[i].1.1.toArray⟩) ∧ (ecells S)[i * 5 + 1]? = some (.int .i64 S[i].1.2.1) ∧ (ecells S)[i * 5 + 2]? = some (.int .i64 S[i].1.2.2.1) ∧
    (ecells S)[i * 5 + 3]? = some (.int .i64 S[i].1.2.2.2.1) ∧ (ecells S)[i * 5 + 4]? = some S[i].2 := by
  induction S generalizing i with
  | nil => simp at h
  | cons x r ih =>
    cases i with
    | zero => exact ⟨rfl, rfl, rfl, rfl, rfl⟩
    | succ i =>
      have h1 := ih i (by simpa using h)
      rw [ecells_cons, show (i + 1) * 5 = i * 5 + 1 + 1 + 1 + 1 + 1 by omega]
      exact h1

/-- The slice v reads as these changes. -/
def Ents (w : World) (v : Value) (S : List Ev) : Prop := Rw w 5 v S.length (ecells S) ∧ ∀ x ∈ S, Ints w x.2 x.1.2.2.2.2
theorem Ents.below {w w' : World} {v : Value} {S : List Ev} (h : Ents w v S) (hb : Below w.heap.size w w') : Ents w' v S := ⟨Rw.below h.1 hb, fun x hx => (h.2 x hx).below hb⟩
theorem Ents.form {w : World} {v : Value} {S : List Ev} (h : Ents w v S) : ∃ ao cap, v = .slice ao S.length cap := Rw.form h.1
theorem Ents.nil (w : World) : Ents w (.slice none 0 0) [] := ⟨Rw.nil w 5, fun x hx => by cases hx⟩
theorem Ents.at {w : World} {ao : Option Addr} {n cap : Nat} {S : List Ev} (h : Ents w (.slice ao n cap) S) {k : Nat} (hk : k < S.length) :
    ∃ b off, ao = some ⟨b, off, none⟩ ∧ (w.cell? ⟨b, off + k * 5, none⟩ = some (.string ⟨S[k].1.1.toArray⟩) ∧ w.cell? ⟨b, off + k * 5 + 1, none⟩ = some (.int .i64 S[k].1.2.1) ∧ w.cell? ⟨b, off + k * 5 + 2, none⟩ = some (.int .i64 S[k].1.2.2.1) ∧
      w.cell? ⟨b, off + k * 5 + 3, none⟩ = some (.int .i64 S[k].1.2.2.2.1) ∧ w.cell? ⟨b, off + k * 5 + 4, none⟩ = some S[k].2) ∧ Ints w S[k].2 S[k].1.2.2.2.2 := by
  obtain ⟨⟨hl, ao', cap', he, _, hc⟩, hx⟩ := h
  cases he
  rcases hc with h0 | ⟨b, off, rfl, hc⟩
  · omega
  · have h2 := ecells_len S
    obtain ⟨e1, e2, e3, e4, e5⟩ := ecells_at S k hk
    refine ⟨b, off, rfl, ⟨?_, ?_, ?_, ?_, ?_⟩, hx _ (List.getElem_mem hk)⟩
    · rw [hc (k * 5) (by omega), ← e1, List.getElem?_eq_getElem (by omega)]
    · rw [Nat.add_assoc, hc (k * 5 + 1) (by omega), ← e2, List.getElem?_eq_getElem (by omega)]
    · rw [Nat.add_assoc, hc (k * 5 + 2) (by omega), ← e3, List.getElem?_eq_getElem (by omega)]
    · rw [Nat.add_assoc, hc (k * 5 + 3) (by omega), ← e4, List.getElem?_eq_getElem (by omega)]
    · rw [Nat.add_assoc, hc (k * 5 + 4) (by omega), ← e5, List.getElem?_eq_getElem (by omega)]
theorem Ents.len {w : World} {ao : Option Addr} {k cap : Nat} {S : List Ev} (h : Ents w (.slice ao k cap) S) : S.length = k := by
  obtain ⟨⟨_, ao', c, he, _⟩, _⟩ := h
  cases he
  rfl
/-- The first k changes. -/
theorem Ents.take {w : World} {ao : Option Addr} {n cap : Nat} {S : List Ev} (h : Ents w (.slice ao n cap) S) {k : Nat} (hk : k ≤ S.length) : Ents w (.slice ao k cap) (S.take k) := by
  obtain ⟨⟨hl, ao', c, he, hc, h⟩, hx⟩ := h
  cases he
  have e : (S.take k).length = k := by simp; omega
  refine ⟨⟨ecells_len _, ao, cap, by rw [e], by omega, ?_⟩, fun x hm => hx x (List.mem_of_mem_take hm)⟩
  rcases h with h0 | ⟨b, off, rfl, hcs⟩
  · exact .inl (by omega)
  · refine .inr ⟨b, off, rfl, fun j hj => ?_⟩
    rw [ecells_len, e] at hj
    have h2 := ecells_len S
    rw [hcs j (by omega)]
    simp only [ecells_take]
    rw [List.getElem_take]
/-- The changes from the k-th one on. -/
theorem Ents.drop {w : World} {b off n cap : Nat} {S : List Ev} (h : Ents w (.slice (some ⟨b, off, none⟩) n cap) S) {k m cap' : Nat} (hk : k ≤ S.length) (hm : m = S.length - k) (hc' : m ≤ cap') (o : Nat) (ho : o = off + k * 5 ∨ k = S.length) : Ents w (.slice (some ⟨b, o, none⟩) m cap') (S.drop k) := by
  obtain ⟨⟨hl, ao', c, he, hc, h⟩, hx⟩ := h
  cases he
  have e : (S.drop k).length = m := by simp; omega
  refine ⟨⟨ecells_len _, _, cap', by rw [e], by omega, ?_⟩, fun x hm => hx x (List.mem_of_mem_drop hm)⟩
  by_cases h0 : k = S.length
  · exact .inl (by omega)
  · rcases h with h1 | ⟨b', off', he, hcs⟩
    · exact .inl (by omega)
    · cases he
      obtain rfl := ho.resolve_right h0
      refine .inr ⟨b, _, rfl, fun j hj => ?_⟩
      rw [ecells_len, e] at hj
      have h2 := ecells_len S
      rw [Nat.add_assoc, hcs (k * 5 + j) (by omega)]
      simp only [ecells_drop]
      rw [List.getElem_drop]
theorem Ents.of_nil {w : World} {n cap : Nat} {S : List Ev} (h : Ents w (.slice none n cap) S) : S = [] := by
  obtain ⟨⟨_, ao, c, he, _, h0 | ⟨b, off, h, _⟩⟩, _⟩ := h
  · exact List.eq_nil_of_length_eq_zero h0
  · cases he; cases h
theorem Ents.spot {w : World} {a : Addr} {n cap : Nat} {S : List Ev} (h : Ents w (.slice (some a) n cap) S) (h0 : S ≠ []) : ∃ b off, a = ⟨b, off, none⟩ := by
  obtain ⟨⟨_, ao, c, he, _, h1 | ⟨b, off, h, _⟩⟩, _⟩ := h
  · exact absurd (List.eq_nil_of_length_eq_zero h1) h0
  · cases he; cases h; exact ⟨b, off, rfl⟩
theorem ents_len {S : List Ev} {L : List En} (h : ens S = L) : S.length = L.length := by
  rw [← h]; simp
theorem ents_chunks {S : List Ev} {L : List En} (h : ens S = L) (hL : ∀ e ∈ L, e.2.2.2.2.length ≤ 1000000) : ∀ x ∈ S, x.1.2.2.2.2.length ≤ 1000000 := fun _ hx => hL _ (h ▸ List.mem_map_of_mem hx)

end Go.Proofs.YtaaabmnaindgaaaGreatDoor

/-
  Rows of entries of the call's own; an append of one.
-/
namespace Go.Proofs.YtaaabmnaindgaaaGreatDoor
set_option maxRecDepth 100000
open Go.RowKit

/-- A row of changes of the call's own, their Chunks too. -/
def OwnE (w : World) (base : Nat) (v : Value) (S : List Ev) : Prop := w.ownsRow base 53 5 v S.length (ecells S) ∧ ∀ x ∈ S, OwnI w base x.2 x.1.2.2.2.2
theorem OwnE.nil (w : World) (base : Nat) : OwnE w base (.slice none 0 0) [] := ⟨World.ownsRow_nil _ _ _ _, fun x h => by cases h⟩
theorem OwnE.ents {w : World} {base : Nat} {v : Value} {S : List Ev} (h : OwnE w base v S) : Ents w v S := ⟨Rw.own h.1, fun x hx => ints_own (h.2 x hx)⟩
theorem OwnE.form {w : World} {base : Nat} {v : Value} {S : List Ev} (h : OwnE w base v S) : ∃ ao cap, v = .slice ao S.length cap := h.ents.form
theorem OwnE.weak {w : World} {b b' : Nat} {v : Value} {S : List Ev} (h : OwnE w b' v S) (hb : b ≤ b') : OwnE w b v S := ⟨own_weak h.1 hb, fun x hx => own_weak (h.2 x hx) hb⟩
theorem OwnE.stays {w w' : World} {base : Nat} {v : Value} {S : List Ev} (h : OwnE w base v S) (hb : Below w.heap.size w w') : OwnE w' base v S := ⟨own_stays h.1 hb, fun x hx => own_stays (h.2 x hx) hb⟩
theorem infoE : (Tryz.prog.info? 53).map (fun i => (i.zero, i.size, i.bytes)) = some (some (.agg #[.string ⟨#[]⟩, .int .i64 0, .int .i64 0, .int .i64 0, .slice none 0 0]), 5, 64) := by kernel_rfl
theorem news_litE (w : World) (cs : List Value) (t : TypeId) : ∀ j u, cs[j]? = some u → (w.alloc (.cells cs.toArray t)).cell? ((⟨w.heap.size, 0, none⟩ : Addr).add j) = some u := by
  intro j u h
  rw [Go.WideShapes.add_plain, Nat.zero_add, World.cell?_alloc_new]
  simp [h]
theorem ecell_one {w : World} {x : Ev} {base : Nat} (h : OwnI w base x.2 x.1.2.2.2.2) : ∀ u ∈ ecell x, u.oneCell' = true := by
  obtain ⟨ao, n, cap, e⟩ := own_form h
  intro u hu
  simp [ecell] at hu
  rcases hu with rfl | rfl | rfl | rfl | rfl
  · rfl
  · rfl
  · rfl
  · rfl
  · rw [e]; rfl
theorem ecells_snoc (S : List Ev) (x : Ev) : ecells (S ++ [x]) = ecells S ++ ecell x := by rw [ecells_append]; simp [ecells]

/-- Behind an append to a row of changes: what else is the call's own stays. -/
def KeepE (w w' : World) : Prop := ∀ (base : Nat) (e : TypeId) (k n : Nat) (v : Value) (xs : List Value), e ≠ 53 → w.ownsRow base e k v n xs → w'.ownsRow base e k v n xs
theorem KeepE.trans {a b c : World} (h : KeepE a b) (k : KeepE b c) : KeepE a c := fun _ _ _ _ _ _ he ho => k _ _ _ _ _ _ he (h _ _ _ _ _ _ he ho)
theorem KeepE.below {a b : World} (h : Below a.heap.size a b) : KeepE a b := fun _ _ _ _ _ _ _ ho => own_stays ho h
theorem KeepE.grown {w w' : World} {base : Nat} {v : Value} {k n : Nat} {xs : List Value} (ho : w.ownsRow base 53 k v n xs) (hg : w.grownBy w' v.ownBlock) : KeepE w w' :=
  fun _ _ _ _ _ _ he h => h.kept hg (ba_apart h ho he)

/-- What an append of one change makes. -/
theorem ownE_app {w w' : World} {base : Nat} {v v' : Value} {S : List Ev} {c : Ev} {o : Obj} (hown : OwnE w base v S) (hc : OwnI w base c.2 c.1.2.2.2.2) (h2 : w'.ownsRow base 53 5 v' (S.length + 1) (ecells S ++ ecell c)) (h3 : (w.alloc o).grownBy w' v.ownBlock) :
    OwnE w' base v' (S ++ [c]) ∧ KeepE w w' := by
  have ho1 := hown.1.alloc o
  have hk := KeepE.trans (KeepE.below (below_alloc w o)) (KeepE.grown ho1 h3)
  refine ⟨⟨?_, fun x hx => ?_⟩, hk⟩
  · rw [List.length_append, ecells_snoc]
    exact h2
  · rcases List.mem_append.1 hx with hx | hx
    · exact hk _ _ _ _ _ _ (by decide) (hown.2 x hx)
    · obtain rfl := List.mem_singleton.1 hx
      exact hk _ _ _ _ _ _ (by decide) hc

theorem appIn_ent {F : Fence} {n : Nat} {w : World} {ops : Array Oper} {rest : List Oper} {o : Oper} {a : Act} {Q : Exit → Act → World → Prop} (hgd : o.guard = none) (s x : Operand)
    (ho : o.op = .call { callee := .builtin .append, args := #[s, x], argTypes := #[46, 46] })
    (base : Nat) (v : Value) (S : List Ev) (hs : a.eval s = v) (hown : OwnE w base v S) (p : List UInt8) (g : Int) (z d : Int) (u : Value) (cs : List Int) (hc : OwnI w base u cs) (k : Nat) (hk : w.heap.size = k) (hx : a.eval x = .slice (some ⟨k, 0, none⟩) 1 1)
    (hn : S.length ≤ 100000) (hbase : base ≤ w.heap.size)
    (h : ∀ v' w', OwnE w' base v' (S ++ [((p, g, z, d, cs), u)]) → (∀ w0, Below base w0 w → Below base w0 w') → KeepE w w' → wpListIn F n Tryz.prog ops Q rest (a.put o.dst v') w') :
    wpListIn F n Tryz.prog ops Q (o :: rest) a (w.alloc (.cells #[.string ⟨p.toArray⟩, .int .i64 g, .int .i64 z, .int .i64 d, u] 53)) := by
  subst hk
  obtain ⟨i0, hi, hz0, hz1, hz2⟩ := info_parts infoE
  refine wpListIn_append_own (P := Tryz.prog) (w.alloc (.cells #[.string ⟨p.toArray⟩, .int .i64 g, .int .i64 z, .int .i64 d, u] 53)) hgd s x 46 ho base 53 i0 _ 5 64 Tryz.underlying46 hi hz0 hz1 hz2 rfl (by decide) v S.length (ecells S) hs (hown.1.alloc _) ⟨w.heap.size, 0, none⟩ 1 1 (ecell ((p, g, z, d, cs), u)) hx rfl (news_litE w (ecell ((p, g, z, d, cs), u)) _) (ecell_one (x := ((p, g, z, d, cs), u)) hc) (by unfold maxLen; omega) (by omega) (by rw [World.size_alloc]; omega) ?_
  intro v' w' h2 h3 _
  obtain ⟨k1, k2⟩ := ownE_app (c := ((p, g, z, d, cs), u)) hown hc h2 h3
  exact h v' w' k1 (fun w0 hB => (hB.alloc hbase _).grown h3 (by rw [World.size_alloc]; omega) fun j e => (hown.1.lt j e).1) k2

end Go.Proofs.YtaaabmnaindgaaaGreatDoor

/-
  Rows of batches that are laid: two cells each, a time and a row of changes.
-/
namespace Go.Proofs.YtaaabmnaindgaaaGreatDoor
set_option maxRecDepth 100000
open Go.RowKit

/-- A batch in memory: its time, its slice, its changes. -/
abbrev Lv := (Int × Value) × List Cv
def lcell (x : Lv) : List Value := [.int .i64 x.1.1, x.1.2]
def lcells (S : List Lv) : List Value := S.flatMap lcell
/-- The batches alone. -/
abbrev lds (S : List Lv) : List Ld := S.map fun x => (x.1.1, chs x.2)
theorem lcells_cons (x : Lv) (r : List Lv) : lcells (x :: r) = .int .i64 x.1.1 :: x.1.2 :: lcells r := rfl
theorem lcells_len (S : List Lv) : (lcells S).length = S.length * 2 := by
  induction S with
  | nil => rfl
  | cons x r ih => rw [lcells_cons]; simp only [List.length_cons, ih]; omega
theorem lcells_at (S : List Lv) (i : Nat) (h : i < S.length) : (lcells S)[i * 2]? = some (.int .i64 S[i].1.1) ∧ (lcells S)[i * 2 + 1]? = some S[i].1.2 := by
  induction S generalizing i with
  | nil => simp at h
  | cons x r ih =>
    cases i with
    | zero => exact ⟨rfl, rfl⟩
    | succ i =>
      have h1 := ih i (by simpa using h)
      rw [lcells_cons, show (i + 1) * 2 = i * 2 + 1 + 1 by omega]
      exact h1
/-- The slice v reads as these batches. -/
def Lds (w : World) (v : Value) (S : List Lv) : Prop := Rw w 2 v S.length (lcells S) ∧ ∀ x ∈ S, Cgs w x.1.2 x.2
theorem Lds.below {w w' : World} {v : Value} {S : List Lv} (h : Lds w v S) (hb : Below w.heap.size w w') : Lds w' v S := ⟨Rw.below h.1 hb, fun x hx => (h.2 x hx).below hb⟩
theorem Lds.form {w : World} {v : Value} {S : List Lv} (h : Lds w v S) : ∃ ao cap, v = .slice ao S.length cap := Rw.form h.1
theorem Lds.nil (w : World) : Lds w (.slice none 0 0) [] := ⟨Rw.nil w 2, fun x hx => by cases hx⟩
theorem Lds.at {w : World} {ao : Option Addr} {n cap : Nat} {S : List Lv} (h : Lds w (.slice ao n cap) S) {k : Nat} (hk : k < S.length) :
    ∃ b off, ao = some ⟨b, off, none⟩ ∧ (w.cell? ⟨b, off + k * 2, none⟩ = some (.int .i64 S[k].1.1) ∧ w.cell? ⟨b, off + k * 2 + 1, none⟩ = some S[k].1.2) ∧ Cgs w S[k].1.2 S[k].2 := by
  obtain ⟨⟨hl, ao', cap', he, _, hc⟩, hx⟩ := h
  cases he
  rcases hc with h0 | ⟨b, off, rfl, hc⟩
  · omega
  · have h2 := lcells_len S
    obtain ⟨e1, e2⟩ := lcells_at S k hk
    refine ⟨b, off, rfl, ⟨?_, ?_⟩, hx _ (List.getElem_mem hk)⟩
    · rw [hc (k * 2) (by omega), ← e1, List.getElem?_eq_getElem (by omega)]
    · rw [Nat.add_assoc, hc (k * 2 + 1) (by omega), ← e2, List.getElem?_eq_getElem (by omega)]

/-! ### A row of batches of a call's own: trees stay while it grows -/

def isLd : Value → Bool | .int _ _ => true | .slice _ _ _ => true | _ => false
/-- The row is the call's own, its cells up to its room numbers and slices; the changes are not the call's own. -/
def OwnL2 (w : World) (base : Nat) (v : Value) (S : List Lv) : Prop :=
  ((v = .slice none 0 0 ∧ S = []) ∨ ∃ g cap cur, v = .slice (some ⟨g, 0, none⟩) S.length cap ∧ base ≤ g ∧ w.heap[g]? = some (.cells cur 90 (0, 0)) ∧ S.length ≤ cap ∧ cap ≤ maxLen ∧ cur.size = cap * 2 ∧ cur.toList.take (S.length * 2) = lcells S ∧ ∀ u ∈ cur.toList, isLd u = true) ∧
  ∀ x ∈ S, Cgs w x.1.2 x.2
theorem OwnL2.nil (w : World) (base : Nat) : OwnL2 w base (.slice none 0 0) [] := ⟨.inl ⟨rfl, rfl⟩, fun x h => by cases h⟩
theorem OwnL2.lds {w : World} {base : Nat} {v : Value} {S : List Lv} (h : OwnL2 w base v S) : Lds w v S := by
  refine ⟨?_, h.2⟩
  rcases h.1 with ⟨rfl, rfl⟩ | ⟨g, cap, cur, rfl, hb, hg, hn, hc, hs, ht, _⟩
  · exact Rw.nil w 2
  · refine ⟨lcells_len S, _, _, rfl, hn, .inr ⟨g, 0, rfl, fun j hj => ?_⟩⟩
    have h2 := lcells_len S
    rw [cell_of_row w g (0 + j) _ _ _ hg, Nat.zero_add, ← Array.getElem?_toList]
    have : (cur.toList.take (S.length * 2))[j]? = some (lcells S)[j] := by rw [ht, List.getElem?_eq_getElem hj]
    rw [List.getElem?_take] at this
    simpa [show j < S.length * 2 by omega] using this
theorem OwnL2.form {w : World} {base : Nat} {v : Value} {S : List Lv} (h : OwnL2 w base v S) : ∃ ao cap, v = .slice ao S.length cap := h.lds.form
theorem OwnL2.stays {w w' : World} {base : Nat} {v : Value} {S : List Lv} (h : OwnL2 w base v S) (hb : Below w.heap.size w w') : OwnL2 w' base v S := by
  refine ⟨?_, fun x hx => (h.2 x hx).below hb⟩
  rcases h.1 with h | ⟨g, cap, cur, hv, hbg, hg, h1⟩
  · exact .inl h
  · exact .inr ⟨g, cap, cur, hv, hbg, (hb.block g (Array.getElem?_eq_some_iff.1 hg).1).trans hg, h1⟩
end Go.Proofs.YtaaabmnaindgaaaGreatDoor

/-
  The document's own Big of batches that are laid.
-/
namespace Go.Proofs.YtaaabmnaindgaaaGreatDoor
set_option maxRecDepth 100000
open Go.RowKit

def bigL (S : List Lv) : Bool := decide (20 < S.length) || S.any fun x => bigC (chs x.2) || decide (25 < x.2.length)
/-- The first k are not too great. -/
def fitL (S : List Lv) (k : Nat) : Prop := ∀ (i : Nat) (hi : i < S.length), i < k → bigC (chs S[i].2) = false ∧ S[i].2.length ≤ 25
theorem fitL_succ {S : List Lv} {k : Nat} (h : fitL S k) (hk : k < S.length) (h1 : bigC (chs S[k].2) = false ∧ S[k].2.length ≤ 25) : fitL S (k + 1) := by
  intro i hi hik
  by_cases he : i = k
  · subst he; exact h1
  · exact h i hi (by omega)
theorem bigL_fit {S : List Lv} (h : fitL S S.length) (hl : S.length ≤ 20) : bigL S = false := by
  unfold bigL
  rw [decide_eq_false (by omega), Bool.false_or, List.any_eq_false]
  intro c hc
  obtain ⟨i, hi, rfl⟩ := List.getElem_of_mem hc
  obtain ⟨h1, h2⟩ := h i hi hi
  simp [h1]
  omega
theorem bigL_at {S : List Lv} {k : Nat} (hk : k < S.length) (h : bigC (chs S[k].2) = true ∨ 25 < S[k].2.length) : bigL S = true := by
  unfold bigL
  rw [Bool.or_eq_true, List.any_eq_true]
  refine .inr ⟨_, List.getElem_mem hk, ?_⟩
  simpa using h
theorem bigL_small {S : List Lv} (h : bigL S = false) : S.length ≤ 20 ∧ ∀ x ∈ S, SmallC (chs x.2) ∧ x.2.length ≤ 25 := by
  unfold bigL at h
  rw [Bool.or_eq_false_iff, List.any_eq_false] at h
  refine ⟨by have := of_decide_eq_false h.1; omega, fun x hx => ?_⟩
  have := h.2 x hx
  rw [Bool.not_eq_true, Bool.or_eq_false_iff] at this
  exact ⟨(bigC_small this.1).1, by have := of_decide_eq_false this.2; omega⟩

/-- What may be asked of the lengths. -/
def FitL (S : List Lv) : Prop := S.length ≤ 9223372036854775807 ∧ ∀ x ∈ S, x.2.length ≤ 9223372036854775807 ∧ ∀ c ∈ chs x.2, c.1.length ≤ 9223372036854775807 ∧ c.2.2.2.2.length ≤ 9223372036854775807

set_option maxHeartbeats 4000000 in
theorem refL_calls (v : Value) (S : List Lv) (w : World) (h : Lds w v S) (hf : FitL S) :
    Calls Tryz.prog 20 #[v] w fun e w' => e = .returned (.bool (bigL S)) ∧ w = w' := by
  obtain ⟨ao, cap, rfl⟩ := h.form
  obtain ⟨hn, hs⟩ := hf
  by_cases h20 : S.length ≤ 20
  · have hd : decide ((S.length : Int) ≤ 20) = true := by rw [decide_eq_true_eq]; omega
    have hd2 : decide ((20 : Int) < (S.length : Int)) = false := by rw [decide_eq_false_iff_not]; omega
    have HH := Lib.hid h
    have HS := Lib.hid hs
    have HF := Lib.hid (fun h => bigL_fit (S := S) h h20)
    clear h hs
    go_enter Tryz.func20, Tryz.ntmps20
    go_wp2_with fail
    go_loop [3] (fun i => ∃ k : Nat, i = .int .i64 k ∧ k ≤ S.length ∧ Hid (fitL S k)) (fun i => S.length - (intOf i).toNat)
    case atStart => exact ⟨0, rfl, Nat.zero_le _, Lib.hid (fun _ _ h => absurd h (Nat.not_lt_zero _))⟩
    case round =>
      obtain ⟨k, rfl, hk, hf⟩ := hrel
      by_cases hlt : k < S.length
      · obtain ⟨b, off, rfl, ⟨c0, c1⟩, hC⟩ := HH.out.at hlt
        have hgo := fun h => fitL_succ hf.out hlt h
        have hno := fun h => bigL_at hlt h
        obtain ⟨hl1, hl2⟩ := HS.out _ (List.getElem_mem hlt)
        obtain ⟨⟨⟨n, u⟩, T⟩, hx⟩ : ∃ x, S[k] = x := ⟨_, rfl⟩
        rw [hx] at c0 c1 hC hgo hno hl1 hl2
        dsimp only at c0 c1 hC hgo hno hl1 hl2
        have KB := Lib.hid (baBig_calls u T w hC hl1 hl2)
        obtain ⟨s1, s3, rfl⟩ := hC.form
        obtain ⟨s2, hs2⟩ : ∃ n, T.length = n := ⟨_, rfl⟩
        rw [hs2] at c1 hgo hno hl1 KB
        have hlt2 : decide ((k : Int) < (S.length : Int)) = true := by rw [decide_eq_true_eq]; omega
        cases hb : bigC (chs T) with
        | true =>
          rw [hb] at KB
          have HR := Lib.hid (hno (.inl hb))
          clear hgo hno hb hx hl2 hs2 hC
          go_wp2_with fail
          refine KB.out.mono ?_
          rintro e w1 ⟨rfl, rfl⟩
          go_wp2_with fail
          go_ret
          exact ⟨by rw [HR.out]; rfl, rfl⟩
        | false =>
          rw [hb] at KB
          by_cases h25 : s2 ≤ 25
          · have hd25 : decide ((25 : Int) < (s2 : Int)) = false := by rw [decide_eq_false_iff_not]; omega
            have HG := Lib.hid (hgo ⟨hb, h25⟩)
            clear hgo hno hb hx hl2 hs2 hC
            go_wp2_with fail
            refine KB.out.mono ?_
            rintro e w1 ⟨rfl, rfl⟩
            go_wp2_with fail
            go_round
            case rel => exact ⟨k + 1, by go_num, by omega, HG⟩
            case measure => simp [intOf]; omega
          · have hd25 : decide ((25 : Int) < (s2 : Int)) = true := by rw [decide_eq_true_eq]; omega
            have HR := Lib.hid (hno (.inr (by omega)))
            clear hgo hno hb hx hl2 hs2 hC
            go_wp2_with fail
            refine KB.out.mono ?_
            rintro e w1 ⟨rfl, rfl⟩
            go_wp2_with fail
            go_ret
            exact ⟨by rw [HR.out]; rfl, rfl⟩
      · obtain rfl : k = S.length := by omega
        have hlt2 : decide ((S.length : Int) < (S.length : Int)) = false := by simp
        have HR := Lib.hid (HF.out hf.out)
        go_wp2_with fail
        go_ret
        exact ⟨by rw [HR.out]; rfl, rfl⟩
  · have HR := Lib.hid (show bigL S = true by unfold bigL; rw [decide_eq_true (by omega)]; rfl)
    have hd : decide ((S.length : Int) ≤ 20) = false := by rw [decide_eq_false_iff_not]; omega
    have hd2 : decide ((20 : Int) < (S.length : Int)) = true := by rw [decide_eq_true_eq]; omega
    have hd3 : decide ((0 : Int) < (S.length : Int)) = true := by rw [decide_eq_true_eq]; omega
    rw [HR.out]
    clear h hs
    go_enter Tryz.func20, Tryz.ntmps20
    go_wp2_with fail
    go_loop [3] (fun i => i = .int .i64 0) (fun _ => 0)
    case atStart => rfl
    case round =>
      subst hrel
      go_wp2_with fail
      go_ret
      exact ⟨rfl, rfl⟩

end Go.Proofs.YtaaabmnaindgaaaGreatDoor

/-
  Batches that were laid one behind the other, and the store that they make.
-/
namespace Go.Proofs.YtaaabmnaindgaaaGreatDoor
set_option maxRecDepth 100000
open Go.RowKit

theorem took_vals : ∀ {r : List Ld}, TookR r → ∀ x ∈ layR r, x.2.length ≤ 96
  | [], _, x, hx => by cases hx
  | b :: r, h, x, hx => by
    obtain ⟨h1, _⟩ := layR_facts h.1
    obtain ⟨l1, _, l3, l4⟩ := layB_iff.1 h.2
    obtain ⟨_, _, b3, b4⟩ := isB_iff.1 l3
    rcases (mem_lay_new h1 (sort_unlike b4) (till_last l4) x).1 hx with hx | ⟨c, hc, rfl⟩
    · exact took_vals h.1 x hx
    · exact cval_len (b3 c hc)
theorem sto_took {w : World} {tv : Value} {r : List Ld} (h : TookR r) (hl : (layR r).length ≤ 1000) (ht : TreeV w tv (layR r)) (hm : Ml w) : Sto w tv (layR r) := by
  have hs := (layR_facts h).2
  refine ⟨ht, fun x hx => ?_, hl, fun x hx => ?_, fun x hx => by have := took_vals h x hx; omega, hm⟩
  · obtain ⟨h1, h2, _⟩ := st_times hs x hx
    unfold TimeK
    omega
  · have := under_len ((under_root x.1.1).trans (st_times hs x hx).2.2.1)
    omega

/-- The batches that were taken, in their order; the pairs that are there. -/
def pairsK (K : List Lv) : List Pr := layR (lds K).reverse
def stepK (K : List Lv) (x : Lv) : List Lv := if layB (pairsK K) x.1.1 (chs x.2) then K ++ [x] else K
def tookS (S : List Lv) : List Lv := S.foldl stepK []
def TookK (K : List Lv) : Prop := TookR (lds K).reverse
theorem lds_snoc (K : List Lv) (x : Lv) : (lds (K ++ [x])).reverse = (x.1.1, chs x.2) :: (lds K).reverse := by
  unfold lds
  rw [List.map_append, List.reverse_append]
  rfl
theorem pairsK_snoc (K : List Lv) (x : Lv) : pairsK (K ++ [x]) = layP (pairsK K) x.1.1 (chs x.2) := by
  unfold pairsK
  rw [lds_snoc]
  rfl
theorem stepK_took {K : List Lv} (h : TookK K) (x : Lv) : TookK (stepK K x) := by
  unfold stepK
  split
  · rename_i hl
    unfold TookK
    rw [lds_snoc]
    exact ⟨h, hl⟩
  · exact h
theorem took_snoc {S : List Lv} {k : Nat} (h : k < S.length) : tookS (S.take (k + 1)) = stepK (tookS (S.take k)) S[k] := by
  have e : S.take (k + 1) = S.take k ++ [S[k]] := by rw [List.take_append_getElem]
  rw [e]
  unfold tookS
  rw [List.foldl_append]
  rfl
theorem took_facts : ∀ (S K : List Lv), TookK K → TookK (S.foldl stepK K) ∧ (S.foldl stepK K).length ≤ K.length + S.length ∧ ∀ y ∈ S.foldl stepK K, y ∈ K ∨ y ∈ S
  | [], K, h => ⟨h, Nat.le_refl _, fun y hy => .inl hy⟩
  | x :: r, K, h => by
    obtain ⟨h1, h2, h3⟩ := took_facts r (stepK K x) (stepK_took h x)
    have hl : (stepK K x).length ≤ K.length + 1 := by unfold stepK; split <;> simp
    refine ⟨h1, by rw [List.length_cons]; rw [List.foldl_cons]; omega, fun y hy => ?_⟩
    rcases h3 y hy with hy | hy
    · unfold stepK at hy
      split at hy
      · rcases List.mem_append.1 hy with hy | hy
        · exact .inl hy
        · obtain rfl := List.mem_singleton.1 hy
          exact .inr (by simp)
      · exact .inl hy
    · exact .inr (List.mem_cons_of_mem _ hy)
theorem took_all (S : List Lv) : TookK (tookS S) ∧ (tookS S).length ≤ S.length ∧ ∀ y ∈ tookS S, y ∈ S := by
  obtain ⟨h1, h2, h3⟩ := took_facts S [] trivial
  exact ⟨h1, by simpa [tookS] using h2, fun y hy => (h3 y hy).resolve_left (by simp)⟩
theorem pairsK_len {K : List Lv} (h : TookK K) : (pairsK K).length ≤ 20 * K.length := by
  have := layR_len h
  simpa [pairsK] using this
theorem pairsK_st {K : List Lv} (h : TookK K) : Rises (pairsK K) ∧ isSt (pairsK K) = true := layR_facts h
theorem pairsK_sto {w : World} {tv : Value} {K : List Lv} (h : TookK K) (hl : K.length ≤ 50) (ht : TreeV w tv (pairsK K)) (hm : Ml w) : Sto w tv (pairsK K) :=
  sto_took h (by have := pairsK_len h; unfold pairsK at this; omega) ht hm

end Go.Proofs.YtaaabmnaindgaaaGreatDoor

/-
  store.Lay.
-/
namespace Go.Proofs.YtaaabmnaindgaaaGreatDoor
set_option maxRecDepth 100000
open Go.RowKit

theorem layP_len : ∀ (l : List Cg) (U : List Pr) (n : Int), (layP U n l).length ≤ U.length + l.length
  | [], U, n => by simp [layP]
  | c :: r, U, n => by
    have h := layP_len r (putL U ((c.1, n), cval c)) n
    show (layP (putL U ((c.1, n), cval c)) n r).length ≤ _
    rw [putL_length] at h
    rw [List.length_cons]
    split at h <;> omega
theorem layP_snoc {l : List Cg} {k : Nat} (h : k < l.length) (U : List Pr) (n : Int) : layP U n (l.take (k + 1)) = putL (layP U n (l.take k)) ((l[k].1, n), cval l[k]) := by
  have e : l.take (k + 1) = l.take k ++ [l[k]] := by rw [List.take_append_getElem]
  rw [e]
  unfold layP
  rw [List.foldl_append]
  rfl

set_option maxHeartbeats 4000000 in
theorem lay_no {tv : Value} {U : List Pr} {w : World} (h : Sto w tv U) (n : Int) (v : Value) (S : List Cv) (hS : Cgs w v S) (hn : S.length ≤ 1000000) (hs : SmallC (chs S)) (hno : (isSt U && layB U n (chs S)) = false) :
    Calls Tryz.prog 43 #[tv, .int .i64 n, v] w fun e w' => e = .returned (.tuple #[.pointer none, .int .i64 1]) ∧ Below w.heap.size w w' := by
  obtain ⟨tp, rfl⟩ := h.val
  obtain ⟨ao, cap, rfl⟩ := hS.form
  have KB := Lib.hid (baIs_calls _ S w hS hn hs h.2.2.2.2.2)
  have KS := Lib.hid (fun W (hB : Below w.heap.size w W) => surv_calls (h.below hB))
  obtain ⟨b, hb⟩ : ∃ b, isB (chs S) = b := ⟨_, rfl⟩
  obtain ⟨k, hk⟩ : ∃ b, isSt U = b := ⟨_, rfl⟩
  obtain ⟨m, hm⟩ : ∃ b, lastSo U = b := ⟨_, rfl⟩
  have hor : n < 1 ∨ (1 ≤ n ∧ 1000000000 < n) ∨ (1 ≤ n ∧ n ≤ 1000000000 ∧ b = false) ∨ (1 ≤ n ∧ n ≤ 1000000000 ∧ b = true ∧ k = false) ∨ (1 ≤ n ∧ n ≤ 1000000000 ∧ b = true ∧ k = true ∧ n ≤ m) := by
    by_cases h1 : n < 1
    · exact .inl h1
    by_cases h2 : 1000000000 < n
    · exact .inr (.inl ⟨by omega, h2⟩)
    cases b with
    | false => exact .inr (.inr (.inl ⟨by omega, by omega, rfl⟩))
    | true =>
      cases k with
      | false => exact .inr (.inr (.inr (.inl ⟨by omega, by omega, rfl, rfl⟩)))
      | true =>
        refine .inr (.inr (.inr (.inr ⟨by omega, by omega, rfl, rfl, ?_⟩)))
        have h3 : ¬ (layB U n (chs S) = true) := by
          rw [hk] at hno
          simpa using hno
        rw [layB_iff] at h3
        have h4 : lastI U = m := by rw [← hm, lastSo, hk, if_pos rfl]
        rw [h4] at h3
        have h5 : ¬ m < n := fun h => h3 ⟨by omega, by omega, hb, h⟩
        omega
  rw [hb] at KB
  rw [hk, hm] at KS
  clear h hS hs hno hb hk hm
  rcases hor with h1 | ⟨h1, h2⟩ | ⟨h1, h2, rfl⟩ | ⟨h1, h2, rfl, rfl⟩ | ⟨h1, h2, rfl, rfl, h3⟩
  · have d1 : decide (n < 1) = true := decide_eq_true h1
    go_enter Tryz.func43, Tryz.ntmps43
    go_wp2_with fail
    go_ret2
    exact ⟨rfl, Below.refl _ _⟩
  · have d1 : decide (n < 1) = false := decide_eq_false (by omega)
    have d2 : decide (1000000000 < n) = true := decide_eq_true h2
    go_enter Tryz.func43, Tryz.ntmps43
    go_wp2_with fail
    go_ret2
    exact ⟨rfl, Below.refl _ _⟩
  · have d1 : decide (n < 1) = false := decide_eq_false (by omega)
    have d2 : decide (1000000000 < n) = false := decide_eq_false (by omega)
    go_enter Tryz.func43, Tryz.ntmps43
    go_wp2_with fail
    refine KB.out.mono ?_
    rintro e w1 ⟨rfl, hB⟩
    go_wp2_with fail
    go_ret2
    exact ⟨rfl, hB⟩
  · have d1 : decide (n < 1) = false := decide_eq_false (by omega)
    have d2 : decide (1000000000 < n) = false := decide_eq_false (by omega)
    go_enter Tryz.func43, Tryz.ntmps43
    go_wp2_with fail
    refine KB.out.mono ?_
    rintro e w1 ⟨rfl, hB⟩
    go_wp2_with fail
    refine (KS.out _ hB).mono ?_
    rintro e w2 ⟨rfl, hB2⟩
    go_wp2_with fail
    go_ret2
    exact ⟨rfl, below2 hB hB2⟩
  · have d1 : decide (n < 1) = false := decide_eq_false (by omega)
    have d2 : decide (1000000000 < n) = false := decide_eq_false (by omega)
    have d3 : decide (n ≤ m) = true := decide_eq_true h3
    go_enter Tryz.func43, Tryz.ntmps43
    go_wp2_with fail
    refine KB.out.mono ?_
    rintro e w1 ⟨rfl, hB⟩
    go_wp2_with fail
    refine (KS.out _ hB).mono ?_
    rintro e w2 ⟨rfl, hB2⟩
    go_wp2_with fail
    go_ret2
    exact ⟨rfl, below2 hB hB2⟩

set_option maxHeartbeats 8000000 in
theorem lay_ok {tv : Value} {U : List Pr} {w : World} (h : Sto w tv U) (n : Int) (v : Value) (S : List Cv) (hS : Cgs w v S) (hs : SmallC (chs S)) (hk : isSt U = true) (hl : layB U n (chs S) = true) :
    Calls Tryz.prog 43 #[tv, .int .i64 n, v] w fun e w' => ∃ u, e = .returned (.tuple #[u, .int .i64 0]) ∧ TreeV w' u (layP U n (chs S)) ∧ Below w.heap.size w w' := by
  obtain ⟨l1, l2, l3, l4⟩ := layB_iff.1 hl
  have hn : S.length ≤ 20 := by
    have := (isB_iff.1 l3).2.1
    simpa using this
  have hU := h.2.2.1
  have KB := Lib.hid (baIs_calls v S w hS (by omega) hs h.2.2.2.2.2)
  have KS := Lib.hid (fun W (hB : Below w.heap.size w W) => surv_calls (h.below hB))
  have hm : lastSo U = lastI U := by rw [lastSo, if_pos hk]
  rw [l3] at KB
  rw [hk, hm] at KS
  obtain ⟨m, hme⟩ : ∃ b, lastI U = b := ⟨_, rfl⟩
  rw [hme] at KS l4
  have d1 : decide (n < 1) = false := decide_eq_false (by omega)
  have d2 : decide (1000000000 < n) = false := decide_eq_false (by omega)
  have d3 : decide (n ≤ m) = false := decide_eq_false (by omega)
  have HH := Lib.hid (And.intro h.1 (And.intro hS hs))
  obtain ⟨tp, rfl⟩ := h.val
  obtain ⟨ao, cap, rfl⟩ := hS.form
  have HL := Lib.hid (show (chs S).length = S.length by simp)
  clear h hS hs hk hl hm hme l3
  go_enter Tryz.func43, Tryz.ntmps43
  go_wp2_with fail
  refine KB.out.mono ?_
  rintro e w1 ⟨rfl, hB⟩
  go_wp2_with fail
  refine (KS.out _ hB).mono ?_
  rintro e w2 ⟨rfl, hB2⟩
  have HB2 := Lib.hid (below2 hB hB2)
  clear hB hB2
  go_wp2_with fail
  go_loopw [39, 0] (fun i t wr => ∃ k : Nat, i = .int .i64 k ∧ k ≤ S.length ∧ TreeV wr t (layP U n ((chs S).take k)) ∧ Below w.heap.size w wr) (fun i _ _ => S.length - (intOf i).toNat)
  case atStart => exact ⟨0, rfl, Nat.zero_le _, HH.out.1.below HB2.out, HB2.out⟩
  case round =>
    obtain ⟨k, rfl, hk, ht, hBr⟩ := hrel
    by_cases hlt : k < S.length
    · have hd : decide ((k : Int) < (S.length : Int)) = true := by simp; omega
      obtain ⟨b, off, rfl, ⟨c0, c1, c2, c3, c4⟩, hI⟩ := (HH.out.2.1.below hBr).at hlt
      have hltc : k < (chs S).length := by rw [HL.out]; exact hlt
      have hsm := (HH.out.2.2 _ (List.getElem_mem hltc)).2
      have hsn := Lib.hid (layP_snoc hltc U n)
      have hle := layP_len ((chs S).take k) U n
      rw [List.length_take, HL.out] at hle
      have hgt : (chs S)[k] = S[k].1 := by simp
      rw [hgt] at hsm hsn
      obtain ⟨⟨⟨q, g, z, d, cs⟩, vv⟩, hx⟩ : ∃ x, S[k] = x := ⟨_, rfl⟩
      rw [hx] at c0 c1 c2 c3 c4 hI hsm hsn
      dsimp only at c0 c1 c2 c3 c4 hI hsm hsn
      obtain ⟨s1, s3, rfl⟩ := hI.form
      obtain ⟨tq, rfl⟩ := ht.val
      obtain ⟨s2, hs2⟩ : ∃ n, cs.length = n := ⟨_, rfl⟩
      have KV := Lib.hid (fun W (hB : Below wr.heap.size wr W) => mValue_calls z d _ cs g W (hI.below hB) hsm)
      have KT := Lib.hid (fun s W (hB : Below wr.heap.size wr W) => tput_calls _ _ q n s W (ht.below hB) (by omega))
      have HX := Lib.hid (Cx.new wr 128 [.string ⟨q.toArray⟩, .bool g, .int .i64 z, .int .i64 d, .slice s1 s2 s3])
      have hBa := below_alloc wr (.cells #[.string ⟨q.toArray⟩, .bool g, .int .i64 z, .int .i64 d, .slice s1 s2 s3] 128)
      have HBR := Lib.hid (And.intro hBr hBa)
      rw [hs2] at c4 KV
      clear hI hsm hx hgt ht hBr hBa
      go_wp2_with fail
      refine (KV.out _ HBR.out.2).mono ?_
      rintro e w3 ⟨rfl, hB3⟩
      clear c0 c1 c2 c3 c4
      obtain ⟨c0, c1, c2, c3, c4⟩ := (HX.out.below hB3).five
      have HB3 := Lib.hid (below2 HBR.out.2 hB3)
      clear hB3
      go_wp2_with fail
      refine (KT.out _ _ HB3.out).mono ?_
      rintro e w4 ⟨u, rfl, hu, hB4⟩
      have HU := Lib.hid hu
      clear hu
      go_wp2_with fail
      go_roundw
      case rel => exact ⟨k + 1, by go_num, by omega, by rw [hsn.out]; exact HU.out, below3 HBR.out.1 HB3.out hB4⟩
      case measure => simp [intOf]; omega
    · obtain rfl : k = S.length := by omega
      have hd : decide ((S.length : Int) < (S.length : Int)) = false := by simp
      rw [List.take_of_length_le (Nat.le_of_eq HL.out)] at ht
      have HT := Lib.hid ht
      clear ht
      go_wp2_with fail
      go_ret2
      exact ⟨_, rfl, HT.out, hBr⟩

end Go.Proofs.YtaaabmnaindgaaaGreatDoor

/-
  store.file: what is told of a path and a time.
-/
namespace Go.Proofs.YtaaabmnaindgaaaGreatDoor
set_option maxRecDepth 100000
open Go.RowKit

theorem asOf_place {V : List Pr} (h : Rises V) (p : List UInt8) (m : Int) : asOf V p m = if placeN V (p, m) < V.length ∧ (hereP V (placeN V (p, m))).1.1 = p then some (hereP V (placeN V (p, m))) else none := by
  rw [asOf_tail h]
  unfold tailL
  by_cases hlt : placeN V (p, m) < V.length
  · rw [List.drop_eq_getElem_cons hlt, hereP_lt hlt]
    dsimp only
    by_cases hp : V[placeN V (p, m)].1.1 = p
    · rw [if_pos hp, if_pos ⟨hlt, hp⟩]
    · rw [if_neg hp, if_neg fun h => hp h.2]
  · rw [List.drop_eq_nil_of_le (by omega), if_neg fun h => hlt h.1]
theorem asOf_under {U : List Pr} {d p : List UInt8} (h : underOf d p = true) (n : Int) : asOf (underL U d) p n = asOf U p n := by
  unfold asOf underL
  rw [List.find?_filter]
  congr 1
  funext x
  by_cases hx : x.1.1 = p
  · rw [hx, h]
    simp
  · simp [hx]

/-- What stands for none. -/
def enD (o : Option En) : En := o.getD ([], 0, 0, 0, [])
theorem ent_size : (Tryz.prog.info? 53).map (·.size) = some 5 := by kernel_rfl
theorem load_ent (w : World) (g : Nat) (v0 v1 v2 v3 v4 : Value) (h : Cx w g 53 [v0, v1, v2, v3, v4]) : (loadVar 53 ⟨g, 0, none⟩).run Tryz.prog w = .ok (.agg #[v0, v1, v2, v3, v4]) w :=
  load_many (cs := [v0, v1, v2, v3, v4]) (ent_agg w) ent_size (cells_box h)
/-- An entry and a bool are what comes out of a call. -/
theorem ret_ent2 {fn : Func} {p q : Tmp} {R : Ending → World → Prop} {a : Act} {w : World} (h : fn.results = #[.cell p 53, .tmp q]) (hd : a.defers = []) (g : Nat) (v0 v1 v2 v3 v4 u : Value) (hp : a.tmps.getD p undef = .pointer (some ⟨g, 0, none⟩))
    (hq : a.tmps.getD q undef = u) (hc : Cx w g 53 [v0, v1, v2, v3, v4]) (hR : R (.returned (.tuple #[.agg #[v0, v1, v2, v3, v4], u])) w) : bodyPost Tryz.prog fn R .ret a w := by
  refine bodyPost_ret (v := .tuple #[.agg #[v0, v1, v2, v3, v4], u]) ?_ hd hR
  have hp' : a.tmps[p]?.getD undef = .pointer (some ⟨g, 0, none⟩) := by simpa using hp
  have hq' : a.tmps[q]?.getD undef = u := by simpa using hq
  simp [results, h, hp', hq', asAddr, load_ent w g v0 v1 v2 v3 v4 hc]
theorem Cx.five2 {w : World} {b : Nat} {t : TypeId} {v0 v1 v2 v3 v4 : Value} (h : Cx w b t [v0, v1, v2, v3, v4]) : (w.cell? ⟨b, 0, none⟩ = some v0 ∧ w.cell? ⟨b, 1, none⟩ = some v1 ∧ w.cell? ⟨b, 2, none⟩ = some v2 ∧ w.cell? ⟨b, 3, none⟩ = some v3 ∧ w.cell? ⟨b, 4, none⟩ = some v4) ∧
    (w.frozen? ⟨b, 0, none⟩ = false ∧ w.frozen? ⟨b, 1, none⟩ = false ∧ w.frozen? ⟨b, 2, none⟩ = false ∧ w.frozen? ⟨b, 3, none⟩ = false ∧ w.frozen? ⟨b, 4, none⟩ = false) ∧ b < w.heap.size :=
  ⟨⟨h.cell rfl, h.cell rfl, h.cell rfl, h.cell rfl, h.cell rfl⟩, ⟨h.frozen _, h.frozen _, h.frozen _, h.frozen _, h.frozen _⟩, h.lt⟩
theorem Cx.sets5 {w : World} {b : Nat} {t : TypeId} {v0 v1 v2 v3 v4 : Value} (h : Cx w b t [v0, v1, v2, v3, v4]) (x y z u v : Value) : Cx (((((w.setCell ⟨b, 0, none⟩ x).setCell ⟨b, 1, none⟩ y).setCell ⟨b, 2, none⟩ z).setCell ⟨b, 3, none⟩ u).setCell ⟨b, 4, none⟩ v) b t [x, y, z, u, v] :=
  ((((h.set 0 x).set 1 y).set 2 z).set 3 u).set 4 v
theorem Keeps.sets5 {g b : Nat} {w w' : World} (h : Keeps g w w') (hb : w.heap.size ≤ b) (x y z u v : Value) : Keeps g w (((((w'.setCell ⟨b, 0, none⟩ x).setCell ⟨b, 1, none⟩ y).setCell ⟨b, 2, none⟩ z).setCell ⟨b, 3, none⟩ u).setCell ⟨b, 4, none⟩ v) :=
  ((((h.other hb 0 x).other hb 1 y).other hb 2 z).other hb 3 u).other hb 4 v
theorem keeps_sets5 (b : Nat) (w : World) (x y z u v : Value) : Keeps b w (((((w.setCell ⟨b, 0, none⟩ x).setCell ⟨b, 1, none⟩ y).setCell ⟨b, 2, none⟩ z).setCell ⟨b, 3, none⟩ u).setCell ⟨b, 4, none⟩ v) :=
  (((((Keeps.refl b w).set 0 x).set 1 y).set 2 z).set 3 u).set 4 v

/-- What file leaves. -/
def FilePost (wt : World) (lo g : Nat) (V : List Pr) (w : World) (o : Option En) (e : Ending) (w' : World) : Prop :=
  ∃ v, e = .returned (.tuple #[EV (enD o) v, .bool o.isSome]) ∧ OwnI w' w.heap.size v (enD o).2.2.2.2 ∧ (∃ j, CurH wt lo w' g V j) ∧ Keeps g w w'

set_option maxHeartbeats 8000000 in
theorem file_calls {wt w : World} {lo g : Nat} {V : List Pr} {i : Nat} (hc : CurH wt lo w g V i) (hv : ∀ x ∈ V, verB x = true ∧ x.2.length ≤ 4611686018427387904) (hml : Ml wt) (p : List UInt8) (n : Int) (hp : isP p = true) (h0 : 0 ≤ n) :
    Calls Tryz.prog 48 #[.func (.func 49) #[.pointer (some ⟨g, 0, none⟩)] #[], .func (.func 50) #[.pointer (some ⟨g, 0, none⟩)] #[], .string ⟨p.toArray⟩, .int .i64 n] w (FilePost wt lo g V w (told (asOf V p n))) := by
  obtain ⟨hr, ht, hl, hpl, _, hwg, hbt⟩ := hc.facts
  have hp100 : p.length ≤ 1000000 := by
    have := under_len ((under_root p).trans hp)
    omega
  have hkt : keyB (topK p n) = true := by rw [first_ref, hp]; simp [h0]
  obtain ⟨m, hme⟩ : ∃ m, min n 1000000000 = m := ⟨_, rfl⟩
  have hK1 : firstK p n = (p, m) := by rw [firstK, if_pos hkt, topK, hme]
  have hK2 : firstE p n = 0 := by rw [firstE, if_pos hkt]
  have htop : asOf V p n = asOf V p m := by
    rw [← hme, asOf_top fun x hx => (ver_times (hv x hx).1).2]
  have hpl2 := asOf_place hr p m
  rw [htop]
  have KF := Lib.hid (fun W hm => kFirst_calls p n hp100 W hm)
  rw [hK1, hK2] at KF
  have hB0 := below_alloc w (.cells #[.string ⟨#[]⟩, .int .i64 0, .int .i64 0, .int .i64 0, .slice none 0 0] 53)
  have HM := Lib.hid (hml.below hbt)
  have hml2 := Lib.hid (fun W (h : CurH wt lo W g V (nextI V (placeN V (p, m)))) => hml.below h.facts.2.2.2.2.2.2)
  have HE := Lib.hid (Cx.new w 53 [.string ⟨#[]⟩, .int .i64 0, .int .i64 0, .int .i64 0, .slice none 0 0])
  have HC := Lib.hid (And.intro (hc.below hB0) hB0)
  have hgl := hc.cells.choose_spec.2.2.2.2
  obtain ⟨j, hj⟩ : ∃ j, placeN V (p, m) = j := ⟨_, rfl⟩
  rw [hj] at hpl2
  have KS := Lib.hid (fun (W : World) (i : Nat) (h : CurH wt lo W g V i) => hSeek_calls h (p, m))
  rw [hj] at KS hml2
  dsimp only [KV] at KS
  have KN := Lib.hid (fun (W : World) (h : CurH wt lo W g V j) => hNext_calls h)
  have HV := Lib.hid (And.intro hv (And.intro hpl (And.intro hr ht)))
  clear hc hr ht hl hpl hv hwg hbt hp100 hkt hme hK1 hK2 htop hB0 hj hml
  obtain ⟨o, ho⟩ : ∃ o, told (asOf V p m) = o := ⟨_, rfl⟩
  rw [ho]
  by_cases hlt : j < V.length
  · have hx := hereP_lt hlt
    have hmem := List.getElem_mem hlt
    obtain ⟨⟨⟨q, tm⟩, s⟩, hxe⟩ : ∃ x, hereP V j = x := ⟨_, rfl⟩
    rw [← hx, hxe] at hmem
    rw [hxe] at KN hpl2
    have hd : decide (j < V.length) = true := decide_eq_true hlt
    rw [hd] at KN
    dsimp only [PV] at KN
    dsimp only at hpl2
    obtain ⟨hver, hvl⟩ := HV.out.1 _ hmem
    have hql := HV.out.2.1 _ hmem
    dsimp only at hvl hql
    have HX := Lib.hid (And.intro hver (And.intro hvl hql))
    clear hx hxe hd hver hvl hql hmem
    go_enter Tryz.func48, Tryz.ntmps48
    go_wp2_with fail
    refine (KF.out _ (HM.out.below HC.out.2)).mono ?_
    rintro e w1 ⟨rfl, hB1⟩
    have hBa := below_alloc w1 (.cells #[.string ⟨p.toArray⟩, .int .i64 m] 65)
    have HC1 := Lib.hid (And.intro ((HC.out.1.below hB1).below hBa) (below3 HC.out.2 hB1 hBa))
    have HE1 := Lib.hid ((HE.out.below hB1).below hBa)
    clear hB1 hBa
    go_wp2_with fail
    refine (KS.out _ _ HC1.out.1).mono ?_
    rintro e w2 ⟨rfl, hc2, hk2⟩
    have HC2 := Lib.hid (And.intro hc2 (Keeps.start HC1.out.2 hk2))
    have HE2 := Lib.hid (HE1.out.keeps (by omega) hk2)
    clear hc2 hk2
    go_wp2_with fail
    refine (KN.out _ HC2.out.1).mono ?_
    rintro e w3 ⟨rfl, hc3, hk3⟩
    have hBa := below_alloc w3 (.cells #[.string ⟨q.toArray⟩, .int .i64 tm, .string ⟨s.toArray⟩] 67)
    have HC3 := Lib.hid (And.intro (hc3.below hBa) ((HC2.out.2.trans hk3).then hBa))
    have HE3 := Lib.hid ((HE2.out.keeps (by omega) hk3).below hBa)
    have HP := Lib.hid (Cx.new w3 67 [.string ⟨q.toArray⟩, .int .i64 tm, .string ⟨s.toArray⟩])
    have hs3 := (HC2.out.2.trans hk3).size
    clear hc3 hk3 hBa
    by_cases hq : q = p
    · subst hq
      rw [if_pos ⟨hlt, rfl⟩] at hpl2
      have hmW := hml2.out _ HC3.out.1
      have KV := Lib.hid (fun W hm => ver_ok q tm s (by have := HX.out.2.2; omega) HX.out.2.1 W hm HX.out.1)
      have hqq : (q == q) = true := by simp
      cases hg : redG s with
      | true =>
        rw [hg] at KV
        have ho2 : o = none := by rw [← ho, hpl2]; unfold told; dsimp only; rw [if_pos hg]
        subst ho2
        clear hg ho hpl2 hlt
        go_wp2_with fail
        refine (KV.out _ hmW).mono ?_
        rintro e w4 ⟨v, rfl, hI, hB4⟩
        obtain ⟨aM, cM, rfl⟩ := (ints_own hI).form
        obtain ⟨nM, hnM⟩ : ∃ k, (redM s).2.2.length = k := ⟨_, rfl⟩
        rw [hnM]
        have hBb := below_alloc w4 (.cells #[.int .i64 (redM s).1, .int .i64 (redM s).2.1, .slice aM nM cM] 51)
        have HC4 := Lib.hid (And.intro ((HC3.out.1.below hB4).below hBb) ((HC3.out.2.then hB4).then hBb))
        have HE4 := Lib.hid ((HE3.out.below hB4).below hBb)
        clear hI hB4 hBb hnM
        obtain ⟨⟨e0, e1, e2, e3, e4⟩, ⟨f0, f1, f2, f3, f4⟩, hlE⟩ := HE4.out.five2
        go_wp2_with fail
        have hkk := keeps_sets5 w.heap.size (w4.alloc (.cells #[.int .i64 (redM s).1, .int .i64 (redM s).2.1, .slice aM nM cM] 51)) (.string ⟨#[]⟩) (.int .i64 0) (.int .i64 0) (.int .i64 0) (.slice none 0 0)
        refine ret_ent2 rfl rfl w.heap.size _ _ _ _ _ _ rfl rfl (HE4.out.sets5 _ _ _ _ _) ⟨_, rfl, World.ownsRow_nil _ _ _ _, ⟨_, HC4.out.1.other hkk (by omega) (by omega)⟩, HC4.out.2.sets5 (Nat.le_refl _) _ _ _ _ _⟩
      | false =>
        rw [hg] at KV
        obtain ⟨⟨z1, z2, z3⟩, hM⟩ : ∃ x, redM s = x := ⟨_, rfl⟩
        have ho2 : o = some (q, tm, z1, z2, z3) := by rw [← ho, hpl2]; unfold told; dsimp only; rw [if_neg (by rw [hg]; simp), hM]
        subst ho2
        rw [hM] at KV
        dsimp only at KV
        clear hg ho hpl2 hlt hM
        go_wp2_with fail
        refine (KV.out _ hmW).mono ?_
        rintro e w4 ⟨v, rfl, hI, hB4⟩
        obtain ⟨aM, cM, rfl⟩ := (ints_own hI).form
        obtain ⟨nM, hnM⟩ : ∃ k, z3.length = k := ⟨_, rfl⟩
        rw [hnM] at hI ⊢
        have hBb := below_alloc w4 (.cells #[.int .i64 z1, .int .i64 z2, .slice aM nM cM] 51)
        have HC4 := Lib.hid (And.intro ((HC3.out.1.below hB4).below hBb) ((HC3.out.2.then hB4).then hBb))
        have HE4 := Lib.hid ((HE3.out.below hB4).below hBb)
        have HI := Lib.hid (own_stays hI hBb)
        obtain ⟨x0, x1, x2, _⟩ := ((HP.out.below hB4).below hBb).three
        obtain ⟨y0, y1, y2, _⟩ := (Cx.new w4 51 [.int .i64 z1, .int .i64 z2, .slice aM nM cM]).three
        have HN := Lib.hid hnM
        clear hI hB4 hBb hnM
        obtain ⟨⟨e0, e1, e2, e3, e4⟩, ⟨f0, f1, f2, f3, f4⟩, hlE⟩ := HE4.out.five2
        go_wp2_with fail
        have hkk := keeps_sets5 w.heap.size (w4.alloc (.cells #[.int .i64 z1, .int .i64 z2, .slice aM nM cM] 51)) (.string ⟨q.toArray⟩) (.int .i64 tm) (.int .i64 z1) (.int .i64 z2) (.slice aM nM cM)
        refine ret_ent2 rfl rfl w.heap.size _ _ _ _ _ _ rfl rfl (HE4.out.sets5 _ _ _ _ _) ⟨_, rfl, ?_, ⟨_, HC4.out.1.other hkk (by omega) (by omega)⟩, HC4.out.2.sets5 (Nat.le_refl _) _ _ _ _ _⟩
        have h1 := HI.out
        rw [← HN.out] at h1 ⊢
        have hl : w.heap.size < w3.heap.size + 1 := by omega
        refine own_weak (b := w.heap.size) (own_above (own_above (own_above (own_above (own_above h1 ?_ 0 _) ?_ 1 _) ?_ 2 _) ?_ 3 _) ?_ 4 _) ?_ <;> (try rw [World.size_alloc]) <;> omega
    · have ho2 : o = none := by rw [← ho, hpl2, if_neg fun h => hq h.2]; rfl
      subst ho2
      have hqn : (q == p) = false := by simpa using hq
      clear hq ho hpl2 hlt
      obtain ⟨⟨e0, e1, e2, e3, e4⟩, ⟨f0, f1, f2, f3, f4⟩, hlE⟩ := HE3.out.five2
      go_wp2_with fail
      have hkk := keeps_sets5 w.heap.size (w3.alloc (.cells #[.string ⟨q.toArray⟩, .int .i64 tm, .string ⟨s.toArray⟩] 67)) (.string ⟨#[]⟩) (.int .i64 0) (.int .i64 0) (.int .i64 0) (.slice none 0 0)
      refine ret_ent2 rfl rfl w.heap.size _ _ _ _ _ _ rfl rfl (HE3.out.sets5 _ _ _ _ _) ⟨_, rfl, World.ownsRow_nil _ _ _ _, ⟨_, HC3.out.1.other hkk (by omega) (by omega)⟩, HC3.out.2.sets5 (Nat.le_refl _) _ _ _ _ _⟩
  · have ho2 : o = none := by rw [← ho, hpl2, if_neg fun h => hlt h.1]; rfl
    subst ho2
    have hd : decide (j < V.length) = false := decide_eq_false hlt
    have hh : hereP V j = (([], 0), []) := by unfold hereP; rw [List.getElem?_eq_none (by omega)]; rfl
    rw [hd, hh] at KN
    clear hpl2 ho hd hh hlt
    go_enter Tryz.func48, Tryz.ntmps48
    go_wp2_with fail
    refine (KF.out _ (HM.out.below HC.out.2)).mono ?_
    rintro e w1 ⟨rfl, hB1⟩
    have hBa := below_alloc w1 (.cells #[.string ⟨p.toArray⟩, .int .i64 m] 65)
    have HC1 := Lib.hid (And.intro ((HC.out.1.below hB1).below hBa) (below3 HC.out.2 hB1 hBa))
    have HE1 := Lib.hid ((HE.out.below hB1).below hBa)
    clear hB1 hBa
    go_wp2_with fail
    refine (KS.out _ _ HC1.out.1).mono ?_
    rintro e w2 ⟨rfl, hc2, hk2⟩
    have HC2 := Lib.hid (And.intro hc2 (Keeps.start HC1.out.2 hk2))
    have HE2 := Lib.hid (HE1.out.keeps (by omega) hk2)
    clear hc2 hk2
    go_wp2_with fail
    refine (KN.out _ HC2.out.1).mono ?_
    rintro e w3 ⟨rfl, hc3, hk3⟩
    have hBa := below_alloc w3 (.cells #[.string ⟨#[]⟩, .int .i64 0, .string ⟨#[]⟩] 67)
    have HC3 := Lib.hid (And.intro (hc3.below hBa) ((HC2.out.2.trans hk3).then hBa))
    have HE3 := Lib.hid ((HE2.out.keeps (by omega) hk3).below hBa)
    clear hc3 hk3 hBa
    obtain ⟨⟨e0, e1, e2, e3, e4⟩, ⟨f0, f1, f2, f3, f4⟩, hlE⟩ := HE3.out.five2
    go_wp2_with fail
    have hkk := keeps_sets5 w.heap.size (w3.alloc (.cells #[.string ⟨#[]⟩, .int .i64 0, .string ⟨#[]⟩] 67)) (.string ⟨#[]⟩) (.int .i64 0) (.int .i64 0) (.int .i64 0) (.slice none 0 0)
    refine ret_ent2 rfl rfl w.heap.size _ _ _ _ _ _ rfl rfl (HE3.out.sets5 _ _ _ _ _) ⟨_, rfl, World.ownsRow_nil _ _ _ _, ⟨_, HC3.out.1.other hkk (by omega) (by omega)⟩, HC3.out.2.sets5 (Nat.le_refl _) _ _ _ _ _⟩

end Go.Proofs.YtaaabmnaindgaaaGreatDoor

/-
  store.AsOf.
-/
namespace Go.Proofs.YtaaabmnaindgaaaGreatDoor
set_option maxRecDepth 100000
open Go.RowKit

theorem ret_ent3 {fn : Func} {p q r : Tmp} {R : Ending → World → Prop} {a : Act} {w : World} (h : fn.results = #[.cell p 53, .tmp q, .tmp r]) (hd : a.defers = []) (g : Nat) (v0 v1 v2 v3 v4 u t : Value) (hp : a.tmps.getD p undef = .pointer (some ⟨g, 0, none⟩))
    (hq : a.tmps.getD q undef = u) (hr : a.tmps.getD r undef = t) (hc : Cx w g 53 [v0, v1, v2, v3, v4]) (hR : R (.returned (.tuple #[.agg #[v0, v1, v2, v3, v4], u, t])) w) : bodyPost Tryz.prog fn R .ret a w := by
  refine bodyPost_ret (v := .tuple #[.agg #[v0, v1, v2, v3, v4], u, t]) ?_ hd hR
  have hp' : a.tmps[p]?.getD undef = .pointer (some ⟨g, 0, none⟩) := by simpa using hp
  have hq' : a.tmps[q]?.getD undef = u := by simpa using hq
  have hr' : a.tmps[r]?.getD undef = t := by simpa using hr
  simp [results, h, hp', hq', hr', asAddr, load_ent w g v0 v1 v2 v3 v4 hc]
theorem ref_zero {s : List UInt8} {n : Int} : refE s n = 0 ↔ isP s = true ∧ 0 ≤ n := by
  unfold refE
  cases isP s with
  | false => simp
  | true =>
    by_cases h : n < 0
    · simp [h]
    · simp [h]; omega
/-- What AsOf tells. -/
def asL (U : List Pr) (p : List UInt8) (n : Int) : Option En := if refE p n = 0 then told (asOf U p n) else none

set_option maxHeartbeats 8000000 in
theorem asOf_calls {tv : Value} {U : List Pr} {w : World} (h : Sto w tv U) (hs : isSt U = true) (p : List UInt8) (n : Int) (hl : p.length ≤ 1000000) :
    Calls Tryz.prog 23 #[tv, .string ⟨p.toArray⟩, .int .i64 n] w fun e w' => ∃ v, e = .returned (.tuple #[EV (enD (asL U p n)) v, .bool (asL U p n).isSome, .int .i64 (refE p n)]) ∧ OwnI w' w.heap.size v (enD (asL U p n)).2.2.2.2 ∧ Below w.heap.size w w' := by
  obtain ⟨tp, rfl⟩ := h.val
  have hB0 := below_alloc w (.cells #[.string ⟨#[]⟩, .int .i64 0, .int .i64 0, .int .i64 0, .slice none 0 0] 53)
  have HE := Lib.hid (Cx.new w 53 [.string ⟨#[]⟩, .int .i64 0, .int .i64 0, .int .i64 0, .slice none 0 0])
  have KR := Lib.hid (fun W (hB : Below w.heap.size w W) => refusal_calls (h.below hB) hs p n hl)
  have HH := Lib.hid (And.intro h (And.intro hs hB0))
  obtain ⟨E, hE⟩ : ∃ E, refE p n = E := ⟨_, rfl⟩
  rw [hE] at KR ⊢
  by_cases h0 : E = 0
  · subst h0
    obtain ⟨hip, hn0⟩ := ref_zero.1 hE
    have hlp : p.length ≤ 1000 := by
      have := under_len ((under_root p).trans hip)
      omega
    have hus : underOf p p = true := by rw [under_self]; exact hip
    have has : asL U p n = told (asOf (underL U p) p n) := by rw [asL, if_pos hE, asOf_under hus]
    rw [has]
    have hVv : ∀ x ∈ underL U p, verB x = true ∧ x.2.length ≤ 4611686018427387904 := fun x hx => ⟨List.all_eq_true.1 hs x (List.mem_filter.1 hx).1, h.2.2.2.2.1 x (List.mem_filter.1 hx).1⟩
    have KN := Lib.hid (fun W (hB : Below w.heap.size w W) => hNew_calls _ U p w W h.1 hB h.2.2.2.2.2 h.2.1 h.2.2.1 h.2.2.2.1 hlp hip)
    have KF := Lib.hid (fun (W : World) (lo g i : Nat) (hc : CurH w lo W g (underL U p) i) => file_calls hc hVv h.2.2.2.2.2 p n hip hn0)
    obtain ⟨o, ho⟩ : ∃ o, told (asOf (underL U p) p n) = o := ⟨_, rfl⟩
    rw [ho] at KF ⊢
    obtain ⟨V, hV⟩ : ∃ V, underL U p = V := ⟨_, rfl⟩
    rw [hV] at KF KN
    clear h hs hB0 hE hip hn0 hlp hus has hVv ho hV
    go_enter Tryz.func23, Tryz.ntmps23
    go_wp2_with fail
    refine (KR.out _ HH.out.2.2).mono ?_
    rintro e w1 ⟨rfl, hB1⟩
    have HB1 := Lib.hid (below2 HH.out.2.2 hB1)
    have HE1 := Lib.hid (HE.out.below hB1)
    clear hB1
    go_wp2_with fail
    refine (KN.out _ HB1.out).mono ?_
    rintro e w2 ⟨g, rfl, hc, hB2⟩
    have hgl := hc.cells.choose_spec.2.2.2.2
    have hlo := hc.lo_le
    have HC := Lib.hid hc
    have HB2 := Lib.hid (below2 HB1.out hB2)
    have HE2 := Lib.hid (HE1.out.below hB2)
    have hs1 := HB1.out.size
    have hwg : w.heap.size + 1 ≤ g := by
      have := HE1.out.lt
      omega
    clear hc hB2
    go_wp2_with fail
    refine (KF.out _ _ _ _ HC.out).mono ?_
    rintro e w3 ⟨v, rfl, hI, _, hk⟩
    obtain ⟨aM, cM, rfl⟩ := (ints_own hI).form
    obtain ⟨nM, hnM⟩ : ∃ k, (enD o).2.2.2.2.length = k := ⟨_, rfl⟩
    rw [hnM]
    have hBc := below_alloc w3 (.cells #[.string ⟨(enD o).1.toArray⟩, .int .i64 (enD o).2.1, .int .i64 (enD o).2.2.1, .int .i64 (enD o).2.2.2.1, .slice aM nM cM] 53)
    have HI := Lib.hid (own_stays hI hBc)
    have HB3 := Lib.hid (below2 (hk.low HB2.out (by omega)) hBc)
    have HE3 := Lib.hid ((HE2.out.keeps (by omega) hk).below hBc)
    have HN := Lib.hid hnM
    obtain ⟨⟨y0, y1, y2, y3, y4⟩, _, _⟩ := (Cx.new w3 53 [.string ⟨(enD o).1.toArray⟩, .int .i64 (enD o).2.1, .int .i64 (enD o).2.2.1, .int .i64 (enD o).2.2.2.1, .slice aM nM cM]).five2
    obtain ⟨⟨e0, e1, e2, e3, e4⟩, ⟨f0, f1, f2, f3, f4⟩, hlE⟩ := HE3.out.five2
    have hs2 := HB2.out.size
    clear hI hk hBc hnM
    go_wp2_with fail
    have hkk := keeps_sets5 w.heap.size (w3.alloc (.cells #[.string ⟨(enD o).1.toArray⟩, .int .i64 (enD o).2.1, .int .i64 (enD o).2.2.1, .int .i64 (enD o).2.2.2.1, .slice aM nM cM] 53)) (.string ⟨(enD o).1.toArray⟩) (.int .i64 (enD o).2.1) (.int .i64 (enD o).2.2.1) (.int .i64 (enD o).2.2.2.1) (.slice aM nM cM)
    refine ret_ent3 rfl rfl w.heap.size _ _ _ _ _ _ _ rfl rfl rfl (HE3.out.sets5 _ _ _ _ _) ⟨_, by rfl, ?_, hkk.on HB3.out (Nat.le_refl _) HB3.out.size⟩
    have h1 := HI.out
    rw [← HN.out] at h1 ⊢
    have hl2 : w.heap.size < w2.heap.size := by omega
    exact own_weak (own_above (own_above (own_above (own_above (own_above h1 hl2 0 _) hl2 1 _) hl2 2 _) hl2 3 _) hl2 4 _) (by omega)
  · have hEb : (E != 0) = true := by simpa using h0
    have has : asL U p n = none := by rw [asL, if_neg (by rw [hE]; exact h0)]
    rw [has]
    clear h hs hB0 hE h0 has
    go_enter Tryz.func23, Tryz.ntmps23
    go_wp2_with fail
    refine (KR.out _ HH.out.2.2).mono ?_
    rintro e w1 ⟨rfl, hB1⟩
    have HB1 := Lib.hid (below2 HH.out.2.2 hB1)
    have HE1 := Lib.hid (HE.out.below hB1)
    obtain ⟨⟨e0, e1, e2, e3, e4⟩, ⟨f0, f1, f2, f3, f4⟩, hlE⟩ := HE1.out.five2
    clear hB1
    go_wp2_with fail
    have hkk := keeps_sets5 w.heap.size w1 (.string ⟨#[]⟩) (.int .i64 0) (.int .i64 0) (.int .i64 0) (.slice none 0 0)
    exact ret_ent3 rfl rfl w.heap.size _ _ _ _ _ _ _ rfl rfl rfl (HE1.out.sets5 _ _ _ _ _) ⟨_, rfl, World.ownsRow_nil _ _ _ _, hkk.on HB1.out (Nat.le_refl _) HB1.out.size⟩

end Go.Proofs.YtaaabmnaindgaaaGreatDoor

/-
  What History tells, in plain words. No program is named here.
-/
namespace Go.Proofs.YtaaabmnaindgaaaGreatDoor
set_option maxRecDepth 100000

end Go.Proofs.YtaaabmnaindgaaaGreatDoor

/-
  What is told of any pairs: a store's, or none; the error of a call of a tree that is none.
-/
namespace Go.Proofs.YtaaabmnaindgaaaGreatDoor
set_option maxRecDepth 100000
open Go.RowKit

/-- What is told of any pairs: of those that are no store there is ErrArg. -/
def refX (U : List Pr) (p : List UInt8) (n : Int) : Int := if isSt U then refE p n else 1
def asX (U : List Pr) (p : List UInt8) (n : Int) : Option En := if isSt U then asL U p n else none
def listX (U : List Pr) (d : List UInt8) (n : Int) : List En := if refX U d n = 0 then listL U d n else []
theorem refX_zero {U : List Pr} {s : List UInt8} {n : Int} : refX U s n = 0 ↔ isSt U = true ∧ isP s = true ∧ 0 ≤ n := by
  unfold refX
  cases isSt U with
  | false => simp
  | true => rw [if_pos rfl, ref_zero]; simp

theorem asX_told {l : List Pr} {p : List UInt8} {n : Int} (h : refX l p n = 0) : asX l p n = told (asOf l p n) := by
  obtain ⟨h1, h2, h3⟩ := refX_zero.1 h
  rw [asX, if_pos h1, asL, if_pos (ref_zero.2 ⟨h2, h3⟩)]
theorem asX_no {l : List Pr} {p : List UInt8} {n : Int} (h : refX l p n ≠ 0) : asX l p n = none := by
  unfold refX at h
  unfold asX
  cases hs : isSt l with
  | false => simp
  | true =>
    rw [hs, if_pos rfl] at h
    rw [if_pos rfl, asL, if_neg h]


set_option maxHeartbeats 2000000 in
theorem refusal_no {tv : Value} {U : List Pr} {w : World} (h : Sto w tv U) (hs : isSt U = false) (s : List UInt8) (n : Int) :
    Calls Tryz.prog 44 #[tv, .string ⟨s.toArray⟩, .int .i64 n] w fun e w' => e = .returned (.int .i64 1) ∧ Below w.heap.size w w' := by
  obtain ⟨tp, rfl⟩ := h.val
  have KI := Lib.hid (soIs_calls h)
  rw [hs] at KI
  clear h hs
  go_enter Tryz.func44, Tryz.ntmps44
  go_wp2_with fail
  refine KI.out.mono ?_
  rintro e w1 ⟨rfl, hB⟩
  go_wp2_with fail
  go_ret
  exact ⟨rfl, hB⟩

end Go.Proofs.YtaaabmnaindgaaaGreatDoor

/-
  store.AsOf of any tree.
-/
namespace Go.Proofs.YtaaabmnaindgaaaGreatDoor
set_option maxRecDepth 100000
open Go.RowKit

set_option maxHeartbeats 4000000 in
theorem asOf_no {tv : Value} {U : List Pr} {w : World} (h : Sto w tv U) (hs : isSt U = false) (p : List UInt8) (n : Int) :
    Calls Tryz.prog 23 #[tv, .string ⟨p.toArray⟩, .int .i64 n] w fun e w' => e = .returned (.tuple #[EV ([], 0, 0, 0, []) (.slice none 0 0), .bool false, .int .i64 1]) ∧ Below w.heap.size w w' := by
  obtain ⟨tp, rfl⟩ := h.val
  have hB0 := below_alloc w (.cells #[.string ⟨#[]⟩, .int .i64 0, .int .i64 0, .int .i64 0, .slice none 0 0] 53)
  have HE := Lib.hid (Cx.new w 53 [.string ⟨#[]⟩, .int .i64 0, .int .i64 0, .int .i64 0, .slice none 0 0])
  have KR := Lib.hid (fun W (hB : Below w.heap.size w W) => refusal_no (h.below hB) hs p n)
  have HH := Lib.hid hB0
  clear h hs hB0
  go_enter Tryz.func23, Tryz.ntmps23
  go_wp2_with fail
  refine (KR.out _ HH.out).mono ?_
  rintro e w1 ⟨rfl, hB1⟩
  have HB1 := Lib.hid (below2 HH.out hB1)
  have HE1 := Lib.hid (HE.out.below hB1)
  obtain ⟨⟨e0, e1, e2, e3, e4⟩, ⟨f0, f1, f2, f3, f4⟩, hlE⟩ := HE1.out.five2
  clear hB1
  go_wp2_with fail
  have hkk := keeps_sets5 w.heap.size w1 (.string ⟨#[]⟩) (.int .i64 0) (.int .i64 0) (.int .i64 0) (.slice none 0 0)
  exact ret_ent3 rfl rfl w.heap.size _ _ _ _ _ _ _ rfl rfl rfl (HE1.out.sets5 _ _ _ _ _) ⟨rfl, hkk.on HB1.out (Nat.le_refl _) HB1.out.size⟩

theorem asOfX_calls {tv : Value} {U : List Pr} {w : World} (h : Sto w tv U) (p : List UInt8) (n : Int) (hl : p.length ≤ 1000000) :
    Calls Tryz.prog 23 #[tv, .string ⟨p.toArray⟩, .int .i64 n] w fun e w' => ∃ v, e = .returned (.tuple #[EV (enD (asX U p n)) v, .bool (asX U p n).isSome, .int .i64 (refX U p n)]) ∧ OwnI w' w.heap.size v (enD (asX U p n)).2.2.2.2 ∧ Below w.heap.size w w' := by
  unfold asX refX
  cases hs : isSt U with
  | false => exact (asOf_no h hs p n).mono fun e w' he => ⟨_, he.1, World.ownsRow_nil _ _ _ _, he.2⟩
  | true => exact asOf_calls h hs p n hl

end Go.Proofs.YtaaabmnaindgaaaGreatDoor

/-
  How many paths and entries are told, and how many chunks an entry has. No program is named here.
-/
namespace Go.Proofs.YtaaabmnaindgaaaGreatDoor
set_option maxRecDepth 100000

theorem paths_len_le : ∀ V : List Pr, (pathsL V).length ≤ V.length
  | [] => Nat.le_refl _
  | [x] => Nat.le_refl _
  | x :: y :: r => by
    have ih := paths_len_le (y :: r)
    rw [pathsL]
    split
    · rw [List.length_cons]
      omega
    · rw [List.length_cons, List.length_cons]
      omega
theorem listL_len (U : List Pr) (d : List UInt8) (n : Int) : (listL U d n).length ≤ U.length := by
  unfold listL
  exact Nat.le_trans (List.length_filterMap_le _ _) (Nat.le_trans (List.length_filter_le _ _) (paths_len_le U))
theorem redM_chunks (s : List UInt8) : (redM s).2.2.length ≤ 16 := by
  unfold redM
  split
  · unfold gotM
    cases hg : getM s.tail with
    | none => simp
    | some x =>
      obtain ⟨z, d, cs⟩ := x
      exact (metaB_iff.1 (laid_getM hg).2).1
  · simp
theorem toldX_chunks {x : Option Pr} {e : En} (h : told x = some e) : e.2.2.2.2.length ≤ 16 := by
  cases x with
  | none => cases h
  | some y =>
    unfold told at h
    dsimp only at h
    split at h
    · cases h
    · cases h
      exact redM_chunks _

end Go.Proofs.YtaaabmnaindgaaaGreatDoor

/-
  The paths that a cursor's Skip tells, one behind the other.
-/
namespace Go.Proofs.YtaaabmnaindgaaaGreatDoor
set_option maxRecDepth 100000

theorem paths_cons : ∀ (x : Pr) (r : List Pr), pathsL (x :: r) = x.1.1 :: pathsL ((x :: r).dropWhile fun y => decide (y.1.1 = x.1.1))
  | x, [] => by simp [pathsL]
  | x, y :: r => by
    rw [pathsL]
    by_cases h : x.1.1 = y.1.1
    · have e1 : (x :: y :: r).dropWhile (fun z => decide (z.1.1 = x.1.1)) = (y :: r).dropWhile (fun z => decide (z.1.1 = y.1.1)) := by
        rw [List.dropWhile_cons_of_pos (by simp), h]
      rw [if_pos h, paths_cons y r, e1, h]
    · rw [if_neg h, List.dropWhile_cons_of_pos (by simp), List.dropWhile_cons_of_neg (by simpa using fun e => h e.symm)]
theorem drop_while {α : Type} (f : α → Bool) (l : List α) : l.dropWhile f = l.drop (l.takeWhile f).length := by
  induction l with
  | nil => rfl
  | cons x r ih =>
    by_cases h : f x = true
    · rw [List.dropWhile_cons_of_pos h, List.takeWhile_cons_of_pos h, List.length_cons, List.drop_succ_cons, ih]
    · rw [List.dropWhile_cons_of_neg h, List.takeWhile_cons_of_neg h]
      rfl
theorem take_while_all {α : Type} {f : α → Bool} : ∀ {l : List α} {x : α}, x ∈ l.takeWhile f → f x = true
  | [], x, h => by cases h
  | y :: r, x, h => by
    by_cases hy : f y = true
    · rw [List.takeWhile_cons_of_pos hy] at h
      rcases List.mem_cons.1 h with rfl | h
      · exact hy
      · exact take_while_all h
    · rw [List.takeWhile_cons_of_neg hy] at h
      cases h
theorem drop_while_head {α : Type} {f : α → Bool} : ∀ {l s : List α} {y : α}, l.dropWhile f = y :: s → f y = false
  | [], s, y, h => by cases h
  | z :: r, s, y, h => by
    by_cases hz : f z = true
    · rw [List.dropWhile_cons_of_pos hz] at h
      exact drop_while_head h
    · rw [List.dropWhile_cons_of_neg hz] at h
      cases h
      simpa using hz
/-- Where a cursor is behind k Skips. -/
def skipN (V : List Pr) : Nat → Nat
  | 0 => 0
  | k + 1 => skipI V (skipN V k)
theorem skip_next {V : List Pr} (hr : Rises V) (ht : TimesK V) {i : Nat} (hi : i < V.length) : skipI V i = i + ((V.drop i).takeWhile fun y => decide (y.1.1 = V[i].1.1)).length := by
  have hd := List.drop_eq_getElem_cons hi
  obtain ⟨m, hm⟩ : ∃ m, ((V.drop i).takeWhile fun y => decide (y.1.1 = V[i].1.1)).length = m := ⟨_, rfl⟩
  have hle : m ≤ (V.drop i).length := by rw [← hm]; exact List.IsPrefix.length_le (List.takeWhile_prefix _)
  rw [List.length_drop] at hle
  have hsk : skipI V i = placeN V (cuPast V[i].1.1) := by
    unfold skipI
    rw [if_pos hi, hereP_lt hi]
  rw [hm, hsk]
  refine skip_place hr ht hi (by omega) (by omega) (fun q hq hiq hqj => ?_) (fun hj => ?_)
  · have hlt : q - i < ((V.drop i).takeWhile fun y => decide (y.1.1 = V[i].1.1)).length := by omega
    have h1 := take_while_all (List.getElem_mem hlt)
    rw [decide_eq_true_eq] at h1
    have h2 : ((V.drop i).takeWhile fun y => decide (y.1.1 = V[i].1.1))[q - i] = V[q] := by
      have h3 := List.IsPrefix.getElem (List.takeWhile_prefix (fun y : Pr => decide (y.1.1 = V[i].1.1)) (l := V.drop i)) hlt
      rw [h3, List.getElem_drop]
      congr 1
      omega
    rw [h2] at h1
    exact h1
  · have h1 : (V.drop i).dropWhile (fun y => decide (y.1.1 = V[i].1.1)) = V.drop (i + m) := by rw [drop_while, hm, List.drop_drop]
    have h3 := drop_while_head (h1.trans (List.drop_eq_getElem_cons hj))
    rw [decide_eq_false_iff_not] at h3
    exact h3
theorem skip_le {V : List Pr} (hr : Rises V) (ht : TimesK V) : ∀ k, skipN V k ≤ V.length ∧ pathsL (V.drop (skipN V k)) = (pathsL V).drop k
  | 0 => ⟨Nat.zero_le _, rfl⟩
  | k + 1 => by
    obtain ⟨h1, h2⟩ := skip_le hr ht k
    by_cases hi : skipN V k < V.length
    · have e := skip_next hr ht hi
      have hd := List.drop_eq_getElem_cons hi
      obtain ⟨m, hm⟩ : ∃ m, ((V.drop (skipN V k)).takeWhile fun y => decide (y.1.1 = V[skipN V k].1.1)).length = m := ⟨_, rfl⟩
      have hle : m ≤ (V.drop (skipN V k)).length := by rw [← hm]; exact List.IsPrefix.length_le (List.takeWhile_prefix _)
      rw [List.length_drop] at hle
      rw [hm] at e
      refine ⟨by rw [skipN, e]; omega, ?_⟩
      rw [skipN, e]
      have h3 := paths_cons V[skipN V k] (V.drop (skipN V k + 1))
      rw [← hd, drop_while, hm, List.drop_drop, h2] at h3
      have h5 := congrArg List.tail h3
      rw [List.tail_drop] at h5
      exact h5.symm
    · have e : skipI V (skipN V k) = skipN V k := by
        unfold skipI
        rw [if_neg hi]
      refine ⟨by rw [skipN, e]; exact h1, ?_⟩
      rw [skipN, e, h2]
      have h3 : (pathsL V).drop k = [] := by
        rw [← h2, List.drop_eq_nil_of_le (by omega)]
        rfl
      have := List.drop_eq_nil_iff.1 h3
      rw [h3, List.drop_eq_nil_of_le (by omega)]
theorem paths_len_pos {V : List Pr} (h : V ≠ []) : pathsL V ≠ [] := by
  cases V with
  | nil => exact absurd rfl h
  | cons x r => rw [paths_cons]; simp
theorem skip_lt {V : List Pr} (hr : Rises V) (ht : TimesK V) (k : Nat) : decide (skipN V k < V.length) = decide (k < (pathsL V).length) := by
  obtain ⟨h1, h2⟩ := skip_le hr ht k
  rw [decide_eq_decide]
  constructor
  · intro h
    have h3 : pathsL (V.drop (skipN V k)) ≠ [] := paths_len_pos (by simpa using h)
    rw [h2] at h3
    have : ¬ (pathsL V).length ≤ k := fun hle => h3 (List.drop_eq_nil_of_le hle)
    omega
  · intro h
    have : ¬ V.length ≤ skipN V k := fun hle => by
      rw [List.drop_eq_nil_of_le hle] at h2
      have h3 := congrArg List.length h2
      simp [pathsL] at h3
      omega
    omega
theorem skip_at {V : List Pr} (hr : Rises V) (ht : TimesK V) {k : Nat} (hk : k < (pathsL V).length) : (hereP V (skipN V k)).1.1 = (pathsL V)[k] := by
  obtain ⟨_, h2⟩ := skip_le hr ht k
  have hi : skipN V k < V.length := by
    have := skip_lt hr ht k
    rw [decide_eq_true hk, decide_eq_true_eq] at this
    exact this
  rw [hereP_lt hi]
  rw [List.drop_eq_getElem_cons hi, paths_cons, List.drop_eq_getElem_cons hk] at h2
  exact (List.cons.inj h2).1

/-! ### What List tells -/

theorem rise_same : ∀ {a b : List (List UInt8)}, (a.Pairwise fun x y => Op.bytesLess x y = true) → (b.Pairwise fun x y => Op.bytesLess x y = true) → (∀ x, x ∈ a ↔ x ∈ b) → a = b
  | [], [], _, _, _ => rfl
  | [], y :: s, _, _, h => absurd ((h y).2 (by simp)) (by simp)
  | x :: r, [], _, _, h => absurd ((h x).1 (by simp)) (by simp)
  | x :: r, y :: s, ha, hb, h => by
    obtain ⟨a1, a2⟩ := List.pairwise_cons.1 ha
    obtain ⟨b1, b2⟩ := List.pairwise_cons.1 hb
    have e : x = y := by
      rcases List.mem_cons.1 ((h x).1 (by simp)) with e | hx
      · exact e
      · rcases List.mem_cons.1 ((h y).2 (by simp)) with e | hy
        · exact e.symm
        · have := less_trans (a1 y hy) (b1 x hx)
          rw [less_irrefl] at this
          cases this
    subst e
    refine congrArg (x :: ·) (rise_same a2 b2 fun z => ⟨fun hz => ?_, fun hz => ?_⟩)
    · rcases List.mem_cons.1 ((h z).1 (List.mem_cons_of_mem _ hz)) with rfl | hz'
      · have := a1 z hz
        rw [less_irrefl] at this
        cases this
      · exact hz'
    · rcases List.mem_cons.1 ((h z).2 (List.mem_cons_of_mem _ hz)) with rfl | hz'
      · have := b1 z hz
        rw [less_irrefl] at this
        cases this
      · exact hz'
theorem underL_rises {U : List Pr} (h : Rises U) (d : List UInt8) : Rises (underL U d) := List.Pairwise.filter _ h
theorem paths_under {U : List Pr} (h : Rises U) (d : List UInt8) : pathsL (underL U d) = (pathsL U).filter (underOf d) := by
  refine rise_same (paths_rise (underL_rises h d)) (List.Pairwise.filter _ (paths_rise h)) fun p => ?_
  rw [mem_paths, List.mem_filter, mem_paths]
  constructor
  · rintro ⟨x, hx, rfl⟩
    obtain ⟨h1, h2⟩ := List.mem_filter.1 hx
    exact ⟨⟨x, h1, rfl⟩, h2⟩
  · rintro ⟨⟨x, hx, rfl⟩, h2⟩
    exact ⟨x, List.mem_filter.2 ⟨hx, h2⟩, rfl⟩
theorem list_under {U : List Pr} (h : Rises U) (d : List UInt8) (n : Int) : listL U d n = (pathsL (underL U d)).filterMap fun p => told (asOf (underL U d) p n) := by
  rw [paths_under h]
  unfold listL
  have : ∀ l : List (List UInt8), (∀ p ∈ l, underOf d p = true) → l.filterMap (fun p => told (asOf U p n)) = l.filterMap fun p => told (asOf (underL U d) p n) := by
    intro l
    induction l with
    | nil => intro _; rfl
    | cons p r ih =>
      intro hl
      rw [List.filterMap_cons, List.filterMap_cons, ih fun q hq => hl q (List.mem_cons_of_mem _ hq), asOf_under (hl p (by simp))]
  exact this _ fun p hp => (List.mem_filter.1 hp).2

end Go.Proofs.YtaaabmnaindgaaaGreatDoor

/-
  store.List.
-/
namespace Go.Proofs.YtaaabmnaindgaaaGreatDoor
set_option maxRecDepth 100000
open Go.RowKit Go.Shelf
attribute [local go_sem] Oper.semAt_some

theorem CurH.lows {wt A B : World} {lo g m : Nat} {U : List Pr} {i : Nat} (h : CurH wt lo A g U i) (hb : Below m A B) (hg : g < m) : CurH wt lo B g U i := by
  obtain ⟨L, S, P, tv, sv, pv, k0, b1, b2, b3, b4, b5, b6, b7, b8, b9, b10, b11, b12⟩ := h
  exact ⟨L, S, P, tv, sv, pv, k0, b1.same fun j hj hj2 => hb.block j (by omega), b2, b3, b4, b5, b6, b7, b8.trans (hb.mono (by omega)), b9, b10, (hb.block g hg).trans b11, b12⟩
theorem OwnE.keeps {A B : World} {base k : Nat} {v : Value} {S : List Ev} (h : OwnE A base v S) (hk : Keeps k A B) (hb : k < base) : OwnE B base v S :=
  ⟨h.1.kept hk (.inr fun e => by have := (h.1.lt _ e).1; omega), fun x hx => (h.2 x hx).kept hk (.inr fun e => by have := ((h.2 x hx).lt _ e).1; omega)⟩

/-- What stands in List's boxes, and both cursors, behind i paths. -/
def LiI (w : World) (l1 l2 n at0 bl bf g1 g2 Bc : Nat) (tn : Int) (V : List Pr) (i c : Nat) (A : World) : Prop :=
  n ≤ A.heap.size ∧ CurH w l1 A g1 V c ∧ (∃ j, CurH w l2 A g2 V j) ∧ Boxed A at0 3 (.int .i64 tn) ∧ Boxed A bf 94 (.pointer (some ⟨g2, 0, none⟩)) ∧
  A.cell? ⟨Bc, 0, none⟩ = some (.func (.func 47) #[.pointer (some ⟨g1, 0, none⟩)] #[]) ∧ Below w.heap.size w A ∧
  ∃ vl S, Boxed A bl 46 vl ∧ OwnE A (n + 2) vl S ∧ ens S = ((pathsL V).take i).filterMap (fun p => told (asOf V p tn))
theorem LiI.below {w : World} {l1 l2 n at0 bl bf g1 g2 Bc : Nat} {tn : Int} {V : List Pr} {i c : Nat} {A B : World} (h : LiI w l1 l2 n at0 bl bf g1 g2 Bc tn V i c A) (hb : Below A.heap.size A B) : LiI w l1 l2 n at0 bl bf g1 g2 Bc tn V i c B := by
  obtain ⟨h1, h2, ⟨j, h3⟩, h4, h5, h6, h7, vl, S, h8, h9, h10⟩ := h
  exact ⟨Nat.le_trans h1 hb.size, h2.below hb, ⟨j, h3.below hb⟩, boxed_stays h4 hb, boxed_stays h5 hb, look_below hb h6, below2 h7 hb, vl, S, boxed_stays h8 hb, h9.stays hb, h10⟩
theorem LiI.keeps {w : World} {l1 l2 n at0 bl bf g1 g2 Bc : Nat} {tn : Int} {V : List Pr} {i c k : Nat} {A B : World} (h : LiI w l1 l2 n at0 bl bf g1 g2 Bc tn V i c A) (hk : Keeps k A B) (hn : n ≤ k) (hn2 : k < n + 2) (o1 : g1 < n) (o2 : g2 < n) (o3 : at0 < n) (o4 : bl < n) (o5 : bf < n) (o6 : Bc < n) (o7 : w.heap.size ≤ n) : LiI w l1 l2 n at0 bl bf g1 g2 Bc tn V i c B := by
  obtain ⟨h1, h2, ⟨j, h3⟩, h4, h5, h6, h7, vl, S, h8, h9, h10⟩ := h
  exact ⟨Nat.le_trans h1 hk.size, h2.other hk (by omega) (by omega), ⟨j, h3.other hk (by omega) (by omega)⟩, boxed_keeps h4 hk (by omega), boxed_keeps h5 hk (by omega), cell_keeps h6 hk (by omega), hk.on h7 (by omega) h7.size, vl, S, boxed_keeps h8 hk (by omega), h9.keeps hk hn2, h10⟩
/-- The order of List's blocks. -/
def LiO (w : World) (l1 l2 n at0 bl bf g1 g2 Bc : Nat) : Prop := w.heap.size ≤ at0 ∧ at0 < bl ∧ bl < l1 ∧ l1 ≤ g1 ∧ g1 < l2 ∧ l2 ≤ g2 ∧ g2 < bf ∧ bf < Bc ∧ Bc < n
/-- Behind a Skip. -/
theorem LiI.step {w : World} {l1 l2 n at0 bl bf g1 g2 Bc : Nat} {tn : Int} {V : List Pr} {i c c' : Nat} {A B : World} (h : LiI w l1 l2 n at0 bl bf g1 g2 Bc tn V i c A) (ho : LiO w l1 l2 n at0 bl bf g1 g2 Bc) (hc : CurH w l1 B g1 V c') (hk : Keeps g1 A B) : LiI w l1 l2 n at0 bl bf g1 g2 Bc tn V i c' B := by
  obtain ⟨h1, h2, ⟨j, h3⟩, h4, h5, h6, h7, vl, S, h8, h9, h10⟩ := h
  obtain ⟨p1, p2, p3, p4, p5, p6, p7, p8, p9⟩ := ho
  exact ⟨Nat.le_trans h1 hk.size, hc, ⟨j, h3.hole hk (by omega) (.inl p5)⟩, boxed_keeps h4 hk (by omega), boxed_keeps h5 hk (by omega), cell_keeps h6 hk (by omega), hk.on h7 (by omega) h7.size, vl, S, boxed_keeps h8 hk (by omega), h9.keeps hk (by omega), h10⟩
/-- Behind a look at a path. -/
theorem LiI.look {w : World} {l1 l2 n at0 bl bf g1 g2 Bc : Nat} {tn : Int} {V : List Pr} {i c : Nat} {A B : World} (h : LiI w l1 l2 n at0 bl bf g1 g2 Bc tn V i c A) (ho : LiO w l1 l2 n at0 bl bf g1 g2 Bc) (hc : ∃ j, CurH w l2 B g2 V j) (hk : Keeps g2 A B) : LiI w l1 l2 n at0 bl bf g1 g2 Bc tn V i c B := by
  obtain ⟨h1, h2, _, h4, h5, h6, h7, vl, S, h8, h9, h10⟩ := h
  obtain ⟨p1, p2, p3, p4, p5, p6, p7, p8, p9⟩ := ho
  exact ⟨Nat.le_trans h1 hk.size, h2.other hk (by omega) (by omega), hc, boxed_keeps h4 hk (by omega), boxed_keeps h5 hk (by omega), cell_keeps h6 hk (by omega), hk.on h7 (by omega) h7.size, vl, S, boxed_keeps h8 hk (by omega), h9.keeps hk (by omega), h10⟩
theorem take_map {ps : List (List UInt8)} {i : Nat} (h : i < ps.length) (f : List UInt8 → Option En) : (ps.take (i + 1)).filterMap f = (ps.take i).filterMap f ++ (f ps[i]).toList := by
  have e : ps.take (i + 1) = ps.take i ++ [ps[i]] := by rw [List.take_append_getElem]
  rw [e, List.filterMap_append]
  cases hf : f ps[i] <;> simp [hf]
set_option maxHeartbeats 8000000 in
theorem list_calls {tv : Value} {U : List Pr} {w : World} (h : Sto w tv U) (hs : isSt U = true) (d : List UInt8) (n : Int) (hl : d.length ≤ 1000000) :
    Calls Tryz.prog 22 #[tv, .string ⟨d.toArray⟩, .int .i64 n] w fun e w' => ∃ v S, e = .returned (.tuple #[v, .int .i64 (refE d n)]) ∧ OwnE w' w.heap.size v S ∧ ens S = (if refE d n = 0 then listL U d n else []) ∧ Below w.heap.size w w' := by
  have hmf : ∀ (fn : Fn) (first cap : Array Value) (w : World), (Instr.makeFunc fn first cap).run Tryz.prog w = .ok (.func fn first cap) w := fun _ _ _ _ => rfl
  obtain ⟨tp, rfl⟩ := h.val
  have hB0 := below_alloc w (.cells #[.int .i64 n] 3)
  have HE := Lib.hid (Boxed.new w 3 (.int .i64 n))
  have KR := Lib.hid (fun W (hB : Below w.heap.size w W) => refusal_calls (h.below hB) hs d n hl)
  obtain ⟨E, hE⟩ : ∃ E, refE d n = E := ⟨_, rfl⟩
  rw [hE] at KR ⊢
  by_cases h0 : E = 0
  · subst h0
    obtain ⟨hip, hn0⟩ := ref_zero.1 hE
    have hlp : d.length ≤ 1000 := by
      have := under_len ((under_root d).trans hip)
      omega
    have hli := list_under h.rises d n
    rw [if_pos rfl, hli]
    have hVv : ∀ x ∈ underL U d, verB x = true ∧ x.2.length ≤ 4611686018427387904 := fun x hx => ⟨List.all_eq_true.1 hs x (List.mem_filter.1 hx).1, h.2.2.2.2.1 x (List.mem_filter.1 hx).1⟩
    have hpt : ∀ p ∈ pathsL (underL U d), isP p = true := fun p hp => by
      obtain ⟨x, hx, rfl⟩ := (mem_paths _ _).1 hp
      have := (hVv x hx).1
      rw [ver_iff] at this
      have h1 := this.1
      unfold keyB at h1
      simp at h1
      exact h1.2
    have KN := Lib.hid (fun W (hB : Below w.heap.size w W) => hNew_calls _ U d w W h.1 hB h.2.2.2.2.2 h.2.1 h.2.2.1 h.2.2.2.1 hlp hip)
    obtain ⟨V, hV⟩ : ∃ V, underL U d = V := ⟨_, rfl⟩
    rw [hV] at KN hVv hpt ⊢
    have KF := Lib.hid (fun (W : World) (lo g i : Nat) (hc : CurH w lo W g V i) p (hp : p ∈ pathsL V) => file_calls hc hVv h.2.2.2.2.2 p n (hpt p hp) hn0)
    have hVr : Rises V := hV ▸ underL_rises h.rises d
    have hVt : TimesK V := hV ▸ h.2.1.sub fun x hx => (List.mem_filter.1 hx).1
    have HV := Lib.hid (And.intro hVr hVt)
    have HB0 := Lib.hid hB0
    clear h hs hB0 hE hip hn0 hlp hli hVv hpt hV hVr hVt
    refine calls_of_wpE (n := 6) Tryz.func22 rfl ?_
    simp only [Tryz.ntmps22, List.size_toArray, List.length_cons, List.length_nil, Nat.reduceAdd, Nat.reduceSub, Array.replicate_succ, Array.replicate_zero, List.push_toArray, List.append_toArray, List.nil_append, List.cons_append]
    refine wpE_seq (wpE_of ?_)
    go_wp2_with fail
    refine wpE_seq (wpE_of ?_)
    obtain ⟨c0, f0⟩ := And.intro HE.out.cell HE.out.frozen
    go_wp2_with fail
    refine (KR.out _ HB0.out).mono ?_
    rintro e w1 ⟨rfl, hB1⟩
    have HB1 := Lib.hid (below2 HB0.out hB1)
    have HE1 := Lib.hid (boxed_stays HE.out hB1)
    clear hB1 c0 f0
    go_wp2_with fail
    refine wpE_seq (wpE_of ?_)
    go_wp2_with fail
    refine wpE_seq (wpE_of ?_)
    have hBl := below_alloc w1 (.cells #[.slice none 0 0] 46)
    have HL := Lib.hid (Boxed.new w1 46 (.slice none 0 0))
    have HB2 := Lib.hid (below2 HB1.out hBl)
    have HE2 := Lib.hid (boxed_stays HE1.out hBl)
    clear hBl
    go_wp2_with fail
    refine (KN.out _ HB2.out).mono ?_
    rintro e w2 ⟨g1, rfl, hc1, hB⟩
    have HB3 := Lib.hid (And.intro hB (below2 HB2.out hB))
    have HC1 := Lib.hid hc1
    clear hB hc1
    go_wp2_with fail
    refine wpE_seq (wpE_of ?_)
    go_wp2_with fail
    refine (KN.out _ HB3.out.2).mono ?_
    rintro e w3 ⟨g2, rfl, hc2, hB⟩
    have HB4 := Lib.hid (And.intro hB (below2 HB3.out.2 hB))
    have HC2 := Lib.hid hc2
    clear hB hc2
    go_wp2_with fail
    refine wpE_seq (wpE_seq (wpE_of ?_))
    go_wp2_with fail
    refine (toldS_calls _ _ _ _).mono ?_
    rintro e w4 ⟨rfl, hw4⟩
    have HW4 := Lib.hid hw4
    clear hw4
    go_wp2_with fail
    refine wpE_block ?_
    obtain ⟨k0, hk0⟩ : ∃ n, n = w4.heap.size := ⟨_, rfl⟩
    obtain ⟨bl, hbl⟩ : ∃ n, n = w1.heap.size := ⟨_, rfl⟩
    obtain ⟨bf, hbf⟩ : ∃ n, n = w3.heap.size := ⟨_, rfl⟩
    obtain ⟨Bc, hBc⟩ : ∃ n, n = w3.heap.size + 1 := ⟨_, rfl⟩
    have hg1 := HC1.out.cells.choose_spec.2.2.2.2
    have hg2 := HC2.out.cells.choose_spec.2.2.2.2
    have hlo1 := HC1.out.lo_le
    have hlo2 := HC2.out.lo_le
    have hVl := HC1.out.facts.2.2.1
    rw [World.size_alloc] at hlo1
    have hs1 := HB1.out.size
    have hs4 : w4.heap.size = w3.heap.size + 2 := by rw [HW4.out]; simp
    have hB34 : Below w3.heap.size w3 w4 := by rw [HW4.out]; exact below_alloc2 w3 _ _
    have hsE := HE1.out.lt
    have hlt2 := HC1.out.cells.choose_spec.2.2.2.2
    have ho : LiO w (w1.heap.size + 1) w2.heap.size k0 w.heap.size bl bf g1 g2 Bc := ⟨Nat.le_refl _, by omega, by omega, by omega, by omega, by omega, by omega, by omega, by omega⟩
    have hI0 : LiI w (w1.heap.size + 1) w2.heap.size k0 w.heap.size bl bf g1 g2 Bc n V 0 0 w4 := by
      have hc1 := HC1.out
      rw [World.size_alloc] at hc1
      have q1 := boxed_stays (boxed_stays HE2.out HB3.out.1) HB4.out.1
      have q2 := boxed_stays (boxed_stays HL.out HB3.out.1) HB4.out.1
      have q3 : Boxed w4 w3.heap.size 94 (.pointer (some ⟨g2, 0, none⟩)) := by
        rw [HW4.out]
        exact (Boxed.new w3 _ _).alloc _
      have q4 : Boxed w4 (w3.heap.size + 1) 100 (.func (.func 47) #[.pointer (some ⟨g1, 0, none⟩)] #[]) := by
        rw [HW4.out]
        have := Boxed.new (w3.alloc (.cells #[.pointer (some ⟨g2, 0, none⟩)] 94)) 100 (.func (.func 47) #[.pointer (some ⟨g1, 0, none⟩)] #[])
        rwa [World.size_alloc] at this
      rw [← hbf] at q3
      rw [← hBc] at q4
      rw [← hbl] at q2
      exact ⟨Nat.le_of_eq hk0, (hc1.below HB4.out.1).below hB34, ⟨_, HC2.out.below hB34⟩, boxed_stays q1 hB34, q3, q4.cell, below2 HB4.out.2 hB34, _, [], boxed_stays q2 hB34, OwnE.nil _ _, rfl⟩
    obtain ⟨l1, hl1⟩ : ∃ n, n = w1.heap.size + 1 := ⟨_, rfl⟩
    obtain ⟨l2, hl2⟩ : ∃ n, n = w2.heap.size := ⟨_, rfl⟩
    rw [← hl1, ← hl2] at ho hI0
    rw [← hBc, ← hbl, ← hbf]
    have HO := Lib.hid ho
    have HN := Lib.hid hk0
    obtain ⟨p1, p2, p3, p4, p5, p6, p7, p8, p9⟩ := ho
    clear hk0 hbl hbf hBc hg1 hg2 hlo1 hlo2 hs1 hs4 hB34 hsE hlt2 hl1 hl2
    refine wpE_told (fl := False) (N := (pathsL V).length) (encs := fun i => #[.string ⟨(hereP V (skipN V i)).1.1.toArray⟩]) (res := fun i => .tuple #[.string ⟨(hereP V (skipN V i)).1.1.toArray⟩, .bool (decide (i < (pathsL V).length))]) (Box := fun W => W.cell? ⟨Bc, 0, none⟩ = some (.func (.func 47) #[.pointer (some ⟨g1, 0, none⟩)] #[])) rfl (enters_of Tryz.func74 (by kernel_rfl) rfl)
      (toldS g1 Bc (fun i => (hereP V (skipN V i)).1.1) (pathsL V).length) (fun _ => rfl) (fun i _ A => LiI w l1 l2 k0 w.heap.size bl bf g1 g2 Bc n V i (skipN V i) A) (fun i _ A => LiI w l1 l2 k0 w.heap.size bl bf g1 g2 Bc n V i (skipN V (i + 1)) A) (fun _ A => LiI w l1 l2 k0 w.heap.size bl bf g1 g2 Bc n V (pathsL V).length (skipN V ((pathsL V).length + 1)) A) (fun _ _ => False) (fun _ _ => False)
      (fun i _ a' A => LiI w l1 l2 k0 w.heap.size bl bf g1 g2 Bc n V i (skipN V (i + 1)) A ∧ a' = { tmps := #[.pointer tp, .string ⟨d.toArray⟩, .int .i64 n, undef, undef, .pointer (some ⟨w.heap.size, 0, none⟩), .slice none 0 0, .int .i64 0, .int .i64 0, .pointer (some ⟨bl, 0, none⟩), .pointer (some ⟨g1, 0, none⟩), .int .i64 0, .pointer (some ⟨bf, 0, none⟩), .int .i64 0, .string ⟨(hereP V (skipN V i)).1.1.toArray⟩, undef, undef, .pointer tp, .string ⟨d.toArray⟩, .int .i64 n, .int .i64 0, .int .i64 0, .bool false, undef, .tuple #[.pointer (some ⟨g1, 0, none⟩), .int .i64 0], .pointer tp, .string ⟨d.toArray⟩, .tuple #[.pointer (some ⟨g1, 0, none⟩), .int .i64 0], .pointer (some ⟨g1, 0, none⟩), .int .i64 0, .tuple #[.pointer (some ⟨g2, 0, none⟩), .int .i64 0], .pointer tp, .string ⟨d.toArray⟩, .tuple #[.pointer (some ⟨g2, 0, none⟩), .int .i64 0], .pointer (some ⟨g2, 0, none⟩), .int .i64 0, .pointer (some ⟨g1, 0, none⟩), .func (.func 47) #[.pointer (some ⟨g1, 0, none⟩)] #[], .func (.func 74) #[] #[.pointer (some ⟨Bc, 0, none⟩)], .string ⟨(hereP V (skipN V i)).1.1.toArray⟩, undef, undef, undef, undef, undef, undef, undef, undef, undef, undef, undef, undef, undef, undef, undef, undef], defers := [] }) g1 ?_ ?_ ?_ ?_ ?_ ?_ ?_ ?_ ?_ ?_ ?_ ?_ ?_ ?_ ?_
    · rw [← HN.out]
      omega
    · intro i
      rw [← HN.out]
      exact ⟨fun b k A B h hk hK => h.keeps hK (by rcases hk with ⟨h, _⟩ | h | h; exact h.elim; omega; omega) (by rcases hk with ⟨h, _⟩ | h | h; exact h.elim; omega; omega) (by omega) (by omega) (by omega) (by omega) (by omega) (by omega) (by omega), fun b A B b' h hb _ => h.below hb⟩
    · intro i
      rw [← HN.out]
      exact ⟨fun b k A B h hk hK => h.keeps hK (by rcases hk with ⟨h, _⟩ | h | h; exact h.elim; omega; omega) (by rcases hk with ⟨h, _⟩ | h | h; exact h.elim; omega; omega) (by omega) (by omega) (by omega) (by omega) (by omega) (by omega) (by omega), fun b A B b' h hb _ => h.below hb⟩
    · rw [← HN.out]
      exact ⟨fun b k A B h hk hK => h.keeps hK (by rcases hk with ⟨h, _⟩ | h | h; exact h.elim; omega; omega) (by rcases hk with ⟨h, _⟩ | h | h; exact h.elim; omega; omega) (by omega) (by omega) (by omega) (by omega) (by omega) (by omega) (by omega), fun b A B b' h hb _ => h.below hb⟩
    · exact fun _ _ _ h => h.elim
    · rintro i b a' A B ⟨h1, h2⟩ hk
      rw [← HN.out] at hk
      exact ⟨h1.keeps hk (by omega) (by omega) (by omega) (by omega) (by omega) (by omega) (by omega) (by omega) (by omega), h2⟩
    · exact fun i b A h => h.2.2.2.2.2.1
    · exact hI0
    · intro i b A hi h
      have hlt := skip_lt HV.out.1 HV.out.2 i
      refine (hSkip_calls h.2.1).mono ?_
      rintro e B ⟨rfl, hc, hk⟩
      rw [hlt]
      exact ⟨rfl, h.step HO.out hc hk, hk⟩
    · intro b A h
      have hlt := skip_lt HV.out.1 HV.out.2 (pathsL V).length
      refine (hSkip_calls h.2.1).mono ?_
      rintro e B ⟨rfl, hc, hk⟩
      rw [hlt]
      exact ⟨rfl, h.step HO.out hc hk, hk⟩
    · intro l i b A K hl hlA hi hI hK
      have HK := Lib.hid hK
      have HI := Lib.hid hI
      clear hI hK
      gi_wp2_with fail
      exact HK.out _ _ (Below.refl _ _) ⟨HI.out, rfl⟩
    · rintro l i b a' A hl hlA ⟨hb, _⟩ hi ⟨hI, rfl⟩
      rw [← HN.out] at hl hb ⊢
      have hq := skip_at HV.out.1 HV.out.2 hi
      have hqm : (hereP V (skipN V i)).1.1 ∈ pathsL V := by rw [hq]; exact List.getElem_mem hi
      have htm := take_map hi (fun p => told (asOf V p n))
      rw [← hq] at htm
      obtain ⟨q, hqe⟩ : ∃ q, (hereP V (skipN V i)).1.1 = q := ⟨_, rfl⟩
      rw [hqe] at hqm htm ⊢
      have HI := Lib.hid hI
      obtain ⟨_, _, ⟨j, hc2⟩, y4, y5, _⟩ := hI
      have K := Lib.hid (KF.out A _ _ _ hc2 q hqm)
      obtain ⟨o, ho⟩ : ∃ o, told (asOf V q n) = o := ⟨_, rfl⟩
      rw [ho] at K htm
      have c4 := y4.cell
      have c5 := y5.cell
      have hfw : ∀ f, Fence.wide.fn f := fun _ => trivial
      have h14 : 1 ≤ 4 := by omega
      have HT := Lib.hid htm
      clear hq hqm htm hqe hc2 y4 y5 ho
      gi_wp2_with fail
      refine (CallsIn.inRound _ (callsIn_wide.2 K.out)).mono ?_
      rintro e B ⟨v, rfl, hOw, hcB, hkB⟩
      obtain ⟨aM, cM, rfl⟩ := (ints_own hOw).form
      have HIB := Lib.hid (HI.out.look HO.out hcB hkB)
      have HSB := Lib.hid (Same3.of_keeps (fl := False) (n := k0) (b := b) hkB (by omega) (by omega) (by omega))
      have hAB := hkB.size
      clear hcB hkB c4 c5
      cases o with
      | none =>
        dsimp only [enD, Option.getD, Option.isSome] at hOw ⊢
        clear hOw
        gi_wp2_with fail
        have hBa := below_alloc B (.cells #[.string ⟨#[]⟩, .int .i64 0, .int .i64 0, .int .i64 0, .slice aM 0 cM] 53)
        refine ⟨HSB.out.trans (Same3.of_below hBa), ?_⟩
        obtain ⟨h1, h2, h3, h4, h5, h6, h7, vl, S, h8, h9, h10⟩ := HIB.out.below hBa
        refine ⟨h1, h2, h3, h4, h5, h6, h7, vl, S, h8, h9, ?_⟩
        rw [h10, HT.out]
        simp
      | some x =>
        obtain ⟨p, tm, z1, z2, z3⟩ := x
        dsimp only [enD, Option.getD, Option.isSome] at hOw ⊢
        obtain ⟨nM, hnM⟩ : ∃ k, z3.length = k := ⟨_, rfl⟩
        rw [hnM] at hOw ⊢
        have hBa := below_alloc B (.cells #[.string ⟨p.toArray⟩, .int .i64 tm, .int .i64 z1, .int .i64 z2, .slice aM nM cM] 53)
        obtain ⟨h1, h2, h3, h4, h5, h6, h7, vl, S, h8, h9, h10⟩ := HIB.out.below hBa
        obtain ⟨⟨x0, x1, x2, x3, x4⟩, _, _⟩ := (Cx.new B 53 [.string ⟨p.toArray⟩, .int .i64 tm, .int .i64 z1, .int .i64 z2, .slice aM nM cM]).five2
        have cl := h8.cell
        have HOw := Lib.hid (own_weak (b := k0 + 2) (own_stays hOw hBa) (by omega))
        have hSl : S.length ≤ 100000 := by
          have e1 : S.length = (ens S).length := by simp
          rw [e1, h10]
          refine Nat.le_trans (List.length_filterMap_le _ _) ?_
          rw [List.length_take]
          have e2 := paths_len_le V
          omega
        have HH := Lib.hid (And.intro h1 (And.intro h2 (And.intro h3 (And.intro h4 (And.intro h5 (And.intro h6 (And.intro h7 (And.intro h8 (And.intro h9 h10)))))))))
        have HN2 := Lib.hid hnM
        have HBa := Lib.hid hBa
        have hsB : k0 + 2 ≤ (B.alloc (.cells #[.string ⟨p.toArray⟩, .int .i64 tm, .int .i64 z1, .int .i64 z2, .slice aM nM cM] 53)).heap.size := by
          rw [World.size_alloc]
          omega
        have hk1 : (B.alloc (.cells #[.string ⟨p.toArray⟩, .int .i64 tm, .int .i64 z1, .int .i64 z2, .slice aM nM cM] 53)).heap.size = B.heap.size + 1 := by simp
        have HK1 := Lib.hid hk1
        have HsB := Lib.hid hsB
        clear h1 h2 h3 h4 h5 h6 h7 h8 h9 h10 hOw hBa hnM hk1 hsB
        gi_wp2_with (gi_at_builtin; refine appIn_ent rfl _ _ rfl (k0 + 2) vl S rfl HH.out.2.2.2.2.2.2.2.2.1 p tm z1 z2 _ z3 HOw.out (B.heap.size + 1) HK1.out rfl hSl HsB.out ?_; intro v' w' hv' hbw hke; obtain ⟨av, cv, rfl⟩ := hv'.form; have hlow := hbw _ (Below.refl _ _); have hbx : Boxed w' bl 46 vl := (hlow.block bl (by omega)).trans HH.out.2.2.2.2.2.2.2.1; have cl2 := hbx.cell; have fl2 := hbx.frozen; obtain ⟨nS, hnS⟩ : ∃ k, (S ++ [((p, tm, z1, z2, z3), Value.slice aM nM cM)]).length = k := ⟨_, rfl⟩; rw [hnS] at hv' ⊢; have HV2 := Lib.hid (And.intro hv' (And.intro hlow (And.intro hbx hnS))); clear hv' hbw hke hlow hbx hnS)
        obtain ⟨h1, h2, h3, h4, h5, h6, h7, h8, h9, h10⟩ := HH.out
        obtain ⟨r1, r2, r3, r4⟩ := HV2.out
        have hk2 : Keeps bl w' (w'.setCell ⟨bl, 0, none⟩ (.slice av nS cv)) := (Keeps.refl _ _).set 0 _
        have hz := r2.size
        have hz2 := HBa.out.size
        have hlt1 := h2.cells.choose_spec.2.2.2.2
        refine ⟨(HSB.out.trans (Same3.of_below HBa.out)).trans (Same3.trans ⟨hz, fun k hk hl => ?_⟩ (Same3.of_keeps hk2 (by omega) (by omega) (by omega))), ?_⟩
        · rcases hk with rfl | rfl | ⟨hf, _⟩
          · exact r2.block _ (by omega)
          · exact r2.block _ (by omega)
          · exact hf.elim
        · refine ⟨Nat.le_trans h1 (Nat.le_trans hz hk2.size), (h2.lows r2 (by omega)).hole hk2 (by omega) (.inl (by omega)), ?_, ?_, ?_, ?_, ?_, _, S ++ [((p, tm, z1, z2, z3), .slice aM nM cM)], r3.set _, ?_, ?_⟩
          · obtain ⟨j2, h3⟩ := h3
            exact ⟨j2, (h3.lows r2 (by omega)).hole hk2 (by omega) (.inl (by omega))⟩
          · exact boxed_keeps ((r2.block _ (by omega)).trans h4) hk2 (by omega)
          · exact boxed_keeps ((r2.block _ (by omega)).trans h5) hk2 (by omega)
          · refine cell_keeps ?_ hk2 (by omega)
            exact (r2.cell (p := ⟨Bc, 0, none⟩) (by show Bc < _; omega)).trans h6
          · exact hk2.on (h7.trans (r2.mono (by omega))) (by omega) (Nat.le_trans h7.size hz)
          · exact OwnE.keeps r1 hk2 (by omega)
          · rw [HT.out, ← h10]
            simp
    · intro D b A hD hI hK
      rw [← HN.out] at hD
      obtain ⟨h1, h2, h3, h4, h5, h6, h7, vl, S, h8, h9, h10⟩ := hI
      rw [List.take_of_length_le (Nat.le_refl _)] at h10
      have cl := h8.cell
      obtain ⟨av, cv, rfl⟩ := h9.form
      obtain ⟨nS, hnS⟩ : ∃ k, S.length = k := ⟨_, rfl⟩
      rw [hnS] at cl h8
      have HH := Lib.hid (And.intro h7 (And.intro h9 (And.intro h10 hK)))
      have HNS := Lib.hid hnS
      have HD := Lib.hid hD
      clear h1 h2 h3 h4 h5 h6 h7 h8 h9 h10 hK hnS
      change WpE _ _ _ _ _
      refine wpE_of ?_
      go_wp2_with fail
      obtain ⟨h7, h9, h10, hK⟩ := HH.out
      rw [← HNS.out]
      obtain rfl := HD.out
      have hkp : Keeps D A (A.putObj D (.deferred none)) := keeps_put _
      refine leavesM_mark (by simp) hK ?_
      refine ⟨_, results_tmp2 rfl _ _ _, _, S, rfl, ?_, h10, hkp.on h7 (by omega) h7.size⟩
      exact (h9.keeps hkp (by omega)).weak (by omega)
    · exact fun _ _ _ _ h _ => h.elim
    · exact fun _ _ _ _ h _ => h.elim
  · have hEb : (E != 0) = true := by simpa using h0
    have HB0 := Lib.hid hB0
    obtain ⟨c0, f0⟩ := And.intro HE.out.cell HE.out.frozen
    rw [if_neg h0]
    clear h hs hB0 hE h0
    go_enter Tryz.func22, Tryz.ntmps22
    go_wp2_with fail
    refine (KR.out _ HB0.out).mono ?_
    rintro e w1 ⟨rfl, hB1⟩
    go_wp2_with fail
    go_ret2
    exact ⟨_, [], rfl, OwnE.nil _ _, rfl, below2 HB0.out hB1⟩

end Go.Proofs.YtaaabmnaindgaaaGreatDoor

/-
  store.List of any tree.
-/
namespace Go.Proofs.YtaaabmnaindgaaaGreatDoor
set_option maxRecDepth 100000
open Go.RowKit

set_option maxHeartbeats 4000000 in
theorem list_no {tv : Value} {U : List Pr} {w : World} (h : Sto w tv U) (hs : isSt U = false) (d : List UInt8) (n : Int) :
    Calls Tryz.prog 22 #[tv, .string ⟨d.toArray⟩, .int .i64 n] w fun e w' => e = .returned (.tuple #[.slice none 0 0, .int .i64 1]) ∧ Below w.heap.size w w' := by
  obtain ⟨tp, rfl⟩ := h.val
  have HB0 := Lib.hid (below_alloc w (.cells #[.int .i64 n] 3))
  have HE := Lib.hid (Boxed.new w 3 (.int .i64 n))
  have KR := Lib.hid (fun W (hB : Below w.heap.size w W) => refusal_no (h.below hB) hs d n)
  obtain ⟨c0, f0⟩ := And.intro HE.out.cell HE.out.frozen
  clear h hs
  go_enter Tryz.func22, Tryz.ntmps22
  go_wp2_with fail
  refine (KR.out _ HB0.out).mono ?_
  rintro e w1 ⟨rfl, hB1⟩
  go_wp2_with fail
  go_ret2
  exact ⟨rfl, below2 HB0.out hB1⟩

theorem listX_calls {tv : Value} {U : List Pr} {w : World} (h : Sto w tv U) (d : List UInt8) (n : Int) (hl : d.length ≤ 1000000) :
    Calls Tryz.prog 22 #[tv, .string ⟨d.toArray⟩, .int .i64 n] w fun e w' => ∃ v S, e = .returned (.tuple #[v, .int .i64 (refX U d n)]) ∧ OwnE w' w.heap.size v S ∧ ens S = listX U d n ∧ Below w.heap.size w w' := by
  unfold listX refX
  cases hs : isSt U with
  | false => exact (list_no h hs d n).mono fun e w' he => ⟨_, [], he.1, OwnE.nil _ _, rfl, he.2⟩
  | true => exact list_calls h hs d n hl

end Go.Proofs.YtaaabmnaindgaaaGreatDoor

/-
  The document's own SameEntry and Same.
-/
namespace Go.Proofs.YtaaabmnaindgaaaGreatDoor
set_option maxRecDepth 100000
open Go.RowKit

def sameE (x y : En) : Bool := (x.1 == y.1) && ((x.2.1 == y.2.1) && sameM x.2.2.1 x.2.2.2.1 x.2.2.2.2 y.2.2.1 y.2.2.2.1 y.2.2.2.2)
theorem sameE_iff {x y : En} : sameE x y = true ↔ x = y := by
  obtain ⟨a, b, c, d, e⟩ := x
  obtain ⟨a', b', c', d', e'⟩ := y
  simp [sameE, sameM]

set_option maxHeartbeats 4000000 in
theorem sameEntry_calls (x y : En) (u v : Value) (w : World) (hu : Ints w u x.2.2.2.2) (hv : Ints w v y.2.2.2.2) (hl : x.2.2.2.2.length ≤ 1000000) :
    Calls Tryz.prog 25 #[EV x u, EV y v] w fun e w' => e = .returned (.bool (sameE x y)) ∧ Below w.heap.size w w' := by
  obtain ⟨p, n, z, d, cs⟩ := x
  obtain ⟨q, m, z', d', cs'⟩ := y
  dsimp only [EV] at hu hv hl ⊢
  obtain ⟨au, cu, rfl⟩ := hu.form
  obtain ⟨av, cv, rfl⟩ := hv.form
  obtain ⟨nu, hnu⟩ : ∃ k, cs.length = k := ⟨_, rfl⟩
  obtain ⟨nv, hnv⟩ : ∃ k, cs'.length = k := ⟨_, rfl⟩
  rw [hnu] at hu ⊢
  rw [hnv] at hv ⊢
  obtain ⟨W0, hW0⟩ : ∃ x, x = (w.alloc (.cells #[.string ⟨p.toArray⟩, .int .i64 n, .int .i64 z, .int .i64 d, .slice au nu cu] 53)).alloc (.cells #[.string ⟨q.toArray⟩, .int .i64 m, .int .i64 z', .int .i64 d', .slice av nv cv] 53) := ⟨_, rfl⟩
  have hB : Below w.heap.size w W0 := by rw [hW0]; exact below_alloc2 w _ _
  have hx : Cx W0 w.heap.size 53 [.string ⟨p.toArray⟩, .int .i64 n, .int .i64 z, .int .i64 d, .slice au nu cu] := by
    rw [hW0]
    exact (Cx.new w _ _).below (below_alloc _ _)
  have hy : Cx W0 (w.heap.size + 1) 53 [.string ⟨q.toArray⟩, .int .i64 m, .int .i64 z', .int .i64 d', .slice av nv cv] := by
    rw [hW0]
    have := Cx.new (w.alloc (.cells #[.string ⟨p.toArray⟩, .int .i64 n, .int .i64 z, .int .i64 d, .slice au nu cu] 53)) 53 [.string ⟨q.toArray⟩, .int .i64 m, .int .i64 z', .int .i64 d', .slice av nv cv]
    rwa [World.size_alloc] at this
  have K := Lib.hid (mSame_calls z d _ cs z' d' _ cs' W0 (hu.below hB) (hv.below hB) hl)
  obtain ⟨⟨x0, x1, x2, x3, x4⟩, _, _⟩ := hx.five2
  obtain ⟨⟨y0, y1, y2, y3, y4⟩, _, _⟩ := hy.five2
  have HW := Lib.hid hW0
  have HB := Lib.hid hB
  rw [hW0] at x0 x1 x2 x3 x4 y0 y1 y2 y3 y4
  clear hu hv hl hnu hnv hx hy hB hW0
  by_cases h1 : p = q
  · by_cases h2 : n = m
    · have HR := Lib.hid (show sameE (p, n, z, d, cs) (q, m, z', d', cs') = sameM z d cs z' d' cs' by simp [sameE, h1, h2])
      rw [HR.out]
      have e1 : (p == q) = true := by simpa using h1
      have e2 : (n == m) = true := by simpa using h2
      clear h1 h2
      generalize sameM z d cs z' d' cs' = b at *
      go_enter Tryz.func25, Tryz.ntmps25
      go_wp2_with fail
      rw [← HW.out]
      refine K.out.mono ?_
      rintro e w1 ⟨rfl, hB1⟩
      go_wp2_with fail
      go_ret
      exact ⟨rfl, below2 HB.out hB1⟩
    · have HR := Lib.hid (show sameE (p, n, z, d, cs) (q, m, z', d', cs') = false by simp [sameE, h2])
      rw [HR.out]
      have e1 : (p == q) = true := by simpa using h1
      have e2 : (n == m) = false := by simpa using h2
      clear h1 h2
      go_enter Tryz.func25, Tryz.ntmps25
      go_wp2_with fail
      rw [← HW.out]
      go_ret
      exact ⟨rfl, HB.out⟩
  · have HR := Lib.hid (show sameE (p, n, z, d, cs) (q, m, z', d', cs') = false by simp [sameE, h1])
    rw [HR.out]
    have e1 : (p == q) = false := by simpa using h1
    clear h1
    go_enter Tryz.func25, Tryz.ntmps25
    go_wp2_with fail
    rw [← HW.out]
    go_ret
    exact ⟨rfl, HB.out⟩

/-- Are two rows of entries the same? -/
def sameEs (a b : List En) : Bool := decide (a = b)
theorem ens_upto {a b : List En} (hl : a.length = b.length) (h : ∀ (i : Nat) (h1 : i < a.length) (h2 : i < b.length), a[i] = b[i]) : a = b := List.ext_getElem hl h

set_option maxHeartbeats 8000000 in
theorem sameEs_calls (u v : Value) (S T : List Ev) (w : World) (hS : Ents w u S) (hT : Ents w v T) (hl : ∀ x ∈ S, x.1.2.2.2.2.length ≤ 1000000) (hn : S.length ≤ 1000000) :
    Calls Tryz.prog 24 #[u, v] w fun e w' => e = .returned (.bool (sameEs (ens S) (ens T))) ∧ Below w.heap.size w w' := by
  obtain ⟨au, cu, rfl⟩ := hS.form
  obtain ⟨av, cv, rfl⟩ := hT.form
  by_cases hne : S.length = T.length
  · have hd : ((S.length : Int) != (T.length : Int)) = false := by simp [hne]
    have HH := Lib.hid (And.intro hS (And.intro hT hl))
    obtain ⟨nT, hnT⟩ : ∃ k, T.length = k := ⟨_, rfl⟩
    have HN := Lib.hid (And.intro hne hnT)
    rw [hnT] at hd ⊢
    clear hS hT hl hne hnT
    go_enter Tryz.func24, Tryz.ntmps24
    go_wp2_with fail
    go_loopw [5] (fun i wr => ∃ k : Nat, i = .int .i64 k ∧ k ≤ S.length ∧ Hid (∀ (j : Nat) (h1 : j < S.length) (h2 : j < T.length), j < k → S[j].1 = T[j].1) ∧ Hid (Below w.heap.size w wr)) (fun i _ => S.length - (intOf i).toNat)
    case atStart => exact ⟨0, rfl, Nat.zero_le _, Lib.hid (fun _ _ _ h => absurd h (Nat.not_lt_zero _)), Lib.hid (Below.refl _ _)⟩
    case round =>
      obtain ⟨k, rfl, hk, hf, hB⟩ := hrel
      by_cases hlt : k < S.length
      · have hltT : k < T.length := by have := HN.out.1; omega
        have hd1 : decide ((k : Int) < (S.length : Int)) = true := by rw [decide_eq_true_eq]; omega
        have hkT : k < nT := by have := HN.out.2; omega
        have hS2 := HH.out.1.below hB.out
        have hT2 := HH.out.2.1.below hB.out
        rw [HN.out.2] at hT2
        obtain ⟨b, off, rfl, ⟨x0, x1, x2, x3, x4⟩, hI⟩ := hS2.at hlt
        obtain ⟨b', off', rfl, ⟨y0, y1, y2, y3, y4⟩, hJ⟩ := hT2.at hltT
        have hlx := HH.out.2.2 _ (List.getElem_mem hlt)
        have hgo : (S[k].1 = T[k].1) → ∀ (j : Nat) (h1 : j < S.length) (h2 : j < T.length), j < k + 1 → S[j].1 = T[j].1 := fun he j h1 h2 hj => by
          by_cases e : j = k
          · subst e; exact he
          · exact hf.out j h1 h2 (by omega)
        have hno : S[k].1 ≠ T[k].1 → sameEs (ens S) (ens T) = false := fun he => by
          unfold sameEs
          rw [decide_eq_false_iff_not]
          intro e
          have e1 : (ens S)[k]? = (ens T)[k]? := by rw [e]
          rw [List.getElem?_map, List.getElem?_map, List.getElem?_eq_getElem hlt, List.getElem?_eq_getElem hltT] at e1
          exact he (Option.some.inj e1)
        obtain ⟨⟨⟨p, n, z, d, cs⟩, vv⟩, hx⟩ : ∃ x, S[k] = x := ⟨_, rfl⟩
        obtain ⟨⟨⟨q, m, z', d', cs'⟩, vv'⟩, hy⟩ : ∃ x, T[k] = x := ⟨_, rfl⟩
        rw [hx] at x0 x1 x2 x3 x4 hI hlx hgo hno
        rw [hy] at y0 y1 y2 y3 y4 hJ hgo hno
        dsimp only at x0 x1 x2 x3 x4 hI hlx y0 y1 y2 y3 y4 hJ hgo hno
        obtain ⟨s1, s3, rfl⟩ := hI.form
        obtain ⟨t1, t3, rfl⟩ := hJ.form
        have KE := Lib.hid (fun W (hW : Below wr.heap.size wr W) => sameEntry_calls (p, n, z, d, cs) (q, m, z', d', cs') _ _ W (hI.below hW) (hJ.below hW) hlx)
        obtain ⟨s2, hs2⟩ : ∃ n, cs.length = n := ⟨_, rfl⟩
        obtain ⟨t2, ht2⟩ : ∃ n, cs'.length = n := ⟨_, rfl⟩
        rw [hs2] at x4 KE
        rw [ht2] at y4 KE
        dsimp only [EV] at KE
        have hbr : Below wr.heap.size wr wr.drew := drew_below _
        have HC : Hid (∀ W, Below wr.heap.size wr W → (W.cell? ⟨b, off + k * 5, none⟩ = some (.string ⟨p.toArray⟩) ∧ W.cell? ⟨b, off + k * 5 + 1, none⟩ = some (.int .i64 n) ∧ W.cell? ⟨b, off + k * 5 + 2, none⟩ = some (.int .i64 z) ∧ W.cell? ⟨b, off + k * 5 + 3, none⟩ = some (.int .i64 d) ∧ W.cell? ⟨b, off + k * 5 + 4, none⟩ = some (.slice s1 s2 s3)) ∧
            (W.cell? ⟨b', off' + k * 5, none⟩ = some (.string ⟨q.toArray⟩) ∧ W.cell? ⟨b', off' + k * 5 + 1, none⟩ = some (.int .i64 m) ∧ W.cell? ⟨b', off' + k * 5 + 2, none⟩ = some (.int .i64 z') ∧ W.cell? ⟨b', off' + k * 5 + 3, none⟩ = some (.int .i64 d') ∧ W.cell? ⟨b', off' + k * 5 + 4, none⟩ = some (.slice t1 t2 t3))) :=
          Lib.hid (fun W hW => ⟨⟨look_below hW x0, look_below hW x1, look_below hW x2, look_below hW x3, look_below hW x4⟩, ⟨look_below hW y0, look_below hW y1, look_below hW y2, look_below hW y3, look_below hW y4⟩⟩)
        cases hb : sameE (p, n, z, d, cs) (q, m, z', d', cs') with
        | true =>
          rw [hb] at KE
          have HG := Lib.hid (hgo (sameE_iff.1 hb))
          clear hgo hno hb hx hy hI hJ hlx hS2 hT2 hs2 ht2
          go_wp2_with fail
          go_region_held3 (fun W => (W.cell? ⟨b, off + k * 5, none⟩ = some (.string ⟨p.toArray⟩) ∧ W.cell? ⟨b, off + k * 5 + 1, none⟩ = some (.int .i64 n) ∧ W.cell? ⟨b, off + k * 5 + 2, none⟩ = some (.int .i64 z) ∧ W.cell? ⟨b, off + k * 5 + 3, none⟩ = some (.int .i64 d) ∧ W.cell? ⟨b, off + k * 5 + 4, none⟩ = some (.slice s1 s2 s3)) ∧
            (W.cell? ⟨b', off' + k * 5, none⟩ = some (.string ⟨q.toArray⟩) ∧ W.cell? ⟨b', off' + k * 5 + 1, none⟩ = some (.int .i64 m) ∧ W.cell? ⟨b', off' + k * 5 + 2, none⟩ = some (.int .i64 z') ∧ W.cell? ⟨b', off' + k * 5 + 3, none⟩ = some (.int .i64 d') ∧ W.cell? ⟨b', off' + k * 5 + 4, none⟩ = some (.slice t1 t2 t3))) (exact HC.out _ hbr) (first
            | (go_at_call 25; (with_reducible refine (KE.out _ hbr).mono ?_); rintro e w3 ⟨rfl, hB3⟩; have hbr := below2 hbr hB3))
          all_goals
            go_wp2_with fail
            go_roundw
            case rel => exact ⟨k + 1, by go_num, by omega, HG, Lib.hid (below2 hB.out hbr)⟩
            case measure => simp [intOf]; omega
        | false =>
          rw [hb] at KE
          have HG := Lib.hid (hno (fun e => by rw [sameE_iff.2 e] at hb; cases hb))
          clear hgo hno hb hx hy hI hJ hlx hS2 hT2 hs2 ht2
          go_wp2_with fail
          go_region_held3 (fun W => (W.cell? ⟨b, off + k * 5, none⟩ = some (.string ⟨p.toArray⟩) ∧ W.cell? ⟨b, off + k * 5 + 1, none⟩ = some (.int .i64 n) ∧ W.cell? ⟨b, off + k * 5 + 2, none⟩ = some (.int .i64 z) ∧ W.cell? ⟨b, off + k * 5 + 3, none⟩ = some (.int .i64 d) ∧ W.cell? ⟨b, off + k * 5 + 4, none⟩ = some (.slice s1 s2 s3)) ∧
            (W.cell? ⟨b', off' + k * 5, none⟩ = some (.string ⟨q.toArray⟩) ∧ W.cell? ⟨b', off' + k * 5 + 1, none⟩ = some (.int .i64 m) ∧ W.cell? ⟨b', off' + k * 5 + 2, none⟩ = some (.int .i64 z') ∧ W.cell? ⟨b', off' + k * 5 + 3, none⟩ = some (.int .i64 d') ∧ W.cell? ⟨b', off' + k * 5 + 4, none⟩ = some (.slice t1 t2 t3))) (exact HC.out _ hbr) (first
            | (go_at_call 25; (with_reducible refine (KE.out _ hbr).mono ?_); rintro e w3 ⟨rfl, hB3⟩; have hbr := below2 hbr hB3))
          all_goals
            go_wp2_with fail
            go_ret
            exact ⟨by rw [HG.out]; rfl, below2 hB.out hbr⟩
      · obtain rfl : k = S.length := by omega
        have hd1 : decide ((S.length : Int) < (S.length : Int)) = false := by simp
        have HG := Lib.hid (show sameEs (ens S) (ens T) = true by
          unfold sameEs
          rw [decide_eq_true_eq]
          refine ens_upto (by simp [HN.out.1]) fun i h1 h2 => ?_
          simp only [List.length_map] at h1 h2
          rw [List.getElem_map, List.getElem_map]
          exact hf.out i h1 h2 h1)
        go_wp2_with fail
        go_ret
        exact ⟨by rw [HG.out]; rfl, hB.out⟩
  · have hd : ((S.length : Int) != (T.length : Int)) = true := by simp; omega
    have HR := Lib.hid (show sameEs (ens S) (ens T) = false by
      unfold sameEs
      rw [decide_eq_false_iff_not]
      intro e
      have := congrArg List.length e
      simp at this
      exact hne this)
    rw [HR.out]
    clear hS hT hl hne
    go_enter Tryz.func24, Tryz.ntmps24
    go_wp2_with fail
    go_ret
    exact ⟨rfl, Below.refl _ _⟩

end Go.Proofs.YtaaabmnaindgaaaGreatDoor

/-
  What is told of any pairs is short. No program is named here but by what it tells.
-/
namespace Go.Proofs.YtaaabmnaindgaaaGreatDoor
set_option maxRecDepth 100000

theorem asX_chunks (U : List Pr) (p : List UInt8) (n : Int) : (enD (asX U p n)).2.2.2.2.length ≤ 16 := by
  by_cases h : refX U p n = 0
  · rw [asX_told h]
    cases ht : told (asOf U p n) with
    | none => simp [enD]
    | some e => exact toldX_chunks ht
  · rw [asX_no h]
    simp [enD]
theorem listX_facts {U : List Pr} (hr : Rises U) (d : List UInt8) (n : Int) : (listX U d n).length ≤ U.length ∧ ∀ e ∈ listX U d n, e.2.2.2.2.length ≤ 1000000 := by
  unfold listX
  split
  · refine ⟨listL_len U d n, fun e he => ?_⟩
    have := toldX_chunks ((mem_list hr).1 he).2
    omega
  · exact ⟨by simp, fun e he => by cases he⟩

end Go.Proofs.YtaaabmnaindgaaaGreatDoor

/-
  Batches that came in, opened.
-/
namespace Go.Proofs.YtaaabmnaindgaaaGreatDoor
set_option maxRecDepth 100000
open Go.RowKit Go.Joins Go.ChangeShapes Go.WideShapes Go.Deep

theorem laidCells : Tryz.prog.cellsOf 90 = 2 := by kernel_rfl
/-- Two cells that are a batch, and its time. -/
theorem laid_trod {W : World} {n : Nat} {H : Type} {enc : TypeId × Value → H} {x : DataW H × List MemPlace} {c0 c1 : Value}
    (hf : DataW.trod enc Tryz.prog W 0 (fun _ => true) true n 90 [c0, c1] = some x) : ∃ y : Lv, (c0 = .int .i64 y.1.1 ∧ c1 = y.1.2) ∧ Cgs W y.1.2 y.2 ∧ y.2.length ≤ maxLen ∧ ∀ c ∈ chs y.2, c.1.length ≤ maxLen ∧ c.2.2.2.2.length ≤ maxLen := by
  have ki : Tryz.prog.cellsOf 3 = 1 := by kernel_rfl
  have kr : Tryz.prog.cellsOf 88 = 1 := by kernel_rfl
  obtain ⟨xs, k, _, _, _, hl, hc⟩ := DataW.trod_struct Tryz.underlying90 hf
  match xs, hl with
  | [x0, x1], _ =>
    have g0 := hc 0 _ rfl
    have g1 := hc 1 _ rfl
    simp [ki] at g0
    simp [kr] at g1
    obtain ⟨z, e0, _, _⟩ := DataW.trod_int Tryz.underlying3 g0
    obtain ⟨S, h1, h2, h3⟩ := changes_trod g1
    simp at e0
    subst e0
    exact ⟨((z, c1), S), ⟨rfl, rfl⟩, h1, h2, h3⟩

set_option maxHeartbeats 1000000 in
/-- A row of batches. -/
theorem laids_open {W : World} {base : Nat} {v : Value} {H : Type} {enc : TypeId × Value → H} {d : DataW H} {p : List MemPlace} (hv : Value.okWide Tryz.prog W .any base 43 v)
    (h : DataW.Trod enc Tryz.prog W 0 (fun _ => true) true 43 v d p) : ∃ S : List Lv, Lds W v S ∧ S.length ≤ maxLen ∧ ∀ x ∈ S, x.2.length ≤ maxLen ∧ ∀ c ∈ chs x.2, c.1.length ≤ maxLen ∧ c.2.2.2.2.length ≤ maxLen := by
  obtain ⟨a0, len0, cap0, rfl⟩ := okWide_slice Tryz.underlying43 hv
  obtain ⟨fuel, hf⟩ := h
  rcases open_slice Tryz.underlying43 hf with ⟨hcs, _⟩ | ⟨a, l, c, m, k, D, Pl, hcs, _, hl, hm, hz, _, hcell⟩
  · simp [Value.cells] at hcs
    obtain ⟨rfl, rfl, rfl⟩ := hcs
    exact ⟨[], Lds.nil W, by simp, fun x hx => by cases hx⟩
  · simp [Value.cells] at hcs
    obtain ⟨rfl, rfl, rfl⟩ := hcs
    have hz' : m = cap0 := by simpa using hz
    rw [laidCells] at hcell
    have each : ∀ i, i < m → ∃ y : Lv, (W.cell? (a.add (i * 2)) = some (.int .i64 y.1.1) ∧ W.cell? (a.add (i * 2 + 1)) = some y.1.2) ∧ Cgs W y.1.2 y.2 ∧ y.2.length ≤ maxLen ∧ ∀ c ∈ chs y.2, c.1.length ≤ maxLen ∧ c.2.2.2.2.length ≤ maxLen := by
      intro i hi
      obtain ⟨cs', h1, h2⟩ := hcell i hi
      obtain ⟨_, hlen, hc⟩ := World.cells?_some h1
      match cs', hlen with
      | [v0, v1], _ =>
        have e0 := hc 0 (by omega)
        have e1 := hc 1 (by omega)
        rw [add_add] at e0 e1
        obtain ⟨y, ⟨rfl, rfl⟩, hy⟩ := laid_trod h2
        exact ⟨y, ⟨by simpa using e0, by simpa using e1⟩, hy⟩
    obtain ⟨Y, hY⟩ := choose_lt each
    have hll : ((List.range len0).map Y).length = len0 := by simp
    refine ⟨(List.range len0).map Y, ⟨⟨lcells_len _, some a, cap0, by rw [hll], by rw [hll]; omega, ?_⟩, ?_⟩, by rw [hll]; omega, ?_⟩
    · by_cases h0 : len0 = 0
      · left; rw [hll]; exact h0
      · right
        obtain ⟨b, off, spot⟩ := a
        have hspot : spot = none := by simpa [Addr.add] using World.cell?_spot (hY 0 (by omega)).1.1
        subst hspot
        refine ⟨b, off, rfl, fun j hj => ?_⟩
        have hj2 : j < len0 * 2 := by rw [lcells_len, hll] at hj; exact hj
        have hq : j / 2 < len0 := by omega
        obtain ⟨e0, e1⟩ := lcells_at ((List.range len0).map Y) (j / 2) (by rw [hll]; exact hq)
        obtain ⟨⟨y0, y1⟩, _⟩ := hY (j / 2) (by omega)
        rw [Go.WideShapes.add_plain] at y0 y1
        simp only [List.getElem_map, List.getElem_range] at e0 e1
        rcases (by omega : j % 2 = 0 ∨ j % 2 = 1) with h | h
        · have ej : j / 2 * 2 = j := by omega
          rw [ej] at e0 y0
          rw [y0, ← e0, List.getElem?_eq_getElem hj]
        · have ej : j / 2 * 2 + 1 = j := by omega
          rw [ej] at e1 y1
          rw [y1, ← e1, List.getElem?_eq_getElem hj]
    · intro x hx
      obtain ⟨r, hr, rfl⟩ := List.mem_map.1 hx
      exact (hY r (by have := List.mem_range.1 hr; omega)).2.1
    · intro x hx
      obtain ⟨r, hr, rfl⟩ := List.mem_map.1 hx
      exact (hY r (by have := List.mem_range.1 hr; omega)).2.2

end Go.Proofs.YtaaabmnaindgaaaGreatDoor
