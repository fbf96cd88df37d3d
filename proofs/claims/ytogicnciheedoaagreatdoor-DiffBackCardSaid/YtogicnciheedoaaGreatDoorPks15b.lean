/-
  The texts of one folder in one: SoSkip, SoEnts, SoLists, SoXS, SoChunks, SoRefI, SoRefA, SoRefP.
-/
import Derived.Test.YtogicnciheedoaaGreatDoorPks15a
import Derived.Test.YtogicnciheedoaaGreatDoorPks12
import Derived.Test.YtogicnciheedoaaGreatDoorPkbase
import Derived.Test.YtogicnciheedoaaGreatDoorPks14
import Derived.OwnWalkIn
import Derived.Test.YtogicnciheedoaaGreatDoorPks08
import Derived.Test.YtogicnciheedoaaGreatDoorPks09
import Derived.Test.YtogicnciheedoaaGreatDoorPks02
import Derived.Deep.RegionHeld3
import Derived.Test.YtogicnciheedoaaGreatDoorPks13

/-
  The paths that a cursor's Skip tells, one behind the other.
-/
namespace Go.Proofs.YtogicnciheedoaaGreatDoor
set_option maxRecDepth 100000

theorem paths_cons : ∀ (x : Pr) (r : List Pr), pathsL (x :: r) = x.1.1 :: pathsL ((x :: r).dropWhile fun y => decide (y.1.1 = x.1.1))
  | x, [] => by simp [pathsL]
  | x, y :: r => by
    rw [pathsL]
    by_cases h : x.1.1 = y.1.1
    · have e1 : (x :: y :: r).dropWhile (fun z => decide (z.1.1 = x.1.1)) = (y :: r).dropWhile (fun z => decide (z.1.1 = y.1.1)) := by
        rw [List.dropWhile_cons_of_pos (by simp), h]
      rw [if_pos h, paths_cons y r, e1, h]
    · rw [if_neg h, List.dropWhile_cons_of_pos (by simp), List.dropWhile_cons_of_neg (by simpa using fun e => h e.symm)]
theorem drop_while {α : Type} (f : α → Bool) (l : List α) : l.dropWhile f = l.drop (l.takeWhile f).length := by
  induction l with
  | nil => rfl
  | cons x r ih =>
    by_cases h : f x = true
    · rw [List.dropWhile_cons_of_pos h, List.takeWhile_cons_of_pos h, List.length_cons, List.drop_succ_cons, ih]
    · rw [List.dropWhile_cons_of_neg h, List.takeWhile_cons_of_neg h]
      rfl
theorem take_while_all {α : Type} {f : α → Bool} : ∀ {l : List α} {x : α}, x ∈ l.takeWhile f → f x = true
  | [], x, h => by cases h
  | y :: r, x, h => by
    by_cases hy : f y = true
    · rw [List.takeWhile_cons_of_pos hy] at h
      rcases List.mem_cons.1 h with rfl | h
      · exact hy
      · exact take_while_all h
    · rw [List.takeWhile_cons_of_neg hy] at h
      cases h
theorem drop_while_head {α : Type} {f : α → Bool} : ∀ {l s : List α} {y : α}, l.dropWhile f = y :: s → f y = false
  | [], s, y, h => by cases h
  | z :: r, s, y, h => by
    by_cases hz : f z = true
    · rw [List.dropWhile_cons_of_pos hz] at h
      exact drop_while_head h
    · rw [List.dropWhile_cons_of_neg hz] at h
      cases h
      simpa using hz
/-- Where a cursor is behind k Skips. -/
def skipN (V : List Pr) : Nat → Nat
  | 0 => 0
  | k + 1 => skipI V (skipN V k)
theorem skip_next {V : List Pr} (hr : Rises V) (ht : TimesK V) {i : Nat} (hi : i < V.length) : skipI V i = i + ((V.drop i).takeWhile fun y => decide (y.1.1 = V[i].1.1)).length := by
  have hd := List.drop_eq_getElem_cons hi
  obtain ⟨m, hm⟩ : ∃ m, ((V.drop i).takeWhile fun y => decide (y.1.1 = V[i].1.1)).length = m := ⟨_, rfl⟩
  have hle : m ≤ (V.drop i).length := by rw [← hm]; exact List.IsPrefix.length_le (List.takeWhile_prefix _)
  rw [List.length_drop] at hle
  have hsk : skipI V i = placeN V (cuPast V[i].1.1) := by
    unfold skipI
    rw [if_pos hi, hereP_lt hi]
  rw [hm, hsk]
  refine skip_place hr ht hi (by omega) (by omega) (fun q hq hiq hqj => ?_) (fun hj => ?_)
  · have hlt : q - i < ((V.drop i).takeWhile fun y => decide (y.1.1 = V[i].1.1)).length := by omega
    have h1 := take_while_all (List.getElem_mem hlt)
    rw [decide_eq_true_eq] at h1
    have h2 : ((V.drop i).takeWhile fun y => decide (y.1.1 = V[i].1.1))[q - i] = V[q] := by
      have h3 := List.IsPrefix.getElem (List.takeWhile_prefix (fun y : Pr => decide (y.1.1 = V[i].1.1)) (l := V.drop i)) hlt
      rw [h3, List.getElem_drop]
      congr 1
      omega
    rw [h2] at h1
    exact h1
  · have h1 : (V.drop i).dropWhile (fun y => decide (y.1.1 = V[i].1.1)) = V.drop (i + m) := by rw [drop_while, hm, List.drop_drop]
    have h3 := drop_while_head (h1.trans (List.drop_eq_getElem_cons hj))
    rw [decide_eq_false_iff_not] at h3
    exact h3
theorem skip_le {V : List Pr} (hr : Rises V) (ht : TimesK V) : ∀ k, skipN V k ≤ V.length ∧ pathsL (V.drop (skipN V k)) = (pathsL V).drop k
  | 0 => ⟨Nat.zero_le _, rfl⟩
  | k + 1 => by
    obtain ⟨h1, h2⟩ := skip_le hr ht k
    by_cases hi : skipN V k < V.length
    · have e := skip_next hr ht hi
      have hd := List.drop_eq_getElem_cons hi
      obtain ⟨m, hm⟩ : ∃ m, ((V.drop (skipN V k)).takeWhile fun y => decide (y.1.1 = V[skipN V k].1.1)).length = m := ⟨_, rfl⟩
      have hle : m ≤ (V.drop (skipN V k)).length := by rw [← hm]; exact List.IsPrefix.length_le (List.takeWhile_prefix _)
      rw [List.length_drop] at hle
      rw [hm] at e
      refine ⟨by rw [skipN, e]; omega, ?_⟩
      rw [skipN, e]
      have h3 := paths_cons V[skipN V k] (V.drop (skipN V k + 1))
      rw [← hd, drop_while, hm, List.drop_drop, h2] at h3
      have h5 := congrArg List.tail h3
      rw [List.tail_drop] at h5
      exact h5.symm
    · have e : skipI V (skipN V k) = skipN V k := by
        unfold skipI
        rw [if_neg hi]
      refine ⟨by rw [skipN, e]; exact h1, ?_⟩
      rw [skipN, e, h2]
      have h3 : (pathsL V).drop k = [] := by
        rw [← h2, List.drop_eq_nil_of_le (by omega)]
        rfl
      have := List.drop_eq_nil_iff.1 h3
      rw [h3, List.drop_eq_nil_of_le (by omega)]
theorem paths_len_pos {V : List Pr} (h : V ≠ []) : pathsL V ≠ [] := by
  cases V with
  | nil => exact absurd rfl h
  | cons x r => rw [paths_cons]; simp
theorem skip_lt {V : List Pr} (hr : Rises V) (ht : TimesK V) (k : Nat) : decide (skipN V k < V.length) = decide (k < (pathsL V).length) := by
  obtain ⟨h1, h2⟩ := skip_le hr ht k
  rw [decide_eq_decide]
  constructor
  · intro h
    have h3 : pathsL (V.drop (skipN V k)) ≠ [] := paths_len_pos (by simpa using h)
    rw [h2] at h3
    have : ¬ (pathsL V).length ≤ k := fun hle => h3 (List.drop_eq_nil_of_le hle)
    omega
  · intro h
    have : ¬ V.length ≤ skipN V k := fun hle => by
      rw [List.drop_eq_nil_of_le hle] at h2
      have h3 := congrArg List.length h2
      simp [pathsL] at h3
      omega
    omega
theorem skip_at {V : List Pr} (hr : Rises V) (ht : TimesK V) {k : Nat} (hk : k < (pathsL V).length) : (hereP V (skipN V k)).1.1 = (pathsL V)[k] := by
  obtain ⟨_, h2⟩ := skip_le hr ht k
  have hi : skipN V k < V.length := by
    have := skip_lt hr ht k
    rw [decide_eq_true hk, decide_eq_true_eq] at this
    exact this
  rw [hereP_lt hi]
  rw [List.drop_eq_getElem_cons hi, paths_cons, List.drop_eq_getElem_cons hk] at h2
  exact (List.cons.inj h2).1

/-! ### What List tells -/

theorem rise_same : ∀ {a b : List (List UInt8)}, (a.Pairwise fun x y => Op.bytesLess x y = true) → (b.Pairwise fun x y => Op.bytesLess x y = true) → (∀ x, x ∈ a ↔ x ∈ b) → a = b
  | [], [], _, _, _ => rfl
  | [], y :: s, _, _, h => absurd ((h y).2 (by simp)) (by simp)
  | x :: r, [], _, _, h => absurd ((h x).1 (by simp)) (by simp)
  | x :: r, y :: s, ha, hb, h => by
    obtain ⟨a1, a2⟩ := List.pairwise_cons.1 ha
    obtain ⟨b1, b2⟩ := List.pairwise_cons.1 hb
    have e : x = y := by
      rcases List.mem_cons.1 ((h x).1 (by simp)) with e | hx
      · exact e
      · rcases List.mem_cons.1 ((h y).2 (by simp)) with e | hy
        · exact e.symm
        · have := less_trans (a1 y hy) (b1 x hx)
          rw [less_irrefl] at this
          cases this
    subst e
    refine congrArg (x :: ·) (rise_same a2 b2 fun z => ⟨fun hz => ?_, fun hz => ?_⟩)
    · rcases List.mem_cons.1 ((h z).1 (List.mem_cons_of_mem _ hz)) with rfl | hz'
      · have := a1 z hz
        rw [less_irrefl] at this
        cases this
      · exact hz'
    · rcases List.mem_cons.1 ((h z).2 (List.mem_cons_of_mem _ hz)) with rfl | hz'
      · have := b1 z hz
        rw [less_irrefl] at this
        cases this
      · exact hz'
theorem underL_rises {U : List Pr} (h : Rises U) (d : List UInt8) : Rises (underL U d) := List.Pairwise.filter _ h
theorem paths_under {U : List Pr} (h : Rises U) (d : List UInt8) : pathsL (underL U d) = (pathsL U).filter (underOf d) := by
  refine rise_same (paths_rise (underL_rises h d)) (List.Pairwise.filter _ (paths_rise h)) fun p => ?_
  rw [mem_paths, List.mem_filter, mem_paths]
  constructor
  · rintro ⟨x, hx, rfl⟩
    obtain ⟨h1, h2⟩ := List.mem_filter.1 hx
    exact ⟨⟨x, h1, rfl⟩, h2⟩
  · rintro ⟨⟨x, hx, rfl⟩, h2⟩
    exact ⟨x, List.mem_filter.2 ⟨hx, h2⟩, rfl⟩
theorem list_under {U : List Pr} (h : Rises U) (d : List UInt8) (n : Int) : listL U d n = (pathsL (underL U d)).filterMap fun p => told (asOf (underL U d) p n) := by
  rw [paths_under h]
  unfold listL
  have : ∀ l : List (List UInt8), (∀ p ∈ l, underOf d p = true) → l.filterMap (fun p => told (asOf U p n)) = l.filterMap fun p => told (asOf (underL U d) p n) := by
    intro l
    induction l with
    | nil => intro _; rfl
    | cons p r ih =>
      intro hl
      rw [List.filterMap_cons, List.filterMap_cons, ih fun q hq => hl q (List.mem_cons_of_mem _ hq), asOf_under (hl p (by simp))]
  exact this _ fun p hp => (List.mem_filter.1 hp).2

end Go.Proofs.YtogicnciheedoaaGreatDoor

/-
  Rows of entries of the call's own; an append of one.
-/
namespace Go.Proofs.YtogicnciheedoaaGreatDoor
set_option maxRecDepth 100000
open Go.RowKit

/-- A row of changes of the call's own, their Chunks too. -/
def OwnE (w : World) (base : Nat) (v : Value) (S : List Ev) : Prop := w.ownsRow base 50 5 v S.length (ecells S) ∧ ∀ x ∈ S, OwnI w base x.2 x.1.2.2.2.2
theorem OwnE.nil (w : World) (base : Nat) : OwnE w base (.slice none 0 0) [] := ⟨World.ownsRow_nil _ _ _ _, fun x h => by cases h⟩
theorem OwnE.ents {w : World} {base : Nat} {v : Value} {S : List Ev} (h : OwnE w base v S) : Ents w v S := ⟨Rw.own h.1, fun x hx => ints_own (h.2 x hx)⟩
theorem OwnE.form {w : World} {base : Nat} {v : Value} {S : List Ev} (h : OwnE w base v S) : ∃ ao cap, v = .slice ao S.length cap := h.ents.form
theorem OwnE.weak {w : World} {b b' : Nat} {v : Value} {S : List Ev} (h : OwnE w b' v S) (hb : b ≤ b') : OwnE w b v S := ⟨own_weak h.1 hb, fun x hx => own_weak (h.2 x hx) hb⟩
theorem OwnE.stays {w w' : World} {base : Nat} {v : Value} {S : List Ev} (h : OwnE w base v S) (hb : Below w.heap.size w w') : OwnE w' base v S := ⟨own_stays h.1 hb, fun x hx => own_stays (h.2 x hx) hb⟩
theorem infoE : (Tryz.prog.info? 50).map (fun i => (i.zero, i.size, i.bytes)) = some (some (.agg #[.string ⟨#[]⟩, .int .i64 0, .int .i64 0, .int .i64 0, .slice none 0 0]), 5, 64) := by kernel_rfl
theorem news_litE (w : World) (cs : List Value) (t : TypeId) : ∀ j u, cs[j]? = some u → (w.alloc (.cells cs.toArray t)).cell? ((⟨w.heap.size, 0, none⟩ : Addr).add j) = some u := by
  intro j u h
  rw [Go.WideShapes.add_plain, Nat.zero_add, World.cell?_alloc_new]
  simp [h]
theorem ecell_one {w : World} {x : Ev} {base : Nat} (h : OwnI w base x.2 x.1.2.2.2.2) : ∀ u ∈ ecell x, u.oneCell' = true := by
  obtain ⟨ao, n, cap, e⟩ := own_form h
  intro u hu
  simp [ecell] at hu
  rcases hu with rfl | rfl | rfl | rfl | rfl
  · rfl
  · rfl
  · rfl
  · rfl
  · rw [e]; rfl
theorem ecells_snoc (S : List Ev) (x : Ev) : ecells (S ++ [x]) = ecells S ++ ecell x := by rw [ecells_append]; simp [ecells]

/-- Behind an append to a row of changes: what else is the call's own stays. -/
def KeepE (w w' : World) : Prop := ∀ (base : Nat) (e : TypeId) (k n : Nat) (v : Value) (xs : List Value), e ≠ 50 → w.ownsRow base e k v n xs → w'.ownsRow base e k v n xs
theorem KeepE.trans {a b c : World} (h : KeepE a b) (k : KeepE b c) : KeepE a c := fun _ _ _ _ _ _ he ho => k _ _ _ _ _ _ he (h _ _ _ _ _ _ he ho)
theorem KeepE.below {a b : World} (h : Below a.heap.size a b) : KeepE a b := fun _ _ _ _ _ _ _ ho => own_stays ho h
theorem KeepE.grown {w w' : World} {base : Nat} {v : Value} {k n : Nat} {xs : List Value} (ho : w.ownsRow base 50 k v n xs) (hg : w.grownBy w' v.ownBlock) : KeepE w w' :=
  fun _ _ _ _ _ _ he h => h.kept hg (ba_apart h ho he)

/-- What an append of one change makes. -/
theorem ownE_app {w w' : World} {base : Nat} {v v' : Value} {S : List Ev} {c : Ev} {o : Obj} (hown : OwnE w base v S) (hc : OwnI w base c.2 c.1.2.2.2.2) (h2 : w'.ownsRow base 50 5 v' (S.length + 1) (ecells S ++ ecell c)) (h3 : (w.alloc o).grownBy w' v.ownBlock) :
    OwnE w' base v' (S ++ [c]) ∧ KeepE w w' := by
  have ho1 := hown.1.alloc o
  have hk := KeepE.trans (KeepE.below (below_alloc w o)) (KeepE.grown ho1 h3)
  refine ⟨⟨?_, fun x hx => ?_⟩, hk⟩
  · rw [List.length_append, ecells_snoc]
    exact h2
  · rcases List.mem_append.1 hx with hx | hx
    · exact hk _ _ _ _ _ _ (by decide) (hown.2 x hx)
    · obtain rfl := List.mem_singleton.1 hx
      exact hk _ _ _ _ _ _ (by decide) hc

theorem app_ent {w : World} {ops : Array Oper} {rest : List Oper} {o : Oper} {a : Act} {Q : Exit → Act → World → Prop} (hgd : o.guard = none) (s x : Operand)
    (ho : o.op = .call { callee := .builtin .append, args := #[s, x], argTypes := #[59, 59] })
    (base : Nat) (v : Value) (S : List Ev) (hs : a.eval s = v) (hown : OwnE w base v S) (p : List UInt8) (g : Int) (z d : Int) (u : Value) (cs : List Int) (hc : OwnI w base u cs) (hx : a.eval x = .slice (some ⟨w.heap.size, 0, none⟩) 1 1)
    (hn : S.length ≤ 100000) (hbase : base ≤ w.heap.size)
    (h : ∀ v' w', OwnE w' base v' (S ++ [((p, g, z, d, cs), u)]) → (∀ w0, Below base w0 w → Below base w0 w') → KeepE w w' → wpList Tryz.prog ops Q rest (a.put o.dst v') w') :
    wpList Tryz.prog ops Q (o :: rest) a (w.alloc (.cells #[.string ⟨p.toArray⟩, .int .i64 g, .int .i64 z, .int .i64 d, u] 50)) := by
  obtain ⟨i0, hi, hz0, hz1, hz2⟩ := info_parts infoE
  refine wpList_append_own_at (P := Tryz.prog) (w.alloc (.cells #[.string ⟨p.toArray⟩, .int .i64 g, .int .i64 z, .int .i64 d, u] 50)) hgd s x 59 ho base 50 i0 _ 5 64 Tryz.underlying59 hi hz0 hz1 hz2 rfl (by decide) v S.length (ecells S) hs (hown.1.alloc _) ⟨w.heap.size, 0, none⟩ 1 1 (ecell ((p, g, z, d, cs), u)) hx rfl (news_litE w (ecell ((p, g, z, d, cs), u)) _) (ecell_one (x := ((p, g, z, d, cs), u)) hc) (by unfold maxLen; omega) (by omega) (by rw [World.size_alloc]; omega) ?_
  intro v' w' h2 h3 _ _
  obtain ⟨k1, k2⟩ := ownE_app (c := ((p, g, z, d, cs), u)) hown hc h2 h3
  exact h v' w' k1 (fun w0 hB => (hB.alloc hbase _).grown h3 (by rw [World.size_alloc]; omega) fun j e => (hown.1.lt j e).1) k2

theorem appIn_ent {F : Fence} {n : Nat} {w : World} {ops : Array Oper} {rest : List Oper} {o : Oper} {a : Act} {Q : Exit → Act → World → Prop} (hgd : o.guard = none) (s x : Operand)
    (ho : o.op = .call { callee := .builtin .append, args := #[s, x], argTypes := #[59, 59] })
    (base : Nat) (v : Value) (S : List Ev) (hs : a.eval s = v) (hown : OwnE w base v S) (p : List UInt8) (g : Int) (z d : Int) (u : Value) (cs : List Int) (hc : OwnI w base u cs) (k : Nat) (hk : w.heap.size = k) (hx : a.eval x = .slice (some ⟨k, 0, none⟩) 1 1)
    (hn : S.length ≤ 100000) (hbase : base ≤ w.heap.size)
    (h : ∀ v' w', OwnE w' base v' (S ++ [((p, g, z, d, cs), u)]) → (∀ w0, Below base w0 w → Below base w0 w') → KeepE w w' → wpListIn F n Tryz.prog ops Q rest (a.put o.dst v') w') :
    wpListIn F n Tryz.prog ops Q (o :: rest) a (w.alloc (.cells #[.string ⟨p.toArray⟩, .int .i64 g, .int .i64 z, .int .i64 d, u] 50)) := by
  subst hk
  obtain ⟨i0, hi, hz0, hz1, hz2⟩ := info_parts infoE
  refine wpListIn_append_own (P := Tryz.prog) (w.alloc (.cells #[.string ⟨p.toArray⟩, .int .i64 g, .int .i64 z, .int .i64 d, u] 50)) hgd s x 59 ho base 50 i0 _ 5 64 Tryz.underlying59 hi hz0 hz1 hz2 rfl (by decide) v S.length (ecells S) hs (hown.1.alloc _) ⟨w.heap.size, 0, none⟩ 1 1 (ecell ((p, g, z, d, cs), u)) hx rfl (news_litE w (ecell ((p, g, z, d, cs), u)) _) (ecell_one (x := ((p, g, z, d, cs), u)) hc) (by unfold maxLen; omega) (by omega) (by rw [World.size_alloc]; omega) ?_
  intro v' w' h2 h3 _
  obtain ⟨k1, k2⟩ := ownE_app (c := ((p, g, z, d, cs), u)) hown hc h2 h3
  exact h v' w' k1 (fun w0 hB => (hB.alloc hbase _).grown h3 (by rw [World.size_alloc]; omega) fun j e => (hown.1.lt j e).1) k2

end Go.Proofs.YtogicnciheedoaaGreatDoor

/-
  store.List.
-/
namespace Go.Proofs.YtogicnciheedoaaGreatDoor
set_option maxRecDepth 100000
open Go.RowKit Go.Shelf
attribute [local go_sem] Oper.semAt_some

theorem CurH.lows {wt A B : World} {lo g m : Nat} {U : List Pr} {i : Nat} (h : CurH wt lo A g U i) (hb : Below m A B) (hg : g < m) : CurH wt lo B g U i := by
  obtain ⟨L, S, P, tv, sv, pv, k0, b1, b2, b3, b4, b5, b6, b7, b8, b9, b10, b11, b12⟩ := h
  exact ⟨L, S, P, tv, sv, pv, k0, b1.same fun j hj hj2 => hb.block j (by omega), b2, b3, b4, b5, b6, b7, b8.trans (hb.mono (by omega)), b9, b10, (hb.block g hg).trans b11, b12⟩
theorem OwnE.keeps {A B : World} {base k : Nat} {v : Value} {S : List Ev} (h : OwnE A base v S) (hk : Keeps k A B) (hb : k < base) : OwnE B base v S :=
  ⟨h.1.kept hk (.inr fun e => by have := (h.1.lt _ e).1; omega), fun x hx => (h.2 x hx).kept hk (.inr fun e => by have := ((h.2 x hx).lt _ e).1; omega)⟩

/-- What stands in List's boxes, and both cursors, behind i paths. -/
def LiI (w : World) (l1 l2 n at0 bl bf g1 g2 Bc : Nat) (tn : Int) (V : List Pr) (i c : Nat) (A : World) : Prop :=
  n ≤ A.heap.size ∧ CurH w l1 A g1 V c ∧ (∃ j, CurH w l2 A g2 V j) ∧ Boxed A at0 3 (.int .i64 tn) ∧ Boxed A bf 83 (.pointer (some ⟨g2, 0, none⟩)) ∧
  A.cell? ⟨Bc, 0, none⟩ = some (.func (.func 47) #[.pointer (some ⟨g1, 0, none⟩)] #[]) ∧ Below w.heap.size w A ∧
  ∃ vl S, Boxed A bl 59 vl ∧ OwnE A (n + 2) vl S ∧ ens S = ((pathsL V).take i).filterMap (fun p => told (asOf V p tn))
theorem LiI.below {w : World} {l1 l2 n at0 bl bf g1 g2 Bc : Nat} {tn : Int} {V : List Pr} {i c : Nat} {A B : World} (h : LiI w l1 l2 n at0 bl bf g1 g2 Bc tn V i c A) (hb : Below A.heap.size A B) : LiI w l1 l2 n at0 bl bf g1 g2 Bc tn V i c B := by
  obtain ⟨h1, h2, ⟨j, h3⟩, h4, h5, h6, h7, vl, S, h8, h9, h10⟩ := h
  exact ⟨Nat.le_trans h1 hb.size, h2.below hb, ⟨j, h3.below hb⟩, boxed_stays h4 hb, boxed_stays h5 hb, look_below hb h6, below2 h7 hb, vl, S, boxed_stays h8 hb, h9.stays hb, h10⟩
theorem LiI.keeps {w : World} {l1 l2 n at0 bl bf g1 g2 Bc : Nat} {tn : Int} {V : List Pr} {i c k : Nat} {A B : World} (h : LiI w l1 l2 n at0 bl bf g1 g2 Bc tn V i c A) (hk : Keeps k A B) (hn : n ≤ k) (hn2 : k < n + 2) (o1 : g1 < n) (o2 : g2 < n) (o3 : at0 < n) (o4 : bl < n) (o5 : bf < n) (o6 : Bc < n) (o7 : w.heap.size ≤ n) : LiI w l1 l2 n at0 bl bf g1 g2 Bc tn V i c B := by
  obtain ⟨h1, h2, ⟨j, h3⟩, h4, h5, h6, h7, vl, S, h8, h9, h10⟩ := h
  exact ⟨Nat.le_trans h1 hk.size, h2.other hk (by omega) (by omega), ⟨j, h3.other hk (by omega) (by omega)⟩, boxed_keeps h4 hk (by omega), boxed_keeps h5 hk (by omega), cell_keeps h6 hk (by omega), hk.on h7 (by omega) h7.size, vl, S, boxed_keeps h8 hk (by omega), h9.keeps hk hn2, h10⟩
/-- The order of List's blocks. -/
def LiO (w : World) (l1 l2 n at0 bl bf g1 g2 Bc : Nat) : Prop := w.heap.size ≤ at0 ∧ at0 < bl ∧ bl < l1 ∧ l1 ≤ g1 ∧ g1 < l2 ∧ l2 ≤ g2 ∧ g2 < bf ∧ bf < Bc ∧ Bc < n
/-- Behind a Skip. -/
theorem LiI.step {w : World} {l1 l2 n at0 bl bf g1 g2 Bc : Nat} {tn : Int} {V : List Pr} {i c c' : Nat} {A B : World} (h : LiI w l1 l2 n at0 bl bf g1 g2 Bc tn V i c A) (ho : LiO w l1 l2 n at0 bl bf g1 g2 Bc) (hc : CurH w l1 B g1 V c') (hk : Keeps g1 A B) : LiI w l1 l2 n at0 bl bf g1 g2 Bc tn V i c' B := by
  obtain ⟨h1, h2, ⟨j, h3⟩, h4, h5, h6, h7, vl, S, h8, h9, h10⟩ := h
  obtain ⟨p1, p2, p3, p4, p5, p6, p7, p8, p9⟩ := ho
  exact ⟨Nat.le_trans h1 hk.size, hc, ⟨j, h3.hole hk (by omega) (.inl p5)⟩, boxed_keeps h4 hk (by omega), boxed_keeps h5 hk (by omega), cell_keeps h6 hk (by omega), hk.on h7 (by omega) h7.size, vl, S, boxed_keeps h8 hk (by omega), h9.keeps hk (by omega), h10⟩
/-- Behind a look at a path. -/
theorem LiI.look {w : World} {l1 l2 n at0 bl bf g1 g2 Bc : Nat} {tn : Int} {V : List Pr} {i c : Nat} {A B : World} (h : LiI w l1 l2 n at0 bl bf g1 g2 Bc tn V i c A) (ho : LiO w l1 l2 n at0 bl bf g1 g2 Bc) (hc : ∃ j, CurH w l2 B g2 V j) (hk : Keeps g2 A B) : LiI w l1 l2 n at0 bl bf g1 g2 Bc tn V i c B := by
  obtain ⟨h1, h2, _, h4, h5, h6, h7, vl, S, h8, h9, h10⟩ := h
  obtain ⟨p1, p2, p3, p4, p5, p6, p7, p8, p9⟩ := ho
  exact ⟨Nat.le_trans h1 hk.size, h2.other hk (by omega) (by omega), hc, boxed_keeps h4 hk (by omega), boxed_keeps h5 hk (by omega), cell_keeps h6 hk (by omega), hk.on h7 (by omega) h7.size, vl, S, boxed_keeps h8 hk (by omega), h9.keeps hk (by omega), h10⟩
theorem take_map {ps : List (List UInt8)} {i : Nat} (h : i < ps.length) (f : List UInt8 → Option En) : (ps.take (i + 1)).filterMap f = (ps.take i).filterMap f ++ (f ps[i]).toList := by
  have e : ps.take (i + 1) = ps.take i ++ [ps[i]] := by rw [List.take_append_getElem]
  rw [e, List.filterMap_append]
  cases hf : f ps[i] <;> simp [hf]
set_option maxHeartbeats 8000000 in
theorem list_calls {tv : Value} {U : List Pr} {w : World} (h : Sto w tv U) (hs : isSt U = true) (d : List UInt8) (n : Int) (hl : d.length ≤ 1000000) :
    Calls Tryz.prog 23 #[tv, .string ⟨d.toArray⟩, .int .i64 n] w fun e w' => ∃ v S, e = .returned (.tuple #[v, .int .i64 (refE d n)]) ∧ OwnE w' w.heap.size v S ∧ ens S = (if refE d n = 0 then listL U d n else []) ∧ Below w.heap.size w w' := by
  have hmf : ∀ (fn : Fn) (first cap : Array Value) (w : World), (Instr.makeFunc fn first cap).run Tryz.prog w = .ok (.func fn first cap) w := fun _ _ _ _ => rfl
  obtain ⟨tp, rfl⟩ := h.val
  have hB0 := below_alloc w (.cells #[.int .i64 n] 3)
  have HE := Lib.hid (Boxed.new w 3 (.int .i64 n))
  have KR := Lib.hid (fun W (hB : Below w.heap.size w W) => refusal_calls (h.below hB) hs d n hl)
  obtain ⟨E, hE⟩ : ∃ E, refE d n = E := ⟨_, rfl⟩
  rw [hE] at KR ⊢
  by_cases h0 : E = 0
  · subst h0
    obtain ⟨hip, hn0⟩ := ref_zero.1 hE
    have hlp : d.length ≤ 1000 := by
      have := under_len ((under_root d).trans hip)
      omega
    have hli := list_under h.rises d n
    rw [if_pos rfl, hli]
    have hVv : ∀ x ∈ underL U d, verB x = true ∧ x.2.length ≤ 4611686018427387904 := fun x hx => ⟨List.all_eq_true.1 hs x (List.mem_filter.1 hx).1, h.2.2.2.2.1 x (List.mem_filter.1 hx).1⟩
    have hpt : ∀ p ∈ pathsL (underL U d), isP p = true := fun p hp => by
      obtain ⟨x, hx, rfl⟩ := (mem_paths _ _).1 hp
      have := (hVv x hx).1
      rw [ver_iff] at this
      have h1 := this.1
      unfold keyB at h1
      simp at h1
      exact h1.2
    have KN := Lib.hid (fun W (hB : Below w.heap.size w W) => hNew_calls _ U d w W h.1 hB h.2.2.2.2.2 h.2.1 h.2.2.1 h.2.2.2.1 hlp hip)
    obtain ⟨V, hV⟩ : ∃ V, underL U d = V := ⟨_, rfl⟩
    rw [hV] at KN hVv hpt ⊢
    have KF := Lib.hid (fun (W : World) (lo g i : Nat) (hc : CurH w lo W g V i) p (hp : p ∈ pathsL V) => file_calls hc hVv h.2.2.2.2.2 p n (hpt p hp) hn0)
    have hVr : Rises V := hV ▸ underL_rises h.rises d
    have hVt : TimesK V := hV ▸ h.2.1.sub fun x hx => (List.mem_filter.1 hx).1
    have HV := Lib.hid (And.intro hVr hVt)
    have HB0 := Lib.hid hB0
    clear h hs hB0 hE hip hn0 hlp hli hVv hpt hV hVr hVt
    refine calls_of_wpE (n := 6) Tryz.func23 rfl ?_
    simp only [Tryz.ntmps23, List.size_toArray, List.length_cons, List.length_nil, Nat.reduceAdd, Nat.reduceSub, Array.replicate_succ, Array.replicate_zero, List.push_toArray, List.append_toArray, List.nil_append, List.cons_append]
    refine wpE_seq (wpE_of ?_)
    go_wp2_with fail
    refine wpE_seq (wpE_of ?_)
    obtain ⟨c0, f0⟩ := And.intro HE.out.cell HE.out.frozen
    go_wp2_with fail
    refine (KR.out _ HB0.out).mono ?_
    rintro e w1 ⟨rfl, hB1⟩
    have HB1 := Lib.hid (below2 HB0.out hB1)
    have HE1 := Lib.hid (boxed_stays HE.out hB1)
    clear hB1 c0 f0
    go_wp2_with fail
    refine wpE_seq (wpE_of ?_)
    go_wp2_with fail
    refine wpE_seq (wpE_of ?_)
    have hBl := below_alloc w1 (.cells #[.slice none 0 0] 59)
    have HL := Lib.hid (Boxed.new w1 59 (.slice none 0 0))
    have HB2 := Lib.hid (below2 HB1.out hBl)
    have HE2 := Lib.hid (boxed_stays HE1.out hBl)
    clear hBl
    go_wp2_with fail
    refine (KN.out _ HB2.out).mono ?_
    rintro e w2 ⟨g1, rfl, hc1, hB⟩
    have HB3 := Lib.hid (And.intro hB (below2 HB2.out hB))
    have HC1 := Lib.hid hc1
    clear hB hc1
    go_wp2_with fail
    refine wpE_seq (wpE_of ?_)
    go_wp2_with fail
    refine (KN.out _ HB3.out.2).mono ?_
    rintro e w3 ⟨g2, rfl, hc2, hB⟩
    have HB4 := Lib.hid (And.intro hB (below2 HB3.out.2 hB))
    have HC2 := Lib.hid hc2
    clear hB hc2
    go_wp2_with fail
    refine wpE_seq (wpE_seq (wpE_of ?_))
    go_wp2_with fail
    refine (toldS_calls _ _ _ _).mono ?_
    rintro e w4 ⟨rfl, hw4⟩
    have HW4 := Lib.hid hw4
    clear hw4
    go_wp2_with fail
    refine wpE_block ?_
    obtain ⟨k0, hk0⟩ : ∃ n, n = w4.heap.size := ⟨_, rfl⟩
    obtain ⟨bl, hbl⟩ : ∃ n, n = w1.heap.size := ⟨_, rfl⟩
    obtain ⟨bf, hbf⟩ : ∃ n, n = w3.heap.size := ⟨_, rfl⟩
    obtain ⟨Bc, hBc⟩ : ∃ n, n = w3.heap.size + 1 := ⟨_, rfl⟩
    have hg1 := HC1.out.cells.choose_spec.2.2.2.2
    have hg2 := HC2.out.cells.choose_spec.2.2.2.2
    have hlo1 := HC1.out.lo_le
    have hlo2 := HC2.out.lo_le
    have hVl := HC1.out.facts.2.2.1
    rw [World.size_alloc] at hlo1
    have hs1 := HB1.out.size
    have hs4 : w4.heap.size = w3.heap.size + 2 := by rw [HW4.out]; simp
    have hB34 : Below w3.heap.size w3 w4 := by rw [HW4.out]; exact below_alloc2 w3 _ _
    have hsE := HE1.out.lt
    have hlt2 := HC1.out.cells.choose_spec.2.2.2.2
    have ho : LiO w (w1.heap.size + 1) w2.heap.size k0 w.heap.size bl bf g1 g2 Bc := ⟨Nat.le_refl _, by omega, by omega, by omega, by omega, by omega, by omega, by omega, by omega⟩
    have hI0 : LiI w (w1.heap.size + 1) w2.heap.size k0 w.heap.size bl bf g1 g2 Bc n V 0 0 w4 := by
      have hc1 := HC1.out
      rw [World.size_alloc] at hc1
      have q1 := boxed_stays (boxed_stays HE2.out HB3.out.1) HB4.out.1
      have q2 := boxed_stays (boxed_stays HL.out HB3.out.1) HB4.out.1
      have q3 : Boxed w4 w3.heap.size 83 (.pointer (some ⟨g2, 0, none⟩)) := by
        rw [HW4.out]
        exact (Boxed.new w3 _ _).alloc _
      have q4 : Boxed w4 (w3.heap.size + 1) 98 (.func (.func 47) #[.pointer (some ⟨g1, 0, none⟩)] #[]) := by
        rw [HW4.out]
        have := Boxed.new (w3.alloc (.cells #[.pointer (some ⟨g2, 0, none⟩)] 83)) 98 (.func (.func 47) #[.pointer (some ⟨g1, 0, none⟩)] #[])
        rwa [World.size_alloc] at this
      rw [← hbf] at q3
      rw [← hBc] at q4
      rw [← hbl] at q2
      exact ⟨Nat.le_of_eq hk0, (hc1.below HB4.out.1).below hB34, ⟨_, HC2.out.below hB34⟩, boxed_stays q1 hB34, q3, q4.cell, below2 HB4.out.2 hB34, _, [], boxed_stays q2 hB34, OwnE.nil _ _, rfl⟩
    obtain ⟨l1, hl1⟩ : ∃ n, n = w1.heap.size + 1 := ⟨_, rfl⟩
    obtain ⟨l2, hl2⟩ : ∃ n, n = w2.heap.size := ⟨_, rfl⟩
    rw [← hl1, ← hl2] at ho hI0
    rw [← hBc, ← hbl, ← hbf]
    have HO := Lib.hid ho
    have HN := Lib.hid hk0
    obtain ⟨p1, p2, p3, p4, p5, p6, p7, p8, p9⟩ := ho
    clear hk0 hbl hbf hBc hg1 hg2 hlo1 hlo2 hs1 hs4 hB34 hsE hlt2 hl1 hl2
    refine wpE_told (fl := False) (N := (pathsL V).length) (encs := fun i => #[.string ⟨(hereP V (skipN V i)).1.1.toArray⟩]) (res := fun i => .tuple #[.string ⟨(hereP V (skipN V i)).1.1.toArray⟩, .bool (decide (i < (pathsL V).length))]) (Box := fun W => W.cell? ⟨Bc, 0, none⟩ = some (.func (.func 47) #[.pointer (some ⟨g1, 0, none⟩)] #[])) rfl (enters_of Tryz.func77 (by kernel_rfl) rfl)
      (toldS g1 Bc (fun i => (hereP V (skipN V i)).1.1) (pathsL V).length) (fun _ => rfl) (fun i _ A => LiI w l1 l2 k0 w.heap.size bl bf g1 g2 Bc n V i (skipN V i) A) (fun i _ A => LiI w l1 l2 k0 w.heap.size bl bf g1 g2 Bc n V i (skipN V (i + 1)) A) (fun _ A => LiI w l1 l2 k0 w.heap.size bl bf g1 g2 Bc n V (pathsL V).length (skipN V ((pathsL V).length + 1)) A) (fun _ _ => False) (fun _ _ => False)
      (fun i _ a' A => LiI w l1 l2 k0 w.heap.size bl bf g1 g2 Bc n V i (skipN V (i + 1)) A ∧ a' = { tmps := #[.pointer tp, .string ⟨d.toArray⟩, .int .i64 n, undef, undef, .pointer (some ⟨w.heap.size, 0, none⟩), .slice none 0 0, .int .i64 0, .int .i64 0, .pointer (some ⟨bl, 0, none⟩), .pointer (some ⟨g1, 0, none⟩), .int .i64 0, .pointer (some ⟨bf, 0, none⟩), .int .i64 0, .string ⟨(hereP V (skipN V i)).1.1.toArray⟩, undef, undef, .pointer tp, .string ⟨d.toArray⟩, .int .i64 n, .int .i64 0, .int .i64 0, .bool false, undef, .tuple #[.pointer (some ⟨g1, 0, none⟩), .int .i64 0], .pointer tp, .string ⟨d.toArray⟩, .tuple #[.pointer (some ⟨g1, 0, none⟩), .int .i64 0], .pointer (some ⟨g1, 0, none⟩), .int .i64 0, .tuple #[.pointer (some ⟨g2, 0, none⟩), .int .i64 0], .pointer tp, .string ⟨d.toArray⟩, .tuple #[.pointer (some ⟨g2, 0, none⟩), .int .i64 0], .pointer (some ⟨g2, 0, none⟩), .int .i64 0, .pointer (some ⟨g1, 0, none⟩), .func (.func 47) #[.pointer (some ⟨g1, 0, none⟩)] #[], .func (.func 77) #[] #[.pointer (some ⟨Bc, 0, none⟩)], .string ⟨(hereP V (skipN V i)).1.1.toArray⟩, undef, undef, undef, undef, undef, undef, undef, undef, undef, undef, undef, undef, undef, undef, undef, undef], defers := [] }) g1 ?_ ?_ ?_ ?_ ?_ ?_ ?_ ?_ ?_ ?_ ?_ ?_ ?_ ?_ ?_
    · rw [← HN.out]
      omega
    · intro i
      rw [← HN.out]
      exact ⟨fun b k A B h hk hK => h.keeps hK (by rcases hk with ⟨h, _⟩ | h | h; exact h.elim; omega; omega) (by rcases hk with ⟨h, _⟩ | h | h; exact h.elim; omega; omega) (by omega) (by omega) (by omega) (by omega) (by omega) (by omega) (by omega), fun b A B b' h hb _ => h.below hb⟩
    · intro i
      rw [← HN.out]
      exact ⟨fun b k A B h hk hK => h.keeps hK (by rcases hk with ⟨h, _⟩ | h | h; exact h.elim; omega; omega) (by rcases hk with ⟨h, _⟩ | h | h; exact h.elim; omega; omega) (by omega) (by omega) (by omega) (by omega) (by omega) (by omega) (by omega), fun b A B b' h hb _ => h.below hb⟩
    · rw [← HN.out]
      exact ⟨fun b k A B h hk hK => h.keeps hK (by rcases hk with ⟨h, _⟩ | h | h; exact h.elim; omega; omega) (by rcases hk with ⟨h, _⟩ | h | h; exact h.elim; omega; omega) (by omega) (by omega) (by omega) (by omega) (by omega) (by omega) (by omega), fun b A B b' h hb _ => h.below hb⟩
    · exact fun _ _ _ h => h.elim
    · rintro i b a' A B ⟨h1, h2⟩ hk
      rw [← HN.out] at hk
      exact ⟨h1.keeps hk (by omega) (by omega) (by omega) (by omega) (by omega) (by omega) (by omega) (by omega) (by omega), h2⟩
    · exact fun i b A h => h.2.2.2.2.2.1
    · exact hI0
    · intro i b A hi h
      have hlt := skip_lt HV.out.1 HV.out.2 i
      refine (hSkip_calls h.2.1).mono ?_
      rintro e B ⟨rfl, hc, hk⟩
      rw [hlt]
      exact ⟨rfl, h.step HO.out hc hk, hk⟩
    · intro b A h
      have hlt := skip_lt HV.out.1 HV.out.2 (pathsL V).length
      refine (hSkip_calls h.2.1).mono ?_
      rintro e B ⟨rfl, hc, hk⟩
      rw [hlt]
      exact ⟨rfl, h.step HO.out hc hk, hk⟩
    · intro l i b A K hl hlA hi hI hK
      have HK := Lib.hid hK
      have HI := Lib.hid hI
      clear hI hK
      gi_wp2_with fail
      exact HK.out _ _ (Below.refl _ _) ⟨HI.out, rfl⟩
    · rintro l i b a' A hl hlA ⟨hb, _⟩ hi ⟨hI, rfl⟩
      rw [← HN.out] at hl hb ⊢
      have hq := skip_at HV.out.1 HV.out.2 hi
      have hqm : (hereP V (skipN V i)).1.1 ∈ pathsL V := by rw [hq]; exact List.getElem_mem hi
      have htm := take_map hi (fun p => told (asOf V p n))
      rw [← hq] at htm
      obtain ⟨q, hqe⟩ : ∃ q, (hereP V (skipN V i)).1.1 = q := ⟨_, rfl⟩
      rw [hqe] at hqm htm ⊢
      have HI := Lib.hid hI
      obtain ⟨_, _, ⟨j, hc2⟩, y4, y5, _⟩ := hI
      have K := Lib.hid (KF.out A _ _ _ hc2 q hqm)
      obtain ⟨o, ho⟩ : ∃ o, told (asOf V q n) = o := ⟨_, rfl⟩
      rw [ho] at K htm
      have c4 := y4.cell
      have c5 := y5.cell
      have hfw : ∀ f, Fence.wide.fn f := fun _ => trivial
      have h14 : 1 ≤ 4 := by omega
      have HT := Lib.hid htm
      clear hq hqm htm hqe hc2 y4 y5 ho
      gi_wp2_with fail
      refine (CallsIn.inRound _ (callsIn_wide.2 K.out)).mono ?_
      rintro e B ⟨v, rfl, hOw, hcB, hkB⟩
      obtain ⟨aM, cM, rfl⟩ := (ints_own hOw).form
      have HIB := Lib.hid (HI.out.look HO.out hcB hkB)
      have HSB := Lib.hid (Same3.of_keeps (fl := False) (n := k0) (b := b) hkB (by omega) (by omega) (by omega))
      have hAB := hkB.size
      clear hcB hkB c4 c5
      cases o with
      | none =>
        dsimp only [enD, Option.getD, Option.isSome] at hOw ⊢
        clear hOw
        gi_wp2_with fail
        have hBa := below_alloc B (.cells #[.string ⟨#[]⟩, .int .i64 0, .int .i64 0, .int .i64 0, .slice aM 0 cM] 50)
        refine ⟨HSB.out.trans (Same3.of_below hBa), ?_⟩
        obtain ⟨h1, h2, h3, h4, h5, h6, h7, vl, S, h8, h9, h10⟩ := HIB.out.below hBa
        refine ⟨h1, h2, h3, h4, h5, h6, h7, vl, S, h8, h9, ?_⟩
        rw [h10, HT.out]
        simp
      | some x =>
        obtain ⟨p, tm, z1, z2, z3⟩ := x
        dsimp only [enD, Option.getD, Option.isSome] at hOw ⊢
        obtain ⟨nM, hnM⟩ : ∃ k, z3.length = k := ⟨_, rfl⟩
        rw [hnM] at hOw ⊢
        have hBa := below_alloc B (.cells #[.string ⟨p.toArray⟩, .int .i64 tm, .int .i64 z1, .int .i64 z2, .slice aM nM cM] 50)
        obtain ⟨h1, h2, h3, h4, h5, h6, h7, vl, S, h8, h9, h10⟩ := HIB.out.below hBa
        obtain ⟨⟨x0, x1, x2, x3, x4⟩, _, _⟩ := (Cx.new B 50 [.string ⟨p.toArray⟩, .int .i64 tm, .int .i64 z1, .int .i64 z2, .slice aM nM cM]).five2
        have cl := h8.cell
        have HOw := Lib.hid (own_weak (b := k0 + 2) (own_stays hOw hBa) (by omega))
        have hSl : S.length ≤ 100000 := by
          have e1 : S.length = (ens S).length := by simp
          rw [e1, h10]
          refine Nat.le_trans (List.length_filterMap_le _ _) ?_
          rw [List.length_take]
          have e2 := paths_len_le V
          omega
        have HH := Lib.hid (And.intro h1 (And.intro h2 (And.intro h3 (And.intro h4 (And.intro h5 (And.intro h6 (And.intro h7 (And.intro h8 (And.intro h9 h10)))))))))
        have HN2 := Lib.hid hnM
        have HBa := Lib.hid hBa
        have hsB : k0 + 2 ≤ (B.alloc (.cells #[.string ⟨p.toArray⟩, .int .i64 tm, .int .i64 z1, .int .i64 z2, .slice aM nM cM] 50)).heap.size := by
          rw [World.size_alloc]
          omega
        have hk1 : (B.alloc (.cells #[.string ⟨p.toArray⟩, .int .i64 tm, .int .i64 z1, .int .i64 z2, .slice aM nM cM] 50)).heap.size = B.heap.size + 1 := by simp
        have HK1 := Lib.hid hk1
        have HsB := Lib.hid hsB
        clear h1 h2 h3 h4 h5 h6 h7 h8 h9 h10 hOw hBa hnM hk1 hsB
        gi_wp2_with (gi_at_builtin; refine appIn_ent rfl _ _ rfl (k0 + 2) vl S rfl HH.out.2.2.2.2.2.2.2.2.1 p tm z1 z2 _ z3 HOw.out (B.heap.size + 1) HK1.out rfl hSl HsB.out ?_; intro v' w' hv' hbw hke; obtain ⟨av, cv, rfl⟩ := hv'.form; have hlow := hbw _ (Below.refl _ _); have hbx : Boxed w' bl 59 vl := (hlow.block bl (by omega)).trans HH.out.2.2.2.2.2.2.2.1; have cl2 := hbx.cell; have fl2 := hbx.frozen; obtain ⟨nS, hnS⟩ : ∃ k, (S ++ [((p, tm, z1, z2, z3), Value.slice aM nM cM)]).length = k := ⟨_, rfl⟩; rw [hnS] at hv' ⊢; have HV2 := Lib.hid (And.intro hv' (And.intro hlow (And.intro hbx hnS))); clear hv' hbw hke hlow hbx hnS)
        obtain ⟨h1, h2, h3, h4, h5, h6, h7, h8, h9, h10⟩ := HH.out
        obtain ⟨r1, r2, r3, r4⟩ := HV2.out
        have hk2 : Keeps bl w' (w'.setCell ⟨bl, 0, none⟩ (.slice av nS cv)) := (Keeps.refl _ _).set 0 _
        have hz := r2.size
        have hz2 := HBa.out.size
        have hlt1 := h2.cells.choose_spec.2.2.2.2
        refine ⟨(HSB.out.trans (Same3.of_below HBa.out)).trans (Same3.trans ⟨hz, fun k hk hl => ?_⟩ (Same3.of_keeps hk2 (by omega) (by omega) (by omega))), ?_⟩
        · rcases hk with rfl | rfl | ⟨hf, _⟩
          · exact r2.block _ (by omega)
          · exact r2.block _ (by omega)
          · exact hf.elim
        · refine ⟨Nat.le_trans h1 (Nat.le_trans hz hk2.size), (h2.lows r2 (by omega)).hole hk2 (by omega) (.inl (by omega)), ?_, ?_, ?_, ?_, ?_, _, S ++ [((p, tm, z1, z2, z3), .slice aM nM cM)], r3.set _, ?_, ?_⟩
          · obtain ⟨j2, h3⟩ := h3
            exact ⟨j2, (h3.lows r2 (by omega)).hole hk2 (by omega) (.inl (by omega))⟩
          · exact boxed_keeps ((r2.block _ (by omega)).trans h4) hk2 (by omega)
          · exact boxed_keeps ((r2.block _ (by omega)).trans h5) hk2 (by omega)
          · refine cell_keeps ?_ hk2 (by omega)
            exact (r2.cell (p := ⟨Bc, 0, none⟩) (by show Bc < _; omega)).trans h6
          · exact hk2.on (h7.trans (r2.mono (by omega))) (by omega) (Nat.le_trans h7.size hz)
          · exact OwnE.keeps r1 hk2 (by omega)
          · rw [HT.out, ← h10]
            simp
    · intro D b A hD hI hK
      rw [← HN.out] at hD
      obtain ⟨h1, h2, h3, h4, h5, h6, h7, vl, S, h8, h9, h10⟩ := hI
      rw [List.take_of_length_le (Nat.le_refl _)] at h10
      have cl := h8.cell
      obtain ⟨av, cv, rfl⟩ := h9.form
      obtain ⟨nS, hnS⟩ : ∃ k, S.length = k := ⟨_, rfl⟩
      rw [hnS] at cl h8
      have HH := Lib.hid (And.intro h7 (And.intro h9 (And.intro h10 hK)))
      have HNS := Lib.hid hnS
      have HD := Lib.hid hD
      clear h1 h2 h3 h4 h5 h6 h7 h8 h9 h10 hK hnS
      change WpE _ _ _ _ _
      refine wpE_of ?_
      go_wp2_with fail
      obtain ⟨h7, h9, h10, hK⟩ := HH.out
      rw [← HNS.out]
      obtain rfl := HD.out
      have hkp : Keeps D A (A.putObj D (.deferred none)) := keeps_put _
      refine leavesM_mark (by simp) hK ?_
      refine ⟨_, results_tmp2 rfl _ _ _, _, S, rfl, ?_, h10, hkp.on h7 (by omega) h7.size⟩
      exact (h9.keeps hkp (by omega)).weak (by omega)
    · exact fun _ _ _ _ h _ => h.elim
    · exact fun _ _ _ _ h _ => h.elim
  · have hEb : (E != 0) = true := by simpa using h0
    have HB0 := Lib.hid hB0
    obtain ⟨c0, f0⟩ := And.intro HE.out.cell HE.out.frozen
    rw [if_neg h0]
    clear h hs hB0 hE h0
    go_enter Tryz.func23, Tryz.ntmps23
    go_wp2_with fail
    refine (KR.out _ HB0.out).mono ?_
    rintro e w1 ⟨rfl, hB1⟩
    go_wp2_with fail
    go_ret2
    exact ⟨_, [], rfl, OwnE.nil _ _, rfl, below2 HB0.out hB1⟩

end Go.Proofs.YtogicnciheedoaaGreatDoor

/-
  store.List of any tree.
-/
namespace Go.Proofs.YtogicnciheedoaaGreatDoor
set_option maxRecDepth 100000
open Go.RowKit

set_option maxHeartbeats 4000000 in
theorem list_no {tv : Value} {U : List Pr} {w : World} (h : Sto w tv U) (hs : isSt U = false) (d : List UInt8) (n : Int) :
    Calls Tryz.prog 23 #[tv, .string ⟨d.toArray⟩, .int .i64 n] w fun e w' => e = .returned (.tuple #[.slice none 0 0, .int .i64 1]) ∧ Below w.heap.size w w' := by
  obtain ⟨tp, rfl⟩ := h.val
  have HB0 := Lib.hid (below_alloc w (.cells #[.int .i64 n] 3))
  have HE := Lib.hid (Boxed.new w 3 (.int .i64 n))
  have KR := Lib.hid (fun W (hB : Below w.heap.size w W) => refusal_no (h.below hB) hs d n)
  obtain ⟨c0, f0⟩ := And.intro HE.out.cell HE.out.frozen
  clear h hs
  go_enter Tryz.func23, Tryz.ntmps23
  go_wp2_with fail
  refine (KR.out _ HB0.out).mono ?_
  rintro e w1 ⟨rfl, hB1⟩
  go_wp2_with fail
  go_ret2
  exact ⟨rfl, below2 HB0.out hB1⟩

theorem listX_calls {tv : Value} {U : List Pr} {w : World} (h : Sto w tv U) (d : List UInt8) (n : Int) (hl : d.length ≤ 1000000) :
    Calls Tryz.prog 23 #[tv, .string ⟨d.toArray⟩, .int .i64 n] w fun e w' => ∃ v S, e = .returned (.tuple #[v, .int .i64 (refX U d n)]) ∧ OwnE w' w.heap.size v S ∧ ens S = listX U d n ∧ Below w.heap.size w w' := by
  unfold listX refX
  cases hs : isSt U with
  | false => exact (list_no h hs d n).mono fun e w' he => ⟨_, [], he.1, OwnE.nil _ _, rfl, he.2⟩
  | true => exact list_calls h hs d n hl

end Go.Proofs.YtogicnciheedoaaGreatDoor

/-
  What is told of any pairs is short. No program is named here but by what it tells.
-/
namespace Go.Proofs.YtogicnciheedoaaGreatDoor
set_option maxRecDepth 100000

theorem listX_facts {U : List Pr} (hr : Rises U) (d : List UInt8) (n : Int) : (listX U d n).length ≤ U.length ∧ ∀ e ∈ listX U d n, e.2.2.2.2.length ≤ 1000000 := by
  unfold listX
  split
  · refine ⟨listL_len U d n, fun e he => ?_⟩
    have := toldX_chunks ((mem_list hr).1 he).2
    omega
  · exact ⟨by simp, fun e he => by cases he⟩

end Go.Proofs.YtogicnciheedoaaGreatDoor

/-
  The document's own Is and Last, of pairs.
-/
namespace Go.Proofs.YtogicnciheedoaaGreatDoor
set_option maxRecDepth 100000
open Go.RowKit

/-- The first k pairs are versions. -/
def stTo (l : List Pr) (k : Nat) : Prop := isSt (l.take k) = true
theorem stTo_succ {l : List Pr} {k : Nat} (h : stTo l k) (hk : k < l.length) (hv : verB l[k] = true) : stTo l (k + 1) := by
  unfold stTo isSt at h ⊢
  rw [List.take_succ_eq_append_getElem hk, List.all_append, h]
  simp [hv]
theorem stTo_all {l : List Pr} (h : stTo l l.length) : isSt l = true := by
  unfold stTo at h
  rwa [List.take_length] at h
theorem st_not {l : List Pr} {k : Nat} (hk : k < l.length) (hv : verB l[k] = false) : isSt l = false := by
  rw [isSt, List.all_eq_false]
  exact ⟨_, List.getElem_mem hk, by simp [hv]⟩

set_option maxHeartbeats 8000000 in
theorem refSt_calls (v : Value) (l : List Pr) (w : World) (h : Prs w v l) (hn : l.length ≤ 1000) (hs : ∀ x ∈ l, x.1.1.length ≤ 1000000 ∧ x.2.length ≤ 1000) :
    Calls Tryz.prog 52 #[v] w fun e w' => e = .returned (.bool (isSt l)) ∧ Below w.heap.size w w' := by
  obtain ⟨ao, cap, rfl⟩ := h.form
  have HH := Lib.hid h
  have HS := Lib.hid hs
  have HN := Lib.hid hn
  clear h hs hn
  go_enter Tryz.func52, Tryz.ntmps52
  go_wp2_with fail
  go_loopw [3] (fun i wr => ∃ k : Nat, i = .int .i64 k ∧ k ≤ l.length ∧ l.length ≤ 1000 ∧ Hid (stTo l k) ∧ Hid (Below w.heap.size w wr)) (fun i _ => l.length - (intOf i).toNat)
  case atStart => exact ⟨0, rfl, Nat.zero_le _, HN.out, Lib.hid (by simp [stTo, isSt]), Lib.hid (Below.refl _ _)⟩
  case round =>
    obtain ⟨k, rfl, hk, hn, hf, hB⟩ := hrel
    by_cases hlt : k < l.length
    · have hd : decide ((k : Int) < (l.length : Int)) = true := by rw [decide_eq_true_eq]; omega
      obtain ⟨b, off, rfl, c0, c1, c2⟩ := (HH.out.below hB.out).at hlt
      have hgo := stTo_succ hf.out hlt
      have hno := fun h => st_not hlt h
      obtain ⟨hl1, hl2⟩ := HS.out _ (List.getElem_mem hlt)
      obtain ⟨⟨⟨p, n⟩, s⟩, hx⟩ : ∃ x, l[k] = x := ⟨_, rfl⟩
      rw [hx] at c0 c1 c2 hgo hno hl1 hl2
      dsimp only at c0 c1 c2 hl1 hl2
      have KR := Lib.hid (fun W => rRead_calls s hl2 W)
      have KI := Lib.hid (fun W => kRefIs_calls p n hl1 W)
      have hv : verB ((p, n), s) = (keyB (p, n) && ((p != []) && decide (redE s = 0))) := rfl
      rw [hv] at hgo hno
      generalize (redM s).1 = z at *
      generalize (redM s).2.1 = d at *
      generalize (redM s).2.2 = cs at *
      generalize redG s = g at *
      obtain ⟨E, hE⟩ : ∃ E, redE s = E := ⟨_, rfl⟩
      rw [hE] at KR hgo hno
      obtain ⟨kb, hkb⟩ : ∃ b, keyB (p, n) = b := ⟨_, rfl⟩
      rw [hkb] at KI hgo hno
      clear hv hE hkb hx hl1 hl2
      have HC := Lib.hid (fun W (hW : Below wr.heap.size wr W) => (⟨look_below hW c0, look_below hW c1⟩ : W.cell? ⟨b, off + k * 3, none⟩ = some (.string ⟨p.toArray⟩) ∧ W.cell? ⟨b, off + k * 3 + 1, none⟩ = some (.int .i64 n)))
      cases kb with
      | false =>
        have HR := Lib.hid (hno rfl)
        clear hgo hno
        go_wp2_with fail
        refine (KR.out _).mono ?_
        rintro e w1 ⟨u, rfl, hI, hB1⟩
        obtain ⟨am, cm, rfl⟩ := (ints_own hI).form
        have hbr := below2 hB1 (below_alloc w1 (.cells #[.int .i64 z, .int .i64 d, .slice am cs.length cm] 48))
        obtain ⟨e0, e1⟩ := HC.out _ hbr
        have HB := Lib.hid (below2 hB.out hbr)
        clear hI hB1 hbr c0 c1 c2
        go_wp2_with fail
        refine (KI.out _).mono ?_
        rintro e w2 ⟨rfl, hB2⟩
        go_wp2_with fail
        go_ret
        exact ⟨by rw [HR.out]; rfl, below2 HB.out hB2⟩
      | true =>
        cases hp : (p == []) with
        | true =>
          have hp0 : p = [] := by simpa using hp
          subst hp0
          have HR := Lib.hid (hno (by simp))
          clear hgo hno
          go_wp2_with fail
          refine (KR.out _).mono ?_
          rintro e w1 ⟨u, rfl, hI, hB1⟩
          obtain ⟨am, cm, rfl⟩ := (ints_own hI).form
          have hbr := below2 hB1 (below_alloc w1 (.cells #[.int .i64 z, .int .i64 d, .slice am cs.length cm] 48))
          obtain ⟨e0, e1⟩ := HC.out _ hbr
          have HB := Lib.hid hbr
          clear hI hB1 hbr c0 c1 c2
          go_wp2_with fail
          refine (KI.out _).mono ?_
          rintro e w2 ⟨rfl, hB2⟩
          obtain ⟨f0, f1⟩ := HC.out _ (below2 HB.out hB2)
          clear e0 e1
          go_wp2_with fail
          go_ret
          exact ⟨by rw [HR.out]; rfl, below2 hB.out (below2 HB.out hB2)⟩
        | false =>
          have hp1 : (p != []) = true := by
            rw [bne_iff_ne]
            exact beq_eq_false_iff_ne.1 hp
          rw [hp1] at hgo hno
          clear hp1
          cases hE : (E != 0) with
          | true =>
            have HR := Lib.hid (hno (by simpa using hE))
            clear hgo hno
            go_wp2_with fail
            refine (KR.out _).mono ?_
            rintro e w1 ⟨u, rfl, hI, hB1⟩
            obtain ⟨am, cm, rfl⟩ := (ints_own hI).form
            have hbr := below2 hB1 (below_alloc w1 (.cells #[.int .i64 z, .int .i64 d, .slice am cs.length cm] 48))
            obtain ⟨e0, e1⟩ := HC.out _ hbr
            have HB := Lib.hid hbr
            clear hI hB1 hbr c0 c1 c2
            go_wp2_with fail
            refine (KI.out _).mono ?_
            rintro e w2 ⟨rfl, hB2⟩
            obtain ⟨f0, f1⟩ := HC.out _ (below2 HB.out hB2)
            clear e0 e1
            go_wp2_with fail
            go_ret
            exact ⟨by rw [HR.out]; rfl, below2 hB.out (below2 HB.out hB2)⟩
          | false =>
            have HR := Lib.hid (hgo (by simpa using hE))
            clear hgo hno
            go_wp2_with fail
            refine (KR.out _).mono ?_
            rintro e w1 ⟨u, rfl, hI, hB1⟩
            obtain ⟨am, cm, rfl⟩ := (ints_own hI).form
            have hbr := below2 hB1 (below_alloc w1 (.cells #[.int .i64 z, .int .i64 d, .slice am cs.length cm] 48))
            obtain ⟨e0, e1⟩ := HC.out _ hbr
            have HB := Lib.hid hbr
            clear hI hB1 hbr c0 c1 c2
            go_wp2_with fail
            refine (KI.out _).mono ?_
            rintro e w2 ⟨rfl, hB2⟩
            obtain ⟨f0, f1⟩ := HC.out _ (below2 HB.out hB2)
            clear e0 e1
            go_wp2_with fail
            go_roundw
            case rel => exact ⟨k + 1, by go_num, by omega, hn, HR, Lib.hid (below2 hB.out (below2 HB.out hB2))⟩
            case measure => simp [intOf]; omega
    · obtain rfl : k = l.length := by omega
      have hd : decide ((l.length : Int) < (l.length : Int)) = false := by simp
      have HR := Lib.hid (stTo_all hf.out)
      go_wp2_with fail
      go_ret
      exact ⟨by rw [HR.out]; rfl, hB.out⟩

/-! ### Last -/

end Go.Proofs.YtogicnciheedoaaGreatDoor

/-
  The document's own AsOf: the version that is the latest one not later, by going through all pairs.
-/
namespace Go.Proofs.YtogicnciheedoaaGreatDoor
set_option maxRecDepth 100000
open Go.RowKit

/-- Of the first k pairs none is of the path and not later; the pair at j is the latest such. -/
def NoneTo (l : List Pr) (p : List UInt8) (n : Int) (k : Nat) : Prop := ∀ (i : Nat) (hi : i < l.length), i < k → l[i].1.1 = p → ¬ l[i].1.2 ≤ n
def BestTo (l : List Pr) (p : List UInt8) (n : Int) (k j : Nat) : Prop := ∃ hj : j < l.length, l[j].1.1 = p ∧ l[j].1.2 ≤ n ∧ ∀ (i : Nat) (hi : i < l.length), i < k → l[i].1.1 = p → l[i].1.2 ≤ n → l[i].1.2 ≤ l[j].1.2
theorem noneTo_succ {l : List Pr} {p : List UInt8} {n : Int} {k : Nat} (h : NoneTo l p n k) (hk : k < l.length) (hno : l[k].1.1 = p → ¬ l[k].1.2 ≤ n) : NoneTo l p n (k + 1) := by
  intro i hi hik
  by_cases e : i = k
  · subst e; exact hno
  · exact h i hi (by omega)
theorem noneTo_best {l : List Pr} {p : List UInt8} {n : Int} {k : Nat} (h : NoneTo l p n k) (hk : k < l.length) (h1 : l[k].1.1 = p) (h2 : l[k].1.2 ≤ n) : BestTo l p n (k + 1) k := by
  refine ⟨hk, h1, h2, fun i hi hik hp hn => ?_⟩
  by_cases e : i = k
  · subst e; exact Int.le_refl _
  · exact absurd hn (h i hi (by omega) hp)
theorem bestTo_same {l : List Pr} {p : List UInt8} {n : Int} {k j : Nat} (h : BestTo l p n k j) (hk : k < l.length) (hj : j < l.length) (hno : l[k].1.1 = p → l[k].1.2 ≤ n → l[k].1.2 ≤ l[j].1.2) : BestTo l p n (k + 1) j := by
  obtain ⟨_, h1, h2, h3⟩ := h
  refine ⟨hj, h1, h2, fun i hi hik hp hn => ?_⟩
  by_cases e : i = k
  · subst e; exact hno hp hn
  · exact h3 i hi (by omega) hp hn
theorem bestTo_new {l : List Pr} {p : List UInt8} {n : Int} {k j : Nat} (h : BestTo l p n k j) (hk : k < l.length) (hj : j < l.length) (h1 : l[k].1.1 = p) (h2 : l[k].1.2 ≤ n) (h3 : l[j].1.2 < l[k].1.2) : BestTo l p n (k + 1) k := by
  obtain ⟨_, _, _, h6⟩ := h
  refine ⟨hk, h1, h2, fun i hi hik hp hn => ?_⟩
  by_cases e : i = k
  · subst e; exact Int.le_refl _
  · have := h6 i hi (by omega) hp hn
    omega
theorem noneTo_all {l : List Pr} {p : List UInt8} {n : Int} (h : NoneTo l p n l.length) : asOf l p n = none := by
  rw [asOf_none]
  intro x hx hp
  obtain ⟨i, hi, rfl⟩ := List.getElem_of_mem hx
  have := h i hi hi hp
  omega
theorem bestTo_all {l : List Pr} (hr : Rises l) {p : List UInt8} {n : Int} {j : Nat} (h : BestTo l p n l.length j) (hj : j < l.length) : asOf l p n = some l[j] := by
  obtain ⟨_, h1, h2, h3⟩ := h
  rw [asOf_iff hr]
  refine ⟨List.getElem_mem hj, h1, h2, fun y hy hp hn => ?_⟩
  obtain ⟨i, hi, rfl⟩ := List.getElem_of_mem hy
  exact h3 i hi hi hp hn
/-- What is told behind all pairs: none, or what the version at j tells. -/
def asPost (w : World) (o : Option En) (E : Int) (e : Ending) (w' : World) : Prop :=
  ∃ v, e = .returned (.tuple #[EV (enD o) v, .bool o.isSome, .int .i64 E]) ∧ OwnI w' w.heap.size v (enD o).2.2.2.2 ∧ Below w.heap.size w w'

set_option maxHeartbeats 16000000 in
theorem refAs_calls (v : Value) (l : List Pr) (p : List UInt8) (n : Int) (w : World) (h : Prs w v l) (hr : Rises l) (hn : l.length ≤ 1000) (hs : ∀ x ∈ l, x.1.1.length ≤ 1000000 ∧ x.2.length ≤ 1000) (hl : p.length ≤ 1000000) :
    Calls Tryz.prog 55 #[v, .string ⟨p.toArray⟩, .int .i64 n] w (asPost w (asX l p n) (refX l p n)) := by
  have KS := Lib.hid (fun W (hB : Below w.heap.size w W) => refSt_calls v l W (h.below hB) hn hs)
  have KP := Lib.hid (fun W => refPathIs_calls p hl W)
  obtain ⟨av, cv, rfl⟩ := h.form
  have hB0 := below_alloc w (.cells #[.string ⟨#[]⟩, .int .i64 0, .int .i64 0, .int .i64 0, .slice none 0 0] 50)
  have HE := Lib.hid (Cx.new w 50 [.string ⟨#[]⟩, .int .i64 0, .int .i64 0, .int .i64 0, .slice none 0 0])
  have HB0 := Lib.hid hB0
  have hrX : refX l p n = if isSt l then (if isP p then (if n < 0 then 1 else 0) else 20) else 1 := rfl
  have htold := fun h => asX_told (l := l) (p := p) (n := n) h
  have hno := fun h => asX_no (l := l) (p := p) (n := n) h
  obtain ⟨E, hE⟩ : ∃ E, refX l p n = E := ⟨_, rfl⟩
  rw [hE] at hrX htold hno ⊢
  cases hb : isSt l with
  | false =>
    rw [hb] at KS hrX
    obtain rfl : E = 1 := hrX
    rw [hno (by decide)]
    clear h hr hn hs hl htold hno hE hb hB0
    go_enter Tryz.func55, Tryz.ntmps55
    go_wp2_with fail
    refine (KS.out _ HB0.out).mono ?_
    rintro e w1 ⟨rfl, hB1⟩
    have HB1 := Lib.hid (below2 HB0.out hB1)
    have HE1 := Lib.hid (HE.out.below hB1)
    obtain ⟨⟨e0, e1, e2, e3, e4⟩, ⟨f0, f1, f2, f3, f4⟩, hlE⟩ := HE1.out.five2
    clear hB1
    go_wp2_with fail
    have hkk := keeps_sets5 w.heap.size w1 (.string ⟨#[]⟩) (.int .i64 0) (.int .i64 0) (.int .i64 0) (.slice none 0 0)
    exact ret_ent3 rfl rfl w.heap.size _ _ _ _ _ _ _ rfl rfl rfl (HE1.out.sets5 _ _ _ _ _) ⟨_, rfl, World.ownsRow_nil _ _ _ _, hkk.on HB1.out (Nat.le_refl _) HB1.out.size⟩
  | true =>
    rw [hb] at KS hrX
    rw [if_pos rfl] at hrX
    cases hp : isP p with
    | false =>
      rw [hp] at KP hrX
      obtain rfl : E = 20 := hrX
      rw [hno (by decide)]
      clear h hr hn hs hl htold hno hE hb hp hB0
      go_enter Tryz.func55, Tryz.ntmps55
      go_wp2_with fail
      refine (KS.out _ HB0.out).mono ?_
      rintro e w1 ⟨rfl, hB1⟩
      have HB1 := Lib.hid (below2 HB0.out hB1)
      have HE1 := Lib.hid (HE.out.below hB1)
      clear hB1
      go_wp2_with fail
      refine (KP.out _).mono ?_
      rintro e w2 ⟨rfl, hB2⟩
      have HB2 := Lib.hid (below2 HB1.out hB2)
      have HE2 := Lib.hid (HE1.out.below hB2)
      obtain ⟨⟨e0, e1, e2, e3, e4⟩, ⟨f0, f1, f2, f3, f4⟩, hlE⟩ := HE2.out.five2
      clear hB2
      go_wp2_with fail
      have hkk := keeps_sets5 w.heap.size w2 (.string ⟨#[]⟩) (.int .i64 0) (.int .i64 0) (.int .i64 0) (.slice none 0 0)
      exact ret_ent3 rfl rfl w.heap.size _ _ _ _ _ _ _ rfl rfl rfl (HE2.out.sets5 _ _ _ _ _) ⟨_, rfl, World.ownsRow_nil _ _ _ _, hkk.on HB2.out (Nat.le_refl _) HB2.out.size⟩
    | true =>
      rw [hp] at KP hrX
      rw [if_pos rfl] at hrX
      by_cases hneg : n < 0
      · rw [if_pos hneg] at hrX
        subst hrX
        rw [hno (by decide)]
        have hd : decide (n < 0) = true := decide_eq_true hneg
        clear h hr hn hs hl htold hno hE hb hp hB0 hneg
        go_enter Tryz.func55, Tryz.ntmps55
        go_wp2_with fail
        refine (KS.out _ HB0.out).mono ?_
        rintro e w1 ⟨rfl, hB1⟩
        have HB1 := Lib.hid (below2 HB0.out hB1)
        have HE1 := Lib.hid (HE.out.below hB1)
        clear hB1
        go_wp2_with fail
        refine (KP.out _).mono ?_
        rintro e w2 ⟨rfl, hB2⟩
        have HB2 := Lib.hid (below2 HB1.out hB2)
        have HE2 := Lib.hid (HE1.out.below hB2)
        obtain ⟨⟨e0, e1, e2, e3, e4⟩, ⟨f0, f1, f2, f3, f4⟩, hlE⟩ := HE2.out.five2
        clear hB2
        go_wp2_with fail
        have hkk := keeps_sets5 w.heap.size w2 (.string ⟨#[]⟩) (.int .i64 0) (.int .i64 0) (.int .i64 0) (.slice none 0 0)
        exact ret_ent3 rfl rfl w.heap.size _ _ _ _ _ _ _ rfl rfl rfl (HE2.out.sets5 _ _ _ _ _) ⟨_, rfl, World.ownsRow_nil _ _ _ _, hkk.on HB2.out (Nat.le_refl _) HB2.out.size⟩
      · rw [if_neg hneg] at hrX
        subst hrX
        have HO := Lib.hid (htold rfl)
        have hd : decide (n < 0) = false := decide_eq_false hneg
        have HH := Lib.hid (And.intro h (And.intro hr (And.intro hs hn)))
        clear h hr hn hs hl htold hno hE hb hp hB0 hneg
        go_enter Tryz.func55, Tryz.ntmps55
        go_wp2_with fail
        refine (KS.out _ HB0.out).mono ?_
        rintro e w1 ⟨rfl, hB1⟩
        have HB1 := Lib.hid (below2 HB0.out hB1)
        have HE1 := Lib.hid (HE.out.below hB1)
        clear hB1
        go_wp2_with fail
        refine (KP.out _).mono ?_
        rintro e w2 ⟨rfl, hB2⟩
        have HB2 := Lib.hid (below2 HB1.out hB2)
        have HE2 := Lib.hid (HE1.out.below hB2)
        clear hB2
        go_wp2_with fail
        go_loopw [9, 10] (fun b i wr => ∃ k : Nat, i = .int .i64 k ∧ k ≤ l.length ∧ l.length ≤ 1000 ∧ Hid (Below w2.heap.size w2 wr) ∧ ((b = .int .i64 (-1) ∧ Hid (NoneTo l p n k)) ∨ ∃ j : Nat, b = .int .i64 j ∧ j < l.length ∧ Hid (BestTo l p n k j))) (fun _ i _ => l.length - (intOf i).toNat)
        case atStart => exact ⟨0, rfl, Nat.zero_le _, HH.out.2.2.2, Lib.hid (Below.refl _ _), .inl ⟨rfl, Lib.hid (fun _ _ h => absurd h (Nat.not_lt_zero _))⟩⟩
        case round =>
          obtain ⟨k, rfl, hk, hn, hB, hor⟩ := hrel
          by_cases hlt : k < l.length
          · have hd1 : decide ((k : Int) < (l.length : Int)) = true := by rw [decide_eq_true_eq]; omega
            obtain ⟨bb, off, rfl, c0, c1, c2⟩ := (HH.out.1.below (below2 HB2.out hB.out)).at hlt
            have hbr : Below wr.heap.size wr wr.drew := drew_below _
            rcases hor with ⟨rfl, hf⟩ | ⟨j, rfl, hj, hf⟩
            · have hgn := noneTo_succ hf.out hlt
              have hgb := noneTo_best hf.out hlt
              obtain ⟨⟨⟨q, m⟩, s⟩, hx⟩ : ∃ x, l[k] = x := ⟨_, rfl⟩
              rw [hx] at c0 c1 c2 hgn hgb
              dsimp only at c0 c1 c2 hgn hgb
              have HC := Lib.hid (fun W (hW : Below wr.heap.size wr W) => (⟨look_below hW c0, look_below hW c1⟩ : W.cell? ⟨bb, off + k * 3, none⟩ = some (.string ⟨q.toArray⟩) ∧ W.cell? ⟨bb, off + k * 3 + 1, none⟩ = some (.int .i64 m)))
              by_cases hq : q = p
              · have e1 : (q == p) = true := by simpa using hq
                by_cases hm : m ≤ n
                · have e2 : decide (m ≤ n) = true := decide_eq_true hm
                  have HG := Lib.hid (hgb hq hm)
                  clear hgn hgb hq hm hx c2
                  go_wp2_with fail
                  refine wp_region_held_drew (S := (fun W => W.cell? ⟨bb, off + k * 3, none⟩ = some (.string ⟨q.toArray⟩) ∧ W.cell? ⟨bb, off + k * 3 + 1, none⟩ = some (.int .i64 m))) (by kernel_rfl) (HC.out _ hbr) (fun hHeld => ?_)
                  refine wpAnyH_take (i := 0) (oi := ⟨_, _, _, _, _, _⟩) (v := ?_) rfl (by kernel_rfl) (by kernel_rfl) (by kernel_rfl) (fun _ _ _ h => h) (Or.inl ⟨by rfl, ?_⟩) hHeld ?_
                  rotate_left
                  · (intro w hSw; (try dsimp only at hSw); go_simp; try with_reducible rfl)
                  try simp only [Act.put, List.setIfInBounds_toArray, List.set_cons_zero, List.set_cons_succ]
                  refine wpAnyH_take (i := 1) (oi := ⟨_, _, _, _, _, _⟩) (v := ?_) rfl (by kernel_rfl) (by kernel_rfl) (by kernel_rfl) (fun _ _ _ h => h) (Or.inl ⟨by rfl, ?_⟩) hHeld ?_
                  rotate_left
                  · (intro w hSw; (try dsimp only at hSw); go_simp; try with_reducible rfl)
                  try simp only [Act.put, List.setIfInBounds_toArray, List.set_cons_zero, List.set_cons_succ]
                  refine wpAnyH_take (i := 2) (oi := ⟨_, _, _, _, _, _⟩) (v := ?_) rfl (by kernel_rfl) (by kernel_rfl) (by kernel_rfl) (fun _ _ _ h => h) (Or.inl ⟨by rfl, ?_⟩) hHeld ?_
                  rotate_left
                  · (intro w hSw; (try dsimp only at hSw); go_simp; try with_reducible rfl)
                  try simp only [Act.put, List.setIfInBounds_toArray, List.set_cons_zero, List.set_cons_succ]
                  refine wpAnyH_take (i := 3) (oi := ⟨_, _, _, _, _, _⟩) (v := ?_) rfl (by kernel_rfl) (by kernel_rfl) (by kernel_rfl) (fun _ _ _ h => h) (Or.inl ⟨by rfl, ?_⟩) hHeld ?_
                  rotate_left
                  · (intro w hSw; (try dsimp only at hSw); go_simp; try with_reducible rfl)
                  try simp only [Act.put, List.setIfInBounds_toArray, List.set_cons_zero, List.set_cons_succ]
                  refine wpAnyH_take (i := 4) (oi := ⟨_, _, _, _, _, _⟩) (v := ?_) rfl (by kernel_rfl) (by kernel_rfl) (by kernel_rfl) (fun _ _ _ h => h) (Or.inl ⟨by rfl, ?_⟩) hHeld ?_
                  rotate_left
                  · (intro w hSw; (try dsimp only at hSw); go_simp; try with_reducible rfl)
                  try simp only [Act.put, List.setIfInBounds_toArray, List.set_cons_zero, List.set_cons_succ]
                  refine wpAnyH_take (i := 5) (oi := ⟨_, _, _, _, _, _⟩) (v := ?_) rfl (by kernel_rfl) (by kernel_rfl) (by kernel_rfl) (fun _ _ _ h => h) (Or.inl ⟨by rfl, ?_⟩) hHeld ?_
                  rotate_left
                  · (intro w hSw; (try dsimp only at hSw); go_simp; try with_reducible rfl)
                  try simp only [Act.put, List.setIfInBounds_toArray, List.set_cons_zero, List.set_cons_succ]
                  refine wpAnyH_take (i := 6) (oi := ⟨_, _, _, _, _, _⟩) (v := ?_) rfl (by kernel_rfl) (by kernel_rfl) (by kernel_rfl) (fun _ _ _ h => h) (Or.inl ⟨by rfl, ?_⟩) hHeld ?_
                  rotate_left
                  · (intro w hSw; (try dsimp only at hSw); go_simp; try with_reducible rfl)
                  try simp only [Act.put, List.setIfInBounds_toArray, List.set_cons_zero, List.set_cons_succ]
                  refine wpAnyH_take (i := 7) (oi := ⟨_, _, _, _, _, _⟩) (v := ?_) rfl (by kernel_rfl) (by kernel_rfl) (by kernel_rfl) (fun _ _ _ h => h) (Or.inl ⟨by rfl, ?_⟩) hHeld ?_
                  rotate_left
                  · (intro w hSw; (try dsimp only at hSw); go_simp; try with_reducible rfl)
                  try simp only [Act.put, List.setIfInBounds_toArray, List.set_cons_zero, List.set_cons_succ]
                  refine wpAnyH_take (i := 8) (oi := ⟨_, _, _, _, _, _⟩) (v := ?_) rfl (by kernel_rfl) (by kernel_rfl) (by kernel_rfl) (fun _ _ _ h => h) (Or.inl ⟨by rfl, ?_⟩) hHeld ?_
                  rotate_left
                  · (intro w hSw; (try dsimp only at hSw); go_simp; try with_reducible rfl)
                  try simp only [Act.put, List.setIfInBounds_toArray, List.set_cons_zero, List.set_cons_succ]
                  refine wpAnyH_take (i := 9) (oi := ⟨_, _, _, _, _, _⟩) (v := ?_) rfl (by kernel_rfl) (by kernel_rfl) (by kernel_rfl) (fun _ _ _ h => h) (Or.inl ⟨by rfl, ?_⟩) hHeld ?_
                  rotate_left
                  · (intro w hSw; (try dsimp only at hSw); go_simp; try with_reducible rfl)
                  try simp only [Act.put, List.setIfInBounds_toArray, List.set_cons_zero, List.set_cons_succ]
                  refine wpAnyH_take (i := 10) (oi := ⟨_, _, _, _, _, _⟩) (v := ?_) rfl (by kernel_rfl) (by kernel_rfl) (by kernel_rfl) (fun _ _ _ h => h) (Or.inl ⟨by rfl, ?_⟩) hHeld ?_
                  rotate_left
                  · (intro w hSw; (try dsimp only at hSw); go_simp; try with_reducible rfl)
                  try simp only [Act.put, List.setIfInBounds_toArray, List.set_cons_zero, List.set_cons_succ]
                  refine wpAnyH_take (i := 11) (oi := ⟨_, _, _, _, _, _⟩) (v := ?_) rfl (by kernel_rfl) (by kernel_rfl) (by kernel_rfl) (fun _ _ _ h => h) (Or.inl ⟨by rfl, ?_⟩) hHeld ?_
                  rotate_left
                  · (intro w hSw; (try dsimp only at hSw); go_simp; try with_reducible rfl)
                  try simp only [Act.put, List.setIfInBounds_toArray, List.set_cons_zero, List.set_cons_succ]
                  refine wpAnyH_take (i := 12) (oi := ⟨_, _, _, _, _, _⟩) (v := ?_) rfl (by kernel_rfl) (by kernel_rfl) (by kernel_rfl) (fun _ _ _ h => h) (Or.inl ⟨by rfl, ?_⟩) hHeld ?_
                  rotate_left
                  · (intro w hSw; (try dsimp only at hSw); go_simp; try with_reducible rfl)
                  try simp only [Act.put, List.setIfInBounds_toArray, List.set_cons_zero, List.set_cons_succ]
                  refine wpAnyH_take (i := 13) (oi := ⟨_, _, _, _, _, _⟩) (v := ?_) rfl (by kernel_rfl) (by kernel_rfl) (by kernel_rfl) (fun _ _ _ h => h) (Or.inl ⟨by rfl, ?_⟩) hHeld ?_
                  rotate_left
                  · (intro w hSw; (try dsimp only at hSw); go_simp; try with_reducible rfl)
                  try simp only [Act.put, List.setIfInBounds_toArray, List.set_cons_zero, List.set_cons_succ]
                  refine wpAnyH_take (i := 14) (oi := ⟨_, _, _, _, _, _⟩) (v := ?_) rfl (by kernel_rfl) (by kernel_rfl) (by kernel_rfl) (fun _ _ _ h => h) (Or.inl ⟨by rfl, ?_⟩) hHeld ?_
                  rotate_left
                  · (intro w hSw; (try dsimp only at hSw); go_simp; try with_reducible rfl)
                  try simp only [Act.put, List.setIfInBounds_toArray, List.set_cons_zero, List.set_cons_succ]
                  refine wpAnyH_take (i := 15) (oi := ⟨_, _, _, _, _, _⟩) (v := ?_) rfl (by kernel_rfl) (by kernel_rfl) (by kernel_rfl) (fun _ _ _ h => h) (Or.inl ⟨by rfl, ?_⟩) hHeld ?_
                  rotate_left
                  · (intro w hSw; (try dsimp only at hSw); go_simp; try with_reducible rfl)
                  try simp only [Act.put, List.setIfInBounds_toArray, List.set_cons_zero, List.set_cons_succ]
                  refine wpAnyH_take (i := 16) (oi := ⟨_, _, _, _, _, _⟩) (v := ?_) rfl (by kernel_rfl) (by kernel_rfl) (by kernel_rfl) (fun _ _ _ h => h) (Or.inl ⟨by rfl, ?_⟩) hHeld ?_
                  rotate_left
                  · (intro w hSw; (try dsimp only at hSw); go_simp; try with_reducible rfl)
                  try simp only [Act.put, List.setIfInBounds_toArray, List.set_cons_zero, List.set_cons_succ]
                  refine wpAnyH_take (i := 17) (oi := ⟨_, _, _, _, _, _⟩) (v := ?_) rfl (by kernel_rfl) (by kernel_rfl) (by kernel_rfl) (fun _ _ _ h => h) (Or.inl ⟨by rfl, ?_⟩) hHeld ?_
                  rotate_left
                  · (intro w hSw; (try dsimp only at hSw); go_simp; try with_reducible rfl)
                  try simp only [Act.put, List.setIfInBounds_toArray, List.set_cons_zero, List.set_cons_succ]
                  refine wpAnyH_take (i := 18) (oi := ⟨_, _, _, _, _, _⟩) (v := ?_) rfl (by kernel_rfl) (by kernel_rfl) (by kernel_rfl) (fun _ _ _ h => h) (Or.inl ⟨by rfl, ?_⟩) hHeld ?_
                  rotate_left
                  · (intro w hSw; (try dsimp only at hSw); go_simp; try with_reducible rfl)
                  try simp only [Act.put, List.setIfInBounds_toArray, List.set_cons_zero, List.set_cons_succ]
                  refine wpAnyH_take (i := 19) (oi := ⟨_, _, _, _, _, _⟩) (v := ?_) rfl (by kernel_rfl) (by kernel_rfl) (by kernel_rfl) (fun _ _ _ h => h) (Or.inl ⟨by rfl, ?_⟩) hHeld ?_
                  rotate_left
                  · (intro w hSw; (try dsimp only at hSw); go_simp; try with_reducible rfl)
                  try simp only [Act.put, List.setIfInBounds_toArray, List.set_cons_zero, List.set_cons_succ]
                  refine wpAnyH_take (i := 20) (oi := ⟨_, _, _, _, _, _⟩) (v := ?_) rfl (by kernel_rfl) (by kernel_rfl) (by kernel_rfl) (fun _ _ _ h => h) (Or.inl ⟨by rfl, ?_⟩) hHeld ?_
                  rotate_left
                  · (intro w hSw; (try dsimp only at hSw); go_simp; try with_reducible rfl)
                  try simp only [Act.put, List.setIfInBounds_toArray, List.set_cons_zero, List.set_cons_succ]
                  refine wpAnyH_take (i := 21) (oi := ⟨_, _, _, _, _, _⟩) (v := ?_) rfl (by kernel_rfl) (by kernel_rfl) (by kernel_rfl) (fun _ _ _ h => h) (Or.inl ⟨by rfl, ?_⟩) hHeld ?_
                  rotate_left
                  · (intro w hSw; (try dsimp only at hSw); go_simp; try with_reducible rfl)
                  try simp only [Act.put, List.setIfInBounds_toArray, List.set_cons_zero, List.set_cons_succ]
                  refine wpAnyH_take (i := 22) (oi := ⟨_, _, _, _, _, _⟩) (v := undef) rfl (by kernel_rfl) (by kernel_rfl) (by kernel_rfl) (fun _ _ _ h => h) (Or.inr ⟨by rfl, rfl⟩) hHeld ?_
                  try simp only [Act.put, List.setIfInBounds_toArray, List.set_cons_zero, List.set_cons_succ]
                  refine wpAnyH_take (i := 23) (oi := ⟨_, _, _, _, _, _⟩) (v := undef) rfl (by kernel_rfl) (by kernel_rfl) (by kernel_rfl) (fun _ _ _ h => h) (Or.inr ⟨by rfl, rfl⟩) hHeld ?_
                  try simp only [Act.put, List.setIfInBounds_toArray, List.set_cons_zero, List.set_cons_succ]
                  refine wpAnyH_take (i := 24) (oi := ⟨_, _, _, _, _, _⟩) (v := undef) rfl (by kernel_rfl) (by kernel_rfl) (by kernel_rfl) (fun _ _ _ h => h) (Or.inr ⟨by rfl, rfl⟩) hHeld ?_
                  try simp only [Act.put, List.setIfInBounds_toArray, List.set_cons_zero, List.set_cons_succ]
                  refine wpAnyH_take (i := 25) (oi := ⟨_, _, _, _, _, _⟩) (v := undef) rfl (by kernel_rfl) (by kernel_rfl) (by kernel_rfl) (fun _ _ _ h => h) (Or.inr ⟨by rfl, rfl⟩) hHeld ?_
                  try simp only [Act.put, List.setIfInBounds_toArray, List.set_cons_zero, List.set_cons_succ]
                  refine wpAnyH_take (i := 26) (oi := ⟨_, _, _, _, _, _⟩) (v := undef) rfl (by kernel_rfl) (by kernel_rfl) (by kernel_rfl) (fun _ _ _ h => h) (Or.inr ⟨by rfl, rfl⟩) hHeld ?_
                  try simp only [Act.put, List.setIfInBounds_toArray, List.set_cons_zero, List.set_cons_succ]
                  refine wpAnyH_take (i := 27) (oi := ⟨_, _, _, _, _, _⟩) (v := undef) rfl (by kernel_rfl) (by kernel_rfl) (by kernel_rfl) (fun _ _ _ h => h) (Or.inr ⟨by rfl, rfl⟩) hHeld ?_
                  try simp only [Act.put, List.setIfInBounds_toArray, List.set_cons_zero, List.set_cons_succ]
                  refine wpAnyH_take (i := 28) (oi := ⟨_, _, _, _, _, _⟩) (v := undef) rfl (by kernel_rfl) (by kernel_rfl) (by kernel_rfl) (fun _ _ _ h => h) (Or.inr ⟨by rfl, rfl⟩) hHeld ?_
                  try simp only [Act.put, List.setIfInBounds_toArray, List.set_cons_zero, List.set_cons_succ]
                  refine wpAnyH_take (i := 29) (oi := ⟨_, _, _, _, _, _⟩) (v := undef) rfl (by kernel_rfl) (by kernel_rfl) (by kernel_rfl) (fun _ _ _ h => h) (Or.inr ⟨by rfl, rfl⟩) hHeld ?_
                  try simp only [Act.put, List.setIfInBounds_toArray, List.set_cons_zero, List.set_cons_succ]
                  refine wpAnyH_take (i := 30) (oi := ⟨_, _, _, _, _, _⟩) (v := undef) rfl (by kernel_rfl) (by kernel_rfl) (by kernel_rfl) (fun _ _ _ h => h) (Or.inr ⟨by rfl, rfl⟩) hHeld ?_
                  try simp only [Act.put, List.setIfInBounds_toArray, List.set_cons_zero, List.set_cons_succ]
                  refine wpAnyH_take (i := 31) (oi := ⟨_, _, _, _, _, _⟩) (v := undef) rfl (by kernel_rfl) (by kernel_rfl) (by kernel_rfl) (fun _ _ _ h => h) (Or.inr ⟨by rfl, rfl⟩) hHeld ?_
                  try simp only [Act.put, List.setIfInBounds_toArray, List.set_cons_zero, List.set_cons_succ]
                  refine wpAnyH_take (i := 32) (oi := ⟨_, _, _, _, _, _⟩) (v := undef) rfl (by kernel_rfl) (by kernel_rfl) (by kernel_rfl) (fun _ _ _ h => h) (Or.inr ⟨by rfl, rfl⟩) hHeld ?_
                  try simp only [Act.put, List.setIfInBounds_toArray, List.set_cons_zero, List.set_cons_succ]
                  refine wpAnyH_take (i := 33) (oi := ⟨_, _, _, _, _, _⟩) (v := undef) rfl (by kernel_rfl) (by kernel_rfl) (by kernel_rfl) (fun _ _ _ h => h) (Or.inr ⟨by rfl, rfl⟩) hHeld ?_
                  try simp only [Act.put, List.setIfInBounds_toArray, List.set_cons_zero, List.set_cons_succ]
                  refine wpAnyH_take (i := 34) (oi := ⟨_, _, _, _, _, _⟩) (v := undef) rfl (by kernel_rfl) (by kernel_rfl) (by kernel_rfl) (fun _ _ _ h => h) (Or.inr ⟨by rfl, rfl⟩) hHeld ?_
                  try simp only [Act.put, List.setIfInBounds_toArray, List.set_cons_zero, List.set_cons_succ]
                  refine wpAnyH_take (i := 35) (oi := ⟨_, _, _, _, _, _⟩) (v := ?_) rfl (by kernel_rfl) (by kernel_rfl) (by kernel_rfl) (fun _ _ _ h => h) (Or.inl ⟨by rfl, ?_⟩) hHeld ?_
                  rotate_left
                  · (intro w hSw; (try dsimp only at hSw); go_simp; try with_reducible rfl)
                  try simp only [Act.put, List.setIfInBounds_toArray, List.set_cons_zero, List.set_cons_succ]
                  refine wpAnyH_take (i := 36) (oi := ⟨_, _, _, _, _, _⟩) (v := ?_) rfl (by kernel_rfl) (by kernel_rfl) (by kernel_rfl) (fun _ _ _ h => h) (Or.inl ⟨by rfl, ?_⟩) hHeld ?_
                  rotate_left
                  · (intro w hSw; (try dsimp only at hSw); go_simp; try with_reducible rfl)
                  try simp only [Act.put, List.setIfInBounds_toArray, List.set_cons_zero, List.set_cons_succ]
                  refine wpAnyH_done (by kernel_rfl) ?_ _
                  have HB3 := Lib.hid (below2 hB.out hbr)
                  clear hbr
                  go_wp2_with fail
                  go_roundw
                  case rel => exact ⟨k + 1, by go_num, by omega, hn, HB3, .inr ⟨k, rfl, by omega, HG⟩⟩
                  case measure => simp [intOf]; omega
                · have e2 : decide (m ≤ n) = false := decide_eq_false hm
                  have HG := Lib.hid (hgn (fun _ => hm))
                  clear hgn hgb hq hm hx c2
                  go_wp2_with fail
                  refine wp_region_held_drew (S := (fun W => W.cell? ⟨bb, off + k * 3, none⟩ = some (.string ⟨q.toArray⟩) ∧ W.cell? ⟨bb, off + k * 3 + 1, none⟩ = some (.int .i64 m))) (by kernel_rfl) (HC.out _ hbr) (fun hHeld => ?_)
                  refine wpAnyH_take (i := 0) (oi := ⟨_, _, _, _, _, _⟩) (v := ?_) rfl (by kernel_rfl) (by kernel_rfl) (by kernel_rfl) (fun _ _ _ h => h) (Or.inl ⟨by rfl, ?_⟩) hHeld ?_
                  rotate_left
                  · (intro w hSw; (try dsimp only at hSw); go_simp; try with_reducible rfl)
                  try simp only [Act.put, List.setIfInBounds_toArray, List.set_cons_zero, List.set_cons_succ]
                  refine wpAnyH_take (i := 1) (oi := ⟨_, _, _, _, _, _⟩) (v := ?_) rfl (by kernel_rfl) (by kernel_rfl) (by kernel_rfl) (fun _ _ _ h => h) (Or.inl ⟨by rfl, ?_⟩) hHeld ?_
                  rotate_left
                  · (intro w hSw; (try dsimp only at hSw); go_simp; try with_reducible rfl)
                  try simp only [Act.put, List.setIfInBounds_toArray, List.set_cons_zero, List.set_cons_succ]
                  refine wpAnyH_take (i := 2) (oi := ⟨_, _, _, _, _, _⟩) (v := ?_) rfl (by kernel_rfl) (by kernel_rfl) (by kernel_rfl) (fun _ _ _ h => h) (Or.inl ⟨by rfl, ?_⟩) hHeld ?_
                  rotate_left
                  · (intro w hSw; (try dsimp only at hSw); go_simp; try with_reducible rfl)
                  try simp only [Act.put, List.setIfInBounds_toArray, List.set_cons_zero, List.set_cons_succ]
                  refine wpAnyH_take (i := 3) (oi := ⟨_, _, _, _, _, _⟩) (v := ?_) rfl (by kernel_rfl) (by kernel_rfl) (by kernel_rfl) (fun _ _ _ h => h) (Or.inl ⟨by rfl, ?_⟩) hHeld ?_
                  rotate_left
                  · (intro w hSw; (try dsimp only at hSw); go_simp; try with_reducible rfl)
                  try simp only [Act.put, List.setIfInBounds_toArray, List.set_cons_zero, List.set_cons_succ]
                  refine wpAnyH_take (i := 4) (oi := ⟨_, _, _, _, _, _⟩) (v := ?_) rfl (by kernel_rfl) (by kernel_rfl) (by kernel_rfl) (fun _ _ _ h => h) (Or.inl ⟨by rfl, ?_⟩) hHeld ?_
                  rotate_left
                  · (intro w hSw; (try dsimp only at hSw); go_simp; try with_reducible rfl)
                  try simp only [Act.put, List.setIfInBounds_toArray, List.set_cons_zero, List.set_cons_succ]
                  refine wpAnyH_take (i := 5) (oi := ⟨_, _, _, _, _, _⟩) (v := ?_) rfl (by kernel_rfl) (by kernel_rfl) (by kernel_rfl) (fun _ _ _ h => h) (Or.inl ⟨by rfl, ?_⟩) hHeld ?_
                  rotate_left
                  · (intro w hSw; (try dsimp only at hSw); go_simp; try with_reducible rfl)
                  try simp only [Act.put, List.setIfInBounds_toArray, List.set_cons_zero, List.set_cons_succ]
                  refine wpAnyH_take (i := 6) (oi := ⟨_, _, _, _, _, _⟩) (v := ?_) rfl (by kernel_rfl) (by kernel_rfl) (by kernel_rfl) (fun _ _ _ h => h) (Or.inl ⟨by rfl, ?_⟩) hHeld ?_
                  rotate_left
                  · (intro w hSw; (try dsimp only at hSw); go_simp; try with_reducible rfl)
                  try simp only [Act.put, List.setIfInBounds_toArray, List.set_cons_zero, List.set_cons_succ]
                  refine wpAnyH_take (i := 7) (oi := ⟨_, _, _, _, _, _⟩) (v := ?_) rfl (by kernel_rfl) (by kernel_rfl) (by kernel_rfl) (fun _ _ _ h => h) (Or.inl ⟨by rfl, ?_⟩) hHeld ?_
                  rotate_left
                  · (intro w hSw; (try dsimp only at hSw); go_simp; try with_reducible rfl)
                  try simp only [Act.put, List.setIfInBounds_toArray, List.set_cons_zero, List.set_cons_succ]
                  refine wpAnyH_take (i := 8) (oi := ⟨_, _, _, _, _, _⟩) (v := ?_) rfl (by kernel_rfl) (by kernel_rfl) (by kernel_rfl) (fun _ _ _ h => h) (Or.inl ⟨by rfl, ?_⟩) hHeld ?_
                  rotate_left
                  · (intro w hSw; (try dsimp only at hSw); go_simp; try with_reducible rfl)
                  try simp only [Act.put, List.setIfInBounds_toArray, List.set_cons_zero, List.set_cons_succ]
                  refine wpAnyH_take (i := 9) (oi := ⟨_, _, _, _, _, _⟩) (v := ?_) rfl (by kernel_rfl) (by kernel_rfl) (by kernel_rfl) (fun _ _ _ h => h) (Or.inl ⟨by rfl, ?_⟩) hHeld ?_
                  rotate_left
                  · (intro w hSw; (try dsimp only at hSw); go_simp; try with_reducible rfl)
                  try simp only [Act.put, List.setIfInBounds_toArray, List.set_cons_zero, List.set_cons_succ]
                  refine wpAnyH_take (i := 10) (oi := ⟨_, _, _, _, _, _⟩) (v := ?_) rfl (by kernel_rfl) (by kernel_rfl) (by kernel_rfl) (fun _ _ _ h => h) (Or.inl ⟨by rfl, ?_⟩) hHeld ?_
                  rotate_left
                  · (intro w hSw; (try dsimp only at hSw); go_simp; try with_reducible rfl)
                  try simp only [Act.put, List.setIfInBounds_toArray, List.set_cons_zero, List.set_cons_succ]
                  refine wpAnyH_take (i := 11) (oi := ⟨_, _, _, _, _, _⟩) (v := ?_) rfl (by kernel_rfl) (by kernel_rfl) (by kernel_rfl) (fun _ _ _ h => h) (Or.inl ⟨by rfl, ?_⟩) hHeld ?_
                  rotate_left
                  · (intro w hSw; (try dsimp only at hSw); go_simp; try with_reducible rfl)
                  try simp only [Act.put, List.setIfInBounds_toArray, List.set_cons_zero, List.set_cons_succ]
                  refine wpAnyH_take (i := 12) (oi := ⟨_, _, _, _, _, _⟩) (v := ?_) rfl (by kernel_rfl) (by kernel_rfl) (by kernel_rfl) (fun _ _ _ h => h) (Or.inl ⟨by rfl, ?_⟩) hHeld ?_
                  rotate_left
                  · (intro w hSw; (try dsimp only at hSw); go_simp; try with_reducible rfl)
                  try simp only [Act.put, List.setIfInBounds_toArray, List.set_cons_zero, List.set_cons_succ]
                  refine wpAnyH_take (i := 13) (oi := ⟨_, _, _, _, _, _⟩) (v := ?_) rfl (by kernel_rfl) (by kernel_rfl) (by kernel_rfl) (fun _ _ _ h => h) (Or.inl ⟨by rfl, ?_⟩) hHeld ?_
                  rotate_left
                  · (intro w hSw; (try dsimp only at hSw); go_simp; try with_reducible rfl)
                  try simp only [Act.put, List.setIfInBounds_toArray, List.set_cons_zero, List.set_cons_succ]
                  refine wpAnyH_take (i := 14) (oi := ⟨_, _, _, _, _, _⟩) (v := ?_) rfl (by kernel_rfl) (by kernel_rfl) (by kernel_rfl) (fun _ _ _ h => h) (Or.inl ⟨by rfl, ?_⟩) hHeld ?_
                  rotate_left
                  · (intro w hSw; (try dsimp only at hSw); go_simp; try with_reducible rfl)
                  try simp only [Act.put, List.setIfInBounds_toArray, List.set_cons_zero, List.set_cons_succ]
                  refine wpAnyH_take (i := 15) (oi := ⟨_, _, _, _, _, _⟩) (v := ?_) rfl (by kernel_rfl) (by kernel_rfl) (by kernel_rfl) (fun _ _ _ h => h) (Or.inl ⟨by rfl, ?_⟩) hHeld ?_
                  rotate_left
                  · (intro w hSw; (try dsimp only at hSw); go_simp; try with_reducible rfl)
                  try simp only [Act.put, List.setIfInBounds_toArray, List.set_cons_zero, List.set_cons_succ]
                  refine wpAnyH_take (i := 16) (oi := ⟨_, _, _, _, _, _⟩) (v := ?_) rfl (by kernel_rfl) (by kernel_rfl) (by kernel_rfl) (fun _ _ _ h => h) (Or.inl ⟨by rfl, ?_⟩) hHeld ?_
                  rotate_left
                  · (intro w hSw; (try dsimp only at hSw); go_simp; try with_reducible rfl)
                  try simp only [Act.put, List.setIfInBounds_toArray, List.set_cons_zero, List.set_cons_succ]
                  refine wpAnyH_take (i := 17) (oi := ⟨_, _, _, _, _, _⟩) (v := ?_) rfl (by kernel_rfl) (by kernel_rfl) (by kernel_rfl) (fun _ _ _ h => h) (Or.inl ⟨by rfl, ?_⟩) hHeld ?_
                  rotate_left
                  · (intro w hSw; (try dsimp only at hSw); go_simp; try with_reducible rfl)
                  try simp only [Act.put, List.setIfInBounds_toArray, List.set_cons_zero, List.set_cons_succ]
                  refine wpAnyH_take (i := 18) (oi := ⟨_, _, _, _, _, _⟩) (v := ?_) rfl (by kernel_rfl) (by kernel_rfl) (by kernel_rfl) (fun _ _ _ h => h) (Or.inl ⟨by rfl, ?_⟩) hHeld ?_
                  rotate_left
                  · (intro w hSw; (try dsimp only at hSw); go_simp; try with_reducible rfl)
                  try simp only [Act.put, List.setIfInBounds_toArray, List.set_cons_zero, List.set_cons_succ]
                  refine wpAnyH_take (i := 19) (oi := ⟨_, _, _, _, _, _⟩) (v := undef) rfl (by kernel_rfl) (by kernel_rfl) (by kernel_rfl) (fun _ _ _ h => h) (Or.inr ⟨by rfl, rfl⟩) hHeld ?_
                  try simp only [Act.put, List.setIfInBounds_toArray, List.set_cons_zero, List.set_cons_succ]
                  refine wpAnyH_take (i := 20) (oi := ⟨_, _, _, _, _, _⟩) (v := undef) rfl (by kernel_rfl) (by kernel_rfl) (by kernel_rfl) (fun _ _ _ h => h) (Or.inr ⟨by rfl, rfl⟩) hHeld ?_
                  try simp only [Act.put, List.setIfInBounds_toArray, List.set_cons_zero, List.set_cons_succ]
                  refine wpAnyH_take (i := 21) (oi := ⟨_, _, _, _, _, _⟩) (v := undef) rfl (by kernel_rfl) (by kernel_rfl) (by kernel_rfl) (fun _ _ _ h => h) (Or.inr ⟨by rfl, rfl⟩) hHeld ?_
                  try simp only [Act.put, List.setIfInBounds_toArray, List.set_cons_zero, List.set_cons_succ]
                  refine wpAnyH_take (i := 22) (oi := ⟨_, _, _, _, _, _⟩) (v := undef) rfl (by kernel_rfl) (by kernel_rfl) (by kernel_rfl) (fun _ _ _ h => h) (Or.inr ⟨by rfl, rfl⟩) hHeld ?_
                  try simp only [Act.put, List.setIfInBounds_toArray, List.set_cons_zero, List.set_cons_succ]
                  refine wpAnyH_take (i := 23) (oi := ⟨_, _, _, _, _, _⟩) (v := undef) rfl (by kernel_rfl) (by kernel_rfl) (by kernel_rfl) (fun _ _ _ h => h) (Or.inr ⟨by rfl, rfl⟩) hHeld ?_
                  try simp only [Act.put, List.setIfInBounds_toArray, List.set_cons_zero, List.set_cons_succ]
                  refine wpAnyH_take (i := 24) (oi := ⟨_, _, _, _, _, _⟩) (v := undef) rfl (by kernel_rfl) (by kernel_rfl) (by kernel_rfl) (fun _ _ _ h => h) (Or.inr ⟨by rfl, rfl⟩) hHeld ?_
                  try simp only [Act.put, List.setIfInBounds_toArray, List.set_cons_zero, List.set_cons_succ]
                  refine wpAnyH_take (i := 25) (oi := ⟨_, _, _, _, _, _⟩) (v := undef) rfl (by kernel_rfl) (by kernel_rfl) (by kernel_rfl) (fun _ _ _ h => h) (Or.inr ⟨by rfl, rfl⟩) hHeld ?_
                  try simp only [Act.put, List.setIfInBounds_toArray, List.set_cons_zero, List.set_cons_succ]
                  refine wpAnyH_take (i := 26) (oi := ⟨_, _, _, _, _, _⟩) (v := undef) rfl (by kernel_rfl) (by kernel_rfl) (by kernel_rfl) (fun _ _ _ h => h) (Or.inr ⟨by rfl, rfl⟩) hHeld ?_
                  try simp only [Act.put, List.setIfInBounds_toArray, List.set_cons_zero, List.set_cons_succ]
                  refine wpAnyH_take (i := 27) (oi := ⟨_, _, _, _, _, _⟩) (v := undef) rfl (by kernel_rfl) (by kernel_rfl) (by kernel_rfl) (fun _ _ _ h => h) (Or.inr ⟨by rfl, rfl⟩) hHeld ?_
                  try simp only [Act.put, List.setIfInBounds_toArray, List.set_cons_zero, List.set_cons_succ]
                  refine wpAnyH_take (i := 28) (oi := ⟨_, _, _, _, _, _⟩) (v := undef) rfl (by kernel_rfl) (by kernel_rfl) (by kernel_rfl) (fun _ _ _ h => h) (Or.inr ⟨by rfl, rfl⟩) hHeld ?_
                  try simp only [Act.put, List.setIfInBounds_toArray, List.set_cons_zero, List.set_cons_succ]
                  refine wpAnyH_take (i := 29) (oi := ⟨_, _, _, _, _, _⟩) (v := undef) rfl (by kernel_rfl) (by kernel_rfl) (by kernel_rfl) (fun _ _ _ h => h) (Or.inr ⟨by rfl, rfl⟩) hHeld ?_
                  try simp only [Act.put, List.setIfInBounds_toArray, List.set_cons_zero, List.set_cons_succ]
                  refine wpAnyH_take (i := 30) (oi := ⟨_, _, _, _, _, _⟩) (v := undef) rfl (by kernel_rfl) (by kernel_rfl) (by kernel_rfl) (fun _ _ _ h => h) (Or.inr ⟨by rfl, rfl⟩) hHeld ?_
                  try simp only [Act.put, List.setIfInBounds_toArray, List.set_cons_zero, List.set_cons_succ]
                  refine wpAnyH_take (i := 31) (oi := ⟨_, _, _, _, _, _⟩) (v := undef) rfl (by kernel_rfl) (by kernel_rfl) (by kernel_rfl) (fun _ _ _ h => h) (Or.inr ⟨by rfl, rfl⟩) hHeld ?_
                  try simp only [Act.put, List.setIfInBounds_toArray, List.set_cons_zero, List.set_cons_succ]
                  refine wpAnyH_take (i := 32) (oi := ⟨_, _, _, _, _, _⟩) (v := undef) rfl (by kernel_rfl) (by kernel_rfl) (by kernel_rfl) (fun _ _ _ h => h) (Or.inr ⟨by rfl, rfl⟩) hHeld ?_
                  try simp only [Act.put, List.setIfInBounds_toArray, List.set_cons_zero, List.set_cons_succ]
                  refine wpAnyH_take (i := 33) (oi := ⟨_, _, _, _, _, _⟩) (v := undef) rfl (by kernel_rfl) (by kernel_rfl) (by kernel_rfl) (fun _ _ _ h => h) (Or.inr ⟨by rfl, rfl⟩) hHeld ?_
                  try simp only [Act.put, List.setIfInBounds_toArray, List.set_cons_zero, List.set_cons_succ]
                  refine wpAnyH_take (i := 34) (oi := ⟨_, _, _, _, _, _⟩) (v := undef) rfl (by kernel_rfl) (by kernel_rfl) (by kernel_rfl) (fun _ _ _ h => h) (Or.inr ⟨by rfl, rfl⟩) hHeld ?_
                  try simp only [Act.put, List.setIfInBounds_toArray, List.set_cons_zero, List.set_cons_succ]
                  refine wpAnyH_take (i := 35) (oi := ⟨_, _, _, _, _, _⟩) (v := undef) rfl (by kernel_rfl) (by kernel_rfl) (by kernel_rfl) (fun _ _ _ h => h) (Or.inr ⟨by rfl, rfl⟩) hHeld ?_
                  try simp only [Act.put, List.setIfInBounds_toArray, List.set_cons_zero, List.set_cons_succ]
                  refine wpAnyH_take (i := 36) (oi := ⟨_, _, _, _, _, _⟩) (v := ?_) rfl (by kernel_rfl) (by kernel_rfl) (by kernel_rfl) (fun _ _ _ h => h) (Or.inl ⟨by rfl, ?_⟩) hHeld ?_
                  rotate_left
                  · (intro w hSw; (try dsimp only at hSw); go_simp; try with_reducible rfl)
                  try simp only [Act.put, List.setIfInBounds_toArray, List.set_cons_zero, List.set_cons_succ]
                  refine wpAnyH_done (by kernel_rfl) ?_ _
                  have HB3 := Lib.hid (below2 hB.out hbr)
                  clear hbr
                  go_wp2_with fail
                  go_roundw
                  case rel => exact ⟨k + 1, by go_num, by omega, hn, HB3, .inl ⟨rfl, HG⟩⟩
                  case measure => simp [intOf]; omega
              · have e1 : (q == p) = false := by simpa using hq
                have HG := Lib.hid (hgn (fun e => absurd e hq))
                clear hgn hgb hq hx c2
                go_wp2_with fail
                refine wp_region_held_drew (S := (fun W => W.cell? ⟨bb, off + k * 3, none⟩ = some (.string ⟨q.toArray⟩) ∧ W.cell? ⟨bb, off + k * 3 + 1, none⟩ = some (.int .i64 m))) (by kernel_rfl) (HC.out _ hbr) (fun hHeld => ?_)
                refine wpAnyH_take (i := 0) (oi := ⟨_, _, _, _, _, _⟩) (v := ?_) rfl (by kernel_rfl) (by kernel_rfl) (by kernel_rfl) (fun _ _ _ h => h) (Or.inl ⟨by rfl, ?_⟩) hHeld ?_
                rotate_left
                · (intro w hSw; (try dsimp only at hSw); go_simp; try with_reducible rfl)
                try simp only [Act.put, List.setIfInBounds_toArray, List.set_cons_zero, List.set_cons_succ]
                refine wpAnyH_take (i := 1) (oi := ⟨_, _, _, _, _, _⟩) (v := ?_) rfl (by kernel_rfl) (by kernel_rfl) (by kernel_rfl) (fun _ _ _ h => h) (Or.inl ⟨by rfl, ?_⟩) hHeld ?_
                rotate_left
                · (intro w hSw; (try dsimp only at hSw); go_simp; try with_reducible rfl)
                try simp only [Act.put, List.setIfInBounds_toArray, List.set_cons_zero, List.set_cons_succ]
                refine wpAnyH_take (i := 2) (oi := ⟨_, _, _, _, _, _⟩) (v := ?_) rfl (by kernel_rfl) (by kernel_rfl) (by kernel_rfl) (fun _ _ _ h => h) (Or.inl ⟨by rfl, ?_⟩) hHeld ?_
                rotate_left
                · (intro w hSw; (try dsimp only at hSw); go_simp; try with_reducible rfl)
                try simp only [Act.put, List.setIfInBounds_toArray, List.set_cons_zero, List.set_cons_succ]
                refine wpAnyH_take (i := 3) (oi := ⟨_, _, _, _, _, _⟩) (v := ?_) rfl (by kernel_rfl) (by kernel_rfl) (by kernel_rfl) (fun _ _ _ h => h) (Or.inl ⟨by rfl, ?_⟩) hHeld ?_
                rotate_left
                · (intro w hSw; (try dsimp only at hSw); go_simp; try with_reducible rfl)
                try simp only [Act.put, List.setIfInBounds_toArray, List.set_cons_zero, List.set_cons_succ]
                refine wpAnyH_take (i := 4) (oi := ⟨_, _, _, _, _, _⟩) (v := ?_) rfl (by kernel_rfl) (by kernel_rfl) (by kernel_rfl) (fun _ _ _ h => h) (Or.inl ⟨by rfl, ?_⟩) hHeld ?_
                rotate_left
                · (intro w hSw; (try dsimp only at hSw); go_simp; try with_reducible rfl)
                try simp only [Act.put, List.setIfInBounds_toArray, List.set_cons_zero, List.set_cons_succ]
                refine wpAnyH_take (i := 5) (oi := ⟨_, _, _, _, _, _⟩) (v := ?_) rfl (by kernel_rfl) (by kernel_rfl) (by kernel_rfl) (fun _ _ _ h => h) (Or.inl ⟨by rfl, ?_⟩) hHeld ?_
                rotate_left
                · (intro w hSw; (try dsimp only at hSw); go_simp; try with_reducible rfl)
                try simp only [Act.put, List.setIfInBounds_toArray, List.set_cons_zero, List.set_cons_succ]
                refine wpAnyH_take (i := 6) (oi := ⟨_, _, _, _, _, _⟩) (v := ?_) rfl (by kernel_rfl) (by kernel_rfl) (by kernel_rfl) (fun _ _ _ h => h) (Or.inl ⟨by rfl, ?_⟩) hHeld ?_
                rotate_left
                · (intro w hSw; (try dsimp only at hSw); go_simp; try with_reducible rfl)
                try simp only [Act.put, List.setIfInBounds_toArray, List.set_cons_zero, List.set_cons_succ]
                refine wpAnyH_take (i := 7) (oi := ⟨_, _, _, _, _, _⟩) (v := ?_) rfl (by kernel_rfl) (by kernel_rfl) (by kernel_rfl) (fun _ _ _ h => h) (Or.inl ⟨by rfl, ?_⟩) hHeld ?_
                rotate_left
                · (intro w hSw; (try dsimp only at hSw); go_simp; try with_reducible rfl)
                try simp only [Act.put, List.setIfInBounds_toArray, List.set_cons_zero, List.set_cons_succ]
                refine wpAnyH_take (i := 8) (oi := ⟨_, _, _, _, _, _⟩) (v := ?_) rfl (by kernel_rfl) (by kernel_rfl) (by kernel_rfl) (fun _ _ _ h => h) (Or.inl ⟨by rfl, ?_⟩) hHeld ?_
                rotate_left
                · (intro w hSw; (try dsimp only at hSw); go_simp; try with_reducible rfl)
                try simp only [Act.put, List.setIfInBounds_toArray, List.set_cons_zero, List.set_cons_succ]
                refine wpAnyH_take (i := 9) (oi := ⟨_, _, _, _, _, _⟩) (v := undef) rfl (by kernel_rfl) (by kernel_rfl) (by kernel_rfl) (fun _ _ _ h => h) (Or.inr ⟨by rfl, rfl⟩) hHeld ?_
                try simp only [Act.put, List.setIfInBounds_toArray, List.set_cons_zero, List.set_cons_succ]
                refine wpAnyH_take (i := 10) (oi := ⟨_, _, _, _, _, _⟩) (v := undef) rfl (by kernel_rfl) (by kernel_rfl) (by kernel_rfl) (fun _ _ _ h => h) (Or.inr ⟨by rfl, rfl⟩) hHeld ?_
                try simp only [Act.put, List.setIfInBounds_toArray, List.set_cons_zero, List.set_cons_succ]
                refine wpAnyH_take (i := 11) (oi := ⟨_, _, _, _, _, _⟩) (v := undef) rfl (by kernel_rfl) (by kernel_rfl) (by kernel_rfl) (fun _ _ _ h => h) (Or.inr ⟨by rfl, rfl⟩) hHeld ?_
                try simp only [Act.put, List.setIfInBounds_toArray, List.set_cons_zero, List.set_cons_succ]
                refine wpAnyH_take (i := 12) (oi := ⟨_, _, _, _, _, _⟩) (v := undef) rfl (by kernel_rfl) (by kernel_rfl) (by kernel_rfl) (fun _ _ _ h => h) (Or.inr ⟨by rfl, rfl⟩) hHeld ?_
                try simp only [Act.put, List.setIfInBounds_toArray, List.set_cons_zero, List.set_cons_succ]
                refine wpAnyH_take (i := 13) (oi := ⟨_, _, _, _, _, _⟩) (v := undef) rfl (by kernel_rfl) (by kernel_rfl) (by kernel_rfl) (fun _ _ _ h => h) (Or.inr ⟨by rfl, rfl⟩) hHeld ?_
                try simp only [Act.put, List.setIfInBounds_toArray, List.set_cons_zero, List.set_cons_succ]
                refine wpAnyH_take (i := 14) (oi := ⟨_, _, _, _, _, _⟩) (v := undef) rfl (by kernel_rfl) (by kernel_rfl) (by kernel_rfl) (fun _ _ _ h => h) (Or.inr ⟨by rfl, rfl⟩) hHeld ?_
                try simp only [Act.put, List.setIfInBounds_toArray, List.set_cons_zero, List.set_cons_succ]
                refine wpAnyH_take (i := 15) (oi := ⟨_, _, _, _, _, _⟩) (v := undef) rfl (by kernel_rfl) (by kernel_rfl) (by kernel_rfl) (fun _ _ _ h => h) (Or.inr ⟨by rfl, rfl⟩) hHeld ?_
                try simp only [Act.put, List.setIfInBounds_toArray, List.set_cons_zero, List.set_cons_succ]
                refine wpAnyH_take (i := 16) (oi := ⟨_, _, _, _, _, _⟩) (v := undef) rfl (by kernel_rfl) (by kernel_rfl) (by kernel_rfl) (fun _ _ _ h => h) (Or.inr ⟨by rfl, rfl⟩) hHeld ?_
                try simp only [Act.put, List.setIfInBounds_toArray, List.set_cons_zero, List.set_cons_succ]
                refine wpAnyH_take (i := 17) (oi := ⟨_, _, _, _, _, _⟩) (v := ?_) rfl (by kernel_rfl) (by kernel_rfl) (by kernel_rfl) (fun _ _ _ h => h) (Or.inl ⟨by rfl, ?_⟩) hHeld ?_
                rotate_left
                · (intro w hSw; (try dsimp only at hSw); go_simp; try with_reducible rfl)
                try simp only [Act.put, List.setIfInBounds_toArray, List.set_cons_zero, List.set_cons_succ]
                refine wpAnyH_take (i := 18) (oi := ⟨_, _, _, _, _, _⟩) (v := ?_) rfl (by kernel_rfl) (by kernel_rfl) (by kernel_rfl) (fun _ _ _ h => h) (Or.inl ⟨by rfl, ?_⟩) hHeld ?_
                rotate_left
                · (intro w hSw; (try dsimp only at hSw); go_simp; try with_reducible rfl)
                try simp only [Act.put, List.setIfInBounds_toArray, List.set_cons_zero, List.set_cons_succ]
                refine wpAnyH_take (i := 19) (oi := ⟨_, _, _, _, _, _⟩) (v := undef) rfl (by kernel_rfl) (by kernel_rfl) (by kernel_rfl) (fun _ _ _ h => h) (Or.inr ⟨by rfl, rfl⟩) hHeld ?_
                try simp only [Act.put, List.setIfInBounds_toArray, List.set_cons_zero, List.set_cons_succ]
                refine wpAnyH_take (i := 20) (oi := ⟨_, _, _, _, _, _⟩) (v := undef) rfl (by kernel_rfl) (by kernel_rfl) (by kernel_rfl) (fun _ _ _ h => h) (Or.inr ⟨by rfl, rfl⟩) hHeld ?_
                try simp only [Act.put, List.setIfInBounds_toArray, List.set_cons_zero, List.set_cons_succ]
                refine wpAnyH_take (i := 21) (oi := ⟨_, _, _, _, _, _⟩) (v := undef) rfl (by kernel_rfl) (by kernel_rfl) (by kernel_rfl) (fun _ _ _ h => h) (Or.inr ⟨by rfl, rfl⟩) hHeld ?_
                try simp only [Act.put, List.setIfInBounds_toArray, List.set_cons_zero, List.set_cons_succ]
                refine wpAnyH_take (i := 22) (oi := ⟨_, _, _, _, _, _⟩) (v := undef) rfl (by kernel_rfl) (by kernel_rfl) (by kernel_rfl) (fun _ _ _ h => h) (Or.inr ⟨by rfl, rfl⟩) hHeld ?_
                try simp only [Act.put, List.setIfInBounds_toArray, List.set_cons_zero, List.set_cons_succ]
                refine wpAnyH_take (i := 23) (oi := ⟨_, _, _, _, _, _⟩) (v := undef) rfl (by kernel_rfl) (by kernel_rfl) (by kernel_rfl) (fun _ _ _ h => h) (Or.inr ⟨by rfl, rfl⟩) hHeld ?_
                try simp only [Act.put, List.setIfInBounds_toArray, List.set_cons_zero, List.set_cons_succ]
                refine wpAnyH_take (i := 24) (oi := ⟨_, _, _, _, _, _⟩) (v := undef) rfl (by kernel_rfl) (by kernel_rfl) (by kernel_rfl) (fun _ _ _ h => h) (Or.inr ⟨by rfl, rfl⟩) hHeld ?_
                try simp only [Act.put, List.setIfInBounds_toArray, List.set_cons_zero, List.set_cons_succ]
                refine wpAnyH_take (i := 25) (oi := ⟨_, _, _, _, _, _⟩) (v := undef) rfl (by kernel_rfl) (by kernel_rfl) (by kernel_rfl) (fun _ _ _ h => h) (Or.inr ⟨by rfl, rfl⟩) hHeld ?_
                try simp only [Act.put, List.setIfInBounds_toArray, List.set_cons_zero, List.set_cons_succ]
                refine wpAnyH_take (i := 26) (oi := ⟨_, _, _, _, _, _⟩) (v := undef) rfl (by kernel_rfl) (by kernel_rfl) (by kernel_rfl) (fun _ _ _ h => h) (Or.inr ⟨by rfl, rfl⟩) hHeld ?_
                try simp only [Act.put, List.setIfInBounds_toArray, List.set_cons_zero, List.set_cons_succ]
                refine wpAnyH_take (i := 27) (oi := ⟨_, _, _, _, _, _⟩) (v := undef) rfl (by kernel_rfl) (by kernel_rfl) (by kernel_rfl) (fun _ _ _ h => h) (Or.inr ⟨by rfl, rfl⟩) hHeld ?_
                try simp only [Act.put, List.setIfInBounds_toArray, List.set_cons_zero, List.set_cons_succ]
                refine wpAnyH_take (i := 28) (oi := ⟨_, _, _, _, _, _⟩) (v := undef) rfl (by kernel_rfl) (by kernel_rfl) (by kernel_rfl) (fun _ _ _ h => h) (Or.inr ⟨by rfl, rfl⟩) hHeld ?_
                try simp only [Act.put, List.setIfInBounds_toArray, List.set_cons_zero, List.set_cons_succ]
                refine wpAnyH_take (i := 29) (oi := ⟨_, _, _, _, _, _⟩) (v := undef) rfl (by kernel_rfl) (by kernel_rfl) (by kernel_rfl) (fun _ _ _ h => h) (Or.inr ⟨by rfl, rfl⟩) hHeld ?_
                try simp only [Act.put, List.setIfInBounds_toArray, List.set_cons_zero, List.set_cons_succ]
                refine wpAnyH_take (i := 30) (oi := ⟨_, _, _, _, _, _⟩) (v := undef) rfl (by kernel_rfl) (by kernel_rfl) (by kernel_rfl) (fun _ _ _ h => h) (Or.inr ⟨by rfl, rfl⟩) hHeld ?_
                try simp only [Act.put, List.setIfInBounds_toArray, List.set_cons_zero, List.set_cons_succ]
                refine wpAnyH_take (i := 31) (oi := ⟨_, _, _, _, _, _⟩) (v := undef) rfl (by kernel_rfl) (by kernel_rfl) (by kernel_rfl) (fun _ _ _ h => h) (Or.inr ⟨by rfl, rfl⟩) hHeld ?_
                try simp only [Act.put, List.setIfInBounds_toArray, List.set_cons_zero, List.set_cons_succ]
                refine wpAnyH_take (i := 32) (oi := ⟨_, _, _, _, _, _⟩) (v := undef) rfl (by kernel_rfl) (by kernel_rfl) (by kernel_rfl) (fun _ _ _ h => h) (Or.inr ⟨by rfl, rfl⟩) hHeld ?_
                try simp only [Act.put, List.setIfInBounds_toArray, List.set_cons_zero, List.set_cons_succ]
                refine wpAnyH_take (i := 33) (oi := ⟨_, _, _, _, _, _⟩) (v := undef) rfl (by kernel_rfl) (by kernel_rfl) (by kernel_rfl) (fun _ _ _ h => h) (Or.inr ⟨by rfl, rfl⟩) hHeld ?_
                try simp only [Act.put, List.setIfInBounds_toArray, List.set_cons_zero, List.set_cons_succ]
                refine wpAnyH_take (i := 34) (oi := ⟨_, _, _, _, _, _⟩) (v := undef) rfl (by kernel_rfl) (by kernel_rfl) (by kernel_rfl) (fun _ _ _ h => h) (Or.inr ⟨by rfl, rfl⟩) hHeld ?_
                try simp only [Act.put, List.setIfInBounds_toArray, List.set_cons_zero, List.set_cons_succ]
                refine wpAnyH_take (i := 35) (oi := ⟨_, _, _, _, _, _⟩) (v := undef) rfl (by kernel_rfl) (by kernel_rfl) (by kernel_rfl) (fun _ _ _ h => h) (Or.inr ⟨by rfl, rfl⟩) hHeld ?_
                try simp only [Act.put, List.setIfInBounds_toArray, List.set_cons_zero, List.set_cons_succ]
                refine wpAnyH_take (i := 36) (oi := ⟨_, _, _, _, _, _⟩) (v := ?_) rfl (by kernel_rfl) (by kernel_rfl) (by kernel_rfl) (fun _ _ _ h => h) (Or.inl ⟨by rfl, ?_⟩) hHeld ?_
                rotate_left
                · (intro w hSw; (try dsimp only at hSw); go_simp; try with_reducible rfl)
                try simp only [Act.put, List.setIfInBounds_toArray, List.set_cons_zero, List.set_cons_succ]
                refine wpAnyH_done (by kernel_rfl) ?_ _
                have HB3 := Lib.hid (below2 hB.out hbr)
                clear hbr
                go_wp2_with fail
                go_roundw
                case rel => exact ⟨k + 1, by go_num, by omega, hn, HB3, .inl ⟨rfl, HG⟩⟩
                case measure => simp [intOf]; omega
            · have hgs := bestTo_same hf.out hlt hj
              have hgb := bestTo_new hf.out hlt hj
              have hj0 : decide ((j : Int) < 0) = false := by rw [decide_eq_false_iff_not]; omega
              obtain ⟨bb2, off2, hbb, y0, y1, y2⟩ := (HH.out.1.below (below2 HB2.out hB.out)).at hj
              cases hbb
              obtain ⟨⟨⟨q, m⟩, s⟩, hx⟩ : ∃ x, l[k] = x := ⟨_, rfl⟩
              obtain ⟨⟨⟨q', m'⟩, s'⟩, hy⟩ : ∃ x, l[j] = x := ⟨_, rfl⟩
              rw [hx] at c0 c1 c2 hgs hgb
              rw [hy] at y0 y1 y2 hgs hgb
              dsimp only at c0 c1 c2 y0 y1 y2 hgs hgb
              have HC := Lib.hid (fun W (hW : Below wr.heap.size wr W) => (⟨look_below hW c0, look_below hW c1, look_below hW y1⟩ : W.cell? ⟨bb, off + k * 3, none⟩ = some (.string ⟨q.toArray⟩) ∧ W.cell? ⟨bb, off + k * 3 + 1, none⟩ = some (.int .i64 m) ∧ W.cell? ⟨bb, off + j * 3 + 1, none⟩ = some (.int .i64 m')))
              by_cases hq : q = p
              · have e1 : (q == p) = true := by simpa using hq
                by_cases hm : m ≤ n
                · have e2 : decide (m ≤ n) = true := decide_eq_true hm
                  by_cases hmm : m' < m
                  · have e3 : decide (m' < m) = true := decide_eq_true hmm
                    have HG := Lib.hid (hgb hq hm hmm)
                    clear hgs hgb hq hm hmm hx hy c2 y0 y2
                    go_wp2_with fail
                    go_region_held3 (fun W => W.cell? ⟨bb, off + k * 3, none⟩ = some (.string ⟨q.toArray⟩) ∧ W.cell? ⟨bb, off + k * 3 + 1, none⟩ = some (.int .i64 m) ∧ W.cell? ⟨bb, off + j * 3 + 1, none⟩ = some (.int .i64 m')) (exact HC.out _ hbr) (first | fail)
                    all_goals
                      have HB3 := Lib.hid (below2 hB.out hbr)
                      clear hbr
                      go_wp2_with fail
                      go_roundw
                      case rel => exact ⟨k + 1, by go_num, by omega, hn, HB3, .inr ⟨k, rfl, by omega, HG⟩⟩
                      case measure => simp [intOf]; omega
                  · have e3 : decide (m' < m) = false := decide_eq_false hmm
                    have HG := Lib.hid (hgs (fun _ _ => by omega))
                    clear hgs hgb hq hm hmm hx hy c2 y0 y2
                    go_wp2_with fail
                    go_region_held3 (fun W => W.cell? ⟨bb, off + k * 3, none⟩ = some (.string ⟨q.toArray⟩) ∧ W.cell? ⟨bb, off + k * 3 + 1, none⟩ = some (.int .i64 m) ∧ W.cell? ⟨bb, off + j * 3 + 1, none⟩ = some (.int .i64 m')) (exact HC.out _ hbr) (first | fail)
                    all_goals
                      have HB3 := Lib.hid (below2 hB.out hbr)
                      clear hbr
                      go_wp2_with fail
                      go_roundw
                      case rel => exact ⟨k + 1, by go_num, by omega, hn, HB3, .inr ⟨j, rfl, by omega, HG⟩⟩
                      case measure => simp [intOf]; omega
                · have e2 : decide (m ≤ n) = false := decide_eq_false hm
                  have HG := Lib.hid (hgs (fun _ h => absurd h hm))
                  clear hgs hgb hq hm hx hy c2 y0 y2
                  go_wp2_with fail
                  refine wp_region_held_drew (S := (fun W => W.cell? ⟨bb, off + k * 3, none⟩ = some (.string ⟨q.toArray⟩) ∧ W.cell? ⟨bb, off + k * 3 + 1, none⟩ = some (.int .i64 m) ∧ W.cell? ⟨bb, off + j * 3 + 1, none⟩ = some (.int .i64 m'))) (by kernel_rfl) (HC.out _ hbr) (fun hHeld => ?_)
                  refine wpAnyH_take (i := 0) (oi := ⟨_, _, _, _, _, _⟩) (v := ?_) rfl (by kernel_rfl) (by kernel_rfl) (by kernel_rfl) (fun _ _ _ h => h) (Or.inl ⟨by rfl, ?_⟩) hHeld ?_
                  rotate_left
                  · (intro w hSw; (try dsimp only at hSw); go_simp; try with_reducible rfl)
                  try simp only [Act.put, List.setIfInBounds_toArray, List.set_cons_zero, List.set_cons_succ]
                  refine wpAnyH_take (i := 1) (oi := ⟨_, _, _, _, _, _⟩) (v := ?_) rfl (by kernel_rfl) (by kernel_rfl) (by kernel_rfl) (fun _ _ _ h => h) (Or.inl ⟨by rfl, ?_⟩) hHeld ?_
                  rotate_left
                  · (intro w hSw; (try dsimp only at hSw); go_simp; try with_reducible rfl)
                  try simp only [Act.put, List.setIfInBounds_toArray, List.set_cons_zero, List.set_cons_succ]
                  refine wpAnyH_take (i := 2) (oi := ⟨_, _, _, _, _, _⟩) (v := ?_) rfl (by kernel_rfl) (by kernel_rfl) (by kernel_rfl) (fun _ _ _ h => h) (Or.inl ⟨by rfl, ?_⟩) hHeld ?_
                  rotate_left
                  · (intro w hSw; (try dsimp only at hSw); go_simp; try with_reducible rfl)
                  try simp only [Act.put, List.setIfInBounds_toArray, List.set_cons_zero, List.set_cons_succ]
                  refine wpAnyH_take (i := 3) (oi := ⟨_, _, _, _, _, _⟩) (v := ?_) rfl (by kernel_rfl) (by kernel_rfl) (by kernel_rfl) (fun _ _ _ h => h) (Or.inl ⟨by rfl, ?_⟩) hHeld ?_
                  rotate_left
                  · (intro w hSw; (try dsimp only at hSw); go_simp; try with_reducible rfl)
                  try simp only [Act.put, List.setIfInBounds_toArray, List.set_cons_zero, List.set_cons_succ]
                  refine wpAnyH_take (i := 4) (oi := ⟨_, _, _, _, _, _⟩) (v := ?_) rfl (by kernel_rfl) (by kernel_rfl) (by kernel_rfl) (fun _ _ _ h => h) (Or.inl ⟨by rfl, ?_⟩) hHeld ?_
                  rotate_left
                  · (intro w hSw; (try dsimp only at hSw); go_simp; try with_reducible rfl)
                  try simp only [Act.put, List.setIfInBounds_toArray, List.set_cons_zero, List.set_cons_succ]
                  refine wpAnyH_take (i := 5) (oi := ⟨_, _, _, _, _, _⟩) (v := ?_) rfl (by kernel_rfl) (by kernel_rfl) (by kernel_rfl) (fun _ _ _ h => h) (Or.inl ⟨by rfl, ?_⟩) hHeld ?_
                  rotate_left
                  · (intro w hSw; (try dsimp only at hSw); go_simp; try with_reducible rfl)
                  try simp only [Act.put, List.setIfInBounds_toArray, List.set_cons_zero, List.set_cons_succ]
                  refine wpAnyH_take (i := 6) (oi := ⟨_, _, _, _, _, _⟩) (v := ?_) rfl (by kernel_rfl) (by kernel_rfl) (by kernel_rfl) (fun _ _ _ h => h) (Or.inl ⟨by rfl, ?_⟩) hHeld ?_
                  rotate_left
                  · (intro w hSw; (try dsimp only at hSw); go_simp; try with_reducible rfl)
                  try simp only [Act.put, List.setIfInBounds_toArray, List.set_cons_zero, List.set_cons_succ]
                  refine wpAnyH_take (i := 7) (oi := ⟨_, _, _, _, _, _⟩) (v := ?_) rfl (by kernel_rfl) (by kernel_rfl) (by kernel_rfl) (fun _ _ _ h => h) (Or.inl ⟨by rfl, ?_⟩) hHeld ?_
                  rotate_left
                  · (intro w hSw; (try dsimp only at hSw); go_simp; try with_reducible rfl)
                  try simp only [Act.put, List.setIfInBounds_toArray, List.set_cons_zero, List.set_cons_succ]
                  refine wpAnyH_take (i := 8) (oi := ⟨_, _, _, _, _, _⟩) (v := ?_) rfl (by kernel_rfl) (by kernel_rfl) (by kernel_rfl) (fun _ _ _ h => h) (Or.inl ⟨by rfl, ?_⟩) hHeld ?_
                  rotate_left
                  · (intro w hSw; (try dsimp only at hSw); go_simp; try with_reducible rfl)
                  try simp only [Act.put, List.setIfInBounds_toArray, List.set_cons_zero, List.set_cons_succ]
                  refine wpAnyH_take (i := 9) (oi := ⟨_, _, _, _, _, _⟩) (v := ?_) rfl (by kernel_rfl) (by kernel_rfl) (by kernel_rfl) (fun _ _ _ h => h) (Or.inl ⟨by rfl, ?_⟩) hHeld ?_
                  rotate_left
                  · (intro w hSw; (try dsimp only at hSw); go_simp; try with_reducible rfl)
                  try simp only [Act.put, List.setIfInBounds_toArray, List.set_cons_zero, List.set_cons_succ]
                  refine wpAnyH_take (i := 10) (oi := ⟨_, _, _, _, _, _⟩) (v := ?_) rfl (by kernel_rfl) (by kernel_rfl) (by kernel_rfl) (fun _ _ _ h => h) (Or.inl ⟨by rfl, ?_⟩) hHeld ?_
                  rotate_left
                  · (intro w hSw; (try dsimp only at hSw); go_simp; try with_reducible rfl)
                  try simp only [Act.put, List.setIfInBounds_toArray, List.set_cons_zero, List.set_cons_succ]
                  refine wpAnyH_take (i := 11) (oi := ⟨_, _, _, _, _, _⟩) (v := ?_) rfl (by kernel_rfl) (by kernel_rfl) (by kernel_rfl) (fun _ _ _ h => h) (Or.inl ⟨by rfl, ?_⟩) hHeld ?_
                  rotate_left
                  · (intro w hSw; (try dsimp only at hSw); go_simp; try with_reducible rfl)
                  try simp only [Act.put, List.setIfInBounds_toArray, List.set_cons_zero, List.set_cons_succ]
                  refine wpAnyH_take (i := 12) (oi := ⟨_, _, _, _, _, _⟩) (v := ?_) rfl (by kernel_rfl) (by kernel_rfl) (by kernel_rfl) (fun _ _ _ h => h) (Or.inl ⟨by rfl, ?_⟩) hHeld ?_
                  rotate_left
                  · (intro w hSw; (try dsimp only at hSw); go_simp; try with_reducible rfl)
                  try simp only [Act.put, List.setIfInBounds_toArray, List.set_cons_zero, List.set_cons_succ]
                  refine wpAnyH_take (i := 13) (oi := ⟨_, _, _, _, _, _⟩) (v := ?_) rfl (by kernel_rfl) (by kernel_rfl) (by kernel_rfl) (fun _ _ _ h => h) (Or.inl ⟨by rfl, ?_⟩) hHeld ?_
                  rotate_left
                  · (intro w hSw; (try dsimp only at hSw); go_simp; try with_reducible rfl)
                  try simp only [Act.put, List.setIfInBounds_toArray, List.set_cons_zero, List.set_cons_succ]
                  refine wpAnyH_take (i := 14) (oi := ⟨_, _, _, _, _, _⟩) (v := ?_) rfl (by kernel_rfl) (by kernel_rfl) (by kernel_rfl) (fun _ _ _ h => h) (Or.inl ⟨by rfl, ?_⟩) hHeld ?_
                  rotate_left
                  · (intro w hSw; (try dsimp only at hSw); go_simp; try with_reducible rfl)
                  try simp only [Act.put, List.setIfInBounds_toArray, List.set_cons_zero, List.set_cons_succ]
                  refine wpAnyH_take (i := 15) (oi := ⟨_, _, _, _, _, _⟩) (v := ?_) rfl (by kernel_rfl) (by kernel_rfl) (by kernel_rfl) (fun _ _ _ h => h) (Or.inl ⟨by rfl, ?_⟩) hHeld ?_
                  rotate_left
                  · (intro w hSw; (try dsimp only at hSw); go_simp; try with_reducible rfl)
                  try simp only [Act.put, List.setIfInBounds_toArray, List.set_cons_zero, List.set_cons_succ]
                  refine wpAnyH_take (i := 16) (oi := ⟨_, _, _, _, _, _⟩) (v := ?_) rfl (by kernel_rfl) (by kernel_rfl) (by kernel_rfl) (fun _ _ _ h => h) (Or.inl ⟨by rfl, ?_⟩) hHeld ?_
                  rotate_left
                  · (intro w hSw; (try dsimp only at hSw); go_simp; try with_reducible rfl)
                  try simp only [Act.put, List.setIfInBounds_toArray, List.set_cons_zero, List.set_cons_succ]
                  refine wpAnyH_take (i := 17) (oi := ⟨_, _, _, _, _, _⟩) (v := ?_) rfl (by kernel_rfl) (by kernel_rfl) (by kernel_rfl) (fun _ _ _ h => h) (Or.inl ⟨by rfl, ?_⟩) hHeld ?_
                  rotate_left
                  · (intro w hSw; (try dsimp only at hSw); go_simp; try with_reducible rfl)
                  try simp only [Act.put, List.setIfInBounds_toArray, List.set_cons_zero, List.set_cons_succ]
                  refine wpAnyH_take (i := 18) (oi := ⟨_, _, _, _, _, _⟩) (v := ?_) rfl (by kernel_rfl) (by kernel_rfl) (by kernel_rfl) (fun _ _ _ h => h) (Or.inl ⟨by rfl, ?_⟩) hHeld ?_
                  rotate_left
                  · (intro w hSw; (try dsimp only at hSw); go_simp; try with_reducible rfl)
                  try simp only [Act.put, List.setIfInBounds_toArray, List.set_cons_zero, List.set_cons_succ]
                  refine wpAnyH_take (i := 19) (oi := ⟨_, _, _, _, _, _⟩) (v := undef) rfl (by kernel_rfl) (by kernel_rfl) (by kernel_rfl) (fun _ _ _ h => h) (Or.inr ⟨by rfl, rfl⟩) hHeld ?_
                  try simp only [Act.put, List.setIfInBounds_toArray, List.set_cons_zero, List.set_cons_succ]
                  refine wpAnyH_take (i := 20) (oi := ⟨_, _, _, _, _, _⟩) (v := undef) rfl (by kernel_rfl) (by kernel_rfl) (by kernel_rfl) (fun _ _ _ h => h) (Or.inr ⟨by rfl, rfl⟩) hHeld ?_
                  try simp only [Act.put, List.setIfInBounds_toArray, List.set_cons_zero, List.set_cons_succ]
                  refine wpAnyH_take (i := 21) (oi := ⟨_, _, _, _, _, _⟩) (v := undef) rfl (by kernel_rfl) (by kernel_rfl) (by kernel_rfl) (fun _ _ _ h => h) (Or.inr ⟨by rfl, rfl⟩) hHeld ?_
                  try simp only [Act.put, List.setIfInBounds_toArray, List.set_cons_zero, List.set_cons_succ]
                  refine wpAnyH_take (i := 22) (oi := ⟨_, _, _, _, _, _⟩) (v := undef) rfl (by kernel_rfl) (by kernel_rfl) (by kernel_rfl) (fun _ _ _ h => h) (Or.inr ⟨by rfl, rfl⟩) hHeld ?_
                  try simp only [Act.put, List.setIfInBounds_toArray, List.set_cons_zero, List.set_cons_succ]
                  refine wpAnyH_take (i := 23) (oi := ⟨_, _, _, _, _, _⟩) (v := undef) rfl (by kernel_rfl) (by kernel_rfl) (by kernel_rfl) (fun _ _ _ h => h) (Or.inr ⟨by rfl, rfl⟩) hHeld ?_
                  try simp only [Act.put, List.setIfInBounds_toArray, List.set_cons_zero, List.set_cons_succ]
                  refine wpAnyH_take (i := 24) (oi := ⟨_, _, _, _, _, _⟩) (v := undef) rfl (by kernel_rfl) (by kernel_rfl) (by kernel_rfl) (fun _ _ _ h => h) (Or.inr ⟨by rfl, rfl⟩) hHeld ?_
                  try simp only [Act.put, List.setIfInBounds_toArray, List.set_cons_zero, List.set_cons_succ]
                  refine wpAnyH_take (i := 25) (oi := ⟨_, _, _, _, _, _⟩) (v := undef) rfl (by kernel_rfl) (by kernel_rfl) (by kernel_rfl) (fun _ _ _ h => h) (Or.inr ⟨by rfl, rfl⟩) hHeld ?_
                  try simp only [Act.put, List.setIfInBounds_toArray, List.set_cons_zero, List.set_cons_succ]
                  refine wpAnyH_take (i := 26) (oi := ⟨_, _, _, _, _, _⟩) (v := undef) rfl (by kernel_rfl) (by kernel_rfl) (by kernel_rfl) (fun _ _ _ h => h) (Or.inr ⟨by rfl, rfl⟩) hHeld ?_
                  try simp only [Act.put, List.setIfInBounds_toArray, List.set_cons_zero, List.set_cons_succ]
                  refine wpAnyH_take (i := 27) (oi := ⟨_, _, _, _, _, _⟩) (v := undef) rfl (by kernel_rfl) (by kernel_rfl) (by kernel_rfl) (fun _ _ _ h => h) (Or.inr ⟨by rfl, rfl⟩) hHeld ?_
                  try simp only [Act.put, List.setIfInBounds_toArray, List.set_cons_zero, List.set_cons_succ]
                  refine wpAnyH_take (i := 28) (oi := ⟨_, _, _, _, _, _⟩) (v := undef) rfl (by kernel_rfl) (by kernel_rfl) (by kernel_rfl) (fun _ _ _ h => h) (Or.inr ⟨by rfl, rfl⟩) hHeld ?_
                  try simp only [Act.put, List.setIfInBounds_toArray, List.set_cons_zero, List.set_cons_succ]
                  refine wpAnyH_take (i := 29) (oi := ⟨_, _, _, _, _, _⟩) (v := undef) rfl (by kernel_rfl) (by kernel_rfl) (by kernel_rfl) (fun _ _ _ h => h) (Or.inr ⟨by rfl, rfl⟩) hHeld ?_
                  try simp only [Act.put, List.setIfInBounds_toArray, List.set_cons_zero, List.set_cons_succ]
                  refine wpAnyH_take (i := 30) (oi := ⟨_, _, _, _, _, _⟩) (v := undef) rfl (by kernel_rfl) (by kernel_rfl) (by kernel_rfl) (fun _ _ _ h => h) (Or.inr ⟨by rfl, rfl⟩) hHeld ?_
                  try simp only [Act.put, List.setIfInBounds_toArray, List.set_cons_zero, List.set_cons_succ]
                  refine wpAnyH_take (i := 31) (oi := ⟨_, _, _, _, _, _⟩) (v := undef) rfl (by kernel_rfl) (by kernel_rfl) (by kernel_rfl) (fun _ _ _ h => h) (Or.inr ⟨by rfl, rfl⟩) hHeld ?_
                  try simp only [Act.put, List.setIfInBounds_toArray, List.set_cons_zero, List.set_cons_succ]
                  refine wpAnyH_take (i := 32) (oi := ⟨_, _, _, _, _, _⟩) (v := undef) rfl (by kernel_rfl) (by kernel_rfl) (by kernel_rfl) (fun _ _ _ h => h) (Or.inr ⟨by rfl, rfl⟩) hHeld ?_
                  try simp only [Act.put, List.setIfInBounds_toArray, List.set_cons_zero, List.set_cons_succ]
                  refine wpAnyH_take (i := 33) (oi := ⟨_, _, _, _, _, _⟩) (v := undef) rfl (by kernel_rfl) (by kernel_rfl) (by kernel_rfl) (fun _ _ _ h => h) (Or.inr ⟨by rfl, rfl⟩) hHeld ?_
                  try simp only [Act.put, List.setIfInBounds_toArray, List.set_cons_zero, List.set_cons_succ]
                  refine wpAnyH_take (i := 34) (oi := ⟨_, _, _, _, _, _⟩) (v := undef) rfl (by kernel_rfl) (by kernel_rfl) (by kernel_rfl) (fun _ _ _ h => h) (Or.inr ⟨by rfl, rfl⟩) hHeld ?_
                  try simp only [Act.put, List.setIfInBounds_toArray, List.set_cons_zero, List.set_cons_succ]
                  refine wpAnyH_take (i := 35) (oi := ⟨_, _, _, _, _, _⟩) (v := undef) rfl (by kernel_rfl) (by kernel_rfl) (by kernel_rfl) (fun _ _ _ h => h) (Or.inr ⟨by rfl, rfl⟩) hHeld ?_
                  try simp only [Act.put, List.setIfInBounds_toArray, List.set_cons_zero, List.set_cons_succ]
                  refine wpAnyH_take (i := 36) (oi := ⟨_, _, _, _, _, _⟩) (v := ?_) rfl (by kernel_rfl) (by kernel_rfl) (by kernel_rfl) (fun _ _ _ h => h) (Or.inl ⟨by rfl, ?_⟩) hHeld ?_
                  rotate_left
                  · (intro w hSw; (try dsimp only at hSw); go_simp; try with_reducible rfl)
                  try simp only [Act.put, List.setIfInBounds_toArray, List.set_cons_zero, List.set_cons_succ]
                  refine wpAnyH_done (by kernel_rfl) ?_ _
                  have HB3 := Lib.hid (below2 hB.out hbr)
                  clear hbr
                  go_wp2_with fail
                  go_roundw
                  case rel => exact ⟨k + 1, by go_num, by omega, hn, HB3, .inr ⟨j, rfl, by omega, HG⟩⟩
                  case measure => simp [intOf]; omega
              · have e1 : (q == p) = false := by simpa using hq
                have HG := Lib.hid (hgs (fun e _ => absurd e hq))
                clear hgs hgb hq hx hy c2 y0 y2
                go_wp2_with fail
                refine wp_region_held_drew (S := (fun W => W.cell? ⟨bb, off + k * 3, none⟩ = some (.string ⟨q.toArray⟩) ∧ W.cell? ⟨bb, off + k * 3 + 1, none⟩ = some (.int .i64 m) ∧ W.cell? ⟨bb, off + j * 3 + 1, none⟩ = some (.int .i64 m'))) (by kernel_rfl) (HC.out _ hbr) (fun hHeld => ?_)
                refine wpAnyH_take (i := 0) (oi := ⟨_, _, _, _, _, _⟩) (v := ?_) rfl (by kernel_rfl) (by kernel_rfl) (by kernel_rfl) (fun _ _ _ h => h) (Or.inl ⟨by rfl, ?_⟩) hHeld ?_
                rotate_left
                · (intro w hSw; (try dsimp only at hSw); go_simp; try with_reducible rfl)
                try simp only [Act.put, List.setIfInBounds_toArray, List.set_cons_zero, List.set_cons_succ]
                refine wpAnyH_take (i := 1) (oi := ⟨_, _, _, _, _, _⟩) (v := ?_) rfl (by kernel_rfl) (by kernel_rfl) (by kernel_rfl) (fun _ _ _ h => h) (Or.inl ⟨by rfl, ?_⟩) hHeld ?_
                rotate_left
                · (intro w hSw; (try dsimp only at hSw); go_simp; try with_reducible rfl)
                try simp only [Act.put, List.setIfInBounds_toArray, List.set_cons_zero, List.set_cons_succ]
                refine wpAnyH_take (i := 2) (oi := ⟨_, _, _, _, _, _⟩) (v := ?_) rfl (by kernel_rfl) (by kernel_rfl) (by kernel_rfl) (fun _ _ _ h => h) (Or.inl ⟨by rfl, ?_⟩) hHeld ?_
                rotate_left
                · (intro w hSw; (try dsimp only at hSw); go_simp; try with_reducible rfl)
                try simp only [Act.put, List.setIfInBounds_toArray, List.set_cons_zero, List.set_cons_succ]
                refine wpAnyH_take (i := 3) (oi := ⟨_, _, _, _, _, _⟩) (v := ?_) rfl (by kernel_rfl) (by kernel_rfl) (by kernel_rfl) (fun _ _ _ h => h) (Or.inl ⟨by rfl, ?_⟩) hHeld ?_
                rotate_left
                · (intro w hSw; (try dsimp only at hSw); go_simp; try with_reducible rfl)
                try simp only [Act.put, List.setIfInBounds_toArray, List.set_cons_zero, List.set_cons_succ]
                refine wpAnyH_take (i := 4) (oi := ⟨_, _, _, _, _, _⟩) (v := ?_) rfl (by kernel_rfl) (by kernel_rfl) (by kernel_rfl) (fun _ _ _ h => h) (Or.inl ⟨by rfl, ?_⟩) hHeld ?_
                rotate_left
                · (intro w hSw; (try dsimp only at hSw); go_simp; try with_reducible rfl)
                try simp only [Act.put, List.setIfInBounds_toArray, List.set_cons_zero, List.set_cons_succ]
                refine wpAnyH_take (i := 5) (oi := ⟨_, _, _, _, _, _⟩) (v := ?_) rfl (by kernel_rfl) (by kernel_rfl) (by kernel_rfl) (fun _ _ _ h => h) (Or.inl ⟨by rfl, ?_⟩) hHeld ?_
                rotate_left
                · (intro w hSw; (try dsimp only at hSw); go_simp; try with_reducible rfl)
                try simp only [Act.put, List.setIfInBounds_toArray, List.set_cons_zero, List.set_cons_succ]
                refine wpAnyH_take (i := 6) (oi := ⟨_, _, _, _, _, _⟩) (v := ?_) rfl (by kernel_rfl) (by kernel_rfl) (by kernel_rfl) (fun _ _ _ h => h) (Or.inl ⟨by rfl, ?_⟩) hHeld ?_
                rotate_left
                · (intro w hSw; (try dsimp only at hSw); go_simp; try with_reducible rfl)
                try simp only [Act.put, List.setIfInBounds_toArray, List.set_cons_zero, List.set_cons_succ]
                refine wpAnyH_take (i := 7) (oi := ⟨_, _, _, _, _, _⟩) (v := ?_) rfl (by kernel_rfl) (by kernel_rfl) (by kernel_rfl) (fun _ _ _ h => h) (Or.inl ⟨by rfl, ?_⟩) hHeld ?_
                rotate_left
                · (intro w hSw; (try dsimp only at hSw); go_simp; try with_reducible rfl)
                try simp only [Act.put, List.setIfInBounds_toArray, List.set_cons_zero, List.set_cons_succ]
                refine wpAnyH_take (i := 8) (oi := ⟨_, _, _, _, _, _⟩) (v := ?_) rfl (by kernel_rfl) (by kernel_rfl) (by kernel_rfl) (fun _ _ _ h => h) (Or.inl ⟨by rfl, ?_⟩) hHeld ?_
                rotate_left
                · (intro w hSw; (try dsimp only at hSw); go_simp; try with_reducible rfl)
                try simp only [Act.put, List.setIfInBounds_toArray, List.set_cons_zero, List.set_cons_succ]
                refine wpAnyH_take (i := 9) (oi := ⟨_, _, _, _, _, _⟩) (v := undef) rfl (by kernel_rfl) (by kernel_rfl) (by kernel_rfl) (fun _ _ _ h => h) (Or.inr ⟨by rfl, rfl⟩) hHeld ?_
                try simp only [Act.put, List.setIfInBounds_toArray, List.set_cons_zero, List.set_cons_succ]
                refine wpAnyH_take (i := 10) (oi := ⟨_, _, _, _, _, _⟩) (v := undef) rfl (by kernel_rfl) (by kernel_rfl) (by kernel_rfl) (fun _ _ _ h => h) (Or.inr ⟨by rfl, rfl⟩) hHeld ?_
                try simp only [Act.put, List.setIfInBounds_toArray, List.set_cons_zero, List.set_cons_succ]
                refine wpAnyH_take (i := 11) (oi := ⟨_, _, _, _, _, _⟩) (v := undef) rfl (by kernel_rfl) (by kernel_rfl) (by kernel_rfl) (fun _ _ _ h => h) (Or.inr ⟨by rfl, rfl⟩) hHeld ?_
                try simp only [Act.put, List.setIfInBounds_toArray, List.set_cons_zero, List.set_cons_succ]
                refine wpAnyH_take (i := 12) (oi := ⟨_, _, _, _, _, _⟩) (v := undef) rfl (by kernel_rfl) (by kernel_rfl) (by kernel_rfl) (fun _ _ _ h => h) (Or.inr ⟨by rfl, rfl⟩) hHeld ?_
                try simp only [Act.put, List.setIfInBounds_toArray, List.set_cons_zero, List.set_cons_succ]
                refine wpAnyH_take (i := 13) (oi := ⟨_, _, _, _, _, _⟩) (v := undef) rfl (by kernel_rfl) (by kernel_rfl) (by kernel_rfl) (fun _ _ _ h => h) (Or.inr ⟨by rfl, rfl⟩) hHeld ?_
                try simp only [Act.put, List.setIfInBounds_toArray, List.set_cons_zero, List.set_cons_succ]
                refine wpAnyH_take (i := 14) (oi := ⟨_, _, _, _, _, _⟩) (v := undef) rfl (by kernel_rfl) (by kernel_rfl) (by kernel_rfl) (fun _ _ _ h => h) (Or.inr ⟨by rfl, rfl⟩) hHeld ?_
                try simp only [Act.put, List.setIfInBounds_toArray, List.set_cons_zero, List.set_cons_succ]
                refine wpAnyH_take (i := 15) (oi := ⟨_, _, _, _, _, _⟩) (v := undef) rfl (by kernel_rfl) (by kernel_rfl) (by kernel_rfl) (fun _ _ _ h => h) (Or.inr ⟨by rfl, rfl⟩) hHeld ?_
                try simp only [Act.put, List.setIfInBounds_toArray, List.set_cons_zero, List.set_cons_succ]
                refine wpAnyH_take (i := 16) (oi := ⟨_, _, _, _, _, _⟩) (v := undef) rfl (by kernel_rfl) (by kernel_rfl) (by kernel_rfl) (fun _ _ _ h => h) (Or.inr ⟨by rfl, rfl⟩) hHeld ?_
                try simp only [Act.put, List.setIfInBounds_toArray, List.set_cons_zero, List.set_cons_succ]
                refine wpAnyH_take (i := 17) (oi := ⟨_, _, _, _, _, _⟩) (v := ?_) rfl (by kernel_rfl) (by kernel_rfl) (by kernel_rfl) (fun _ _ _ h => h) (Or.inl ⟨by rfl, ?_⟩) hHeld ?_
                rotate_left
                · (intro w hSw; (try dsimp only at hSw); go_simp; try with_reducible rfl)
                try simp only [Act.put, List.setIfInBounds_toArray, List.set_cons_zero, List.set_cons_succ]
                refine wpAnyH_take (i := 18) (oi := ⟨_, _, _, _, _, _⟩) (v := ?_) rfl (by kernel_rfl) (by kernel_rfl) (by kernel_rfl) (fun _ _ _ h => h) (Or.inl ⟨by rfl, ?_⟩) hHeld ?_
                rotate_left
                · (intro w hSw; (try dsimp only at hSw); go_simp; try with_reducible rfl)
                try simp only [Act.put, List.setIfInBounds_toArray, List.set_cons_zero, List.set_cons_succ]
                refine wpAnyH_take (i := 19) (oi := ⟨_, _, _, _, _, _⟩) (v := undef) rfl (by kernel_rfl) (by kernel_rfl) (by kernel_rfl) (fun _ _ _ h => h) (Or.inr ⟨by rfl, rfl⟩) hHeld ?_
                try simp only [Act.put, List.setIfInBounds_toArray, List.set_cons_zero, List.set_cons_succ]
                refine wpAnyH_take (i := 20) (oi := ⟨_, _, _, _, _, _⟩) (v := undef) rfl (by kernel_rfl) (by kernel_rfl) (by kernel_rfl) (fun _ _ _ h => h) (Or.inr ⟨by rfl, rfl⟩) hHeld ?_
                try simp only [Act.put, List.setIfInBounds_toArray, List.set_cons_zero, List.set_cons_succ]
                refine wpAnyH_take (i := 21) (oi := ⟨_, _, _, _, _, _⟩) (v := undef) rfl (by kernel_rfl) (by kernel_rfl) (by kernel_rfl) (fun _ _ _ h => h) (Or.inr ⟨by rfl, rfl⟩) hHeld ?_
                try simp only [Act.put, List.setIfInBounds_toArray, List.set_cons_zero, List.set_cons_succ]
                refine wpAnyH_take (i := 22) (oi := ⟨_, _, _, _, _, _⟩) (v := undef) rfl (by kernel_rfl) (by kernel_rfl) (by kernel_rfl) (fun _ _ _ h => h) (Or.inr ⟨by rfl, rfl⟩) hHeld ?_
                try simp only [Act.put, List.setIfInBounds_toArray, List.set_cons_zero, List.set_cons_succ]
                refine wpAnyH_take (i := 23) (oi := ⟨_, _, _, _, _, _⟩) (v := undef) rfl (by kernel_rfl) (by kernel_rfl) (by kernel_rfl) (fun _ _ _ h => h) (Or.inr ⟨by rfl, rfl⟩) hHeld ?_
                try simp only [Act.put, List.setIfInBounds_toArray, List.set_cons_zero, List.set_cons_succ]
                refine wpAnyH_take (i := 24) (oi := ⟨_, _, _, _, _, _⟩) (v := undef) rfl (by kernel_rfl) (by kernel_rfl) (by kernel_rfl) (fun _ _ _ h => h) (Or.inr ⟨by rfl, rfl⟩) hHeld ?_
                try simp only [Act.put, List.setIfInBounds_toArray, List.set_cons_zero, List.set_cons_succ]
                refine wpAnyH_take (i := 25) (oi := ⟨_, _, _, _, _, _⟩) (v := undef) rfl (by kernel_rfl) (by kernel_rfl) (by kernel_rfl) (fun _ _ _ h => h) (Or.inr ⟨by rfl, rfl⟩) hHeld ?_
                try simp only [Act.put, List.setIfInBounds_toArray, List.set_cons_zero, List.set_cons_succ]
                refine wpAnyH_take (i := 26) (oi := ⟨_, _, _, _, _, _⟩) (v := undef) rfl (by kernel_rfl) (by kernel_rfl) (by kernel_rfl) (fun _ _ _ h => h) (Or.inr ⟨by rfl, rfl⟩) hHeld ?_
                try simp only [Act.put, List.setIfInBounds_toArray, List.set_cons_zero, List.set_cons_succ]
                refine wpAnyH_take (i := 27) (oi := ⟨_, _, _, _, _, _⟩) (v := undef) rfl (by kernel_rfl) (by kernel_rfl) (by kernel_rfl) (fun _ _ _ h => h) (Or.inr ⟨by rfl, rfl⟩) hHeld ?_
                try simp only [Act.put, List.setIfInBounds_toArray, List.set_cons_zero, List.set_cons_succ]
                refine wpAnyH_take (i := 28) (oi := ⟨_, _, _, _, _, _⟩) (v := undef) rfl (by kernel_rfl) (by kernel_rfl) (by kernel_rfl) (fun _ _ _ h => h) (Or.inr ⟨by rfl, rfl⟩) hHeld ?_
                try simp only [Act.put, List.setIfInBounds_toArray, List.set_cons_zero, List.set_cons_succ]
                refine wpAnyH_take (i := 29) (oi := ⟨_, _, _, _, _, _⟩) (v := undef) rfl (by kernel_rfl) (by kernel_rfl) (by kernel_rfl) (fun _ _ _ h => h) (Or.inr ⟨by rfl, rfl⟩) hHeld ?_
                try simp only [Act.put, List.setIfInBounds_toArray, List.set_cons_zero, List.set_cons_succ]
                refine wpAnyH_take (i := 30) (oi := ⟨_, _, _, _, _, _⟩) (v := undef) rfl (by kernel_rfl) (by kernel_rfl) (by kernel_rfl) (fun _ _ _ h => h) (Or.inr ⟨by rfl, rfl⟩) hHeld ?_
                try simp only [Act.put, List.setIfInBounds_toArray, List.set_cons_zero, List.set_cons_succ]
                refine wpAnyH_take (i := 31) (oi := ⟨_, _, _, _, _, _⟩) (v := undef) rfl (by kernel_rfl) (by kernel_rfl) (by kernel_rfl) (fun _ _ _ h => h) (Or.inr ⟨by rfl, rfl⟩) hHeld ?_
                try simp only [Act.put, List.setIfInBounds_toArray, List.set_cons_zero, List.set_cons_succ]
                refine wpAnyH_take (i := 32) (oi := ⟨_, _, _, _, _, _⟩) (v := undef) rfl (by kernel_rfl) (by kernel_rfl) (by kernel_rfl) (fun _ _ _ h => h) (Or.inr ⟨by rfl, rfl⟩) hHeld ?_
                try simp only [Act.put, List.setIfInBounds_toArray, List.set_cons_zero, List.set_cons_succ]
                refine wpAnyH_take (i := 33) (oi := ⟨_, _, _, _, _, _⟩) (v := undef) rfl (by kernel_rfl) (by kernel_rfl) (by kernel_rfl) (fun _ _ _ h => h) (Or.inr ⟨by rfl, rfl⟩) hHeld ?_
                try simp only [Act.put, List.setIfInBounds_toArray, List.set_cons_zero, List.set_cons_succ]
                refine wpAnyH_take (i := 34) (oi := ⟨_, _, _, _, _, _⟩) (v := undef) rfl (by kernel_rfl) (by kernel_rfl) (by kernel_rfl) (fun _ _ _ h => h) (Or.inr ⟨by rfl, rfl⟩) hHeld ?_
                try simp only [Act.put, List.setIfInBounds_toArray, List.set_cons_zero, List.set_cons_succ]
                refine wpAnyH_take (i := 35) (oi := ⟨_, _, _, _, _, _⟩) (v := undef) rfl (by kernel_rfl) (by kernel_rfl) (by kernel_rfl) (fun _ _ _ h => h) (Or.inr ⟨by rfl, rfl⟩) hHeld ?_
                try simp only [Act.put, List.setIfInBounds_toArray, List.set_cons_zero, List.set_cons_succ]
                refine wpAnyH_take (i := 36) (oi := ⟨_, _, _, _, _, _⟩) (v := ?_) rfl (by kernel_rfl) (by kernel_rfl) (by kernel_rfl) (fun _ _ _ h => h) (Or.inl ⟨by rfl, ?_⟩) hHeld ?_
                rotate_left
                · (intro w hSw; (try dsimp only at hSw); go_simp; try with_reducible rfl)
                try simp only [Act.put, List.setIfInBounds_toArray, List.set_cons_zero, List.set_cons_succ]
                refine wpAnyH_done (by kernel_rfl) ?_ _
                have HB3 := Lib.hid (below2 hB.out hbr)
                clear hbr
                go_wp2_with fail
                go_roundw
                case rel => exact ⟨k + 1, by go_num, by omega, hn, HB3, .inr ⟨j, rfl, by omega, HG⟩⟩
                case measure => simp [intOf]; omega
          · obtain rfl : k = l.length := by omega
            have hd1 : decide ((l.length : Int) < (l.length : Int)) = false := by simp
            have HB3 := Lib.hid (below2 HB2.out hB.out)
            have HE3 := Lib.hid (HE2.out.below hB.out)
            rcases hor with ⟨rfl, hf⟩ | ⟨j, rfl, hj, hf⟩
            · have HO2 := Lib.hid (show asX l p n = none by rw [HO.out, noneTo_all hf.out]; rfl)
              obtain ⟨⟨e0, e1, e2, e3, e4⟩, ⟨f0, f1, f2, f3, f4⟩, hlE⟩ := HE3.out.five2
              clear hf
              go_wp2_with fail
              have hkk := keeps_sets5 w.heap.size wr (.string ⟨#[]⟩) (.int .i64 0) (.int .i64 0) (.int .i64 0) (.slice none 0 0)
              exact ret_ent3 rfl rfl w.heap.size _ _ _ _ _ _ _ rfl rfl rfl (HE3.out.sets5 _ _ _ _ _) ⟨.slice none 0 0, by rw [HO2.out]; rfl, by rw [HO2.out]; exact World.ownsRow_nil _ _ _ _, hkk.on HB3.out (Nat.le_refl _) HB3.out.size⟩
            · have HO2 := Lib.hid (show asX l p n = told (some l[j]) by rw [HO.out, bestTo_all HH.out.2.1 hf.out hj])
              have hj0 : decide ((j : Int) < 0) = false := by rw [decide_eq_false_iff_not]; omega
              have hqp := hf.out.choose_spec.1
              have hl2 := (HH.out.2.2.1 _ (List.getElem_mem hj)).2
              obtain ⟨bb, off, rfl, c0, c1, c2⟩ := (HH.out.1.below HB3.out).at hj
              obtain ⟨⟨⟨q, m⟩, s⟩, hx⟩ : ∃ x, l[j] = x := ⟨_, rfl⟩
              rw [hx] at c0 c1 c2 hqp hl2 HO2
              dsimp only at c0 c1 c2 hqp hl2
              subst hqp
              have KR := Lib.hid (fun W => rRead_calls s hl2 W)
              have htd : told (some ((q, m), s)) = if redG s then none else some (q, m, redM s) := rfl
              rw [htd] at HO2
              obtain ⟨⟨z, d, cs⟩, hM⟩ : ∃ x, redM s = x := ⟨_, rfl⟩
              rw [hM] at KR HO2
              dsimp only at KR
              generalize redE s = y at *
              have HC := Lib.hid (fun W (hW : Below wr.heap.size wr W) => look_below hW c1)
              clear hf hl2 hx htd hM c0 c1
              cases hg : redG s with
              | true =>
                rw [hg] at KR HO2
                rw [if_pos rfl] at HO2
                clear hg
                go_wp2_with fail
                refine (KR.out _).mono ?_
                rintro e w3 ⟨u, rfl, hI, hB4⟩
                obtain ⟨am, cm, rfl⟩ := (ints_own hI).form
                have hbr := below2 hB4 (below_alloc w3 (.cells #[.int .i64 z, .int .i64 d, .slice am cs.length cm] 48))
                have HB4 := Lib.hid (below2 HB3.out hbr)
                have HE4 := Lib.hid (HE3.out.below hbr)
                obtain ⟨⟨e0, e1, e2, e3, e4⟩, ⟨f0, f1, f2, f3, f4⟩, hlE⟩ := HE4.out.five2
                clear hI hB4 hbr c2
                go_wp2_with fail
                have hkk := keeps_sets5 w.heap.size (w3.alloc (.cells #[.int .i64 z, .int .i64 d, .slice am cs.length cm] 48)) (.string ⟨#[]⟩) (.int .i64 0) (.int .i64 0) (.int .i64 0) (.slice none 0 0)
                exact ret_ent3 rfl rfl w.heap.size _ _ _ _ _ _ _ rfl rfl rfl (HE4.out.sets5 _ _ _ _ _) ⟨.slice none 0 0, by rw [HO2.out]; rfl, by rw [HO2.out]; exact World.ownsRow_nil _ _ _ _, hkk.on HB4.out (Nat.le_refl _) HB4.out.size⟩
              | false =>
                rw [hg] at KR HO2
                rw [if_neg (by simp)] at HO2
                clear hg
                go_wp2_with fail
                refine (KR.out _).mono ?_
                rintro e w3 ⟨u, rfl, hI, hB4⟩
                obtain ⟨am, cm, rfl⟩ := (ints_own hI).form
                obtain ⟨nM, hnM⟩ : ∃ k, cs.length = k := ⟨_, rfl⟩
                rw [hnM]
                have hba := below_alloc w3 (.cells #[.int .i64 z, .int .i64 d, .slice am nM cm] 48)
                have hbr := below2 hB4 hba
                have HB4 := Lib.hid (below2 HB3.out hbr)
                have HE4 := Lib.hid (HE3.out.below hbr)
                have HI := Lib.hid (own_stays hI hba)
                have HN := Lib.hid hnM
                have HX := Lib.hid (Cx.new w3 48 [.int .i64 z, .int .i64 d, .slice am nM cm])
                obtain ⟨⟨e0, e1, e2, e3, e4⟩, ⟨f0, f1, f2, f3, f4⟩, hlE⟩ := HE4.out.five2
                obtain ⟨x0, x1, x2, _⟩ := HX.out.three
                have c1 := HC.out _ hbr
                have hsz : w.heap.size < wr.heap.size := HE3.out.lt
                clear hI hB4 hbr hba hnM c2
                go_wp2_with fail
                go_region
                all_goals
                  go_wp2_with fail
                  have hkk := keeps_sets5 w.heap.size (w3.alloc (.cells #[.int .i64 z, .int .i64 d, .slice am nM cm] 48)) (.string ⟨q.toArray⟩) (.int .i64 m) (.int .i64 z) (.int .i64 d) (.slice am nM cm)
                  refine ret_ent3 rfl rfl w.heap.size _ _ _ _ _ _ _ rfl rfl rfl ((HE4.out.sets5 _ _ _ _ _).below (drew_below _)) ⟨.slice am nM cm, by rw [HO2.out]; rfl, ?_, below2 (hkk.on HB4.out (Nat.le_refl _) HB4.out.size) (drew_below _)⟩
                  rw [HO2.out]
                  dsimp only [enD, Option.getD]
                  have h1 := HI.out
                  rw [← HN.out] at h1 ⊢
                  refine own_stays ?_ (drew_below _)
                  exact own_weak (own_above (own_above (own_above (own_above (own_above h1 hsz 0 _) hsz 1 _) hsz 2 _) hsz 3 _) hsz 4 _) (Nat.le_of_lt hsz)

end Go.Proofs.YtogicnciheedoaaGreatDoor

/-
  The document's own Paths: those that have a version, each once.
-/
namespace Go.Proofs.YtogicnciheedoaaGreatDoor
set_option maxRecDepth 100000
open Go.RowKit

theorem paths_snoc (x : Pr) : ∀ V : List Pr, pathsL (V ++ [x]) = if (V.getLast?.map fun y => y.1.1) = some x.1.1 then pathsL V else pathsL V ++ [x.1.1]
  | [] => by simp [pathsL]
  | [a] => by
    show pathsL (a :: x :: []) = _
    rw [pathsL]
    by_cases h : a.1.1 = x.1.1
    · simp [pathsL, h]
    · simp [pathsL, h]
  | a :: b :: r => by
    have ih := paths_snoc x (b :: r)
    show pathsL (a :: b :: (r ++ [x])) = _
    rw [pathsL, show b :: (r ++ [x]) = (b :: r) ++ [x] from rfl, ih, List.getLast?_cons_cons]
    rw [show pathsL (a :: b :: r) = if a.1.1 = b.1.1 then pathsL (b :: r) else a.1.1 :: pathsL (b :: r) from rfl]
    by_cases h1 : a.1.1 = b.1.1 <;> by_cases h2 : ((b :: r).getLast?.map fun y => y.1.1) = some x.1.1
    · rw [if_pos h1, if_pos h1, if_pos h2]
    · rw [if_pos h1, if_pos h1, if_neg h2]
    · rw [if_neg h1, if_neg h1, if_pos h2, if_pos h2]
    · rw [if_neg h1, if_neg h1, if_neg h2, if_neg h2, List.cons_append]
theorem paths_first {l : List Pr} {k : Nat} (hk : k < l.length) (h : k = 0) : pathsL (l.take (k + 1)) = pathsL (l.take k) ++ [l[k].1.1] := by
  subst h
  rw [List.take_succ_eq_append_getElem hk, paths_snoc]
  simp
theorem paths_next {l : List Pr} {j k : Nat} (hj : j < l.length) (hk : k < l.length) (h : k = j + 1) : pathsL (l.take (k + 1)) = if l[j].1.1 = l[k].1.1 then pathsL (l.take k) else pathsL (l.take k) ++ [l[k].1.1] := by
  subst h
  rw [List.take_succ_eq_append_getElem hk, paths_snoc]
  have e : (l.take (j + 1)).getLast? = some l[j] := by rw [List.take_succ_eq_append_getElem hj]; exact List.getLast?_concat
  rw [e]
  simp
set_option maxHeartbeats 8000000 in
theorem refPaths_calls (v : Value) (l : List Pr) (w : World) (h : Prs w v l) (hn : l.length ≤ 1000) :
    Calls Tryz.prog 54 #[v] w fun e w' => ∃ u, e = .returned u ∧ OwnL w' w.heap.size u (pathsL l) ∧ Below w.heap.size w w' := by
  obtain ⟨av, cv, rfl⟩ := h.form
  have HH := Lib.hid (And.intro h hn)
  clear h hn
  go_enter Tryz.func54, Tryz.ntmps54
  go_wp2_with fail
  go_loopw [3, 4] (fun u i wr => ∃ k : Nat, i = .int .i64 k ∧ k ≤ l.length ∧ l.length ≤ 1000 ∧ OwnL wr w.heap.size u (pathsL (l.take k)) ∧ Below w.heap.size w wr) (fun _ i _ => l.length - (intOf i).toNat)
  case atStart => exact ⟨0, rfl, Nat.zero_le _, HH.out.2, by simpa [pathsL] using ownL_nil _ _, Below.refl _ _⟩
  case round =>
    obtain ⟨k, rfl, hk, hn, hown, hB⟩ := hrel
    have hlp := paths_len_le (l.take k)
    rw [List.length_take] at hlp
    have hl6 : (pathsL (l.take k)).length ≤ 1000000 := by omega
    clear hlp
    have hsz := hB.size
    by_cases hlt : k < l.length
    · have hd : decide ((k : Int) < (l.length : Int)) = true := by rw [decide_eq_true_eq]; omega
      have HF := Lib.hid (paths_first hlt)
      have HX := Lib.hid (fun (j : Nat) hj => paths_next (j := j) hj hlt)
      have HP := HH.out.1.below hB
      obtain ⟨b, off, rfl, c0, _, _⟩ := HP.at hlt
      have HPH := Lib.hid HP
      obtain ⟨q, hx⟩ : ∃ x, l[k].1.1 = x := ⟨_, rfl⟩
      rw [hx] at c0
      have hbr : Below wr.heap.size wr wr.drew := drew_below _
      by_cases hk0 : k = 0
      · have hd0 : ((k : Int) == 0) = true := by rw [beq_iff_eq]; omega
        have hd0' : (k == 0) = true := by rw [beq_iff_eq]; omega
        have HG := Lib.hid (show pathsL (l.take (k + 1)) = pathsL (l.take k) ++ [q] by rw [HF.out hk0, hx])
        have HC := Lib.hid (fun W (hW : Below wr.heap.size wr W) => look_below hW c0)
        obtain ⟨ao, nn, cap, rfl⟩ := own_form hown
        have HO := Lib.hid (And.intro hown hB)
        clear hk0 hx hown hB HP
        go_wp2_with fail
        refine wp_region_held_drew (S := (fun W => W.cell? ⟨b, off + k * 3, none⟩ = some (.string ⟨q.toArray⟩))) (by kernel_rfl) (HC.out _ hbr) (fun hHeld => ?_)
        refine wpAnyH_take (i := 0) (oi := ⟨_, _, _, _, _, _⟩) (v := ?_) rfl (by kernel_rfl) (by kernel_rfl) (by kernel_rfl) (fun _ _ _ h => h) (Or.inl ⟨by rfl, ?_⟩) hHeld ?_
        rotate_left
        · (intro w hSw; (try dsimp only at hSw); go_simp; try with_reducible rfl)
        try simp only [Act.put, List.setIfInBounds_toArray, List.set_cons_zero, List.set_cons_succ]
        refine wpAnyH_take (i := 1) (oi := ⟨_, _, _, _, _, _⟩) (v := ?_) rfl (by kernel_rfl) (by kernel_rfl) (by kernel_rfl) (fun _ _ _ h => h) (Or.inl ⟨by rfl, ?_⟩) hHeld ?_
        rotate_left
        · (intro w hSw; (try dsimp only at hSw); go_simp; try with_reducible rfl)
        try simp only [Act.put, List.setIfInBounds_toArray, List.set_cons_zero, List.set_cons_succ]
        refine wpAnyH_take (i := 2) (oi := ⟨_, _, _, _, _, _⟩) (v := ?_) rfl (by kernel_rfl) (by kernel_rfl) (by kernel_rfl) (fun _ _ _ h => h) (Or.inl ⟨by rfl, ?_⟩) hHeld ?_
        rotate_left
        · (intro w hSw; (try dsimp only at hSw); go_simp; try with_reducible rfl)
        try simp only [Act.put, List.setIfInBounds_toArray, List.set_cons_zero, List.set_cons_succ]
        refine wpAnyH_take (i := 3) (oi := ⟨_, _, _, _, _, _⟩) (v := undef) rfl (by kernel_rfl) (by kernel_rfl) (by kernel_rfl) (fun _ _ _ h => h) (Or.inr ⟨by rfl, rfl⟩) hHeld ?_
        try simp only [Act.put, List.setIfInBounds_toArray, List.set_cons_zero, List.set_cons_succ]
        refine wpAnyH_take (i := 4) (oi := ⟨_, _, _, _, _, _⟩) (v := undef) rfl (by kernel_rfl) (by kernel_rfl) (by kernel_rfl) (fun _ _ _ h => h) (Or.inr ⟨by rfl, rfl⟩) hHeld ?_
        try simp only [Act.put, List.setIfInBounds_toArray, List.set_cons_zero, List.set_cons_succ]
        refine wpAnyH_take (i := 5) (oi := ⟨_, _, _, _, _, _⟩) (v := undef) rfl (by kernel_rfl) (by kernel_rfl) (by kernel_rfl) (fun _ _ _ h => h) (Or.inr ⟨by rfl, rfl⟩) hHeld ?_
        try simp only [Act.put, List.setIfInBounds_toArray, List.set_cons_zero, List.set_cons_succ]
        refine wpAnyH_take (i := 6) (oi := ⟨_, _, _, _, _, _⟩) (v := undef) rfl (by kernel_rfl) (by kernel_rfl) (by kernel_rfl) (fun _ _ _ h => h) (Or.inr ⟨by rfl, rfl⟩) hHeld ?_
        try simp only [Act.put, List.setIfInBounds_toArray, List.set_cons_zero, List.set_cons_succ]
        refine wpAnyH_take (i := 7) (oi := ⟨_, _, _, _, _, _⟩) (v := undef) rfl (by kernel_rfl) (by kernel_rfl) (by kernel_rfl) (fun _ _ _ h => h) (Or.inr ⟨by rfl, rfl⟩) hHeld ?_
        try simp only [Act.put, List.setIfInBounds_toArray, List.set_cons_zero, List.set_cons_succ]
        refine wpAnyH_take (i := 8) (oi := ⟨_, _, _, _, _, _⟩) (v := undef) rfl (by kernel_rfl) (by kernel_rfl) (by kernel_rfl) (fun _ _ _ h => h) (Or.inr ⟨by rfl, rfl⟩) hHeld ?_
        try simp only [Act.put, List.setIfInBounds_toArray, List.set_cons_zero, List.set_cons_succ]
        refine wpAnyH_take (i := 9) (oi := ⟨_, _, _, _, _, _⟩) (v := undef) rfl (by kernel_rfl) (by kernel_rfl) (by kernel_rfl) (fun _ _ _ h => h) (Or.inr ⟨by rfl, rfl⟩) hHeld ?_
        try simp only [Act.put, List.setIfInBounds_toArray, List.set_cons_zero, List.set_cons_succ]
        refine wpAnyH_take (i := 10) (oi := ⟨_, _, _, _, _, _⟩) (v := undef) rfl (by kernel_rfl) (by kernel_rfl) (by kernel_rfl) (fun _ _ _ h => h) (Or.inr ⟨by rfl, rfl⟩) hHeld ?_
        try simp only [Act.put, List.setIfInBounds_toArray, List.set_cons_zero, List.set_cons_succ]
        refine wpAnyH_take (i := 11) (oi := ⟨_, _, _, _, _, _⟩) (v := undef) rfl (by kernel_rfl) (by kernel_rfl) (by kernel_rfl) (fun _ _ _ h => h) (Or.inr ⟨by rfl, rfl⟩) hHeld ?_
        try simp only [Act.put, List.setIfInBounds_toArray, List.set_cons_zero, List.set_cons_succ]
        refine wpAnyH_take (i := 12) (oi := ⟨_, _, _, _, _, _⟩) (v := undef) rfl (by kernel_rfl) (by kernel_rfl) (by kernel_rfl) (fun _ _ _ h => h) (Or.inr ⟨by rfl, rfl⟩) hHeld ?_
        try simp only [Act.put, List.setIfInBounds_toArray, List.set_cons_zero, List.set_cons_succ]
        refine wpAnyH_take (i := 13) (oi := ⟨_, _, _, _, _, _⟩) (v := undef) rfl (by kernel_rfl) (by kernel_rfl) (by kernel_rfl) (fun _ _ _ h => h) (Or.inr ⟨by rfl, rfl⟩) hHeld ?_
        try simp only [Act.put, List.setIfInBounds_toArray, List.set_cons_zero, List.set_cons_succ]
        refine wpAnyH_take (i := 14) (oi := ⟨_, _, _, _, _, _⟩) (v := undef) rfl (by kernel_rfl) (by kernel_rfl) (by kernel_rfl) (fun _ _ _ h => h) (Or.inr ⟨by rfl, rfl⟩) hHeld ?_
        try simp only [Act.put, List.setIfInBounds_toArray, List.set_cons_zero, List.set_cons_succ]
        refine wpAnyH_take (i := 15) (oi := ⟨_, _, _, _, _, _⟩) (v := undef) rfl (by kernel_rfl) (by kernel_rfl) (by kernel_rfl) (fun _ _ _ h => h) (Or.inr ⟨by rfl, rfl⟩) hHeld ?_
        try simp only [Act.put, List.setIfInBounds_toArray, List.set_cons_zero, List.set_cons_succ]
        refine wpAnyH_take (i := 16) (oi := ⟨_, _, _, _, _, _⟩) (v := undef) rfl (by kernel_rfl) (by kernel_rfl) (by kernel_rfl) (fun _ _ _ h => h) (Or.inr ⟨by rfl, rfl⟩) hHeld ?_
        try simp only [Act.put, List.setIfInBounds_toArray, List.set_cons_zero, List.set_cons_succ]
        refine wpAnyH_take (i := 17) (oi := ⟨_, _, _, _, _, _⟩) (v := ?_) rfl (by kernel_rfl) (by kernel_rfl) (by kernel_rfl) (fun _ _ _ h => h) (Or.inl ⟨by rfl, ?_⟩) hHeld ?_
        rotate_left
        · (intro w hSw; (try dsimp only at hSw); go_simp; try with_reducible rfl)
        try simp only [Act.put, List.setIfInBounds_toArray, List.set_cons_zero, List.set_cons_succ]
        refine wpAnyH_done (by kernel_rfl) ?_ _
        have hown := own_stays HO.out.1 hbr
        have hB := below2 HO.out.2 hbr
        have hsz := hB.size
        have c1 := HC.out _ hbr
        clear c0 hbr
        go_wp2_with (at_builtin; refine app_text rfl _ _ rfl w.heap.size _ (pathsL (l.take k)) rfl hown q rfl hl6 hsz ?_; intro v3 w3 ho3 hB3)
        go_roundw
        case rel => exact ⟨k + 1, by go_num, by omega, hn, by rw [HG.out]; exact ho3, hB3 _ hB⟩
        case measure => simp [intOf]; omega
      · obtain ⟨j, hj⟩ : ∃ j, k = j + 1 := ⟨k - 1, by omega⟩
        have hd0 : ((k : Int) == 0) = false := by rw [beq_eq_false_iff_ne]; omega
        have hd0' : (k == 0) = false := by rw [beq_eq_false_iff_ne]; omega
        have hw1 : IntKind.i64.wrap ((k : Int) - 1) = (j : Int) := by rw [IntWalk.i64_in _ (by omega)]; omega
        have hw2 : IntKind.i64.wrap (j : Int) = (j : Int) := IntWalk.i64_in _ (by omega)
        have hjl : j < l.length := by omega
        have hj4 : (0 : Int) ≤ (j : Int) := by omega
        have hj5 : (j : Int) < (l.length : Int) := by omega
        obtain ⟨b2, off2, he2, e0, _, _⟩ := HP.at hjl
        cases he2
        have hgo := HX.out j hjl hj
        obtain ⟨q0, hq0⟩ : ∃ x, l[j].1.1 = x := ⟨_, rfl⟩
        rw [hx, hq0] at hgo
        rw [hq0] at e0
        have HC : Hid (∀ W, Below wr.heap.size wr W → W.cell? ⟨b, off + k * 3, none⟩ = some (.string ⟨q.toArray⟩) ∧ W.cell? ⟨b, off + j * 3, none⟩ = some (.string ⟨q0.toArray⟩)) := Lib.hid (fun W hW => ⟨look_below hW c0, look_below hW e0⟩)
        obtain ⟨ao, nn, cap, rfl⟩ := own_form hown
        have HO := Lib.hid (And.intro hown hB)
        by_cases hq : q0 = q
        · have e1 : (q0 == q) = true := by simpa using hq
          have HG := Lib.hid (show pathsL (l.take (k + 1)) = pathsL (l.take k) by rw [hgo, if_pos hq])
          clear hj hk0 hx hown hB HP hgo hq0 hq c0 e0
          go_wp2_with fail
          go_region_held3 (fun W => W.cell? ⟨b, off + k * 3, none⟩ = some (.string ⟨q.toArray⟩) ∧ W.cell? ⟨b, off + j * 3, none⟩ = some (.string ⟨q0.toArray⟩)) (exact HC.out _ hbr) (first | fail)
          all_goals
            have hown := own_stays HO.out.1 hbr
            have hB := below2 HO.out.2 hbr
            clear hbr
            go_wp2_with fail
            go_roundw
            case rel => exact ⟨k + 1, by go_num, by omega, hn, by rw [HG.out]; exact hown, hB⟩
            case measure => simp [intOf]; omega
        · have e1 : (q0 == q) = false := by simpa using hq
          have HG := Lib.hid (show pathsL (l.take (k + 1)) = pathsL (l.take k) ++ [q] by rw [hgo, if_neg hq])
          clear hj hk0 hx hown hB HP hgo hq0 hq c0 e0
          go_wp2_with fail
          go_region_held3 (fun W => W.cell? ⟨b, off + k * 3, none⟩ = some (.string ⟨q.toArray⟩) ∧ W.cell? ⟨b, off + j * 3, none⟩ = some (.string ⟨q0.toArray⟩)) (exact HC.out _ hbr) (first | fail)
          all_goals
            have hown := own_stays HO.out.1 hbr
            have hB := below2 HO.out.2 hbr
            have hsz := hB.size
            obtain ⟨c1, _⟩ := HC.out _ hbr
            clear hbr
            generalize wr.drew = B at *
            go_wp2_with (at_builtin; refine app_text rfl _ _ rfl w.heap.size _ (pathsL (l.take k)) rfl hown q rfl hl6 hsz ?_; intro v3 w3 ho3 hB3)
            go_roundw
            case rel => exact ⟨k + 1, by go_num, by omega, hn, by rw [HG.out]; exact ho3, hB3 _ hB⟩
            case measure => simp [intOf]; omega
    · obtain rfl : k = l.length := by omega
      have hd : decide ((l.length : Int) < (l.length : Int)) = false := by simp
      obtain ⟨ao, nn, cap, rfl⟩ := own_form hown
      rw [List.take_length] at hown
      go_wp2_with fail
      go_ret
      exact ⟨_, rfl, hown, hB⟩

end Go.Proofs.YtogicnciheedoaaGreatDoor
