/-
  The texts of one folder in one: SoRefS, SoMadeL, Lds, SoBig, SoTookK, SoLay, LdsOpen, SoXA.
-/
import Derived.Test.YtogicnciheedoaaGreatDoorPks15b
import Derived.Test.YtogicnciheedoaaGreatDoorPks02
import Derived.Test.YtogicnciheedoaaGreatDoorPks09
import Derived.Test.YtogicnciheedoaaGreatDoorPks14
import Derived.Test.YtogicnciheedoaaGreatDoorPks15a
import Derived.Test.YtogicnciheedoaaGreatDoorPks10
import Derived.Test.YtogicnciheedoaaGreatDoorPks12
import Derived.Deep.Grids

/-
  The document's own List.
-/
namespace Go.Proofs.YtogicnciheedoaaGreatDoor
set_option maxRecDepth 100000
open Go.RowKit

def lsL (l : List Pr) (d : List UInt8) (n : Int) (ps : List (List UInt8)) : List En := (ps.filter (underOf d)).filterMap fun p => told (asOf l p n)
theorem ls_snoc {l : List Pr} {d : List UInt8} {n : Int} {ps : List (List UInt8)} {k : Nat} (hk : k < ps.length) :
    lsL l d n (ps.take (k + 1)) = lsL l d n (ps.take k) ++ (if underOf d ps[k] then (told (asOf l ps[k] n)).toList else []) := by
  unfold lsL
  rw [List.take_succ_eq_append_getElem hk, List.filter_append, List.filterMap_append]
  congr 1
  cases hu : underOf d ps[k] with
  | false => simp [hu]
  | true =>
    rw [List.filter_cons, if_pos hu, List.filter_nil, List.filterMap_cons, List.filterMap_nil]
    cases told (asOf l ps[k] n) <;> rfl

set_option maxHeartbeats 16000000 in
theorem refList_calls (v : Value) (l : List Pr) (d : List UInt8) (n : Int) (w : World) (h : Prs w v l) (hr : Rises l) (hn : l.length ≤ 1000) (hs : ∀ x ∈ l, x.1.1.length ≤ 1000000 ∧ x.2.length ≤ 1000) (hl : d.length ≤ 1000000) :
    Calls Tryz.prog 25 #[v, .string ⟨d.toArray⟩, .int .i64 n] w fun e w' => ∃ u S, e = .returned (.tuple #[u, .int .i64 (refX l d n)]) ∧ OwnE w' w.heap.size u S ∧ ens S = listX l d n ∧ Below w.heap.size w w' := by
  have KS := Lib.hid (refSt_calls v l w h hn hs)
  have KP := Lib.hid (fun W => refPathIs_calls d hl W)
  have hrX : refX l d n = if isSt l then (if isP d then (if n < 0 then 1 else 0) else 20) else 1 := rfl
  have hlX : listX l d n = if refX l d n = 0 then listL l d n else [] := rfl
  have hx0 := fun (q : List UInt8) (hq : refX l q n = 0) => asX_told hq
  have hz := fun (q : List UInt8) => refX_zero (U := l) (s := q) (n := n)
  rw [hlX]
  obtain ⟨E, hE⟩ : ∃ E, refX l d n = E := ⟨_, rfl⟩
  rw [hE] at hrX ⊢
  cases hb : isSt l with
  | false =>
    obtain ⟨av, cv, rfl⟩ := h.form
    rw [hb] at KS hrX
    obtain rfl : E = 1 := hrX
    rw [if_neg (by decide)]
    clear h hn hs hl hE hb hlX hr hx0 hz
    go_enter Tryz.func25, Tryz.ntmps25
    go_wp2_with fail
    refine KS.out.mono ?_
    rintro e w1 ⟨rfl, hB1⟩
    go_wp2_with fail
    go_ret2
    exact ⟨_, [], rfl, OwnE.nil _ _, rfl, hB1⟩
  | true =>
    rw [hb] at KS hrX
    rw [if_pos rfl] at hrX
    cases hp : isP d with
    | false =>
      obtain ⟨av, cv, rfl⟩ := h.form
      rw [hp] at KP hrX
      obtain rfl : E = 20 := hrX
      rw [if_neg (by decide)]
      clear h hn hs hl hE hb hp hlX hr hx0 hz
      go_enter Tryz.func25, Tryz.ntmps25
      go_wp2_with fail
      refine KS.out.mono ?_
      rintro e w1 ⟨rfl, hB1⟩
      go_wp2_with fail
      refine (KP.out _).mono ?_
      rintro e w2 ⟨rfl, hB2⟩
      go_wp2_with fail
      go_ret2
      exact ⟨_, [], rfl, OwnE.nil _ _, rfl, below2 hB1 hB2⟩
    | true =>
      rw [hp] at KP hrX
      rw [if_pos rfl] at hrX
      by_cases hneg : n < 0
      · obtain ⟨av, cv, rfl⟩ := h.form
        rw [if_pos hneg] at hrX
        subst hrX
        rw [if_neg (by decide)]
        have hd : decide (n < 0) = true := decide_eq_true hneg
        clear h hn hs hl hE hb hp hlX hr hx0 hz hneg
        go_enter Tryz.func25, Tryz.ntmps25
        go_wp2_with fail
        refine KS.out.mono ?_
        rintro e w1 ⟨rfl, hB1⟩
        go_wp2_with fail
        refine (KP.out _).mono ?_
        rintro e w2 ⟨rfl, hB2⟩
        go_wp2_with fail
        go_ret2
        exact ⟨_, [], rfl, OwnE.nil _ _, rfl, below2 hB1 hB2⟩
      · rw [if_neg hneg] at hrX
        subst hrX
        rw [if_pos rfl]
        have hd : decide (n < 0) = false := decide_eq_false hneg
        have hpt : ∀ p ∈ pathsL l, isP p = true ∧ p.length ≤ 1000000 ∧ asX l p n = told (asOf l p n) := fun p hpp => by
          obtain ⟨x, hx, rfl⟩ := (mem_paths _ _).1 hpp
          have h1 := (st_times hb x hx).2.2.1
          exact ⟨h1, (hs x hx).1, hx0 _ ((hz _).2 ⟨hb, h1, by omega⟩)⟩
        have KQ := Lib.hid (fun W (hB : Below w.heap.size w W) => refPaths_calls v l W (h.below hB) hn)
        have KA := Lib.hid (fun W (hB : Below w.heap.size w W) q (hq : q ∈ pathsL l) => refAs_calls v l q n W (h.below hB) hr hn hs (hpt q hq).2.1)
        have KU := Lib.hid (fun W q (hq : q ∈ pathsL l) => refUnder_calls d q hl (hpt q hq).2.1 W)
        have hlL : listL l d n = lsL l d n (pathsL l) := rfl
        have hps := paths_len_le l
        rw [hlL]
        obtain ⟨ps, hpse⟩ : ∃ x, pathsL l = x := ⟨_, rfl⟩
        rw [hpse] at hpt KQ KA KU hps ⊢
        have HP := Lib.hid (fun q hq => (hpt q hq).2.2)
        have hpn : ps.length ≤ 1000 := by omega
        obtain ⟨av, cv, rfl⟩ := h.form
        have HN := Lib.hid hpn
        clear h hn hs hl hE hb hp hlX hr hx0 hz hneg hpt hlL hps hpse hpn
        go_enter Tryz.func25, Tryz.ntmps25
        go_wp2_with fail
        refine KS.out.mono ?_
        rintro e w1 ⟨rfl, hB1⟩
        go_wp2_with fail
        refine (KP.out _).mono ?_
        rintro e w2 ⟨rfl, hB2⟩
        have HB2 := Lib.hid (below2 hB1 hB2)
        clear hB1 hB2
        go_wp2_with fail
        refine (KQ.out _ HB2.out).mono ?_
        rintro e w3 ⟨u, rfl, hu, hB3⟩
        obtain ⟨au, cu, rfl, _⟩ := ownL_txts hu
        have HU := Lib.hid (ownL_txts hu)
        have HB3 := Lib.hid (below2 HB2.out hB3)
        clear hu hB3
        go_wp2_with fail
        go_loopw [9, 10] (fun o i wr => ∃ (k : Nat) (S : List Ev), i = .int .i64 k ∧ k ≤ ps.length ∧ ps.length ≤ 1000 ∧ S.length ≤ k ∧ OwnE wr w3.heap.size o S ∧ Hid (ens S = lsL l d n (ps.take k)) ∧ Below w3.heap.size w3 wr) (fun _ i _ => ps.length - (intOf i).toNat)
        case atStart => exact ⟨0, [], rfl, Nat.zero_le _, HN.out, Nat.zero_le _, OwnE.nil _ _, Lib.hid rfl, Below.refl _ _⟩
        case round =>
          obtain ⟨k, S, rfl, hk, hpn, hSk, hown, hS, hB⟩ := hrel
          obtain ⟨ao, cap, rfl⟩ := hown.form
          by_cases hlt : k < ps.length
          · have hdk : decide ((k : Int) < (ps.length : Int)) = true := by rw [decide_eq_true_eq]; omega
            have hmem := List.getElem_mem hlt
            have hsn := ls_snoc (l := l) (d := d) (n := n) hlt
            have hap := HP.out _ hmem
            have KA1 := KA.out wr (below2 HB3.out hB) _ hmem
            have KU1 := fun W => KU.out W _ hmem
            obtain ⟨b, off, rfl, c0⟩ := (HU.out.below hB).strs.at hlt
            obtain ⟨q, hq⟩ : ∃ x, ps[k] = x := ⟨_, rfl⟩
            rw [hq] at c0 hsn hap KA1 KU1
            obtain ⟨nS, hnS⟩ : ∃ x, S.length = x := ⟨_, rfl⟩
            rw [hnS] at hSk hown ⊢
            rw [← hap] at hsn
            obtain ⟨o, ho⟩ : ∃ o, asX l q n = o := ⟨_, rfl⟩
            rw [ho] at KA1 hsn
            obtain ⟨E, hE⟩ : ∃ E, refX l q n = E := ⟨_, rfl⟩
            rw [hE] at KA1
            obtain ⟨ub, hub⟩ : ∃ b, underOf d q = b := ⟨_, rfl⟩
            rw [hub] at KU1 hsn
            have KA2 := Lib.hid KA1
            have KU2 := Lib.hid KU1
            have HO := Lib.hid (And.intro hown hB)
            have HC := Lib.hid (fun W (hW : Below wr.heap.size wr W) => look_below hW c0)
            clear hmem hap KA1 KU1 hq ho hE hub hown hB
            cases o with
            | none =>
              have HG := Lib.hid (show lsL l d n (ps.take (k + 1)) = lsL l d n (ps.take k) by rw [hsn]; cases ub <;> simp)
              clear hsn
              go_wp2_with fail
              refine KA2.out.mono ?_
              rintro e w4 ⟨v4, rfl, hI, hB4⟩
              obtain ⟨a4, c4, rfl⟩ := (ints_own hI).form
              obtain ⟨n4, hn4⟩ : ∃ k, (enD none).2.2.2.2.length = k := ⟨_, rfl⟩
              rw [hn4]
              dsimp only [EV, enD, Option.getD, Option.isSome]
              have hbr := below2 hB4 (below_alloc w4 (.cells #[.string ⟨#[]⟩, .int .i64 0, .int .i64 0, .int .i64 0, .slice a4 n4 c4] 50))
              have HO4 := Lib.hid (And.intro (HO.out.1.stays hbr) (HO.out.2.trans (hbr.mono HO.out.2.size)))
              clear hI hB4 hn4 hbr c0
              go_wp2_with fail
              go_roundw
              case rel => exact ⟨k + 1, S, by go_num, by omega, hpn, by omega, HO4.out.1, Lib.hid (by rw [HG.out]; exact hS.out), HO4.out.2⟩
              case measure => simp [intOf]; omega
            | some x =>
              obtain ⟨q', tm, z, dd, cs⟩ := x
              cases ub with
              | false =>
                have HG := Lib.hid (show lsL l d n (ps.take (k + 1)) = lsL l d n (ps.take k) by rw [hsn]; simp)
                clear hsn
                go_wp2_with fail
                refine KA2.out.mono ?_
                rintro e w4 ⟨v4, rfl, hI, hB4⟩
                obtain ⟨a4, c4, rfl⟩ := (ints_own hI).form
                obtain ⟨n4, hn4⟩ : ∃ k, (enD (some (q', tm, z, dd, cs))).2.2.2.2.length = k := ⟨_, rfl⟩
                rw [hn4]
                dsimp only [EV, enD, Option.getD, Option.isSome]
                have hbr := below2 hB4 (below_alloc w4 (.cells #[.string ⟨q'.toArray⟩, .int .i64 tm, .int .i64 z, .int .i64 dd, .slice a4 n4 c4] 50))
                have HO4 := Lib.hid (And.intro (HO.out.1.stays hbr) (HO.out.2.trans (hbr.mono HO.out.2.size)))
                have c1 := HC.out _ hbr
                clear hI hB4 hn4 hbr c0
                go_wp2_with fail
                refine (KU2.out _).mono ?_
                rintro e w5 ⟨rfl, hB5⟩
                have HO5 := Lib.hid (And.intro (HO4.out.1.stays hB5) (HO4.out.2.trans (hB5.mono HO4.out.2.size)))
                clear hB5 c1
                go_wp2_with fail
                go_roundw
                case rel => exact ⟨k + 1, S, by go_num, by omega, hpn, by omega, HO5.out.1, Lib.hid (by rw [HG.out]; exact hS.out), HO5.out.2⟩
                case measure => simp [intOf]; omega
              | true =>
                have HG := Lib.hid (show lsL l d n (ps.take (k + 1)) = lsL l d n (ps.take k) ++ [(q', tm, z, dd, cs)] by rw [hsn]; simp)
                clear hsn
                go_wp2_with fail
                refine KA2.out.mono ?_
                rintro e w4 ⟨v4, rfl, hI, hB4⟩
                obtain ⟨a4, c4, rfl⟩ := (ints_own hI).form
                obtain ⟨n4, hn4⟩ : ∃ k, (enD (some (q', tm, z, dd, cs))).2.2.2.2.length = k := ⟨_, rfl⟩
                rw [hn4] at hI ⊢
                dsimp only [EV, enD, Option.getD, Option.isSome] at hI ⊢
                have hba := below_alloc w4 (.cells #[.string ⟨q'.toArray⟩, .int .i64 tm, .int .i64 z, .int .i64 dd, .slice a4 n4 c4] 50)
                have hbr := below2 hB4 hba
                have hwr := HO.out.2.size
                have HO4 := Lib.hid (And.intro (HO.out.1.stays hbr) (And.intro (HO.out.2.trans (hbr.mono HO.out.2.size)) (own_weak (own_stays hI hba) hwr)))
                have HX := Lib.hid (Cx.new w4 50 [.string ⟨q'.toArray⟩, .int .i64 tm, .int .i64 z, .int .i64 dd, .slice a4 n4 c4])
                have c1 := HC.out _ hbr
                clear hI hB4 hn4 hbr c0 hba
                go_wp2_with fail
                refine (KU2.out _).mono ?_
                rintro e w5 ⟨rfl, hB5⟩
                have HO5 := Lib.hid (And.intro (HO4.out.1.stays hB5) (And.intro (HO4.out.2.1.trans (hB5.mono HO4.out.2.1.size)) (own_stays HO4.out.2.2 hB5)))
                obtain ⟨⟨y0, y1, y2, y3, y4⟩, _, _⟩ := (HX.out.below hB5).five2
                have hS100 : S.length ≤ 100000 := by omega
                have hw5 := HO5.out.2.1.size
                clear hB5 c1
                go_wp2_with (at_builtin; refine app_ent rfl _ _ rfl w3.heap.size _ S rfl HO5.out.1 q' tm z dd _ cs HO5.out.2.2 rfl hS100 hw5 ?_; intro v6 w6 ho6 hB6 _)
                go_roundw
                case rel => exact ⟨k + 1, S ++ [((q', tm, z, dd, cs), .slice a4 n4 c4)], by go_num, by omega, hpn, by rw [List.length_append, hnS]; simp; omega, ho6, Lib.hid (by rw [HG.out, ← hS.out]; simp [ens]), hB6 _ HO5.out.2.1⟩
                case measure => simp [intOf]; omega
          · obtain rfl : k = ps.length := by omega
            have hdk : decide ((ps.length : Int) < (ps.length : Int)) = false := by simp
            have hS2 := hS.out
            rw [List.take_length] at hS2
            have HS := Lib.hid hS2
            obtain ⟨nS, hnS⟩ : ∃ x, S.length = x := ⟨_, rfl⟩
            have HO := Lib.hid (And.intro hown hB)
            rw [hnS] at HO ⊢
            clear hS2 hnS hown hB hSk
            go_wp2_with fail
            go_ret2
            exact ⟨_, S, rfl, HO.out.1.weak HB3.out.size, HS.out, HB3.out.trans (HO.out.2.mono HB3.out.size)⟩

end Go.Proofs.YtogicnciheedoaaGreatDoor

/-
  A tree of some pairs: which pairs are there. No program is named here.
-/
namespace Go.Proofs.YtogicnciheedoaaGreatDoor
set_option maxRecDepth 100000

/-- The pairs of the tree: each put, one behind the other. -/
def madeL (l : List Pr) : List Pr := l.foldl putL []
theorem made_snoc {l : List Pr} {k : Nat} (h : k < l.length) : madeL (l.take (k + 1)) = putL (madeL (l.take k)) l[k] := by
  unfold madeL
  rw [List.take_succ_eq_append_getElem h, List.foldl_append]
  rfl
theorem made_len : ∀ (l acc : List Pr), (l.foldl putL acc).length ≤ acc.length + l.length
  | [], acc => by simp
  | x :: r, acc => by
    have h := made_len r (putL acc x)
    have h2 : (putL acc x).length ≤ acc.length + 1 := by rw [putL_length]; split <;> omega
    rw [List.foldl_cons, List.length_cons]
    omega
theorem made_rises : ∀ (l : List Pr) {acc : List Pr}, Rises acc → Rises (l.foldl putL acc)
  | [], _, h => h
  | x :: r, _, h => made_rises r (put_rises h x)
theorem mem_made : ∀ (l : List Pr) {acc : List Pr}, Rises acc → ∀ x ∈ l.foldl putL acc, x ∈ acc ∨ x ∈ l
  | [], _, _, x, hx => .inl hx
  | y :: r, _, h, x, hx => by
    rcases mem_made r (put_rises h y) x hx with h1 | h1
    · rcases (mem_put h _ _).1 h1 with rfl | ⟨h2, _⟩
      · exact .inr (by simp)
      · exact .inl h2
    · exact .inr (List.mem_cons_of_mem _ h1)
theorem made_facts (l : List Pr) : Rises (madeL l) ∧ (madeL l).length ≤ l.length ∧ ∀ x ∈ madeL l, x ∈ l := by
  refine ⟨made_rises l List.Pairwise.nil, ?_, fun x hx => ?_⟩
  · have := made_len l []
    simpa [madeL] using this
  · rcases mem_made l List.Pairwise.nil x hx with h | h
    · cases h
    · exact h

end Go.Proofs.YtogicnciheedoaaGreatDoor

/-
  Rows of batches that are laid: two cells each, a time and a row of changes.
-/
namespace Go.Proofs.YtogicnciheedoaaGreatDoor
set_option maxRecDepth 100000
open Go.RowKit

/-- A batch in memory: its time, its slice, its changes. -/
abbrev Lv := (Int × Value) × List Cv
def lcell (x : Lv) : List Value := [.int .i64 x.1.1, x.1.2]
def lcells (S : List Lv) : List Value := S.flatMap lcell
/-- The batches alone. -/
abbrev lds (S : List Lv) : List Ld := S.map fun x => (x.1.1, chs x.2)
theorem lcells_cons (x : Lv) (r : List Lv) : lcells (x :: r) = .int .i64 x.1.1 :: x.1.2 :: lcells r := rfl
theorem lcells_len (S : List Lv) : (lcells S).length = S.length * 2 := by
  induction S with
  | nil => rfl
  | cons x r ih => rw [lcells_cons]; simp only [List.length_cons, ih]; omega
theorem lcells_at (S : List Lv) (i : Nat) (h : i < S.length) : (lcells S)[i * 2]? = some (.int .i64 S[i].1.1) ∧ (lcells S)[i * 2 + 1]? = some S[i].1.2 := by
  induction S generalizing i with
  | nil => simp at h
  | cons x r ih =>
    cases i with
    | zero => exact ⟨rfl, rfl⟩
    | succ i =>
      have h1 := ih i (by simpa using h)
      rw [lcells_cons, show (i + 1) * 2 = i * 2 + 1 + 1 by omega]
      exact h1
/-- The slice v reads as these batches. -/
def Lds (w : World) (v : Value) (S : List Lv) : Prop := Rw w 2 v S.length (lcells S) ∧ ∀ x ∈ S, Cgs w x.1.2 x.2
theorem Lds.below {w w' : World} {v : Value} {S : List Lv} (h : Lds w v S) (hb : Below w.heap.size w w') : Lds w' v S := ⟨Rw.below h.1 hb, fun x hx => (h.2 x hx).below hb⟩
theorem Lds.form {w : World} {v : Value} {S : List Lv} (h : Lds w v S) : ∃ ao cap, v = .slice ao S.length cap := Rw.form h.1
theorem Lds.nil (w : World) : Lds w (.slice none 0 0) [] := ⟨Rw.nil w 2, fun x hx => by cases hx⟩
theorem Lds.at {w : World} {ao : Option Addr} {n cap : Nat} {S : List Lv} (h : Lds w (.slice ao n cap) S) {k : Nat} (hk : k < S.length) :
    ∃ b off, ao = some ⟨b, off, none⟩ ∧ (w.cell? ⟨b, off + k * 2, none⟩ = some (.int .i64 S[k].1.1) ∧ w.cell? ⟨b, off + k * 2 + 1, none⟩ = some S[k].1.2) ∧ Cgs w S[k].1.2 S[k].2 := by
  obtain ⟨⟨hl, ao', cap', he, _, hc⟩, hx⟩ := h
  cases he
  rcases hc with h0 | ⟨b, off, rfl, hc⟩
  · omega
  · have h2 := lcells_len S
    obtain ⟨e1, e2⟩ := lcells_at S k hk
    refine ⟨b, off, rfl, ⟨?_, ?_⟩, hx _ (List.getElem_mem hk)⟩
    · rw [hc (k * 2) (by omega), ← e1, List.getElem?_eq_getElem (by omega)]
    · rw [Nat.add_assoc, hc (k * 2 + 1) (by omega), ← e2, List.getElem?_eq_getElem (by omega)]

/-! ### A row of batches of a call's own: trees stay while it grows -/

def isLd : Value → Bool | .int _ _ => true | .slice _ _ _ => true | _ => false
/-- The row is the call's own, its cells up to its room numbers and slices; the changes are not the call's own. -/
def OwnL2 (w : World) (base : Nat) (v : Value) (S : List Lv) : Prop :=
  ((v = .slice none 0 0 ∧ S = []) ∨ ∃ g cap cur, v = .slice (some ⟨g, 0, none⟩) S.length cap ∧ base ≤ g ∧ w.heap[g]? = some (.cells cur 72 (0, 0)) ∧ S.length ≤ cap ∧ cap ≤ maxLen ∧ cur.size = cap * 2 ∧ cur.toList.take (S.length * 2) = lcells S ∧ ∀ u ∈ cur.toList, isLd u = true) ∧
  ∀ x ∈ S, Cgs w x.1.2 x.2
theorem OwnL2.nil (w : World) (base : Nat) : OwnL2 w base (.slice none 0 0) [] := ⟨.inl ⟨rfl, rfl⟩, fun x h => by cases h⟩
theorem OwnL2.lds {w : World} {base : Nat} {v : Value} {S : List Lv} (h : OwnL2 w base v S) : Lds w v S := by
  refine ⟨?_, h.2⟩
  rcases h.1 with ⟨rfl, rfl⟩ | ⟨g, cap, cur, rfl, hb, hg, hn, hc, hs, ht, _⟩
  · exact Rw.nil w 2
  · refine ⟨lcells_len S, _, _, rfl, hn, .inr ⟨g, 0, rfl, fun j hj => ?_⟩⟩
    have h2 := lcells_len S
    rw [cell_of_row w g (0 + j) _ _ _ hg, Nat.zero_add, ← Array.getElem?_toList]
    have : (cur.toList.take (S.length * 2))[j]? = some (lcells S)[j] := by rw [ht, List.getElem?_eq_getElem hj]
    rw [List.getElem?_take] at this
    simpa [show j < S.length * 2 by omega] using this
theorem OwnL2.form {w : World} {base : Nat} {v : Value} {S : List Lv} (h : OwnL2 w base v S) : ∃ ao cap, v = .slice ao S.length cap := h.lds.form
theorem OwnL2.stays {w w' : World} {base : Nat} {v : Value} {S : List Lv} (h : OwnL2 w base v S) (hb : Below w.heap.size w w') : OwnL2 w' base v S := by
  refine ⟨?_, fun x hx => (h.2 x hx).below hb⟩
  rcases h.1 with h | ⟨g, cap, cur, hv, hbg, hg, h1⟩
  · exact .inl h
  · exact .inr ⟨g, cap, cur, hv, hbg, (hb.block g (Array.getElem?_eq_some_iff.1 hg).1).trans hg, h1⟩
end Go.Proofs.YtogicnciheedoaaGreatDoor

/-
  The document's own Big of batches that are laid.
-/
namespace Go.Proofs.YtogicnciheedoaaGreatDoor
set_option maxRecDepth 100000
open Go.RowKit

def bigL (S : List Lv) : Bool := decide (20 < S.length) || S.any fun x => bigC (chs x.2) || decide (25 < x.2.length)
/-- The first k are not too great. -/
def fitL (S : List Lv) (k : Nat) : Prop := ∀ (i : Nat) (hi : i < S.length), i < k → bigC (chs S[i].2) = false ∧ S[i].2.length ≤ 25
theorem fitL_succ {S : List Lv} {k : Nat} (h : fitL S k) (hk : k < S.length) (h1 : bigC (chs S[k].2) = false ∧ S[k].2.length ≤ 25) : fitL S (k + 1) := by
  intro i hi hik
  by_cases he : i = k
  · subst he; exact h1
  · exact h i hi (by omega)
theorem bigL_fit {S : List Lv} (h : fitL S S.length) (hl : S.length ≤ 20) : bigL S = false := by
  unfold bigL
  rw [decide_eq_false (by omega), Bool.false_or, List.any_eq_false]
  intro c hc
  obtain ⟨i, hi, rfl⟩ := List.getElem_of_mem hc
  obtain ⟨h1, h2⟩ := h i hi hi
  simp [h1]
  omega
theorem bigL_at {S : List Lv} {k : Nat} (hk : k < S.length) (h : bigC (chs S[k].2) = true ∨ 25 < S[k].2.length) : bigL S = true := by
  unfold bigL
  rw [Bool.or_eq_true, List.any_eq_true]
  refine .inr ⟨_, List.getElem_mem hk, ?_⟩
  simpa using h
theorem bigL_small {S : List Lv} (h : bigL S = false) : S.length ≤ 20 ∧ ∀ x ∈ S, SmallC (chs x.2) ∧ x.2.length ≤ 25 := by
  unfold bigL at h
  rw [Bool.or_eq_false_iff, List.any_eq_false] at h
  refine ⟨by have := of_decide_eq_false h.1; omega, fun x hx => ?_⟩
  have := h.2 x hx
  rw [Bool.not_eq_true, Bool.or_eq_false_iff] at this
  exact ⟨(bigC_small this.1).1, by have := of_decide_eq_false this.2; omega⟩

/-- What may be asked of the lengths. -/
def FitL (S : List Lv) : Prop := S.length ≤ 9223372036854775807 ∧ ∀ x ∈ S, x.2.length ≤ 9223372036854775807 ∧ ∀ c ∈ chs x.2, c.1.length ≤ 9223372036854775807 ∧ c.2.2.2.2.length ≤ 9223372036854775807

set_option maxHeartbeats 4000000 in
theorem refL_calls (v : Value) (S : List Lv) (w : World) (h : Lds w v S) (hf : FitL S) :
    Calls Tryz.prog 14 #[v] w fun e w' => e = .returned (.bool (bigL S)) ∧ w = w' := by
  obtain ⟨ao, cap, rfl⟩ := h.form
  obtain ⟨hn, hs⟩ := hf
  by_cases h20 : S.length ≤ 20
  · have hd : decide ((S.length : Int) ≤ 20) = true := by rw [decide_eq_true_eq]; omega
    have hd2 : decide ((20 : Int) < (S.length : Int)) = false := by rw [decide_eq_false_iff_not]; omega
    have HH := Lib.hid h
    have HS := Lib.hid hs
    have HF := Lib.hid (fun h => bigL_fit (S := S) h h20)
    clear h hs
    go_enter Tryz.func14, Tryz.ntmps14
    go_wp2_with fail
    go_loop [3] (fun i => ∃ k : Nat, i = .int .i64 k ∧ k ≤ S.length ∧ Hid (fitL S k)) (fun i => S.length - (intOf i).toNat)
    case atStart => exact ⟨0, rfl, Nat.zero_le _, Lib.hid (fun _ _ h => absurd h (Nat.not_lt_zero _))⟩
    case round =>
      obtain ⟨k, rfl, hk, hf⟩ := hrel
      by_cases hlt : k < S.length
      · obtain ⟨b, off, rfl, ⟨c0, c1⟩, hC⟩ := HH.out.at hlt
        have hgo := fun h => fitL_succ hf.out hlt h
        have hno := fun h => bigL_at hlt h
        obtain ⟨hl1, hl2⟩ := HS.out _ (List.getElem_mem hlt)
        obtain ⟨⟨⟨n, u⟩, T⟩, hx⟩ : ∃ x, S[k] = x := ⟨_, rfl⟩
        rw [hx] at c0 c1 hC hgo hno hl1 hl2
        dsimp only at c0 c1 hC hgo hno hl1 hl2
        have KB := Lib.hid (baBig_calls u T w hC hl1 hl2)
        obtain ⟨s1, s3, rfl⟩ := hC.form
        obtain ⟨s2, hs2⟩ : ∃ n, T.length = n := ⟨_, rfl⟩
        rw [hs2] at c1 hgo hno hl1 KB
        have hlt2 : decide ((k : Int) < (S.length : Int)) = true := by rw [decide_eq_true_eq]; omega
        cases hb : bigC (chs T) with
        | true =>
          rw [hb] at KB
          have HR := Lib.hid (hno (.inl hb))
          clear hgo hno hb hx hl2 hs2 hC
          go_wp2_with fail
          refine KB.out.mono ?_
          rintro e w1 ⟨rfl, rfl⟩
          go_wp2_with fail
          go_ret
          exact ⟨by rw [HR.out]; rfl, rfl⟩
        | false =>
          rw [hb] at KB
          by_cases h25 : s2 ≤ 25
          · have hd25 : decide ((25 : Int) < (s2 : Int)) = false := by rw [decide_eq_false_iff_not]; omega
            have HG := Lib.hid (hgo ⟨hb, h25⟩)
            clear hgo hno hb hx hl2 hs2 hC
            go_wp2_with fail
            refine KB.out.mono ?_
            rintro e w1 ⟨rfl, rfl⟩
            go_wp2_with fail
            go_round
            case rel => exact ⟨k + 1, by go_num, by omega, HG⟩
            case measure => simp [intOf]; omega
          · have hd25 : decide ((25 : Int) < (s2 : Int)) = true := by rw [decide_eq_true_eq]; omega
            have HR := Lib.hid (hno (.inr (by omega)))
            clear hgo hno hb hx hl2 hs2 hC
            go_wp2_with fail
            refine KB.out.mono ?_
            rintro e w1 ⟨rfl, rfl⟩
            go_wp2_with fail
            go_ret
            exact ⟨by rw [HR.out]; rfl, rfl⟩
      · obtain rfl : k = S.length := by omega
        have hlt2 : decide ((S.length : Int) < (S.length : Int)) = false := by simp
        have HR := Lib.hid (HF.out hf.out)
        go_wp2_with fail
        go_ret
        exact ⟨by rw [HR.out]; rfl, rfl⟩
  · have HR := Lib.hid (show bigL S = true by unfold bigL; rw [decide_eq_true (by omega)]; rfl)
    have hd : decide ((S.length : Int) ≤ 20) = false := by rw [decide_eq_false_iff_not]; omega
    have hd2 : decide ((20 : Int) < (S.length : Int)) = true := by rw [decide_eq_true_eq]; omega
    have hd3 : decide ((0 : Int) < (S.length : Int)) = true := by rw [decide_eq_true_eq]; omega
    rw [HR.out]
    clear h hs
    go_enter Tryz.func14, Tryz.ntmps14
    go_wp2_with fail
    go_loop [3] (fun i => i = .int .i64 0) (fun _ => 0)
    case atStart => rfl
    case round =>
      subst hrel
      go_wp2_with fail
      go_ret
      exact ⟨rfl, rfl⟩

end Go.Proofs.YtogicnciheedoaaGreatDoor

/-
  Batches that were laid one behind the other, and the store that they make.
-/
namespace Go.Proofs.YtogicnciheedoaaGreatDoor
set_option maxRecDepth 100000
open Go.RowKit

theorem took_vals : ∀ {r : List Ld}, TookR r → ∀ x ∈ layR r, x.2.length ≤ 96
  | [], _, x, hx => by cases hx
  | b :: r, h, x, hx => by
    obtain ⟨h1, _⟩ := layR_facts h.1
    obtain ⟨l1, _, l3, l4⟩ := layB_iff.1 h.2
    obtain ⟨_, _, b3, b4⟩ := isB_iff.1 l3
    rcases (mem_lay_new h1 (sort_unlike b4) (till_last l4) x).1 hx with hx | ⟨c, hc, rfl⟩
    · exact took_vals h.1 x hx
    · exact cval_len (b3 c hc)
theorem sto_took {w : World} {tv : Value} {r : List Ld} (h : TookR r) (hl : (layR r).length ≤ 1000) (ht : TreeV w tv (layR r)) (hm : Ml w) : Sto w tv (layR r) := by
  have hs := (layR_facts h).2
  refine ⟨ht, fun x hx => ?_, hl, fun x hx => ?_, fun x hx => by have := took_vals h x hx; omega, hm⟩
  · obtain ⟨h1, h2, _⟩ := st_times hs x hx
    unfold TimeK
    omega
  · have := under_len ((under_root x.1.1).trans (st_times hs x hx).2.2.1)
    omega

/-- The batches that were taken, in their order; the pairs that are there. -/
def pairsK (K : List Lv) : List Pr := layR (lds K).reverse
def stepK (K : List Lv) (x : Lv) : List Lv := if layB (pairsK K) x.1.1 (chs x.2) then K ++ [x] else K
def tookS (S : List Lv) : List Lv := S.foldl stepK []
def TookK (K : List Lv) : Prop := TookR (lds K).reverse
theorem lds_snoc (K : List Lv) (x : Lv) : (lds (K ++ [x])).reverse = (x.1.1, chs x.2) :: (lds K).reverse := by
  unfold lds
  rw [List.map_append, List.reverse_append]
  rfl
theorem pairsK_snoc (K : List Lv) (x : Lv) : pairsK (K ++ [x]) = layP (pairsK K) x.1.1 (chs x.2) := by
  unfold pairsK
  rw [lds_snoc]
  rfl
theorem stepK_took {K : List Lv} (h : TookK K) (x : Lv) : TookK (stepK K x) := by
  unfold stepK
  split
  · rename_i hl
    unfold TookK
    rw [lds_snoc]
    exact ⟨h, hl⟩
  · exact h
theorem took_snoc {S : List Lv} {k : Nat} (h : k < S.length) : tookS (S.take (k + 1)) = stepK (tookS (S.take k)) S[k] := by
  have e : S.take (k + 1) = S.take k ++ [S[k]] := by rw [List.take_append_getElem]
  rw [e]
  unfold tookS
  rw [List.foldl_append]
  rfl
theorem took_facts : ∀ (S K : List Lv), TookK K → TookK (S.foldl stepK K) ∧ (S.foldl stepK K).length ≤ K.length + S.length ∧ ∀ y ∈ S.foldl stepK K, y ∈ K ∨ y ∈ S
  | [], K, h => ⟨h, Nat.le_refl _, fun y hy => .inl hy⟩
  | x :: r, K, h => by
    obtain ⟨h1, h2, h3⟩ := took_facts r (stepK K x) (stepK_took h x)
    have hl : (stepK K x).length ≤ K.length + 1 := by unfold stepK; split <;> simp
    refine ⟨h1, by rw [List.length_cons]; rw [List.foldl_cons]; omega, fun y hy => ?_⟩
    rcases h3 y hy with hy | hy
    · unfold stepK at hy
      split at hy
      · rcases List.mem_append.1 hy with hy | hy
        · exact .inl hy
        · obtain rfl := List.mem_singleton.1 hy
          exact .inr (by simp)
      · exact .inl hy
    · exact .inr (List.mem_cons_of_mem _ hy)
theorem took_all (S : List Lv) : TookK (tookS S) ∧ (tookS S).length ≤ S.length ∧ ∀ y ∈ tookS S, y ∈ S := by
  obtain ⟨h1, h2, h3⟩ := took_facts S [] trivial
  exact ⟨h1, by simpa [tookS] using h2, fun y hy => (h3 y hy).resolve_left (by simp)⟩
theorem pairsK_len {K : List Lv} (h : TookK K) : (pairsK K).length ≤ 20 * K.length := by
  have := layR_len h
  simpa [pairsK] using this
theorem pairsK_st {K : List Lv} (h : TookK K) : Rises (pairsK K) ∧ isSt (pairsK K) = true := layR_facts h
theorem pairsK_sto {w : World} {tv : Value} {K : List Lv} (h : TookK K) (hl : K.length ≤ 50) (ht : TreeV w tv (pairsK K)) (hm : Ml w) : Sto w tv (pairsK K) :=
  sto_took h (by have := pairsK_len h; unfold pairsK at this; omega) ht hm

end Go.Proofs.YtogicnciheedoaaGreatDoor

/-
  store.Lay.
-/
namespace Go.Proofs.YtogicnciheedoaaGreatDoor
set_option maxRecDepth 100000
open Go.RowKit

theorem layP_len : ∀ (l : List Cg) (U : List Pr) (n : Int), (layP U n l).length ≤ U.length + l.length
  | [], U, n => by simp [layP]
  | c :: r, U, n => by
    have h := layP_len r (putL U ((c.1, n), cval c)) n
    show (layP (putL U ((c.1, n), cval c)) n r).length ≤ _
    rw [putL_length] at h
    rw [List.length_cons]
    split at h <;> omega
theorem layP_snoc {l : List Cg} {k : Nat} (h : k < l.length) (U : List Pr) (n : Int) : layP U n (l.take (k + 1)) = putL (layP U n (l.take k)) ((l[k].1, n), cval l[k]) := by
  have e : l.take (k + 1) = l.take k ++ [l[k]] := by rw [List.take_append_getElem]
  rw [e]
  unfold layP
  rw [List.foldl_append]
  rfl

set_option maxHeartbeats 4000000 in
theorem lay_no {tv : Value} {U : List Pr} {w : World} (h : Sto w tv U) (n : Int) (v : Value) (S : List Cv) (hS : Cgs w v S) (hn : S.length ≤ 1000000) (hs : SmallC (chs S)) (hno : (isSt U && layB U n (chs S)) = false) :
    Calls Tryz.prog 31 #[tv, .int .i64 n, v] w fun e w' => e = .returned (.tuple #[.pointer none, .int .i64 1]) ∧ Below w.heap.size w w' := by
  obtain ⟨tp, rfl⟩ := h.val
  obtain ⟨ao, cap, rfl⟩ := hS.form
  have KB := Lib.hid (baIs_calls _ S w hS hn hs h.2.2.2.2.2)
  have KS := Lib.hid (fun W (hB : Below w.heap.size w W) => surv_calls (h.below hB))
  obtain ⟨b, hb⟩ : ∃ b, isB (chs S) = b := ⟨_, rfl⟩
  obtain ⟨k, hk⟩ : ∃ b, isSt U = b := ⟨_, rfl⟩
  obtain ⟨m, hm⟩ : ∃ b, lastSo U = b := ⟨_, rfl⟩
  have hor : n < 1 ∨ (1 ≤ n ∧ 1000000000 < n) ∨ (1 ≤ n ∧ n ≤ 1000000000 ∧ b = false) ∨ (1 ≤ n ∧ n ≤ 1000000000 ∧ b = true ∧ k = false) ∨ (1 ≤ n ∧ n ≤ 1000000000 ∧ b = true ∧ k = true ∧ n ≤ m) := by
    by_cases h1 : n < 1
    · exact .inl h1
    by_cases h2 : 1000000000 < n
    · exact .inr (.inl ⟨by omega, h2⟩)
    cases b with
    | false => exact .inr (.inr (.inl ⟨by omega, by omega, rfl⟩))
    | true =>
      cases k with
      | false => exact .inr (.inr (.inr (.inl ⟨by omega, by omega, rfl, rfl⟩)))
      | true =>
        refine .inr (.inr (.inr (.inr ⟨by omega, by omega, rfl, rfl, ?_⟩)))
        have h3 : ¬ (layB U n (chs S) = true) := by
          rw [hk] at hno
          simpa using hno
        rw [layB_iff] at h3
        have h4 : lastI U = m := by rw [← hm, lastSo, hk, if_pos rfl]
        rw [h4] at h3
        have h5 : ¬ m < n := fun h => h3 ⟨by omega, by omega, hb, h⟩
        omega
  rw [hb] at KB
  rw [hk, hm] at KS
  clear h hS hs hno hb hk hm
  rcases hor with h1 | ⟨h1, h2⟩ | ⟨h1, h2, rfl⟩ | ⟨h1, h2, rfl, rfl⟩ | ⟨h1, h2, rfl, rfl, h3⟩
  · have d1 : decide (n < 1) = true := decide_eq_true h1
    go_enter Tryz.func31, Tryz.ntmps31
    go_wp2_with fail
    go_ret2
    exact ⟨rfl, Below.refl _ _⟩
  · have d1 : decide (n < 1) = false := decide_eq_false (by omega)
    have d2 : decide (1000000000 < n) = true := decide_eq_true h2
    go_enter Tryz.func31, Tryz.ntmps31
    go_wp2_with fail
    go_ret2
    exact ⟨rfl, Below.refl _ _⟩
  · have d1 : decide (n < 1) = false := decide_eq_false (by omega)
    have d2 : decide (1000000000 < n) = false := decide_eq_false (by omega)
    go_enter Tryz.func31, Tryz.ntmps31
    go_wp2_with fail
    refine KB.out.mono ?_
    rintro e w1 ⟨rfl, hB⟩
    go_wp2_with fail
    go_ret2
    exact ⟨rfl, hB⟩
  · have d1 : decide (n < 1) = false := decide_eq_false (by omega)
    have d2 : decide (1000000000 < n) = false := decide_eq_false (by omega)
    go_enter Tryz.func31, Tryz.ntmps31
    go_wp2_with fail
    refine KB.out.mono ?_
    rintro e w1 ⟨rfl, hB⟩
    go_wp2_with fail
    refine (KS.out _ hB).mono ?_
    rintro e w2 ⟨rfl, hB2⟩
    go_wp2_with fail
    go_ret2
    exact ⟨rfl, below2 hB hB2⟩
  · have d1 : decide (n < 1) = false := decide_eq_false (by omega)
    have d2 : decide (1000000000 < n) = false := decide_eq_false (by omega)
    have d3 : decide (n ≤ m) = true := decide_eq_true h3
    go_enter Tryz.func31, Tryz.ntmps31
    go_wp2_with fail
    refine KB.out.mono ?_
    rintro e w1 ⟨rfl, hB⟩
    go_wp2_with fail
    refine (KS.out _ hB).mono ?_
    rintro e w2 ⟨rfl, hB2⟩
    go_wp2_with fail
    go_ret2
    exact ⟨rfl, below2 hB hB2⟩

set_option maxHeartbeats 8000000 in
theorem lay_ok {tv : Value} {U : List Pr} {w : World} (h : Sto w tv U) (n : Int) (v : Value) (S : List Cv) (hS : Cgs w v S) (hs : SmallC (chs S)) (hk : isSt U = true) (hl : layB U n (chs S) = true) :
    Calls Tryz.prog 31 #[tv, .int .i64 n, v] w fun e w' => ∃ u, e = .returned (.tuple #[u, .int .i64 0]) ∧ TreeV w' u (layP U n (chs S)) ∧ Below w.heap.size w w' := by
  obtain ⟨l1, l2, l3, l4⟩ := layB_iff.1 hl
  have hn : S.length ≤ 20 := by
    have := (isB_iff.1 l3).2.1
    simpa using this
  have hU := h.2.2.1
  have KB := Lib.hid (baIs_calls v S w hS (by omega) hs h.2.2.2.2.2)
  have KS := Lib.hid (fun W (hB : Below w.heap.size w W) => surv_calls (h.below hB))
  have hm : lastSo U = lastI U := by rw [lastSo, if_pos hk]
  rw [l3] at KB
  rw [hk, hm] at KS
  obtain ⟨m, hme⟩ : ∃ b, lastI U = b := ⟨_, rfl⟩
  rw [hme] at KS l4
  have d1 : decide (n < 1) = false := decide_eq_false (by omega)
  have d2 : decide (1000000000 < n) = false := decide_eq_false (by omega)
  have d3 : decide (n ≤ m) = false := decide_eq_false (by omega)
  have HH := Lib.hid (And.intro h.1 (And.intro hS hs))
  obtain ⟨tp, rfl⟩ := h.val
  obtain ⟨ao, cap, rfl⟩ := hS.form
  have HL := Lib.hid (show (chs S).length = S.length by simp)
  clear h hS hs hk hl hm hme l3
  go_enter Tryz.func31, Tryz.ntmps31
  go_wp2_with fail
  refine KB.out.mono ?_
  rintro e w1 ⟨rfl, hB⟩
  go_wp2_with fail
  refine (KS.out _ hB).mono ?_
  rintro e w2 ⟨rfl, hB2⟩
  have HB2 := Lib.hid (below2 hB hB2)
  clear hB hB2
  go_wp2_with fail
  go_loopw [39, 0] (fun i t wr => ∃ k : Nat, i = .int .i64 k ∧ k ≤ S.length ∧ TreeV wr t (layP U n ((chs S).take k)) ∧ Below w.heap.size w wr) (fun i _ _ => S.length - (intOf i).toNat)
  case atStart => exact ⟨0, rfl, Nat.zero_le _, HH.out.1.below HB2.out, HB2.out⟩
  case round =>
    obtain ⟨k, rfl, hk, ht, hBr⟩ := hrel
    by_cases hlt : k < S.length
    · have hd : decide ((k : Int) < (S.length : Int)) = true := by simp; omega
      obtain ⟨b, off, rfl, ⟨c0, c1, c2, c3, c4⟩, hI⟩ := (HH.out.2.1.below hBr).at hlt
      have hltc : k < (chs S).length := by rw [HL.out]; exact hlt
      have hsm := (HH.out.2.2 _ (List.getElem_mem hltc)).2
      have hsn := Lib.hid (layP_snoc hltc U n)
      have hle := layP_len ((chs S).take k) U n
      rw [List.length_take, HL.out] at hle
      have hgt : (chs S)[k] = S[k].1 := by simp
      rw [hgt] at hsm hsn
      obtain ⟨⟨⟨q, g, z, d, cs⟩, vv⟩, hx⟩ : ∃ x, S[k] = x := ⟨_, rfl⟩
      rw [hx] at c0 c1 c2 c3 c4 hI hsm hsn
      dsimp only at c0 c1 c2 c3 c4 hI hsm hsn
      obtain ⟨s1, s3, rfl⟩ := hI.form
      obtain ⟨tq, rfl⟩ := ht.val
      obtain ⟨s2, hs2⟩ : ∃ n, cs.length = n := ⟨_, rfl⟩
      have KV := Lib.hid (fun W (hB : Below wr.heap.size wr W) => mValue_calls z d _ cs g W (hI.below hB) hsm)
      have KT := Lib.hid (fun s W (hB : Below wr.heap.size wr W) => tput_calls _ _ q n s W (ht.below hB) (by omega))
      have HX := Lib.hid (Cx.new wr 117 [.string ⟨q.toArray⟩, .bool g, .int .i64 z, .int .i64 d, .slice s1 s2 s3])
      have hBa := below_alloc wr (.cells #[.string ⟨q.toArray⟩, .bool g, .int .i64 z, .int .i64 d, .slice s1 s2 s3] 117)
      have HBR := Lib.hid (And.intro hBr hBa)
      rw [hs2] at c4 KV
      clear hI hsm hx hgt ht hBr hBa
      go_wp2_with fail
      refine (KV.out _ HBR.out.2).mono ?_
      rintro e w3 ⟨rfl, hB3⟩
      clear c0 c1 c2 c3 c4
      obtain ⟨c0, c1, c2, c3, c4⟩ := (HX.out.below hB3).five
      have HB3 := Lib.hid (below2 HBR.out.2 hB3)
      clear hB3
      go_wp2_with fail
      refine (KT.out _ _ HB3.out).mono ?_
      rintro e w4 ⟨u, rfl, hu, hB4⟩
      have HU := Lib.hid hu
      clear hu
      go_wp2_with fail
      go_roundw
      case rel => exact ⟨k + 1, by go_num, by omega, by rw [hsn.out]; exact HU.out, below3 HBR.out.1 HB3.out hB4⟩
      case measure => simp [intOf]; omega
    · obtain rfl : k = S.length := by omega
      have hd : decide ((S.length : Int) < (S.length : Int)) = false := by simp
      rw [List.take_of_length_le (Nat.le_of_eq HL.out)] at ht
      have HT := Lib.hid ht
      clear ht
      go_wp2_with fail
      go_ret2
      exact ⟨_, rfl, HT.out, hBr⟩

end Go.Proofs.YtogicnciheedoaaGreatDoor

/-
  Batches that came in, opened.
-/
namespace Go.Proofs.YtogicnciheedoaaGreatDoor
set_option maxRecDepth 100000
open Go.RowKit Go.Joins Go.ChangeShapes Go.WideShapes Go.Deep

theorem laidCells : Tryz.prog.cellsOf 72 = 2 := by kernel_rfl
/-- Two cells that are a batch, and its time. -/
theorem laid_trod {W : World} {n : Nat} {H : Type} {enc : TypeId × Value → H} {x : DataW H × List MemPlace} {c0 c1 : Value}
    (hf : DataW.trod enc Tryz.prog W 0 (fun _ => true) true n 72 [c0, c1] = some x) : ∃ y : Lv, (c0 = .int .i64 y.1.1 ∧ c1 = y.1.2) ∧ Cgs W y.1.2 y.2 ∧ y.2.length ≤ maxLen ∧ ∀ c ∈ chs y.2, c.1.length ≤ maxLen ∧ c.2.2.2.2.length ≤ maxLen := by
  have ki : Tryz.prog.cellsOf 3 = 1 := by kernel_rfl
  have kr : Tryz.prog.cellsOf 70 = 1 := by kernel_rfl
  obtain ⟨xs, k, _, _, _, hl, hc⟩ := DataW.trod_struct Tryz.underlying72 hf
  match xs, hl with
  | [x0, x1], _ =>
    have g0 := hc 0 _ rfl
    have g1 := hc 1 _ rfl
    simp [ki] at g0
    simp [kr] at g1
    obtain ⟨z, e0, _, _⟩ := DataW.trod_int Tryz.underlying3 g0
    obtain ⟨S, h1, h2, h3⟩ := changes_trod g1
    simp at e0
    subst e0
    exact ⟨((z, c1), S), ⟨rfl, rfl⟩, h1, h2, h3⟩

set_option maxHeartbeats 1000000 in
/-- A row of batches. -/
theorem laids_open {W : World} {base : Nat} {v : Value} {H : Type} {enc : TypeId × Value → H} {d : DataW H} {p : List MemPlace} (hv : Value.okWide Tryz.prog W .any base 35 v)
    (h : DataW.Trod enc Tryz.prog W 0 (fun _ => true) true 35 v d p) : ∃ S : List Lv, Lds W v S ∧ S.length ≤ maxLen ∧ ∀ x ∈ S, x.2.length ≤ maxLen ∧ ∀ c ∈ chs x.2, c.1.length ≤ maxLen ∧ c.2.2.2.2.length ≤ maxLen := by
  obtain ⟨a0, len0, cap0, rfl⟩ := okWide_slice Tryz.underlying35 hv
  obtain ⟨fuel, hf⟩ := h
  rcases open_slice Tryz.underlying35 hf with ⟨hcs, _⟩ | ⟨a, l, c, m, k, D, Pl, hcs, _, hl, hm, hz, _, hcell⟩
  · simp [Value.cells] at hcs
    obtain ⟨rfl, rfl, rfl⟩ := hcs
    exact ⟨[], Lds.nil W, by simp, fun x hx => by cases hx⟩
  · simp [Value.cells] at hcs
    obtain ⟨rfl, rfl, rfl⟩ := hcs
    have hz' : m = cap0 := by simpa using hz
    rw [laidCells] at hcell
    have each : ∀ i, i < m → ∃ y : Lv, (W.cell? (a.add (i * 2)) = some (.int .i64 y.1.1) ∧ W.cell? (a.add (i * 2 + 1)) = some y.1.2) ∧ Cgs W y.1.2 y.2 ∧ y.2.length ≤ maxLen ∧ ∀ c ∈ chs y.2, c.1.length ≤ maxLen ∧ c.2.2.2.2.length ≤ maxLen := by
      intro i hi
      obtain ⟨cs', h1, h2⟩ := hcell i hi
      obtain ⟨_, hlen, hc⟩ := World.cells?_some h1
      match cs', hlen with
      | [v0, v1], _ =>
        have e0 := hc 0 (by omega)
        have e1 := hc 1 (by omega)
        rw [add_add] at e0 e1
        obtain ⟨y, ⟨rfl, rfl⟩, hy⟩ := laid_trod h2
        exact ⟨y, ⟨by simpa using e0, by simpa using e1⟩, hy⟩
    obtain ⟨Y, hY⟩ := choose_lt each
    have hll : ((List.range len0).map Y).length = len0 := by simp
    refine ⟨(List.range len0).map Y, ⟨⟨lcells_len _, some a, cap0, by rw [hll], by rw [hll]; omega, ?_⟩, ?_⟩, by rw [hll]; omega, ?_⟩
    · by_cases h0 : len0 = 0
      · left; rw [hll]; exact h0
      · right
        obtain ⟨b, off, spot⟩ := a
        have hspot : spot = none := by simpa [Addr.add] using World.cell?_spot (hY 0 (by omega)).1.1
        subst hspot
        refine ⟨b, off, rfl, fun j hj => ?_⟩
        have hj2 : j < len0 * 2 := by rw [lcells_len, hll] at hj; exact hj
        have hq : j / 2 < len0 := by omega
        obtain ⟨e0, e1⟩ := lcells_at ((List.range len0).map Y) (j / 2) (by rw [hll]; exact hq)
        obtain ⟨⟨y0, y1⟩, _⟩ := hY (j / 2) (by omega)
        rw [Go.WideShapes.add_plain] at y0 y1
        simp only [List.getElem_map, List.getElem_range] at e0 e1
        rcases (by omega : j % 2 = 0 ∨ j % 2 = 1) with h | h
        · have ej : j / 2 * 2 = j := by omega
          rw [ej] at e0 y0
          rw [y0, ← e0, List.getElem?_eq_getElem hj]
        · have ej : j / 2 * 2 + 1 = j := by omega
          rw [ej] at e1 y1
          rw [y1, ← e1, List.getElem?_eq_getElem hj]
    · intro x hx
      obtain ⟨r, hr, rfl⟩ := List.mem_map.1 hx
      exact (hY r (by have := List.mem_range.1 hr; omega)).2.1
    · intro x hx
      obtain ⟨r, hr, rfl⟩ := List.mem_map.1 hx
      exact (hY r (by have := List.mem_range.1 hr; omega)).2.2

end Go.Proofs.YtogicnciheedoaaGreatDoor

/-
  store.AsOf of any tree.
-/
namespace Go.Proofs.YtogicnciheedoaaGreatDoor
set_option maxRecDepth 100000
open Go.RowKit

set_option maxHeartbeats 4000000 in
theorem asOf_no {tv : Value} {U : List Pr} {w : World} (h : Sto w tv U) (hs : isSt U = false) (p : List UInt8) (n : Int) :
    Calls Tryz.prog 20 #[tv, .string ⟨p.toArray⟩, .int .i64 n] w fun e w' => e = .returned (.tuple #[EV ([], 0, 0, 0, []) (.slice none 0 0), .bool false, .int .i64 1]) ∧ Below w.heap.size w w' := by
  obtain ⟨tp, rfl⟩ := h.val
  have hB0 := below_alloc w (.cells #[.string ⟨#[]⟩, .int .i64 0, .int .i64 0, .int .i64 0, .slice none 0 0] 50)
  have HE := Lib.hid (Cx.new w 50 [.string ⟨#[]⟩, .int .i64 0, .int .i64 0, .int .i64 0, .slice none 0 0])
  have KR := Lib.hid (fun W (hB : Below w.heap.size w W) => refusal_no (h.below hB) hs p n)
  have HH := Lib.hid hB0
  clear h hs hB0
  go_enter Tryz.func20, Tryz.ntmps20
  go_wp2_with fail
  refine (KR.out _ HH.out).mono ?_
  rintro e w1 ⟨rfl, hB1⟩
  have HB1 := Lib.hid (below2 HH.out hB1)
  have HE1 := Lib.hid (HE.out.below hB1)
  obtain ⟨⟨e0, e1, e2, e3, e4⟩, ⟨f0, f1, f2, f3, f4⟩, hlE⟩ := HE1.out.five2
  clear hB1
  go_wp2_with fail
  have hkk := keeps_sets5 w.heap.size w1 (.string ⟨#[]⟩) (.int .i64 0) (.int .i64 0) (.int .i64 0) (.slice none 0 0)
  exact ret_ent3 rfl rfl w.heap.size _ _ _ _ _ _ _ rfl rfl rfl (HE1.out.sets5 _ _ _ _ _) ⟨rfl, hkk.on HB1.out (Nat.le_refl _) HB1.out.size⟩

theorem asOfX_calls {tv : Value} {U : List Pr} {w : World} (h : Sto w tv U) (p : List UInt8) (n : Int) (hl : p.length ≤ 1000000) :
    Calls Tryz.prog 20 #[tv, .string ⟨p.toArray⟩, .int .i64 n] w fun e w' => ∃ v, e = .returned (.tuple #[EV (enD (asX U p n)) v, .bool (asX U p n).isSome, .int .i64 (refX U p n)]) ∧ OwnI w' w.heap.size v (enD (asX U p n)).2.2.2.2 ∧ Below w.heap.size w w' := by
  unfold asX refX
  cases hs : isSt U with
  | false => exact (asOf_no h hs p n).mono fun e w' he => ⟨_, he.1, World.ownsRow_nil _ _ _ _, he.2⟩
  | true => exact asOf_calls h hs p n hl

end Go.Proofs.YtogicnciheedoaaGreatDoor
