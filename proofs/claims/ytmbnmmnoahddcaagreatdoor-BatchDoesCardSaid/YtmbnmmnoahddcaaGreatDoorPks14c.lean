/-
  The texts of one folder in one: BaRefG, BaOpen, BaBig, BaCv, BaSmudge, BaOwn, BaPutB, BaPutE, BaPutA, BaPutS, BaRefN, BaRefP.
-/
import Derived.Test.YtmbnmmnoahddcaaGreatDoorPks14b
import Derived.Test.YtmbnmmnoahddcaaGreatDoorPks12
import Derived.Test.YtmbnmmnoahddcaaGreatDoorPks01
import Derived.Test.YtmbnmmnoahddcaaGreatDoorPks14a
import Derived.Deep.Grids
import Derived.Deep.AppendLies
import Derived.Deep.DeepCutAuto
import Derived.Deep.RegionHeld3

/-
  The document's own Get of changes.
-/
namespace Go.Proofs.YtmbnmmnoahddcaaGreatDoor
set_option maxRecDepth 100000
open Go.RowKit

theorem flat_one {α : Type} : ∀ {l : List (List α)} {t : List α}, t ∈ l → t.length ≤ l.flatten.length
  | x :: r, t, h => by
    rw [List.flatten_cons, List.length_append]
    rcases List.mem_cons.1 h with rfl | h
    · omega
    · have := flat_one h
      omega
theorem getR_short {s r : List UInt8} {ts : List (List UInt8)} (h : getR s = some (ts, r)) : ∀ t ∈ ts, t.length ≤ s.length := by
  intro t ht
  obtain ⟨e, _, _⟩ := getR_laid h
  rw [e, List.length_append]
  have h1 : (txtB t).length ≤ (rowB ts).length := by
    unfold rowB
    rw [List.length_append]
    have := flat_one (List.mem_map.2 ⟨t, ht, rfl⟩ : txtB t ∈ ts.map txtB)
    omega
  have h2 := txtB_length t
  omega

set_option maxHeartbeats 8000000 in
theorem rBaGet_calls (s : List UInt8) (hs : s.length ≤ 1000) (w : World) :
    Calls Tryz.prog 18 #[.string ⟨s.toArray⟩] w fun e w' => ∃ v' S', e = .returned (.tuple #[v', .int .i64 (gotCE s)]) ∧ OwnC w' w.heap.size v' S' ∧ chs S' = gotC s ∧ Below w.heap.size w w' := by
  cases hr : getR s with
  | none =>
    have HN := Lib.hid (got_none (getC_none hr))
    have KG := Lib.hid (refGetRow_none s (by omega) hr w)
    clear hr
    go_enter Tryz.func18, Tryz.ntmps18
    go_wp2_with fail
    refine KG.out.mono ?_
    rintro e w1 ⟨rfl, hB⟩
    go_wp2_with fail
    go_ret2
    exact ⟨_, [], by rw [HN.out.2]; rfl, OwnC.nil _ _, by rw [HN.out.1]; rfl, hB⟩
  | some x =>
  obtain ⟨row, rest⟩ := x
  have KG := Lib.hid (refGetRow_some s (by omega) hr w)
  by_cases hre : rest = []
  · subst hre
    have hlr := (getR_laid hr).2
    have hrs : ∀ t ∈ row, t.length ≤ 1000 := fun t ht => Nat.le_trans (getR_short hr t ht) hs
    by_cases h2 : row.length % 2 = 0
    · have HR := Lib.hid hr
      have hmod : ((row.length : Int)).tmod 2 = 0 := by rw [Int.tmod_eq_emod_of_nonneg (by omega)]; omega
      have H2 := Lib.hid h2
      have HLR := Lib.hid hrs
      have hlr := hlr.1
      clear hr h2 hrs
      go_enter Tryz.func18, Tryz.ntmps18
      go_wp2_with fail
      refine KG.out.mono ?_
      rintro e w1 ⟨vr, rfl, hB1, hor⟩
      have HO1 := Lib.hid hor
      have HB1 := Lib.hid hB1
      obtain ⟨ar, cr, rfl⟩ := (Rw.own hor).form
      clear hor hB1
      go_wp2_with fail
      go_loopw [7, 8] (fun r i wr => ∃ (k : Nat) (S' : List Cv), i = .int .i64 ((2 * k : Nat) : Int) ∧ 2 * k ≤ row.length ∧ OwnC wr w.heap.size r S' ∧ Hid (chs S' = pairsL row k) ∧ Hid (pairsB row k = true) ∧ Hid (OwnL wr w.heap.size (.slice ar row.length cr) row) ∧ Hid (Below w.heap.size w wr)) (fun _ i _ => row.length - (intOf i).toNat)
      case atStart => exact ⟨0, [], rfl, Nat.zero_le _, OwnC.nil _ _, Lib.hid rfl, Lib.hid rfl, HO1, HB1⟩
      case round =>
        obtain ⟨k, S', rfl, hk, hown, hch, hpb, hor, hB⟩ := hrel
        by_cases hlt : 2 * k < row.length
        · have hlt2 : 2 * k + 1 < row.length := by have := H2.out; omega
          obtain ⟨b, off, rfl, hc0⟩ := (ownL_txts hor.out).strs.at hlt
          obtain ⟨b', off', he, hc1⟩ := (ownL_txts hor.out).strs.at hlt2
          cases he
          have hq2 := HLR.out _ (List.getElem_mem hlt2)
          have e0 := getD_at hlt
          have e1 := getD_at hlt2
          have hgn := fun h => got_none (getC_red HR.out hlt2 h)
          have hps := fun h => pairsB_snoc (row := row) hpb.out h
          have hpa : pairAt row k = (row[2 * k], redG row[2 * k + 1], redM row[2 * k + 1]) := by rw [pairAt, e0, e1]
          have hpl := pairs_snoc row k
          rw [e1] at hgn hps
          rw [hpa] at hpl
          generalize row[2 * k] = p at hc0 hpl
          generalize row[2 * k + 1] = t at hc1 hpl hgn hps hq2
          have KR := rRead_calls t hq2 wr
          have hlen : S'.length = k := by
            have := congrArg List.length hch.out
            rwa [List.length_map, pairs_len] at this
          have HLN := Lib.hid hlen
          have HPL := Lib.hid hpl
          have hkk : ((2 * k : Nat) : Int) + 1 = ((2 * k + 1 : Nat) : Int) := by omega
          have hsz := hB.out.size
          have hS5 : S'.length ≤ 100000 := by omega
          clear hpa e0 e1 hpl hlen
          generalize redG t = g at KR HPL
          obtain ⟨⟨z, d, cs⟩, hzd⟩ : ∃ m, redM t = m := ⟨_, rfl⟩
          rw [hzd] at KR HPL
          dsimp only at KR
          clear hzd
          by_cases he : redE t = 0
          · rw [he] at KR
            have K := Lib.hid KR
            have HPS := Lib.hid (hps he)
            clear KR hgn hps he
            go_wp2_with fail
            refine K.out.mono ?_
            rintro e w2 ⟨v2, rfl, ho2, hB2⟩
            have HC2 := Lib.hid (hown.stays hB2)
            have HO2 := Lib.hid (ownL_below hor.out hB2)
            have HBB := Lib.hid (below2 hB.out hB2)
            have HI2 := Lib.hid (own_weak ho2 hsz)
            have hd0 := look_below hB2 hc0
            obtain ⟨a2, n2, c2, rfl⟩ := own_form ho2
            clear ho2 hB2 hc0 hc1
            go_wp2_with fail
            have hBW := below2 (below_alloc2 w2 (.cells #[.int .i64 z, .int .i64 d, .slice a2 n2 c2] 34) (.cells #[.string ⟨p.toArray⟩, .bool g, .int .i64 z, .int .i64 d, .slice a2 n2 c2] 36)) (drew_below _)
            have HC4 := Lib.hid (HC2.out.stays hBW)
            have HI4 := Lib.hid (own_stays HI2.out hBW)
            have HO4 := Lib.hid (ownL_below HO2.out hBW)
            have hBB4 := Lib.hid (below2 HBB.out hBW)
            have hsz4 := hBB4.out.size
            have HNW := Lib.hid (news_drew (w2.alloc (.cells #[.int .i64 z, .int .i64 d, .slice a2 n2 c2] 34)) (ccell ((p, g, z, d, cs), .slice a2 n2 c2)) 36)
            rw [World.size_alloc] at HNW
            have hd1 := look_below (below_alloc w2 (.cells #[.int .i64 z, .int .i64 d, .slice a2 n2 c2] 34)) hd0
            have hd2 := look_below (drew_below _) hd1
            have hi1 : (0 : Int) ≤ 2 * (k : Int) := by omega
            have hi2 : 2 * (k : Int) < (row.length : Int) := by omega
            have hi3 : (2 * (k : Int)).toNat = 2 * k := by omega
            clear hBW
            go_region_law (refine step_change rfl (.tmp 49) (.tmp 57) rfl w.heap.size _ S' rfl HC4.out (w2.heap.size + 1) ((p, g, z, d, cs), .slice a2 n2 c2) HI4.out rfl HNW.out hS5 hsz4 ?_; intro v' w3 ho3 hB3 hK3)
            all_goals
              go_wp2_with fail
              go_roundw
              case rel => exact ⟨k + 1, _, by go_num, by omega, ho3, Lib.hid (by rw [HPL.out, ← hch.out]; simp), HPS, Lib.hid (hK3 _ _ _ _ _ _ (by decide) HO4.out), Lib.hid (hB3 w hBB4.out)⟩
              case measure => simp [intOf]; omega
          · obtain ⟨E, hE⟩ : ∃ E, redE t = E := ⟨_, rfl⟩
            rw [hE] at KR
            have hne : (E != 0) = true := by rw [bne_iff_ne, ← hE]; exact he
            have HN := Lib.hid (hgn he)
            have K := Lib.hid KR
            clear KR hgn hps he hE
            go_wp2_with fail
            refine K.out.mono ?_
            rintro e w2 ⟨v2, rfl, ho2, hB2⟩
            obtain ⟨a2, n2, c2, rfl⟩ := own_form ho2
            have HBB := Lib.hid (below2 hB.out hB2)
            clear ho2 hB2 hc0 hc1
            go_wp2_with fail
            go_ret2
            exact ⟨_, [], by rw [HN.out.2]; rfl, OwnC.nil _ _, by rw [HN.out.1]; rfl, below2 HBB.out (below_alloc _ _)⟩
        · have hk2 : 2 * k = row.length := by omega
          have hkd : row.length / 2 = k := by omega
          have hge := getC_end HR.out H2.out (by rw [hkd]; exact hpb.out)
          rw [hkd, ← hch.out] at hge
          have hlen : S'.length = k := by
            have := congrArg List.length hch.out
            rwa [List.length_map, pairs_len] at this
          have KI := rBaIs_calls _ S' wr hown.cgs (by omega) (fun c hc => by
            rw [hch.out] at hc
            obtain ⟨i, hi, rfl⟩ := List.mem_map.1 hc
            have hi2 := List.mem_range.1 hi
            have q1 : 2 * i < row.length := by omega
            rw [pairAt, getD_at q1]
            exact ⟨Nat.le_trans (HLR.out _ (List.getElem_mem q1)) (by omega), Nat.le_trans (red_small (row.getD (2 * i + 1) [])) (by omega)⟩)
          obtain ⟨a5, c5, rfl⟩ := hown.form
          have HW := Lib.hid hown
          clear hch hor hlen hkd hown
          cases hb : isB (chs S') with
          | false =>
            rw [hb] at KI hge
            have K := Lib.hid KI
            have HX := Lib.hid (got_none hge)
            clear KI hb hge
            go_wp2_with fail
            refine K.out.mono ?_
            rintro e w3 ⟨rfl, hB3⟩
            go_wp2_with fail
            go_ret2
            exact ⟨_, [], by rw [HX.out.2]; rfl, OwnC.nil _ _, by rw [HX.out.1]; rfl, below2 hB.out hB3⟩
          | true =>
            rw [hb] at KI hge
            have K := Lib.hid KI
            have HX := Lib.hid (got_some hge)
            clear KI hb hge
            go_wp2_with fail
            refine K.out.mono ?_
            rintro e w3 ⟨rfl, hB3⟩
            go_wp2_with fail
            go_ret2
            exact ⟨_, S', by rw [HX.out.2]; rfl, HW.out.stays hB3, by rw [HX.out.1], below2 hB.out hB3⟩
    · have HN := Lib.hid (got_none (getC_rest hr (.inr (by omega))))
      have hmod : ((row.length : Int)).tmod 2 = 1 := by rw [Int.tmod_eq_emod_of_nonneg (by omega)]; omega
      clear hr h2 hlr hrs
      go_enter Tryz.func18, Tryz.ntmps18
      go_wp2_with fail
      refine KG.out.mono ?_
      rintro e w1 ⟨vr, rfl, hB1, hor⟩
      obtain ⟨ar, cr, rfl⟩ := (Rw.own hor).form
      clear hor
      go_wp2_with fail
      go_ret2
      exact ⟨_, [], by rw [HN.out.2]; rfl, OwnC.nil _ _, by rw [HN.out.1]; rfl, hB1⟩
  · have HN := Lib.hid (got_none (getC_rest hr (.inl hre)))
    obtain ⟨he, _⟩ := empty_no hre
    clear hr hre
    go_enter Tryz.func18, Tryz.ntmps18
    go_wp2_with fail
    refine KG.out.mono ?_
    rintro e w1 ⟨vr, rfl, hB1, hor⟩
    obtain ⟨ar, cr, rfl⟩ := (Rw.own hor).form
    clear hor
    go_wp2_with fail
    go_ret2
    exact ⟨_, [], by rw [HN.out.2]; rfl, OwnC.nil _ _, by rw [HN.out.1]; rfl, hB1⟩

end Go.Proofs.YtmbnmmnoahddcaaGreatDoor

/-
  Changes that came in, opened.
-/
namespace Go.Proofs.YtmbnmmnoahddcaaGreatDoor
set_option maxRecDepth 100000
open Go.RowKit Go.Joins Go.ChangeShapes Go.WideShapes Go.Deep

theorem changeCells : Tryz.prog.cellsOf 36 = 5 := by kernel_rfl
/-- Five cells that are a change. -/
theorem change_trod {W : World} {n : Nat} {H : Type} {enc : TypeId × Value → H} {x : DataW H × List MemPlace} {c0 c1 c2 c3 c4 : Value}
    (hf : DataW.trod enc Tryz.prog W 0 (fun _ => true) true n 36 [c0, c1, c2, c3, c4] = some x) : ∃ y : Cv, (c0 = .string ⟨y.1.1.toArray⟩ ∧ c1 = .bool y.1.2.1 ∧ c2 = .int .i64 y.1.2.2.1 ∧ c3 = .int .i64 y.1.2.2.2.1 ∧ c4 = y.2) ∧ Ints W y.2 y.1.2.2.2.2 ∧ y.1.1.length ≤ maxLen ∧ y.1.2.2.2.2.length ≤ maxLen := by
  have ks : Tryz.prog.cellsOf 9 = 1 := by kernel_rfl
  have kb : Tryz.prog.cellsOf 4 = 1 := by kernel_rfl
  have km : Tryz.prog.cellsOf 34 = 3 := metaCells
  have ki : Tryz.prog.cellsOf 3 = 1 := by kernel_rfl
  have kr : Tryz.prog.cellsOf 32 = 1 := by kernel_rfl
  obtain ⟨xs, k, _, _, _, hl, hc⟩ := DataW.trod_struct Tryz.underlying36 hf
  match xs, hl with
  | [x0, x1, x2], _ =>
    have g0 := hc 0 _ rfl
    have g1 := hc 1 _ rfl
    have g2 := hc 2 _ rfl
    simp [ks] at g0
    simp [kb] at g1
    simp [km] at g2
    obtain ⟨ys, j, _, _, _, hm, hd⟩ := DataW.trod_struct Tryz.underlying34 g2
    match ys, hm with
    | [y0, y1, y2], _ =>
      have f0 := hd 0 _ rfl
      have f1 := hd 1 _ rfl
      have f2 := hd 2 _ rfl
      simp [ki] at f0
      simp [ki] at f1
      simp [kr] at f2
      obtain ⟨s0, e0, _, hs0⟩ := DataW.trod_string Tryz.underlying9 g0
      obtain ⟨b, e1, _⟩ := DataW.trod_bool Tryz.underlying4 g1
      obtain ⟨z, e2, _, _⟩ := DataW.trod_int Tryz.underlying3 f0
      obtain ⟨d, e3, _, _⟩ := DataW.trod_int Tryz.underlying3 f1
      obtain ⟨cs, i1, i2⟩ := ints_trod f2
      simp at e0 e1 e2 e3
      subst e0 e1 e2 e3
      obtain ⟨l0, rfl⟩ := bytes_list s0
      exact ⟨((l0, b, z, d, cs), c4), ⟨rfl, rfl, rfl, rfl, rfl⟩, i1, by simpa [ByteArray.size] using hs0, i2⟩

set_option maxHeartbeats 1000000 in
/-- A row of changes. -/
theorem changes_open {W : World} {base : Nat} {v : Value} {H : Type} {enc : TypeId × Value → H} {d : DataW H} {p : List MemPlace} (hv : Value.okWide Tryz.prog W .any base 22 v)
    (h : DataW.Trod enc Tryz.prog W 0 (fun _ => true) true 22 v d p) : ∃ S : List Cv, Cgs W v S ∧ S.length ≤ maxLen ∧ ∀ c ∈ chs S, c.1.length ≤ maxLen ∧ c.2.2.2.2.length ≤ maxLen := by
  obtain ⟨a0, len0, cap0, rfl⟩ := okWide_slice Tryz.underlying22 hv
  obtain ⟨fuel, hf⟩ := h
  rcases open_slice Tryz.underlying22 hf with ⟨hcs, _⟩ | ⟨a, l, c, m, k, D, Pl, hcs, _, hl, hm, hz, _, hcell⟩
  · simp [Value.cells] at hcs
    obtain ⟨rfl, rfl, rfl⟩ := hcs
    exact ⟨[], Cgs.nil W, by simp, fun x hx => by cases hx⟩
  · simp [Value.cells] at hcs
    obtain ⟨rfl, rfl, rfl⟩ := hcs
    have hz' : m = cap0 := by simpa using hz
    rw [changeCells] at hcell
    have each : ∀ i, i < m → ∃ y : Cv, (W.cell? (a.add (i * 5)) = some (.string ⟨y.1.1.toArray⟩) ∧ W.cell? (a.add (i * 5 + 1)) = some (.bool y.1.2.1) ∧ W.cell? (a.add (i * 5 + 2)) = some (.int .i64 y.1.2.2.1) ∧ W.cell? (a.add (i * 5 + 3)) = some (.int .i64 y.1.2.2.2.1) ∧ W.cell? (a.add (i * 5 + 4)) = some y.2) ∧ Ints W y.2 y.1.2.2.2.2 ∧ y.1.1.length ≤ maxLen ∧ y.1.2.2.2.2.length ≤ maxLen := by
      intro i hi
      obtain ⟨cs', h1, h2⟩ := hcell i hi
      obtain ⟨_, hlen, hc⟩ := World.cells?_some h1
      match cs', hlen with
      | [v0, v1, v2, v3, v4], _ =>
        have e0 := hc 0 (by omega)
        have e1 := hc 1 (by omega)
        have e2 := hc 2 (by omega)
        have e3 := hc 3 (by omega)
        have e4 := hc 4 (by omega)
        rw [add_add] at e0 e1 e2 e3 e4
        obtain ⟨y, ⟨rfl, rfl, rfl, rfl, rfl⟩, hy⟩ := change_trod h2
        exact ⟨y, ⟨by simpa using e0, by simpa using e1, by simpa using e2, by simpa using e3, by simpa using e4⟩, hy⟩
    obtain ⟨Y, hY⟩ := choose_lt each
    have hll : ((List.range len0).map Y).length = len0 := by simp
    refine ⟨(List.range len0).map Y, ⟨⟨ccells_len _, some a, cap0, by rw [hll], by rw [hll]; omega, ?_⟩, ?_⟩, by rw [hll]; omega, ?_⟩
    · by_cases h0 : len0 = 0
      · left; rw [hll]; exact h0
      · right
        obtain ⟨b, off, spot⟩ := a
        have hspot : spot = none := by simpa [Addr.add] using World.cell?_spot (hY 0 (by omega)).1.1
        subst hspot
        refine ⟨b, off, rfl, fun j hj => ?_⟩
        have hj2 : j < len0 * 5 := by rw [ccells_len, hll] at hj; exact hj
        have hq : j / 5 < len0 := by omega
        obtain ⟨e0, e1, e2, e3, e4⟩ := ccells_at ((List.range len0).map Y) (j / 5) (by rw [hll]; exact hq)
        obtain ⟨⟨y0, y1, y2, y3, y4⟩, _⟩ := hY (j / 5) (by omega)
        rw [Go.WideShapes.add_plain] at y0 y1 y2 y3 y4
        simp only [List.getElem_map, List.getElem_range] at e0 e1 e2 e3 e4
        rcases (by omega : j % 5 = 0 ∨ j % 5 = 1 ∨ j % 5 = 2 ∨ j % 5 = 3 ∨ j % 5 = 4) with h | h | h | h | h
        · have ej : j / 5 * 5 = j := by omega
          rw [ej] at e0 y0
          rw [y0, ← e0, List.getElem?_eq_getElem hj]
        · have ej : j / 5 * 5 + 1 = j := by omega
          rw [ej] at e1 y1
          rw [y1, ← e1, List.getElem?_eq_getElem hj]
        · have ej : j / 5 * 5 + 2 = j := by omega
          rw [ej] at e2 y2
          rw [y2, ← e2, List.getElem?_eq_getElem hj]
        · have ej : j / 5 * 5 + 3 = j := by omega
          rw [ej] at e3 y3
          rw [y3, ← e3, List.getElem?_eq_getElem hj]
        · have ej : j / 5 * 5 + 4 = j := by omega
          rw [ej] at e4 y4
          rw [y4, ← e4, List.getElem?_eq_getElem hj]
    · intro x hx
      obtain ⟨r, hr, rfl⟩ := List.mem_map.1 hx
      exact (hY r (by have := List.mem_range.1 hr; omega)).2.1
    · intro c hc
      obtain ⟨x, hx, rfl⟩ := List.mem_map.1 hc
      obtain ⟨r, hr, rfl⟩ := List.mem_map.1 hx
      exact (hY r (by have := List.mem_range.1 hr; omega)).2.2

end Go.Proofs.YtmbnmmnoahddcaaGreatDoor

/-
  The document's own Big of changes.
-/
namespace Go.Proofs.YtmbnmmnoahddcaaGreatDoor
set_option maxRecDepth 100000
open Go.RowKit

/-- The first k are not too great. -/
def fitC (l : List Cg) (k : Nat) : Prop := ∀ (i : Nat) (hi : i < l.length), i < k → l[i].1.length ≤ 200 ∧ l[i].2.2.2.2.length ≤ 30
theorem fitC_succ {l : List Cg} {k : Nat} (h : fitC l k) (hk : k < l.length) (h1 : l[k].1.length ≤ 200 ∧ l[k].2.2.2.2.length ≤ 30) : fitC l (k + 1) := by
  intro i hi hik
  by_cases he : i = k
  · subst he; exact h1
  · exact h i hi (by omega)
theorem bigC_fit {l : List Cg} (h : fitC l l.length) (hl : l.length ≤ 50) : bigC l = false := by
  unfold bigC
  rw [decide_eq_false (by omega), Bool.false_or, List.any_eq_false]
  intro c hc
  obtain ⟨i, hi, rfl⟩ := List.getElem_of_mem hc
  have := h i hi hi
  simp
  omega
theorem bigC_at {l : List Cg} {k : Nat} (hk : k < l.length) (h : 200 < l[k].1.length ∨ 30 < l[k].2.2.2.2.length) : bigC l = true := by
  unfold bigC
  rw [Bool.or_eq_true, List.any_eq_true]
  refine .inr ⟨_, List.getElem_mem hk, ?_⟩
  simpa using h
theorem bigC_small {l : List Cg} (h : bigC l = false) : SmallC l ∧ l.length ≤ 50 := by
  obtain ⟨h1, h2⟩ := bigC_not h
  exact ⟨fun c hc => by have := h2 c hc; omega, h1⟩

set_option maxHeartbeats 4000000 in
theorem big_calls (v : Value) (S : List Cv) (w : World) (h : Cgs w v S) (hn : S.length ≤ 9223372036854775807) (hs : ∀ c ∈ chs S, c.1.length ≤ 9223372036854775807 ∧ c.2.2.2.2.length ≤ 9223372036854775807) :
    Calls Tryz.prog 5 #[v] w fun e w' => e = .returned (.bool (bigC (chs S))) ∧ w = w' := by
  obtain ⟨ao, cap, rfl⟩ := h.form
  by_cases h50 : S.length ≤ 50
  · have hd : decide ((S.length : Int) ≤ 50) = true := by rw [decide_eq_true_eq]; omega
    have hd2 : decide ((50 : Int) < (S.length : Int)) = false := by rw [decide_eq_false_iff_not]; omega
    have HH := Lib.hid h
    have HS := Lib.hid hs
    clear h hs
    go_enter Tryz.func5, Tryz.ntmps5
    go_wp2_with fail
    go_loop [3] (fun i => ∃ k : Nat, i = .int .i64 k ∧ k ≤ S.length ∧ Hid (fitC (chs S) k)) (fun i => S.length - (intOf i).toNat)
    case atStart => exact ⟨0, rfl, Nat.zero_le _, Lib.hid (fun _ _ h => absurd h (Nat.not_lt_zero _))⟩
    case round =>
      obtain ⟨k, rfl, hk, hf⟩ := hrel
      by_cases hlt : k < S.length
      · obtain ⟨b, off, rfl, ⟨c0, c1, c2, c3, c4⟩, hI⟩ := HH.out.at hlt
        have hltc : k < (chs S).length := by simpa using hlt
        have hsm := HS.out _ (List.getElem_mem hltc)
        have hgo := fun h => fitC_succ hf.out hltc h
        have hno := fun h => bigC_at hltc h
        simp only [List.getElem_map] at hsm hgo hno
        obtain ⟨⟨⟨q, g, z, d, cs⟩, vv⟩, hx⟩ : ∃ x, S[k] = x := ⟨_, rfl⟩
        rw [hx] at c0 c1 c2 c3 c4 hI hsm hgo hno
        dsimp only at c0 c1 c2 c3 c4 hI hsm hgo hno
        obtain ⟨s1, s3, rfl⟩ := hI.form
        clear hI hx c1 c2 c3
        by_cases h1 : q.length ≤ 200
        · have e1 : decide ((200 : Int) < (q.length : Int)) = false := by rw [decide_eq_false_iff_not]; omega
          by_cases h2 : cs.length ≤ 30
          · have e2 : decide ((30 : Int) < (cs.length : Int)) = false := by rw [decide_eq_false_iff_not]; omega
            have HG := Lib.hid (hgo ⟨h1, h2⟩)
            clear hgo hno h1 h2
            go_wp2_with fail
            go_round
            case rel => exact ⟨k + 1, by go_num, by omega, HG⟩
            case measure => simp [intOf]; omega
          · have e2 : decide ((30 : Int) < (cs.length : Int)) = true := by rw [decide_eq_true_eq]; omega
            have HG := Lib.hid (hno (.inr (by omega)))
            clear hgo hno h1 h2
            go_wp2_with fail
            go_ret
            exact ⟨by rw [HG.out]; rfl, rfl⟩
        · have e1 : decide ((200 : Int) < (q.length : Int)) = true := by rw [decide_eq_true_eq]; omega
          have HG := Lib.hid (hno (.inl (by omega)))
          clear hgo hno h1
          go_wp2_with fail
          go_ret
          exact ⟨by rw [HG.out]; rfl, rfl⟩
      · obtain rfl : k = S.length := by omega
        have HX := Lib.hid (bigC_fit (l := chs S) (by simpa using hf.out) (by simpa using h50))
        go_wp2_with fail
        go_ret
        exact ⟨by rw [HX.out]; rfl, rfl⟩
  · have hd : decide ((S.length : Int) ≤ 50) = false := by rw [decide_eq_false_iff_not]; omega
    have hd2 : decide ((50 : Int) < (S.length : Int)) = true := by rw [decide_eq_true_eq]; omega
    have h0 : (0 : Int) < (S.length : Int) := by omega
    have HX := Lib.hid (show bigC (chs S) = true by
      unfold bigC
      rw [decide_eq_true (by simp; omega)]
      rfl)
    clear h hs h50
    go_enter Tryz.func5, Tryz.ntmps5
    go_wp2_with fail
    go_loop [3] (fun i => i = .int .i64 0) (fun _ => 0)
    case atStart => rfl
    case round =>
      subst hrel
      go_wp2_with fail
      go_ret
      exact ⟨by rw [HX.out]; rfl, rfl⟩

end Go.Proofs.YtmbnmmnoahddcaaGreatDoor

/-
  Norm and Join, of changes with any slices of their Chunks.
-/
namespace Go.Proofs.YtmbnmmnoahddcaaGreatDoor
set_option maxRecDepth 100000
open Go.RowKit

theorem baNorm_cv (v : Value) (S : List Cv) (w : World) (h : Cgs w v S) (hn : S.length ≤ 1000) (hs : SmallC (chs S)) (hm : Ml w) :
    Calls Tryz.prog 7 #[v] w fun e w' => ∃ v' S', e = .returned (.tuple #[v', .int .i64 (normE (chs S))]) ∧ OwnC w' w.heap.size v' S' ∧ chs S' = normL (chs S) ∧ Below w.heap.size w w' := by
  obtain ⟨T, rfl⟩ := cgs_cs h
  rw [chs_cs] at hs ⊢
  exact baNorm_calls v T w h (by rwa [List.length_map] at hn) hs hm
theorem baJoin_cv (u v : Value) (S T : List Cv) (w : World) (h : Cgs w u S) (h' : Cgs w v T) (hn : S.length ≤ 500) (hn2 : T.length ≤ 500) (hs : SmallC (chs S)) (hs2 : SmallC (chs T)) (hm : Ml w) :
    Calls Tryz.prog 11 #[u, v] w fun e w' => ∃ v' S', e = .returned (.tuple #[v', .int .i64 (normE (chs S ++ chs T))]) ∧ OwnC w' w.heap.size v' S' ∧ chs S' = normL (chs S ++ chs T) ∧ Below w.heap.size w w' := by
  obtain ⟨T1, rfl⟩ := cgs_cs h
  obtain ⟨T2, rfl⟩ := cgs_cs h'
  rw [chs_cs] at hs hs2 ⊢
  rw [chs_cs]
  exact baJoin_calls u v T1 T2 w h h' (by rwa [List.length_map] at hn) (by rwa [List.length_map] at hn2) hs hs2 hm

theorem isB_smallC {l : List Cg} (h : isB l = true) : SmallC l ∧ l.length ≤ 20 := by
  obtain ⟨h1, h2, h3, _⟩ := isB_iff.1 h
  refine ⟨fun c hc => ?_, h2⟩
  have hm := mayB_iff.1 (h3 c hc)
  have hp := isP_len hm.2.1
  have hq := (metaB_iff.1 hm.2.2.1).1
  omega
theorem norm_few (l : List Cg) : SmallC (normL l) ∧ (normL l).length ≤ 20 := by
  cases h : normB l with
  | false => rw [(norm_no h).1]; exact ⟨fun c hc => (by cases hc), by simp⟩
  | true => rw [(norm_yes h).1]; exact isB_smallC (normB_isB h)

end Go.Proofs.YtmbnmmnoahddcaaGreatDoor

/-
  A row of changes of a call's own, written over.
-/
namespace Go.Proofs.YtmbnmmnoahddcaaGreatDoor
set_option maxRecDepth 100000
open Go.RowKit

/-- A row of changes of the call's own; its Chunks are rows of the call's own, whatever they hold. -/
def OwnQ (w : World) (base : Nat) (v : Value) (S : List Cv) : Prop := w.ownsRow base 36 5 v S.length (ccells S) ∧ ∀ x ∈ S, ∃ cs, OwnI w base x.2 cs
theorem OwnQ.of {w : World} {base : Nat} {v : Value} {S : List Cv} (h : OwnC w base v S) : OwnQ w base v S := ⟨h.1, fun x hx => ⟨_, h.2 x hx⟩⟩
theorem OwnQ.stays {w w' : World} {base : Nat} {v : Value} {S : List Cv} (h : OwnQ w base v S) (hb : Below w.heap.size w w') : OwnQ w' base v S :=
  ⟨own_stays h.1 hb, fun x hx => by obtain ⟨cs, hc⟩ := h.2 x hx; exact ⟨cs, own_stays hc hb⟩⟩
theorem OwnQ.at {w : World} {base n cap : Nat} {ao : Option Addr} {S : List Cv} (h : OwnQ w base (.slice ao n cap) S) {k : Nat} (hk : k < S.length) :
    ∃ g, ao = some ⟨g, 0, none⟩ ∧ base ≤ g ∧ w.cell? ⟨g, k * 5, none⟩ = some (.string ⟨S[k].1.1.toArray⟩) ∧ w.cell? ⟨g, k * 5 + 4, none⟩ = some S[k].2 ∧ w.frozen? ⟨g, k * 5, none⟩ = false ∧ ∃ cs, OwnI w base S[k].2 cs := by
  obtain ⟨g, c, he, hg, _⟩ := h.1.form (by omega)
  cases he
  have hr := h.1
  obtain ⟨e1, _, _, _, e5⟩ := ccells_at S k hk
  refine ⟨g, rfl, hg, ?_, ?_, hr.frozenAt _, h.2 _ (List.getElem_mem hk)⟩
  · rw [hr.cellAt _ (by omega), e1]
  · rw [hr.cellAt _ (by omega), e5]
theorem own_at {w : World} {base n cap : Nat} {ao : Option Addr} {cs : List Int} (h : OwnI w base (.slice ao n cap) cs) {k : Nat} (hk : k < n) :
    ∃ g z, ao = some ⟨g, 0, none⟩ ∧ base ≤ g ∧ w.cell? ⟨g, k, none⟩ = some (.int .i64 z) ∧ w.frozen? ⟨g, k, none⟩ = false := by
  obtain ⟨a, c, e⟩ := (ints_own h).form
  cases e
  obtain ⟨g, c, he, hg, _⟩ := World.ownsRow.form h (by omega)
  cases he
  refine ⟨g, cs[k], rfl, hg, ?_, World.ownsRow.frozenAt h _⟩
  rw [World.ownsRow.cellAt h _ (by omega), List.getElem?_map, List.getElem?_eq_getElem hk]
  rfl
theorem own_max {w : World} {base n cap : Nat} {ao : Option Addr} {cs : List Int} (h : OwnI w base (.slice ao n cap) cs) : n ≤ 9223372036854775807 := by
  rcases h.2 with ⟨e0, _⟩ | ⟨g, c, cur, e0, _, _, h1, h2, _⟩
  · cases e0
    omega
  · cases e0
    unfold maxLen at h2
    omega
/-- A number of a change's Chunks, written over. -/
theorem OwnQ.num {w : World} {base n cap g : Nat} {v : Value} {S : List Cv} {cs : List Int} (h : OwnQ w base v S) (hu : OwnI w base (.slice (some ⟨g, 0, none⟩) n cap) cs) (k : Nat) (z : Int) :
    OwnQ (w.setCell ⟨g, k, none⟩ (.int .i64 z)) base v S := by
  have hn : cs.length = n := by
    obtain ⟨a, c, e⟩ := (ints_own hu).form
    cases e
    rfl
  have hu' := hu
  unfold OwnI at hu'
  rw [hn] at hu'
  have hg := (hu'.stored k (.int .i64 z)).2
  refine ⟨h.1.kept hg (ba_apart h.1 hu (by decide)), fun x hx => ?_⟩
  obtain ⟨ds, hd⟩ := h.2 x hx
  by_cases he : x.2.ownBlock = some g
  · obtain ⟨a, m, c, hv⟩ := own_form hd
    rw [hv] at hd he ⊢
    have hm : ds.length = m := by
      obtain ⟨a, c, e⟩ := (ints_own hd).form
      cases e
      rfl
    rcases hd.2 with ⟨e0, _⟩ | ⟨g', c', cur, e0, _⟩
    · cases e0
      simp [Value.ownBlock] at he
    · cases e0
      simp [Value.ownBlock] at he
      subst he
      unfold OwnI at hd
      rw [hm] at hd
      have hs := (hd.stored k (.int .i64 z)).1
      refine ⟨ds.set k z, ?_⟩
      unfold OwnI
      rw [List.length_set, hm, List.map_set]
      exact hs
  · exact ⟨ds, hd.kept hg (.inr he)⟩
theorem ccells_set : ∀ (S : List Cv) (k : Nat) (hk : k < S.length) (q : List UInt8), (ccells S).set (k * 5) (.string ⟨q.toArray⟩) = ccells (S.set k ((q, S[k].1.2), S[k].2))
  | x :: r, 0, _, q => rfl
  | x :: r, k + 1, hk, q => by
    have ih := ccells_set r k (by simpa using hk) q
    rw [ccells_cons, List.set_cons_succ, ccells_cons, show (k + 1) * 5 = k * 5 + 1 + 1 + 1 + 1 + 1 by omega]
    simp only [List.set_cons_succ, List.getElem_cons_succ]
    rw [ih]
/-- A path, written over. -/
theorem OwnQ.path {w : World} {base n cap g : Nat} {S : List Cv} (h : OwnQ w base (.slice (some ⟨g, 0, none⟩) n cap) S) {k : Nat} (hk : k < S.length) (q : List UInt8) :
    OwnQ (w.setCell ⟨g, k * 5, none⟩ (.string ⟨q.toArray⟩)) base (.slice (some ⟨g, 0, none⟩) n cap) (S.set k ((q, S[k].1.2), S[k].2)) := by
  have hn : n = S.length := by
    obtain ⟨a, m, c, e⟩ := own_form h.1
    rcases h.1.2 with ⟨e0, _⟩ | ⟨g', c', cur, e0, _⟩
    · cases e0
    · cases e0
      rfl
  subst hn
  have hs := h.1.stored (k * 5) (.string ⟨q.toArray⟩)
  refine ⟨?_, fun x hx => ?_⟩
  · rw [List.length_set, ← ccells_set S k hk q]
    exact hs.1
  · have hx2 : ∃ y ∈ S, y.2 = x.2 := by
      rcases List.mem_or_eq_of_mem_set hx with hx | rfl
      · exact ⟨x, hx, rfl⟩
      · exact ⟨S[k], List.getElem_mem hk, rfl⟩
    obtain ⟨y, hy, e⟩ := hx2
    obtain ⟨cs, hc⟩ := h.2 y hy
    rw [e] at hc
    exact ⟨cs, hc.kept hs.2 (ba_apart hc h.1 (by decide))⟩

end Go.Proofs.YtmbnmmnoahddcaaGreatDoor

/-
  The document's own Own of changes.
-/
namespace Go.Proofs.YtmbnmmnoahddcaaGreatDoor
set_option maxRecDepth 100000
open Go.RowKit

set_option maxHeartbeats 8000000 in
theorem bOwn_calls (v : Value) (S : List Cv) (w : World) (h : Cgs w v S) (hn : S.length ≤ 1000) (hs : ∀ c ∈ chs S, c.2.2.2.2.length ≤ 1000) :
    Calls Tryz.prog 6 #[v] w fun e w' => ∃ v' S', e = .returned v' ∧ Cgs w' v' S' ∧ chs S' = chs S ∧ Below w.heap.size w w' := by
  obtain ⟨ao, cap, rfl⟩ := h.form
  have HH := Lib.hid h
  have HS := Lib.hid hs
  clear h hs
  go_enter Tryz.func6, Tryz.ntmps6
  go_wp2_with fail
  go_loopw [3, 4] (fun r i wr => ∃ (k : Nat) (S' : List Cv), i = .int .i64 k ∧ k ≤ S.length ∧ OwnC wr w.heap.size r S' ∧ Hid (chs S' = (chs S).take k) ∧ Hid (Below w.heap.size w wr)) (fun _ i _ => S.length - (intOf i).toNat)
  case atStart => exact ⟨0, [], rfl, Nat.zero_le _, OwnC.nil _ _, Lib.hid rfl, Lib.hid (Below.refl _ _)⟩
  case round =>
    obtain ⟨k, S', rfl, hk, hown, hch, hB⟩ := hrel
    by_cases hlt : k < S.length
    · obtain ⟨b, off, rfl, ⟨c0, c1, c2, c3, c4⟩, hI⟩ := (HH.out.below hB.out).at hlt
      have hltc : k < (chs S).length := by simpa using hlt
      have hsm := HS.out _ (List.getElem_mem hltc)
      have htk : (chs S).take (k + 1) = (chs S).take k ++ [(chs S)[k]] := List.take_succ_eq_append_getElem hltc
      simp only [List.getElem_map] at hsm htk
      obtain ⟨⟨⟨q, g, z, d, cs⟩, vv⟩, hx⟩ : ∃ x, S[k] = x := ⟨_, rfl⟩
      rw [hx] at c0 c1 c2 c3 c4 hI hsm htk
      dsimp only at c0 c1 c2 c3 c4 hI hsm htk
      have hlen : S'.length = k := by
        have := congrArg List.length hch.out
        rw [List.length_map, List.length_take, List.length_map] at this
        omega
      have hS5 : S'.length ≤ 100000 := by omega
      obtain ⟨s1, s3, rfl⟩ := hI.form
      have hbr : Below wr.heap.size wr wr.drew := drew_below _
      have KO := Lib.hid (fun (W : World) (hW : Below wr.heap.size wr W) => mOwn_calls z d _ cs W (hI.below hW) hsm)
      have HC := Lib.hid (fun (W : World) (hW : Below wr.heap.size wr W) => And.intro (look_below hW c0) (And.intro (look_below hW c1) (And.intro (look_below hW c2) (And.intro (look_below hW c3) (look_below hW c4)))))
      have HT := Lib.hid htk
      have HO := Lib.hid hown
      have hsz := hB.out.size
      have hk1 : (0 : Int) ≤ (k : Int) := by omega
      have hk2 : (k : Int) < (S.length : Int) := by omega
      obtain ⟨x0, x1, x2, x3, x4⟩ := HC.out _ hbr
      clear hI hsm htk hown hx hlen c0 c1 c2 c3 c4
      go_upto_region 5 with fail
      go_region_law (first
        | (refine step_change rfl (.tmp 11) (.tmp 29) rfl w.heap.size _ S' rfl HF.out.1 w4.heap.size ((q, g, z, d, cs), .slice a4 n4 c4) HF.out.2.1 rfl (news_litC w4 (ccell ((q, g, z, d, cs), .slice a4 n4 c4)) _) hS5 HF.out.2.2.1 ?_; intro v5 w5 ho5 hB5 hK5)
        | (go_simp; go_at_call 19; refine (KO.out _ hbr).mono ?_; rintro e w4 ⟨v4, rfl, ho4, hB4⟩; obtain ⟨a4, n4, c4, rfl⟩ := own_form ho4; have hb4 := below2 hbr hB4; obtain ⟨y0, y1, y2, y3, y4⟩ := HC.out _ hb4; have hb5 := below_alloc w4 (.cells #[.string ⟨q.toArray⟩, .bool g, .int .i64 z, .int .i64 d, .slice a4 n4 c4] 36); have HF := Lib.hid (And.intro ((HO.out.stays hb4).stays hb5) (And.intro (own_stays (own_weak ho4 (Nat.le_trans hsz hbr.size)) hb5) (And.intro (below3 hB.out hb4 hb5).size (below3 hB.out hb4 hb5))))))
      all_goals
        go_wp2_with fail
        go_roundw
        case rel => exact ⟨k + 1, _, by go_num, by omega, ho5, Lib.hid (by rw [HT.out, ← hch.out]; simp), Lib.hid (hB5 w HF.out.2.2.2)⟩
        case measure => simp [intOf]; omega
    · obtain rfl : k = S.length := by omega
      have HW := Lib.hid hown
      obtain ⟨a5, n5, c5, rfl⟩ : ∃ a n c, _ = Value.slice a n c := own_form hown.1
      clear hown
      go_wp2_with fail
      go_ret
      exact ⟨_, S', rfl, HW.out.cgs, by rw [hch.out, ← List.length_map (f := Prod.fst)]; exact List.take_length, hB.out⟩

end Go.Proofs.YtmbnmmnoahddcaaGreatDoor

/-
  The document's own put: a change in its place.
-/
namespace Go.Proofs.YtmbnmmnoahddcaaGreatDoor
set_option maxRecDepth 100000
open Go.RowKit

/-- A row of changes of the call's own: the row alone. -/
def RowC (w : World) (base : Nat) (v : Value) (S : List Cv) : Prop := w.ownsRow base 36 5 v S.length (ccells S)
theorem RowC.form {w : World} {base : Nat} {v : Value} {S : List Cv} (h : RowC w base v S) : ∃ ao cap, v = .slice ao S.length cap := Rw.form (Rw.own h)
theorem step_row {w : World} {ops : Array Oper} {o : Oper} {a : Act} {K : Act → World → Prop} {Q : Exit → Act → World → Prop} {E : Prop} (hgd : o.guard = none) (s x : Operand)
    (ho : o.op = .call { callee := .builtin .append, args := #[s, x], argTypes := #[22, 22] })
    (base : Nat) (v : Value) (S : List Cv) (hs : a.eval s = v) (hown : RowC w base v S) (n : Nat) (c : Cv) (hc : ∀ u ∈ ccell c, u.oneCell' = true) (hx : a.eval x = .slice (some ⟨n, 0, none⟩) 1 1)
    (hnews : ∀ j y, (ccell c)[j]? = some y → w.cell? ((⟨n, 0, none⟩ : Addr).add j) = some y) (hn : S.length ≤ 100000) (hbase : base ≤ w.heap.size)
    (h : ∀ v' w', RowC w' base v' (S ++ [c]) → (∀ w0, Below base w0 w → Below base w0 w') → KeepC w w' → K (a.put o.dst v') w') :
    if Region.wanted o (yielded ops a.tmps) = true then Oper.wp Tryz.prog o a w K Q else E := by
  obtain ⟨i0, hi, hz0, hz1, hz2⟩ := info_parts infoC
  refine step_append_lies w hgd s x 22 ho base 36 i0 _ 5 64 Tryz.underlying22 hi hz0 hz1 hz2 rfl (by decide) v S.length (ccells S) hs hown ⟨n, 0, none⟩ 1 1 (ccell c) hx rfl hnews hc (by decide) (by unfold maxLen; omega) (by omega) hbase w.heap.size rfl ?_
  intro g cap w' h2 h3 _ _
  refine h _ w' ?_ (fun w0 hB => hB.grown h3 hbase fun j e => (hown.lt j e).1) (KeepC.grown hown h3)
  unfold RowC
  rw [List.length_append, ccells_snoc]
  exact h2

/-- Where a change's place is: ahead of it stand the lesser ones. -/
theorem putAt (l : List Cg) (p : List UInt8) : ∃ n, n ≤ l.length ∧ (∀ (i : Nat) (hi : i < l.length), i < n → Op.bytesLess l[i].1 p = true) ∧ ∀ hn : n < l.length, Op.bytesLess l[n].1 p = false := by
  induction l with
  | nil => exact ⟨0, Nat.le_refl _, fun i hi => absurd hi (Nat.not_lt_zero _), fun hn => absurd hn (Nat.not_lt_zero _)⟩
  | cons x r ih =>
    cases hx : Op.bytesLess x.1 p with
    | false => exact ⟨0, Nat.zero_le _, fun _ _ h => absurd h (Nat.not_lt_zero _), fun _ => hx⟩
    | true =>
      obtain ⟨n, h1, h2, h3⟩ := ih
      refine ⟨n + 1, Nat.succ_le_succ h1, fun i hi hin => ?_, fun hn => ?_⟩
      · cases i with
        | zero => exact hx
        | succ i => exact h2 i (Nat.lt_of_succ_lt_succ hi) (Nat.lt_of_succ_lt_succ hin)
      · exact h3 (Nat.lt_of_succ_lt_succ hn)

end Go.Proofs.YtmbnmmnoahddcaaGreatDoor

/-
  The document's own put: behind all others.
-/
namespace Go.Proofs.YtmbnmmnoahddcaaGreatDoor
set_option maxRecDepth 100000
open Go.RowKit

set_option maxHeartbeats 8000000 in
theorem put_end (ao : Option Addr) (m cap : Nat) (S : List Cv) (p : List UInt8) (g : Bool) (z d : Int) (v : Value) (cs : List Int) (n : Nat) (w : World) (h : Cgs w (.slice ao m cap) S) (hm : S.length = m) (hm2 : m ≤ 1000) (hv : Ints w v cs) (hcs : cs.length ≤ 1000)
    (hlt : ∀ (i : Nat) (hi : i < S.length), i < n → Op.bytesLess S[i].1.1 p = true) (hn : m ≤ n) (hn2 : n ≤ m) :
    Calls Tryz.prog 26 #[.slice ao m cap, CV p g z d v] w fun e w' => ∃ v' S', e = .returned v' ∧ Cgs w' v' S' ∧ chs S' = (chs S).take n ++ (p, g, z, d, cs) :: (chs S).drop (n) ∧ Below w.heap.size w w' := by
  obtain ⟨s1, s3, rfl⟩ := hv.form
  obtain ⟨i0, hi, hz0, hz1, hz2⟩ := info_parts infoC
  obtain ⟨s2, hs2⟩ : ∃ s2, cs.length = s2 := ⟨_, rfl⟩
  have hB0 := below_alloc w (.cells #[.string ⟨p.toArray⟩, .bool g, .int .i64 z, .int .i64 d, .slice s1 s2 s3] 36)
  have HX := Cx.new w 36 [.string ⟨p.toArray⟩, .bool g, .int .i64 z, .int .i64 d, .slice s1 s2 s3]
  obtain ⟨W0, hW0⟩ : ∃ W0, W0 = w.alloc (.cells #[.string ⟨p.toArray⟩, .bool g, .int .i64 z, .int .i64 d, .slice s1 s2 s3] 36) := ⟨_, rfl⟩
  have HC := Lib.hid (show ∀ W, Below W0.heap.size W0 W → Below w.heap.size w W ∧ (W.cell? ⟨w.heap.size, 0, none⟩ = some (.string ⟨p.toArray⟩) ∧ W.cell? ⟨w.heap.size, 1, none⟩ = some (.bool g) ∧ W.cell? ⟨w.heap.size, 2, none⟩ = some (.int .i64 z) ∧ W.cell? ⟨w.heap.size, 3, none⟩ = some (.int .i64 d) ∧ W.cell? ⟨w.heap.size, 4, none⟩ = some (.slice s1 s2 s3)) from fun W hW => by
    subst hW0
    exact ⟨below2 hB0 hW, (HX.below hW).five⟩)
  have KO := Lib.hid (fun (W : World) (hW : Below w.heap.size w W) => mOwn_calls z d _ cs W (hv.below hW) hcs)
  rw [hs2] at KO ⊢
  have HH := Lib.hid h
  have HL := Lib.hid hlt
  have HM := Lib.hid hm
  have HW0 := Lib.hid hW0
  have hsz0 : W0.heap.size = w.heap.size + 1 := by rw [hW0]; simp
  have HSZ := Lib.hid hsz0
  clear hs2 hB0 HX hv h hlt hm hW0 hsz0
  go_enter Tryz.func26, Tryz.ntmps26
  go_wp2_with fail
  rw [← HW0.out]
  go_loopw [5] (fun i wr => ∃ k : Nat, i = .int .i64 k ∧ k ≤ n ∧ Hid (Below W0.heap.size W0 wr)) (fun i _ => n - (intOf i).toNat)
  case atStart => exact ⟨0, rfl, Nat.zero_le _, Lib.hid (Below.refl _ _)⟩
  case round =>
    obtain ⟨k, rfl, hk, hB⟩ := hrel
    by_cases hkn : k < n
    · have hkS : k < S.length := by have := HM.out; omega
      have hless := HL.out k hkS hkn
      obtain ⟨b, off, rfl, ⟨c0, _, _, _, _⟩, _⟩ := HH.out.at (k := k) hkS
      obtain ⟨q, hq⟩ : ∃ q, S[k].1.1 = q := ⟨_, rfl⟩
      rw [hq] at c0
      rw [hq] at hless
      have HE := Lib.hid (fun (W : World) (hW : Below W0.heap.size W0 W) => And.intro (HC.out W hW).2.1 (look_below (HC.out W hW).1 c0))
      have hbr : Below W0.heap.size W0 wr.drew := below2 hB.out (drew_below _)
      have hd1 : decide (k < m) = true := by rw [decide_eq_true_eq]; have := HM.out; omega
      have hk1 : (0 : Int) ≤ (k : Int) := by omega
      have hk2 : (k : Int) < (m : Int) := by have := HM.out; omega
      clear c0 hq
      go_wp2_with fail
      refine wp_region_held_drew (S := (fun w' => w'.cell? ⟨w.heap.size, 0, none⟩ = some (.string ⟨p.toArray⟩) ∧ w'.cell? ⟨b, off + k * 5, none⟩ = some (.string ⟨q.toArray⟩))) (by kernel_rfl) (HE.out _ hbr) (fun hHeld => ?_)
      refine wpAnyH_take (i := 0) (oi := ⟨_, _, _, _, _, _⟩) (v := ?_) rfl (by kernel_rfl) (by kernel_rfl) (by kernel_rfl) (fun _ _ _ h => h) (Or.inl ⟨by rfl, ?_⟩) hHeld ?_
      rotate_left
      · (intro w hSw; (try dsimp only at hSw); go_simp; try with_reducible rfl)
      try simp only [Act.put, List.setIfInBounds_toArray, List.set_cons_zero, List.set_cons_succ]
      refine wpAnyH_take (i := 1) (oi := ⟨_, _, _, _, _, _⟩) (v := ?_) rfl (by kernel_rfl) (by kernel_rfl) (by kernel_rfl) (fun _ _ _ h => h) (Or.inl ⟨by rfl, ?_⟩) hHeld ?_
      rotate_left
      · (intro w hSw; (try dsimp only at hSw); go_simp; try with_reducible rfl)
      try simp only [Act.put, List.setIfInBounds_toArray, List.set_cons_zero, List.set_cons_succ]
      refine wpAnyH_take (i := 2) (oi := ⟨_, _, _, _, _, _⟩) (v := ?_) rfl (by kernel_rfl) (by kernel_rfl) (by kernel_rfl) (fun _ _ _ h => h) (Or.inl ⟨by rfl, ?_⟩) hHeld ?_
      rotate_left
      · (intro w hSw; (try dsimp only at hSw); go_simp; try with_reducible rfl)
      try simp only [Act.put, List.setIfInBounds_toArray, List.set_cons_zero, List.set_cons_succ]
      refine wpAnyH_take (i := 3) (oi := ⟨_, _, _, _, _, _⟩) (v := ?_) rfl (by kernel_rfl) (by kernel_rfl) (by kernel_rfl) (fun _ _ _ h => h) (Or.inl ⟨by rfl, ?_⟩) hHeld ?_
      rotate_left
      · (intro w hSw; (try dsimp only at hSw); go_simp; try with_reducible rfl)
      try simp only [Act.put, List.setIfInBounds_toArray, List.set_cons_zero, List.set_cons_succ]
      refine wpAnyH_take (i := 4) (oi := ⟨_, _, _, _, _, _⟩) (v := ?_) rfl (by kernel_rfl) (by kernel_rfl) (by kernel_rfl) (fun _ _ _ h => h) (Or.inl ⟨by rfl, ?_⟩) hHeld ?_
      rotate_left
      · (intro w hSw; (try dsimp only at hSw); go_simp; try with_reducible rfl)
      try simp only [Act.put, List.setIfInBounds_toArray, List.set_cons_zero, List.set_cons_succ]
      refine wpAnyH_take (i := 5) (oi := ⟨_, _, _, _, _, _⟩) (v := ?_) rfl (by kernel_rfl) (by kernel_rfl) (by kernel_rfl) (fun _ _ _ h => h) (Or.inl ⟨by rfl, ?_⟩) hHeld ?_
      rotate_left
      · (intro w hSw; (try dsimp only at hSw); go_simp; try with_reducible rfl)
      try simp only [Act.put, List.setIfInBounds_toArray, List.set_cons_zero, List.set_cons_succ]
      refine wpAnyH_take (i := 6) (oi := ⟨_, _, _, _, _, _⟩) (v := ?_) rfl (by kernel_rfl) (by kernel_rfl) (by kernel_rfl) (fun _ _ _ h => h) (Or.inl ⟨by rfl, ?_⟩) hHeld ?_
      rotate_left
      · (intro w hSw; (try dsimp only at hSw); go_simp; try with_reducible rfl)
      try simp only [Act.put, List.setIfInBounds_toArray, List.set_cons_zero, List.set_cons_succ]
      refine wpAnyH_take (i := 7) (oi := ⟨_, _, _, _, _, _⟩) (v := ?_) rfl (by kernel_rfl) (by kernel_rfl) (by kernel_rfl) (fun _ _ _ h => h) (Or.inl ⟨by rfl, ?_⟩) hHeld ?_
      rotate_left
      · (intro w hSw; (try dsimp only at hSw); go_simp; try with_reducible rfl)
      try simp only [Act.put, List.setIfInBounds_toArray, List.set_cons_zero, List.set_cons_succ]
      refine wpAnyH_take (i := 8) (oi := ⟨_, _, _, _, _, _⟩) (v := ?_) rfl (by kernel_rfl) (by kernel_rfl) (by kernel_rfl) (fun _ _ _ h => h) (Or.inl ⟨by rfl, ?_⟩) hHeld ?_
      rotate_left
      · (intro w hSw; (try dsimp only at hSw); go_simp; try with_reducible rfl)
      try simp only [Act.put, List.setIfInBounds_toArray, List.set_cons_zero, List.set_cons_succ]
      refine wpAnyH_take (i := 9) (oi := ⟨_, _, _, _, _, _⟩) (v := ?_) rfl (by kernel_rfl) (by kernel_rfl) (by kernel_rfl) (fun _ _ _ h => h) (Or.inl ⟨by rfl, ?_⟩) hHeld ?_
      rotate_left
      · (intro w hSw; (try dsimp only at hSw); go_simp; try with_reducible rfl)
      try simp only [Act.put, List.setIfInBounds_toArray, List.set_cons_zero, List.set_cons_succ]
      refine wpAnyH_take (i := 10) (oi := ⟨_, _, _, _, _, _⟩) (v := ?_) rfl (by kernel_rfl) (by kernel_rfl) (by kernel_rfl) (fun _ _ _ h => h) (Or.inl ⟨by rfl, ?_⟩) hHeld ?_
      rotate_left
      · (intro w hSw; (try dsimp only at hSw); go_simp; try with_reducible rfl)
      try simp only [Act.put, List.setIfInBounds_toArray, List.set_cons_zero, List.set_cons_succ]
      refine wpAnyH_take (i := 11) (oi := ⟨_, _, _, _, _, _⟩) (v := ?_) rfl (by kernel_rfl) (by kernel_rfl) (by kernel_rfl) (fun _ _ _ h => h) (Or.inl ⟨by rfl, ?_⟩) hHeld ?_
      rotate_left
      · (intro w hSw; (try dsimp only at hSw); go_simp; try with_reducible rfl)
      try simp only [Act.put, List.setIfInBounds_toArray, List.set_cons_zero, List.set_cons_succ]
      refine wpAnyH_take (i := 12) (oi := ⟨_, _, _, _, _, _⟩) (v := ?_) rfl (by kernel_rfl) (by kernel_rfl) (by kernel_rfl) (fun _ _ _ h => h) (Or.inl ⟨by rfl, ?_⟩) hHeld ?_
      rotate_left
      · (intro w hSw; (try dsimp only at hSw); go_simp; try with_reducible rfl)
      try simp only [Act.put, List.setIfInBounds_toArray, List.set_cons_zero, List.set_cons_succ]
      refine wpAnyH_take (i := 13) (oi := ⟨_, _, _, _, _, _⟩) (v := ?_) rfl (by kernel_rfl) (by kernel_rfl) (by kernel_rfl) (fun _ _ _ h => h) (Or.inl ⟨by rfl, ?_⟩) hHeld ?_
      rotate_left
      · (intro w hSw; (try dsimp only at hSw); go_simp; try with_reducible rfl)
      try simp only [Act.put, List.setIfInBounds_toArray, List.set_cons_zero, List.set_cons_succ]
      refine wpAnyH_done (by kernel_rfl) ?_ _
      go_wp2_with fail
      go_roundw
      case rel => exact ⟨k + 1, by go_num, by omega, Lib.hid hbr⟩
      case measure => simp [intOf]; omega
    · obtain rfl : k = n := by omega
      have hbr : Below W0.heap.size W0 wr.drew := below2 hB.out (drew_below _)
      clear hkn
      have hd1 : decide (k < m) = false := by rw [decide_eq_false_iff_not]; omega
      have HE := Lib.hid (fun (W : World) (hW : Below W0.heap.size W0 W) => (HC.out W hW).2.1)
      go_wp2_with fail
      refine wp_region_held_drew (S := (fun w' => w'.cell? ⟨w.heap.size, 0, none⟩ = some (.string ⟨p.toArray⟩))) (by kernel_rfl) (HE.out _ hbr) (fun hHeld => ?_)
      refine wpAnyH_take (i := 0) (oi := ⟨_, _, _, _, _, _⟩) (v := ?_) rfl (by kernel_rfl) (by kernel_rfl) (by kernel_rfl) (fun _ _ _ h => h) (Or.inl ⟨by rfl, ?_⟩) hHeld ?_
      rotate_left
      · (intro w hSw; (try dsimp only at hSw); go_simp; try with_reducible rfl)
      try simp only [Act.put, List.setIfInBounds_toArray, List.set_cons_zero, List.set_cons_succ]
      refine wpAnyH_take (i := 1) (oi := ⟨_, _, _, _, _, _⟩) (v := ?_) rfl (by kernel_rfl) (by kernel_rfl) (by kernel_rfl) (fun _ _ _ h => h) (Or.inl ⟨by rfl, ?_⟩) hHeld ?_
      rotate_left
      · (intro w hSw; (try dsimp only at hSw); go_simp; try with_reducible rfl)
      try simp only [Act.put, List.setIfInBounds_toArray, List.set_cons_zero, List.set_cons_succ]
      refine wpAnyH_take (i := 2) (oi := ⟨_, _, _, _, _, _⟩) (v := ?_) rfl (by kernel_rfl) (by kernel_rfl) (by kernel_rfl) (fun _ _ _ h => h) (Or.inl ⟨by rfl, ?_⟩) hHeld ?_
      rotate_left
      · (intro w hSw; (try dsimp only at hSw); go_simp; try with_reducible rfl)
      try simp only [Act.put, List.setIfInBounds_toArray, List.set_cons_zero, List.set_cons_succ]
      refine wpAnyH_take (i := 3) (oi := ⟨_, _, _, _, _, _⟩) (v := ?_) rfl (by kernel_rfl) (by kernel_rfl) (by kernel_rfl) (fun _ _ _ h => h) (Or.inl ⟨by rfl, ?_⟩) hHeld ?_
      rotate_left
      · (intro w hSw; (try dsimp only at hSw); go_simp; try with_reducible rfl)
      try simp only [Act.put, List.setIfInBounds_toArray, List.set_cons_zero, List.set_cons_succ]
      refine wpAnyH_take (i := 4) (oi := ⟨_, _, _, _, _, _⟩) (v := ?_) rfl (by kernel_rfl) (by kernel_rfl) (by kernel_rfl) (fun _ _ _ h => h) (Or.inl ⟨by rfl, ?_⟩) hHeld ?_
      rotate_left
      · (intro w hSw; (try dsimp only at hSw); go_simp; try with_reducible rfl)
      try simp only [Act.put, List.setIfInBounds_toArray, List.set_cons_zero, List.set_cons_succ]
      refine wpAnyH_take (i := 5) (oi := ⟨_, _, _, _, _, _⟩) (v := undef) rfl (by kernel_rfl) (by kernel_rfl) (by kernel_rfl) (fun _ _ _ h => h) (Or.inr ⟨by rfl, rfl⟩) hHeld ?_
      try simp only [Act.put, List.setIfInBounds_toArray, List.set_cons_zero, List.set_cons_succ]
      refine wpAnyH_take (i := 6) (oi := ⟨_, _, _, _, _, _⟩) (v := undef) rfl (by kernel_rfl) (by kernel_rfl) (by kernel_rfl) (fun _ _ _ h => h) (Or.inr ⟨by rfl, rfl⟩) hHeld ?_
      try simp only [Act.put, List.setIfInBounds_toArray, List.set_cons_zero, List.set_cons_succ]
      refine wpAnyH_take (i := 7) (oi := ⟨_, _, _, _, _, _⟩) (v := undef) rfl (by kernel_rfl) (by kernel_rfl) (by kernel_rfl) (fun _ _ _ h => h) (Or.inr ⟨by rfl, rfl⟩) hHeld ?_
      try simp only [Act.put, List.setIfInBounds_toArray, List.set_cons_zero, List.set_cons_succ]
      refine wpAnyH_take (i := 8) (oi := ⟨_, _, _, _, _, _⟩) (v := undef) rfl (by kernel_rfl) (by kernel_rfl) (by kernel_rfl) (fun _ _ _ h => h) (Or.inr ⟨by rfl, rfl⟩) hHeld ?_
      try simp only [Act.put, List.setIfInBounds_toArray, List.set_cons_zero, List.set_cons_succ]
      refine wpAnyH_take (i := 9) (oi := ⟨_, _, _, _, _, _⟩) (v := undef) rfl (by kernel_rfl) (by kernel_rfl) (by kernel_rfl) (fun _ _ _ h => h) (Or.inr ⟨by rfl, rfl⟩) hHeld ?_
      try simp only [Act.put, List.setIfInBounds_toArray, List.set_cons_zero, List.set_cons_succ]
      refine wpAnyH_take (i := 10) (oi := ⟨_, _, _, _, _, _⟩) (v := undef) rfl (by kernel_rfl) (by kernel_rfl) (by kernel_rfl) (fun _ _ _ h => h) (Or.inr ⟨by rfl, rfl⟩) hHeld ?_
      try simp only [Act.put, List.setIfInBounds_toArray, List.set_cons_zero, List.set_cons_succ]
      refine wpAnyH_take (i := 11) (oi := ⟨_, _, _, _, _, _⟩) (v := undef) rfl (by kernel_rfl) (by kernel_rfl) (by kernel_rfl) (fun _ _ _ h => h) (Or.inr ⟨by rfl, rfl⟩) hHeld ?_
      try simp only [Act.put, List.setIfInBounds_toArray, List.set_cons_zero, List.set_cons_succ]
      refine wpAnyH_take (i := 12) (oi := ⟨_, _, _, _, _, _⟩) (v := undef) rfl (by kernel_rfl) (by kernel_rfl) (by kernel_rfl) (fun _ _ _ h => h) (Or.inr ⟨by rfl, rfl⟩) hHeld ?_
      try simp only [Act.put, List.setIfInBounds_toArray, List.set_cons_zero, List.set_cons_succ]
      refine wpAnyH_take (i := 13) (oi := ⟨_, _, _, _, _, _⟩) (v := ?_) rfl (by kernel_rfl) (by kernel_rfl) (by kernel_rfl) (fun _ _ _ h => h) (Or.inl ⟨by rfl, ?_⟩) hHeld ?_
      rotate_left
      · (intro w hSw; (try dsimp only at hSw); go_simp; try with_reducible rfl)
      try simp only [Act.put, List.setIfInBounds_toArray, List.set_cons_zero, List.set_cons_succ]
      refine wpAnyH_done (by kernel_rfl) ?_ _
      have hkm : k ≤ m := by omega
      obtain ⟨hsl, hR⟩ := csl_to HH.out k hkm
      have HR := Lib.hid (hR.below (HC.out _ hbr).1)
      have HR1 := Lib.hid (show Rw wr.drew 5 (.slice ao k cap) k (ccells (S.take k)) from by
        have := HR.out.1
        rwa [List.length_take, Nat.min_eq_left (by have := HM.out; omega)] at this)
      have hsz := hbr.size
      clear hR
      go_wp2_with (at_builtin; refine wpList_append_nil rfl _ _ 22 rfl W0.heap.size 36 i0 _ 5 64 Tryz.underlying22 hi hz0 hz1 hz2 rfl (by decide) rfl _ k cap (ccells (S.take k)) rfl HR1.out (ccells_one HR.out.2) (by unfold maxLen; omega) (by omega) hsz ?_)
      intro a5 c5 w5 ho5 hB5
      have hb5 := below2 hbr hB5
      have hbr6 : Below W0.heap.size W0 w5.drew := below2 hb5 (drew_below _)
      have HO5 := Lib.hid (show RowC w5.drew W0.heap.size (.slice a5 k c5) (S.take k) from by
        unfold RowC
        rw [List.length_take, Nat.min_eq_left (by have := HM.out; omega)]
        exact own_stays ho5 (drew_below _))
      have hlk : (S.take k).length ≤ 100000 := by rw [List.length_take]; omega
      have HBW := Lib.hid (HC.out _ hbr6).1
      have hszw := HBW.out.size
      obtain ⟨x0, x1, x2, x3, x4⟩ := (HC.out _ hbr6).2
      clear ho5 hsl
      go_upto_region 6 with (fail)
      go_cut [6] from 28 to 38 (fun r wc => ∃ (a8 : Option Addr) (n8 c8 : Nat) (a7 : Option Addr) (n7 c7 b7 : Nat), r = .slice a8 n8 c8 ∧ Hid (n8 = k + 1) ∧ Hid (wc.ownsRow W0.heap.size 36 5 (.slice a8 n8 c8) n8 (ccells (S.take k ++ [(((p, g, z, d, cs), .slice a7 n7 c7) : Cv)]))) ∧ Hid (OwnI wc b7 (.slice a7 n7 c7) cs) ∧ Hid (Below W0.heap.size W0 wc))
      case first =>
        go_region_law (first
          | (refine step_row rfl (.tmp 28) (.tmp 37) rfl W0.heap.size _ (S.take k) rfl HF.out.1 w7.heap.size ((p, g, z, d, cs), .slice a7 n7 c7) HF.out.2.1 rfl (news_litC w7 (ccell ((p, g, z, d, cs), .slice a7 n7 c7)) _) hlk HF.out.2.2.1 ?_; intro v8 w8 ho8 hB8 hK8)
          | (go_simp; go_at_call 19; refine (KO.out _ HBW.out).mono ?_; rintro e w7 ⟨v7, rfl, ho7, hB7⟩; have hone := ccell_one (x := ((p, g, z, d, cs), v7)) ho7; obtain ⟨a7, n7, c7, rfl⟩ := own_form ho7; have hb7 := below2 hbr6 hB7; obtain ⟨y0, y1, y2, y3, y4⟩ := (HC.out _ hb7).2; have hb8 := below_alloc w7 (.cells #[.string ⟨p.toArray⟩, .bool g, .int .i64 z, .int .i64 d, .slice a7 n7 c7] 36); have HF := Lib.hid (And.intro (show RowC _ _ _ _ from own_stays (own_stays HO5.out hB7) hb8) (And.intro hone (And.intro (below2 hb7 hb8).size (And.intro (below2 hb7 hb8) (own_stays ho7 hb8)))))))
        all_goals
          go_wp2_with fail
          go_meet
          case rel =>
            obtain ⟨a8, c8, rfl⟩ := ho8.form
            have hn8 : (S.take k ++ [(((p, g, z, d, cs), .slice a7 n7 c7) : Cv)]).length = k + 1 := by
              rw [List.length_append, List.length_take]
              have := HM.out
              simp
              omega
            refine ⟨a8, _, c8, a7, n7, c7, _, rfl, Lib.hid hn8, Lib.hid ho8, Lib.hid (hK8 _ _ _ _ _ _ (by decide) HF.out.2.2.2.2), Lib.hid (hB8 W0 HF.out.2.2.2.1)⟩
      case rest =>
        obtain ⟨a8, n8, c8, a7, n7, c7, b7, rfl, HN9, HO8, HI8, HB9⟩ := hcut
        rename World => w8
        have hb9 := HB9.out
        have hle8 : n8 ≤ 1001 := by have := HN9.out; omega
        obtain ⟨y0, y1, y2, y3, y4⟩ := (HC.out _ hb9).2
        clear x0 x1 x2 x3 x4 hbr6 hb5 hB5
        replace hbr : Below W0.heap.size W0 w8.drew := below2 hb9 (drew_below _)
        go_wp2_with fail
        refine wp_region_held_drew (S := (fun w' => w'.cell? ⟨w.heap.size, 0, none⟩ = some (.string ⟨p.toArray⟩))) (by kernel_rfl) (HE.out _ hbr) (fun hHeld => ?_)
        refine wpAnyH_take (i := 0) (oi := ⟨_, _, _, _, _, _⟩) (v := ?_) rfl (by kernel_rfl) (by kernel_rfl) (by kernel_rfl) (fun _ _ _ h => h) (Or.inl ⟨by rfl, ?_⟩) hHeld ?_
        rotate_left
        · (intro w hSw; (try dsimp only at hSw); go_simp; try with_reducible rfl)
        try simp only [Act.put, List.setIfInBounds_toArray, List.set_cons_zero, List.set_cons_succ]
        refine wpAnyH_take (i := 1) (oi := ⟨_, _, _, _, _, _⟩) (v := ?_) rfl (by kernel_rfl) (by kernel_rfl) (by kernel_rfl) (fun _ _ _ h => h) (Or.inl ⟨by rfl, ?_⟩) hHeld ?_
        rotate_left
        · (intro w hSw; (try dsimp only at hSw); go_simp; try with_reducible rfl)
        try simp only [Act.put, List.setIfInBounds_toArray, List.set_cons_zero, List.set_cons_succ]
        refine wpAnyH_take (i := 2) (oi := ⟨_, _, _, _, _, _⟩) (v := ?_) rfl (by kernel_rfl) (by kernel_rfl) (by kernel_rfl) (fun _ _ _ h => h) (Or.inl ⟨by rfl, ?_⟩) hHeld ?_
        rotate_left
        · (intro w hSw; (try dsimp only at hSw); go_simp; try with_reducible rfl)
        try simp only [Act.put, List.setIfInBounds_toArray, List.set_cons_zero, List.set_cons_succ]
        refine wpAnyH_take (i := 3) (oi := ⟨_, _, _, _, _, _⟩) (v := ?_) rfl (by kernel_rfl) (by kernel_rfl) (by kernel_rfl) (fun _ _ _ h => h) (Or.inl ⟨by rfl, ?_⟩) hHeld ?_
        rotate_left
        · (intro w hSw; (try dsimp only at hSw); go_simp; try with_reducible rfl)
        try simp only [Act.put, List.setIfInBounds_toArray, List.set_cons_zero, List.set_cons_succ]
        refine wpAnyH_take (i := 4) (oi := ⟨_, _, _, _, _, _⟩) (v := ?_) rfl (by kernel_rfl) (by kernel_rfl) (by kernel_rfl) (fun _ _ _ h => h) (Or.inl ⟨by rfl, ?_⟩) hHeld ?_
        rotate_left
        · (intro w hSw; (try dsimp only at hSw); go_simp; try with_reducible rfl)
        try simp only [Act.put, List.setIfInBounds_toArray, List.set_cons_zero, List.set_cons_succ]
        refine wpAnyH_take (i := 5) (oi := ⟨_, _, _, _, _, _⟩) (v := undef) rfl (by kernel_rfl) (by kernel_rfl) (by kernel_rfl) (fun _ _ _ h => h) (Or.inr ⟨by rfl, rfl⟩) hHeld ?_
        try simp only [Act.put, List.setIfInBounds_toArray, List.set_cons_zero, List.set_cons_succ]
        refine wpAnyH_take (i := 6) (oi := ⟨_, _, _, _, _, _⟩) (v := undef) rfl (by kernel_rfl) (by kernel_rfl) (by kernel_rfl) (fun _ _ _ h => h) (Or.inr ⟨by rfl, rfl⟩) hHeld ?_
        try simp only [Act.put, List.setIfInBounds_toArray, List.set_cons_zero, List.set_cons_succ]
        refine wpAnyH_take (i := 7) (oi := ⟨_, _, _, _, _, _⟩) (v := undef) rfl (by kernel_rfl) (by kernel_rfl) (by kernel_rfl) (fun _ _ _ h => h) (Or.inr ⟨by rfl, rfl⟩) hHeld ?_
        try simp only [Act.put, List.setIfInBounds_toArray, List.set_cons_zero, List.set_cons_succ]
        refine wpAnyH_take (i := 8) (oi := ⟨_, _, _, _, _, _⟩) (v := undef) rfl (by kernel_rfl) (by kernel_rfl) (by kernel_rfl) (fun _ _ _ h => h) (Or.inr ⟨by rfl, rfl⟩) hHeld ?_
        try simp only [Act.put, List.setIfInBounds_toArray, List.set_cons_zero, List.set_cons_succ]
        refine wpAnyH_take (i := 9) (oi := ⟨_, _, _, _, _, _⟩) (v := undef) rfl (by kernel_rfl) (by kernel_rfl) (by kernel_rfl) (fun _ _ _ h => h) (Or.inr ⟨by rfl, rfl⟩) hHeld ?_
        try simp only [Act.put, List.setIfInBounds_toArray, List.set_cons_zero, List.set_cons_succ]
        refine wpAnyH_take (i := 10) (oi := ⟨_, _, _, _, _, _⟩) (v := undef) rfl (by kernel_rfl) (by kernel_rfl) (by kernel_rfl) (fun _ _ _ h => h) (Or.inr ⟨by rfl, rfl⟩) hHeld ?_
        try simp only [Act.put, List.setIfInBounds_toArray, List.set_cons_zero, List.set_cons_succ]
        refine wpAnyH_take (i := 11) (oi := ⟨_, _, _, _, _, _⟩) (v := undef) rfl (by kernel_rfl) (by kernel_rfl) (by kernel_rfl) (fun _ _ _ h => h) (Or.inr ⟨by rfl, rfl⟩) hHeld ?_
        try simp only [Act.put, List.setIfInBounds_toArray, List.set_cons_zero, List.set_cons_succ]
        refine wpAnyH_take (i := 12) (oi := ⟨_, _, _, _, _, _⟩) (v := undef) rfl (by kernel_rfl) (by kernel_rfl) (by kernel_rfl) (fun _ _ _ h => h) (Or.inr ⟨by rfl, rfl⟩) hHeld ?_
        try simp only [Act.put, List.setIfInBounds_toArray, List.set_cons_zero, List.set_cons_succ]
        refine wpAnyH_take (i := 13) (oi := ⟨_, _, _, _, _, _⟩) (v := ?_) rfl (by kernel_rfl) (by kernel_rfl) (by kernel_rfl) (fun _ _ _ h => h) (Or.inl ⟨by rfl, ?_⟩) hHeld ?_
        rotate_left
        · (intro w hSw; (try dsimp only at hSw); go_simp; try with_reducible rfl)
        try simp only [Act.put, List.setIfInBounds_toArray, List.set_cons_zero, List.set_cons_succ]
        refine wpAnyH_done (by kernel_rfl) ?_ _
        obtain ⟨m9, hm9⟩ : ∃ m9, k + m9 = m := ⟨m - (k), by omega⟩
        obtain ⟨a9, c9, hsl9, hR9⟩ := csl_from HH.out (k) m9 (by omega) hm9
        have HR9 := Lib.hid (hR9.below (HC.out _ hbr).1)
        have HRW9 := Lib.hid (show Rw w8.drew 5 (.slice a9 m9 c9) m9 (ccells (S.drop (k))) from by
          have := HR9.out.1
          rwa [List.length_drop, show S.length - (k) = m9 by have := HM.out; omega] at this)
        have HO9 := Lib.hid (show w8.drew.ownsRow W0.heap.size 36 5 (.slice a8 n8 c8) n8 (ccells (S.take k ++ [(((p, g, z, d, cs), .slice a7 n7 c7) : Cv)])) from own_stays HO8.out (drew_below w8))
        have hq9 : n8 + m9 ≤ 2001 := by omega
        have hszq := hbr.size
        clear hR9 hm9 y0 y1 y2 y3 y4
        go_wp2_with (at_builtin; refine wpList_append_rw rfl _ _ 22 rfl W0.heap.size 36 i0 _ 5 64 Tryz.underlying22 hi hz0 hz1 hz2 rfl (by decide) _ n8 _ rfl HO9.out a9 m9 c9 (ccells (S.drop (k))) rfl HRW9.out (ccells_one HR9.out.2) (n8 + m9) rfl (by unfold maxLen; omega) (by omega) hszq ?_; intro a10 c10 w10 ho10 hg10)
        go_ret
        have hb10 : Below W0.heap.size W0 w10 := hbr.grown hg10 hbr.size fun j e => (HO9.out.lt j e).1
        have hw10 := (HC.out _ hb10).1
        have hI10 : OwnI w10 _ (.slice a7 n7 c7) cs := KeepC.grown HO9.out hg10 _ _ _ _ _ _ (by decide) (own_stays HI8.out (drew_below w8))
        refine ⟨_, S.take k ++ [(((p, g, z, d, cs), .slice a7 n7 c7) : Cv)] ++ S.drop (k), rfl, ⟨?_, fun x hx => ?_⟩, by simp [List.map_take, List.map_drop], hw10⟩
        · have hlen : (S.take k ++ [(((p, g, z, d, cs), .slice a7 n7 c7) : Cv)] ++ S.drop (k)).length = n8 + m9 := by
            have h1 := HRW9.out.1
            have h2 := HO9.out.1
            rw [ccells_len] at h1 h2
            rw [List.length_append]
            omega
          rw [hlen, ccells_append]
          exact Rw.own ho10
        · rcases List.mem_append.1 hx with hx | hx
          · rcases List.mem_append.1 hx with hx | hx
            · exact (HH.out.2 x (List.mem_of_mem_take hx)).below hw10
            · obtain rfl := List.mem_singleton.1 hx
              exact ints_own hI10
          · exact (HH.out.2 x (List.mem_of_mem_drop hx)).below hw10

end Go.Proofs.YtmbnmmnoahddcaaGreatDoor

/-
  The document's own put: ahead of another path.
-/
namespace Go.Proofs.YtmbnmmnoahddcaaGreatDoor
set_option maxRecDepth 100000
open Go.RowKit

set_option maxHeartbeats 8000000 in
theorem put_ahead (ao : Option Addr) (m cap : Nat) (S : List Cv) (p : List UInt8) (g : Bool) (z d : Int) (v : Value) (cs : List Int) (n : Nat) (w : World) (h : Cgs w (.slice ao m cap) S) (hm : S.length = m) (hm2 : m ≤ 1000) (hv : Ints w v cs) (hcs : cs.length ≤ 1000)
    (hlt : ∀ (i : Nat) (hi : i < S.length), i < n → Op.bytesLess S[i].1.1 p = true) (hn : n < m) (hng : ∀ h : n < S.length, Op.bytesLess S[n].1.1 p = false) (hnot : ∀ h : n < S.length, S[n].1.1 ≠ p) :
    Calls Tryz.prog 26 #[.slice ao m cap, CV p g z d v] w fun e w' => ∃ v' S', e = .returned v' ∧ Cgs w' v' S' ∧ chs S' = (chs S).take n ++ (p, g, z, d, cs) :: (chs S).drop (n) ∧ Below w.heap.size w w' := by
  obtain ⟨s1, s3, rfl⟩ := hv.form
  obtain ⟨i0, hi, hz0, hz1, hz2⟩ := info_parts infoC
  obtain ⟨s2, hs2⟩ : ∃ s2, cs.length = s2 := ⟨_, rfl⟩
  have hB0 := below_alloc w (.cells #[.string ⟨p.toArray⟩, .bool g, .int .i64 z, .int .i64 d, .slice s1 s2 s3] 36)
  have HX := Cx.new w 36 [.string ⟨p.toArray⟩, .bool g, .int .i64 z, .int .i64 d, .slice s1 s2 s3]
  obtain ⟨W0, hW0⟩ : ∃ W0, W0 = w.alloc (.cells #[.string ⟨p.toArray⟩, .bool g, .int .i64 z, .int .i64 d, .slice s1 s2 s3] 36) := ⟨_, rfl⟩
  have HC := Lib.hid (show ∀ W, Below W0.heap.size W0 W → Below w.heap.size w W ∧ (W.cell? ⟨w.heap.size, 0, none⟩ = some (.string ⟨p.toArray⟩) ∧ W.cell? ⟨w.heap.size, 1, none⟩ = some (.bool g) ∧ W.cell? ⟨w.heap.size, 2, none⟩ = some (.int .i64 z) ∧ W.cell? ⟨w.heap.size, 3, none⟩ = some (.int .i64 d) ∧ W.cell? ⟨w.heap.size, 4, none⟩ = some (.slice s1 s2 s3)) from fun W hW => by
    subst hW0
    exact ⟨below2 hB0 hW, (HX.below hW).five⟩)
  have KO := Lib.hid (fun (W : World) (hW : Below w.heap.size w W) => mOwn_calls z d _ cs W (hv.below hW) hcs)
  rw [hs2] at KO ⊢
  have HH := Lib.hid h
  have HL := Lib.hid hlt
  have HM := Lib.hid hm
  have HW0 := Lib.hid hW0
  have hsz0 : W0.heap.size = w.heap.size + 1 := by rw [hW0]; simp
  have HSZ := Lib.hid hsz0
  have hnS : n < S.length := by omega
  have HNG := Lib.hid (hng hnS)
  have hnm : n < m := hn
  have HNS := Lib.hid (hnot hnS)
  clear hs2 hB0 HX hv h hlt hm hW0 hsz0 hng hn hnot
  go_enter Tryz.func26, Tryz.ntmps26
  go_wp2_with fail
  rw [← HW0.out]
  go_loopw [5] (fun i wr => ∃ k : Nat, i = .int .i64 k ∧ k ≤ n ∧ Hid (Below W0.heap.size W0 wr)) (fun i _ => n - (intOf i).toNat)
  case atStart => exact ⟨0, rfl, Nat.zero_le _, Lib.hid (Below.refl _ _)⟩
  case round =>
    obtain ⟨k, rfl, hk, hB⟩ := hrel
    by_cases hkn : k < n
    · have hkS : k < S.length := by have := HM.out; omega
      have hless := HL.out k hkS hkn
      obtain ⟨b, off, rfl, ⟨c0, _, _, _, _⟩, _⟩ := HH.out.at (k := k) hkS
      obtain ⟨q, hq⟩ : ∃ q, S[k].1.1 = q := ⟨_, rfl⟩
      rw [hq] at c0
      rw [hq] at hless
      have HE := Lib.hid (fun (W : World) (hW : Below W0.heap.size W0 W) => And.intro (HC.out W hW).2.1 (look_below (HC.out W hW).1 c0))
      have hbr : Below W0.heap.size W0 wr.drew := below2 hB.out (drew_below _)
      have hd1 : decide (k < m) = true := by rw [decide_eq_true_eq]; have := HM.out; omega
      have hk1 : (0 : Int) ≤ (k : Int) := by omega
      have hk2 : (k : Int) < (m : Int) := by have := HM.out; omega
      clear c0 hq
      go_wp2_with fail
      refine wp_region_held_drew (S := (fun w' => w'.cell? ⟨w.heap.size, 0, none⟩ = some (.string ⟨p.toArray⟩) ∧ w'.cell? ⟨b, off + k * 5, none⟩ = some (.string ⟨q.toArray⟩))) (by kernel_rfl) (HE.out _ hbr) (fun hHeld => ?_)
      refine wpAnyH_take (i := 0) (oi := ⟨_, _, _, _, _, _⟩) (v := ?_) rfl (by kernel_rfl) (by kernel_rfl) (by kernel_rfl) (fun _ _ _ h => h) (Or.inl ⟨by rfl, ?_⟩) hHeld ?_
      rotate_left
      · (intro w hSw; (try dsimp only at hSw); go_simp; try with_reducible rfl)
      try simp only [Act.put, List.setIfInBounds_toArray, List.set_cons_zero, List.set_cons_succ]
      refine wpAnyH_take (i := 1) (oi := ⟨_, _, _, _, _, _⟩) (v := ?_) rfl (by kernel_rfl) (by kernel_rfl) (by kernel_rfl) (fun _ _ _ h => h) (Or.inl ⟨by rfl, ?_⟩) hHeld ?_
      rotate_left
      · (intro w hSw; (try dsimp only at hSw); go_simp; try with_reducible rfl)
      try simp only [Act.put, List.setIfInBounds_toArray, List.set_cons_zero, List.set_cons_succ]
      refine wpAnyH_take (i := 2) (oi := ⟨_, _, _, _, _, _⟩) (v := ?_) rfl (by kernel_rfl) (by kernel_rfl) (by kernel_rfl) (fun _ _ _ h => h) (Or.inl ⟨by rfl, ?_⟩) hHeld ?_
      rotate_left
      · (intro w hSw; (try dsimp only at hSw); go_simp; try with_reducible rfl)
      try simp only [Act.put, List.setIfInBounds_toArray, List.set_cons_zero, List.set_cons_succ]
      refine wpAnyH_take (i := 3) (oi := ⟨_, _, _, _, _, _⟩) (v := ?_) rfl (by kernel_rfl) (by kernel_rfl) (by kernel_rfl) (fun _ _ _ h => h) (Or.inl ⟨by rfl, ?_⟩) hHeld ?_
      rotate_left
      · (intro w hSw; (try dsimp only at hSw); go_simp; try with_reducible rfl)
      try simp only [Act.put, List.setIfInBounds_toArray, List.set_cons_zero, List.set_cons_succ]
      refine wpAnyH_take (i := 4) (oi := ⟨_, _, _, _, _, _⟩) (v := ?_) rfl (by kernel_rfl) (by kernel_rfl) (by kernel_rfl) (fun _ _ _ h => h) (Or.inl ⟨by rfl, ?_⟩) hHeld ?_
      rotate_left
      · (intro w hSw; (try dsimp only at hSw); go_simp; try with_reducible rfl)
      try simp only [Act.put, List.setIfInBounds_toArray, List.set_cons_zero, List.set_cons_succ]
      refine wpAnyH_take (i := 5) (oi := ⟨_, _, _, _, _, _⟩) (v := ?_) rfl (by kernel_rfl) (by kernel_rfl) (by kernel_rfl) (fun _ _ _ h => h) (Or.inl ⟨by rfl, ?_⟩) hHeld ?_
      rotate_left
      · (intro w hSw; (try dsimp only at hSw); go_simp; try with_reducible rfl)
      try simp only [Act.put, List.setIfInBounds_toArray, List.set_cons_zero, List.set_cons_succ]
      refine wpAnyH_take (i := 6) (oi := ⟨_, _, _, _, _, _⟩) (v := ?_) rfl (by kernel_rfl) (by kernel_rfl) (by kernel_rfl) (fun _ _ _ h => h) (Or.inl ⟨by rfl, ?_⟩) hHeld ?_
      rotate_left
      · (intro w hSw; (try dsimp only at hSw); go_simp; try with_reducible rfl)
      try simp only [Act.put, List.setIfInBounds_toArray, List.set_cons_zero, List.set_cons_succ]
      refine wpAnyH_take (i := 7) (oi := ⟨_, _, _, _, _, _⟩) (v := ?_) rfl (by kernel_rfl) (by kernel_rfl) (by kernel_rfl) (fun _ _ _ h => h) (Or.inl ⟨by rfl, ?_⟩) hHeld ?_
      rotate_left
      · (intro w hSw; (try dsimp only at hSw); go_simp; try with_reducible rfl)
      try simp only [Act.put, List.setIfInBounds_toArray, List.set_cons_zero, List.set_cons_succ]
      refine wpAnyH_take (i := 8) (oi := ⟨_, _, _, _, _, _⟩) (v := ?_) rfl (by kernel_rfl) (by kernel_rfl) (by kernel_rfl) (fun _ _ _ h => h) (Or.inl ⟨by rfl, ?_⟩) hHeld ?_
      rotate_left
      · (intro w hSw; (try dsimp only at hSw); go_simp; try with_reducible rfl)
      try simp only [Act.put, List.setIfInBounds_toArray, List.set_cons_zero, List.set_cons_succ]
      refine wpAnyH_take (i := 9) (oi := ⟨_, _, _, _, _, _⟩) (v := ?_) rfl (by kernel_rfl) (by kernel_rfl) (by kernel_rfl) (fun _ _ _ h => h) (Or.inl ⟨by rfl, ?_⟩) hHeld ?_
      rotate_left
      · (intro w hSw; (try dsimp only at hSw); go_simp; try with_reducible rfl)
      try simp only [Act.put, List.setIfInBounds_toArray, List.set_cons_zero, List.set_cons_succ]
      refine wpAnyH_take (i := 10) (oi := ⟨_, _, _, _, _, _⟩) (v := ?_) rfl (by kernel_rfl) (by kernel_rfl) (by kernel_rfl) (fun _ _ _ h => h) (Or.inl ⟨by rfl, ?_⟩) hHeld ?_
      rotate_left
      · (intro w hSw; (try dsimp only at hSw); go_simp; try with_reducible rfl)
      try simp only [Act.put, List.setIfInBounds_toArray, List.set_cons_zero, List.set_cons_succ]
      refine wpAnyH_take (i := 11) (oi := ⟨_, _, _, _, _, _⟩) (v := ?_) rfl (by kernel_rfl) (by kernel_rfl) (by kernel_rfl) (fun _ _ _ h => h) (Or.inl ⟨by rfl, ?_⟩) hHeld ?_
      rotate_left
      · (intro w hSw; (try dsimp only at hSw); go_simp; try with_reducible rfl)
      try simp only [Act.put, List.setIfInBounds_toArray, List.set_cons_zero, List.set_cons_succ]
      refine wpAnyH_take (i := 12) (oi := ⟨_, _, _, _, _, _⟩) (v := ?_) rfl (by kernel_rfl) (by kernel_rfl) (by kernel_rfl) (fun _ _ _ h => h) (Or.inl ⟨by rfl, ?_⟩) hHeld ?_
      rotate_left
      · (intro w hSw; (try dsimp only at hSw); go_simp; try with_reducible rfl)
      try simp only [Act.put, List.setIfInBounds_toArray, List.set_cons_zero, List.set_cons_succ]
      refine wpAnyH_take (i := 13) (oi := ⟨_, _, _, _, _, _⟩) (v := ?_) rfl (by kernel_rfl) (by kernel_rfl) (by kernel_rfl) (fun _ _ _ h => h) (Or.inl ⟨by rfl, ?_⟩) hHeld ?_
      rotate_left
      · (intro w hSw; (try dsimp only at hSw); go_simp; try with_reducible rfl)
      try simp only [Act.put, List.setIfInBounds_toArray, List.set_cons_zero, List.set_cons_succ]
      refine wpAnyH_done (by kernel_rfl) ?_ _
      go_wp2_with fail
      go_roundw
      case rel => exact ⟨k + 1, by go_num, by omega, Lib.hid hbr⟩
      case measure => simp [intOf]; omega
    · obtain rfl : k = n := by omega
      have hbr : Below W0.heap.size W0 wr.drew := below2 hB.out (drew_below _)
      clear hkn
      have hless := HNG.out
      obtain ⟨b, off, rfl, ⟨c0, _, _, _, _⟩, _⟩ := HH.out.at (k := k) hnS
      obtain ⟨q, hq⟩ : ∃ q, S[k].1.1 = q := ⟨_, rfl⟩
      rw [hq] at c0
      rw [hq] at hless
      have HE := Lib.hid (fun (W : World) (hW : Below W0.heap.size W0 W) => And.intro (HC.out W hW).2.1 (look_below (HC.out W hW).1 c0))
      have hd1 : decide (k < m) = true := by rw [decide_eq_true_eq]; omega
      have hk1 : (0 : Int) ≤ (k : Int) := by omega
      have hk2 : (k : Int) < (m : Int) := by omega
      have heq : (q == p) = false := by have := HNS.out; rw [← hq]; simpa using this
      clear c0 hq
      go_wp2_with fail
      refine wp_region_held_drew (S := (fun w' => w'.cell? ⟨w.heap.size, 0, none⟩ = some (.string ⟨p.toArray⟩) ∧ w'.cell? ⟨b, off + k * 5, none⟩ = some (.string ⟨q.toArray⟩))) (by kernel_rfl) (HE.out _ hbr) (fun hHeld => ?_)
      refine wpAnyH_take (i := 0) (oi := ⟨_, _, _, _, _, _⟩) (v := ?_) rfl (by kernel_rfl) (by kernel_rfl) (by kernel_rfl) (fun _ _ _ h => h) (Or.inl ⟨by rfl, ?_⟩) hHeld ?_
      rotate_left
      · (intro w hSw; (try dsimp only at hSw); go_simp; try with_reducible rfl)
      try simp only [Act.put, List.setIfInBounds_toArray, List.set_cons_zero, List.set_cons_succ]
      refine wpAnyH_take (i := 1) (oi := ⟨_, _, _, _, _, _⟩) (v := ?_) rfl (by kernel_rfl) (by kernel_rfl) (by kernel_rfl) (fun _ _ _ h => h) (Or.inl ⟨by rfl, ?_⟩) hHeld ?_
      rotate_left
      · (intro w hSw; (try dsimp only at hSw); go_simp; try with_reducible rfl)
      try simp only [Act.put, List.setIfInBounds_toArray, List.set_cons_zero, List.set_cons_succ]
      refine wpAnyH_take (i := 2) (oi := ⟨_, _, _, _, _, _⟩) (v := ?_) rfl (by kernel_rfl) (by kernel_rfl) (by kernel_rfl) (fun _ _ _ h => h) (Or.inl ⟨by rfl, ?_⟩) hHeld ?_
      rotate_left
      · (intro w hSw; (try dsimp only at hSw); go_simp; try with_reducible rfl)
      try simp only [Act.put, List.setIfInBounds_toArray, List.set_cons_zero, List.set_cons_succ]
      refine wpAnyH_take (i := 3) (oi := ⟨_, _, _, _, _, _⟩) (v := ?_) rfl (by kernel_rfl) (by kernel_rfl) (by kernel_rfl) (fun _ _ _ h => h) (Or.inl ⟨by rfl, ?_⟩) hHeld ?_
      rotate_left
      · (intro w hSw; (try dsimp only at hSw); go_simp; try with_reducible rfl)
      try simp only [Act.put, List.setIfInBounds_toArray, List.set_cons_zero, List.set_cons_succ]
      refine wpAnyH_take (i := 4) (oi := ⟨_, _, _, _, _, _⟩) (v := ?_) rfl (by kernel_rfl) (by kernel_rfl) (by kernel_rfl) (fun _ _ _ h => h) (Or.inl ⟨by rfl, ?_⟩) hHeld ?_
      rotate_left
      · (intro w hSw; (try dsimp only at hSw); go_simp; try with_reducible rfl)
      try simp only [Act.put, List.setIfInBounds_toArray, List.set_cons_zero, List.set_cons_succ]
      refine wpAnyH_take (i := 5) (oi := ⟨_, _, _, _, _, _⟩) (v := ?_) rfl (by kernel_rfl) (by kernel_rfl) (by kernel_rfl) (fun _ _ _ h => h) (Or.inl ⟨by rfl, ?_⟩) hHeld ?_
      rotate_left
      · (intro w hSw; (try dsimp only at hSw); go_simp; try with_reducible rfl)
      try simp only [Act.put, List.setIfInBounds_toArray, List.set_cons_zero, List.set_cons_succ]
      refine wpAnyH_take (i := 6) (oi := ⟨_, _, _, _, _, _⟩) (v := ?_) rfl (by kernel_rfl) (by kernel_rfl) (by kernel_rfl) (fun _ _ _ h => h) (Or.inl ⟨by rfl, ?_⟩) hHeld ?_
      rotate_left
      · (intro w hSw; (try dsimp only at hSw); go_simp; try with_reducible rfl)
      try simp only [Act.put, List.setIfInBounds_toArray, List.set_cons_zero, List.set_cons_succ]
      refine wpAnyH_take (i := 7) (oi := ⟨_, _, _, _, _, _⟩) (v := ?_) rfl (by kernel_rfl) (by kernel_rfl) (by kernel_rfl) (fun _ _ _ h => h) (Or.inl ⟨by rfl, ?_⟩) hHeld ?_
      rotate_left
      · (intro w hSw; (try dsimp only at hSw); go_simp; try with_reducible rfl)
      try simp only [Act.put, List.setIfInBounds_toArray, List.set_cons_zero, List.set_cons_succ]
      refine wpAnyH_take (i := 8) (oi := ⟨_, _, _, _, _, _⟩) (v := ?_) rfl (by kernel_rfl) (by kernel_rfl) (by kernel_rfl) (fun _ _ _ h => h) (Or.inl ⟨by rfl, ?_⟩) hHeld ?_
      rotate_left
      · (intro w hSw; (try dsimp only at hSw); go_simp; try with_reducible rfl)
      try simp only [Act.put, List.setIfInBounds_toArray, List.set_cons_zero, List.set_cons_succ]
      refine wpAnyH_take (i := 9) (oi := ⟨_, _, _, _, _, _⟩) (v := ?_) rfl (by kernel_rfl) (by kernel_rfl) (by kernel_rfl) (fun _ _ _ h => h) (Or.inl ⟨by rfl, ?_⟩) hHeld ?_
      rotate_left
      · (intro w hSw; (try dsimp only at hSw); go_simp; try with_reducible rfl)
      try simp only [Act.put, List.setIfInBounds_toArray, List.set_cons_zero, List.set_cons_succ]
      refine wpAnyH_take (i := 10) (oi := ⟨_, _, _, _, _, _⟩) (v := ?_) rfl (by kernel_rfl) (by kernel_rfl) (by kernel_rfl) (fun _ _ _ h => h) (Or.inl ⟨by rfl, ?_⟩) hHeld ?_
      rotate_left
      · (intro w hSw; (try dsimp only at hSw); go_simp; try with_reducible rfl)
      try simp only [Act.put, List.setIfInBounds_toArray, List.set_cons_zero, List.set_cons_succ]
      refine wpAnyH_take (i := 11) (oi := ⟨_, _, _, _, _, _⟩) (v := ?_) rfl (by kernel_rfl) (by kernel_rfl) (by kernel_rfl) (fun _ _ _ h => h) (Or.inl ⟨by rfl, ?_⟩) hHeld ?_
      rotate_left
      · (intro w hSw; (try dsimp only at hSw); go_simp; try with_reducible rfl)
      try simp only [Act.put, List.setIfInBounds_toArray, List.set_cons_zero, List.set_cons_succ]
      refine wpAnyH_take (i := 12) (oi := ⟨_, _, _, _, _, _⟩) (v := ?_) rfl (by kernel_rfl) (by kernel_rfl) (by kernel_rfl) (fun _ _ _ h => h) (Or.inl ⟨by rfl, ?_⟩) hHeld ?_
      rotate_left
      · (intro w hSw; (try dsimp only at hSw); go_simp; try with_reducible rfl)
      try simp only [Act.put, List.setIfInBounds_toArray, List.set_cons_zero, List.set_cons_succ]
      refine wpAnyH_take (i := 13) (oi := ⟨_, _, _, _, _, _⟩) (v := ?_) rfl (by kernel_rfl) (by kernel_rfl) (by kernel_rfl) (fun _ _ _ h => h) (Or.inl ⟨by rfl, ?_⟩) hHeld ?_
      rotate_left
      · (intro w hSw; (try dsimp only at hSw); go_simp; try with_reducible rfl)
      try simp only [Act.put, List.setIfInBounds_toArray, List.set_cons_zero, List.set_cons_succ]
      refine wpAnyH_done (by kernel_rfl) ?_ _
      have hkm : k ≤ m := by omega
      obtain ⟨hsl, hR⟩ := csl_to HH.out k hkm
      have HR := Lib.hid (hR.below (HC.out _ hbr).1)
      have HR1 := Lib.hid (show Rw wr.drew 5 (.slice (some ⟨b, off, none⟩) k cap) k (ccells (S.take k)) from by
        have := HR.out.1
        rwa [List.length_take, Nat.min_eq_left (by have := HM.out; omega)] at this)
      have hsz := hbr.size
      clear hR
      go_wp2_with (at_builtin; refine wpList_append_nil rfl _ _ 22 rfl W0.heap.size 36 i0 _ 5 64 Tryz.underlying22 hi hz0 hz1 hz2 rfl (by decide) rfl _ k cap (ccells (S.take k)) rfl HR1.out (ccells_one HR.out.2) (by unfold maxLen; omega) (by omega) hsz ?_)
      intro a5 c5 w5 ho5 hB5
      have hb5 := below2 hbr hB5
      have hbr6 : Below W0.heap.size W0 w5.drew := below2 hb5 (drew_below _)
      have HO5 := Lib.hid (show RowC w5.drew W0.heap.size (.slice a5 k c5) (S.take k) from by
        unfold RowC
        rw [List.length_take, Nat.min_eq_left (by have := HM.out; omega)]
        exact own_stays ho5 (drew_below _))
      have hlk : (S.take k).length ≤ 100000 := by rw [List.length_take]; omega
      have HBW := Lib.hid (HC.out _ hbr6).1
      have hszw := HBW.out.size
      obtain ⟨x0, x1, x2, x3, x4⟩ := (HC.out _ hbr6).2
      clear ho5 hsl
      go_upto_region 6 with (fail)
      go_cut [6] from 28 to 38 (fun r wc => ∃ (a8 : Option Addr) (n8 c8 : Nat) (a7 : Option Addr) (n7 c7 b7 : Nat), r = .slice a8 n8 c8 ∧ Hid (n8 = k + 1) ∧ Hid (wc.ownsRow W0.heap.size 36 5 (.slice a8 n8 c8) n8 (ccells (S.take k ++ [(((p, g, z, d, cs), .slice a7 n7 c7) : Cv)]))) ∧ Hid (OwnI wc b7 (.slice a7 n7 c7) cs) ∧ Hid (Below W0.heap.size W0 wc))
      case first =>
        go_region_law (first
          | (refine step_row rfl (.tmp 28) (.tmp 37) rfl W0.heap.size _ (S.take k) rfl HF.out.1 w7.heap.size ((p, g, z, d, cs), .slice a7 n7 c7) HF.out.2.1 rfl (news_litC w7 (ccell ((p, g, z, d, cs), .slice a7 n7 c7)) _) hlk HF.out.2.2.1 ?_; intro v8 w8 ho8 hB8 hK8)
          | (go_simp; go_at_call 19; refine (KO.out _ HBW.out).mono ?_; rintro e w7 ⟨v7, rfl, ho7, hB7⟩; have hone := ccell_one (x := ((p, g, z, d, cs), v7)) ho7; obtain ⟨a7, n7, c7, rfl⟩ := own_form ho7; have hb7 := below2 hbr6 hB7; obtain ⟨y0, y1, y2, y3, y4⟩ := (HC.out _ hb7).2; have hb8 := below_alloc w7 (.cells #[.string ⟨p.toArray⟩, .bool g, .int .i64 z, .int .i64 d, .slice a7 n7 c7] 36); have HF := Lib.hid (And.intro (show RowC _ _ _ _ from own_stays (own_stays HO5.out hB7) hb8) (And.intro hone (And.intro (below2 hb7 hb8).size (And.intro (below2 hb7 hb8) (own_stays ho7 hb8)))))))
        all_goals
          go_wp2_with fail
          go_meet
          case rel =>
            obtain ⟨a8, c8, rfl⟩ := ho8.form
            have hn8 : (S.take k ++ [(((p, g, z, d, cs), .slice a7 n7 c7) : Cv)]).length = k + 1 := by
              rw [List.length_append, List.length_take]
              have := HM.out
              simp
              omega
            refine ⟨a8, _, c8, a7, n7, c7, _, rfl, Lib.hid hn8, Lib.hid ho8, Lib.hid (hK8 _ _ _ _ _ _ (by decide) HF.out.2.2.2.2), Lib.hid (hB8 W0 HF.out.2.2.2.1)⟩
      case rest =>
        obtain ⟨a8, n8, c8, a7, n7, c7, b7, rfl, HN9, HO8, HI8, HB9⟩ := hcut
        rename World => w8
        have hb9 := HB9.out
        have hle8 : n8 ≤ 1001 := by have := HN9.out; omega
        obtain ⟨y0, y1, y2, y3, y4⟩ := (HC.out _ hb9).2
        clear x0 x1 x2 x3 x4 hbr6 hb5 hB5
        replace hbr : Below W0.heap.size W0 w8.drew := below2 hb9 (drew_below _)
        go_wp2_with fail
        refine wp_region_held_drew (S := (fun w' => w'.cell? ⟨w.heap.size, 0, none⟩ = some (.string ⟨p.toArray⟩) ∧ w'.cell? ⟨b, off + k * 5, none⟩ = some (.string ⟨q.toArray⟩))) (by kernel_rfl) (HE.out _ hbr) (fun hHeld => ?_)
        refine wpAnyH_take (i := 0) (oi := ⟨_, _, _, _, _, _⟩) (v := ?_) rfl (by kernel_rfl) (by kernel_rfl) (by kernel_rfl) (fun _ _ _ h => h) (Or.inl ⟨by rfl, ?_⟩) hHeld ?_
        rotate_left
        · (intro w hSw; (try dsimp only at hSw); go_simp; try with_reducible rfl)
        try simp only [Act.put, List.setIfInBounds_toArray, List.set_cons_zero, List.set_cons_succ]
        refine wpAnyH_take (i := 1) (oi := ⟨_, _, _, _, _, _⟩) (v := ?_) rfl (by kernel_rfl) (by kernel_rfl) (by kernel_rfl) (fun _ _ _ h => h) (Or.inl ⟨by rfl, ?_⟩) hHeld ?_
        rotate_left
        · (intro w hSw; (try dsimp only at hSw); go_simp; try with_reducible rfl)
        try simp only [Act.put, List.setIfInBounds_toArray, List.set_cons_zero, List.set_cons_succ]
        refine wpAnyH_take (i := 2) (oi := ⟨_, _, _, _, _, _⟩) (v := ?_) rfl (by kernel_rfl) (by kernel_rfl) (by kernel_rfl) (fun _ _ _ h => h) (Or.inl ⟨by rfl, ?_⟩) hHeld ?_
        rotate_left
        · (intro w hSw; (try dsimp only at hSw); go_simp; try with_reducible rfl)
        try simp only [Act.put, List.setIfInBounds_toArray, List.set_cons_zero, List.set_cons_succ]
        refine wpAnyH_take (i := 3) (oi := ⟨_, _, _, _, _, _⟩) (v := ?_) rfl (by kernel_rfl) (by kernel_rfl) (by kernel_rfl) (fun _ _ _ h => h) (Or.inl ⟨by rfl, ?_⟩) hHeld ?_
        rotate_left
        · (intro w hSw; (try dsimp only at hSw); go_simp; try with_reducible rfl)
        try simp only [Act.put, List.setIfInBounds_toArray, List.set_cons_zero, List.set_cons_succ]
        refine wpAnyH_take (i := 4) (oi := ⟨_, _, _, _, _, _⟩) (v := ?_) rfl (by kernel_rfl) (by kernel_rfl) (by kernel_rfl) (fun _ _ _ h => h) (Or.inl ⟨by rfl, ?_⟩) hHeld ?_
        rotate_left
        · (intro w hSw; (try dsimp only at hSw); go_simp; try with_reducible rfl)
        try simp only [Act.put, List.setIfInBounds_toArray, List.set_cons_zero, List.set_cons_succ]
        refine wpAnyH_take (i := 5) (oi := ⟨_, _, _, _, _, _⟩) (v := ?_) rfl (by kernel_rfl) (by kernel_rfl) (by kernel_rfl) (fun _ _ _ h => h) (Or.inl ⟨by rfl, ?_⟩) hHeld ?_
        rotate_left
        · (intro w hSw; (try dsimp only at hSw); go_simp; try with_reducible rfl)
        try simp only [Act.put, List.setIfInBounds_toArray, List.set_cons_zero, List.set_cons_succ]
        refine wpAnyH_take (i := 6) (oi := ⟨_, _, _, _, _, _⟩) (v := ?_) rfl (by kernel_rfl) (by kernel_rfl) (by kernel_rfl) (fun _ _ _ h => h) (Or.inl ⟨by rfl, ?_⟩) hHeld ?_
        rotate_left
        · (intro w hSw; (try dsimp only at hSw); go_simp; try with_reducible rfl)
        try simp only [Act.put, List.setIfInBounds_toArray, List.set_cons_zero, List.set_cons_succ]
        refine wpAnyH_take (i := 7) (oi := ⟨_, _, _, _, _, _⟩) (v := ?_) rfl (by kernel_rfl) (by kernel_rfl) (by kernel_rfl) (fun _ _ _ h => h) (Or.inl ⟨by rfl, ?_⟩) hHeld ?_
        rotate_left
        · (intro w hSw; (try dsimp only at hSw); go_simp; try with_reducible rfl)
        try simp only [Act.put, List.setIfInBounds_toArray, List.set_cons_zero, List.set_cons_succ]
        refine wpAnyH_take (i := 8) (oi := ⟨_, _, _, _, _, _⟩) (v := ?_) rfl (by kernel_rfl) (by kernel_rfl) (by kernel_rfl) (fun _ _ _ h => h) (Or.inl ⟨by rfl, ?_⟩) hHeld ?_
        rotate_left
        · (intro w hSw; (try dsimp only at hSw); go_simp; try with_reducible rfl)
        try simp only [Act.put, List.setIfInBounds_toArray, List.set_cons_zero, List.set_cons_succ]
        refine wpAnyH_take (i := 9) (oi := ⟨_, _, _, _, _, _⟩) (v := ?_) rfl (by kernel_rfl) (by kernel_rfl) (by kernel_rfl) (fun _ _ _ h => h) (Or.inl ⟨by rfl, ?_⟩) hHeld ?_
        rotate_left
        · (intro w hSw; (try dsimp only at hSw); go_simp; try with_reducible rfl)
        try simp only [Act.put, List.setIfInBounds_toArray, List.set_cons_zero, List.set_cons_succ]
        refine wpAnyH_take (i := 10) (oi := ⟨_, _, _, _, _, _⟩) (v := ?_) rfl (by kernel_rfl) (by kernel_rfl) (by kernel_rfl) (fun _ _ _ h => h) (Or.inl ⟨by rfl, ?_⟩) hHeld ?_
        rotate_left
        · (intro w hSw; (try dsimp only at hSw); go_simp; try with_reducible rfl)
        try simp only [Act.put, List.setIfInBounds_toArray, List.set_cons_zero, List.set_cons_succ]
        refine wpAnyH_take (i := 11) (oi := ⟨_, _, _, _, _, _⟩) (v := ?_) rfl (by kernel_rfl) (by kernel_rfl) (by kernel_rfl) (fun _ _ _ h => h) (Or.inl ⟨by rfl, ?_⟩) hHeld ?_
        rotate_left
        · (intro w hSw; (try dsimp only at hSw); go_simp; try with_reducible rfl)
        try simp only [Act.put, List.setIfInBounds_toArray, List.set_cons_zero, List.set_cons_succ]
        refine wpAnyH_take (i := 12) (oi := ⟨_, _, _, _, _, _⟩) (v := ?_) rfl (by kernel_rfl) (by kernel_rfl) (by kernel_rfl) (fun _ _ _ h => h) (Or.inl ⟨by rfl, ?_⟩) hHeld ?_
        rotate_left
        · (intro w hSw; (try dsimp only at hSw); go_simp; try with_reducible rfl)
        try simp only [Act.put, List.setIfInBounds_toArray, List.set_cons_zero, List.set_cons_succ]
        refine wpAnyH_take (i := 13) (oi := ⟨_, _, _, _, _, _⟩) (v := ?_) rfl (by kernel_rfl) (by kernel_rfl) (by kernel_rfl) (fun _ _ _ h => h) (Or.inl ⟨by rfl, ?_⟩) hHeld ?_
        rotate_left
        · (intro w hSw; (try dsimp only at hSw); go_simp; try with_reducible rfl)
        try simp only [Act.put, List.setIfInBounds_toArray, List.set_cons_zero, List.set_cons_succ]
        refine wpAnyH_done (by kernel_rfl) ?_ _
        obtain ⟨m9, hm9⟩ : ∃ m9, k + m9 = m := ⟨m - (k), by omega⟩
        obtain ⟨a9, c9, hsl9, hR9⟩ := csl_from HH.out (k) m9 (by omega) hm9
        have HR9 := Lib.hid (hR9.below (HC.out _ hbr).1)
        have HRW9 := Lib.hid (show Rw w8.drew 5 (.slice a9 m9 c9) m9 (ccells (S.drop (k))) from by
          have := HR9.out.1
          rwa [List.length_drop, show S.length - (k) = m9 by have := HM.out; omega] at this)
        have HO9 := Lib.hid (show w8.drew.ownsRow W0.heap.size 36 5 (.slice a8 n8 c8) n8 (ccells (S.take k ++ [(((p, g, z, d, cs), .slice a7 n7 c7) : Cv)])) from own_stays HO8.out (drew_below w8))
        have hq9 : n8 + m9 ≤ 2001 := by omega
        have hszq := hbr.size
        clear hR9 hm9 y0 y1 y2 y3 y4
        go_wp2_with (at_builtin; refine wpList_append_rw rfl _ _ 22 rfl W0.heap.size 36 i0 _ 5 64 Tryz.underlying22 hi hz0 hz1 hz2 rfl (by decide) _ n8 _ rfl HO9.out a9 m9 c9 (ccells (S.drop (k))) rfl HRW9.out (ccells_one HR9.out.2) (n8 + m9) rfl (by unfold maxLen; omega) (by omega) hszq ?_; intro a10 c10 w10 ho10 hg10)
        go_ret
        have hb10 : Below W0.heap.size W0 w10 := hbr.grown hg10 hbr.size fun j e => (HO9.out.lt j e).1
        have hw10 := (HC.out _ hb10).1
        have hI10 : OwnI w10 _ (.slice a7 n7 c7) cs := KeepC.grown HO9.out hg10 _ _ _ _ _ _ (by decide) (own_stays HI8.out (drew_below w8))
        refine ⟨_, S.take k ++ [(((p, g, z, d, cs), .slice a7 n7 c7) : Cv)] ++ S.drop (k), rfl, ⟨?_, fun x hx => ?_⟩, by simp [List.map_take, List.map_drop], hw10⟩
        · have hlen : (S.take k ++ [(((p, g, z, d, cs), .slice a7 n7 c7) : Cv)] ++ S.drop (k)).length = n8 + m9 := by
            have h1 := HRW9.out.1
            have h2 := HO9.out.1
            rw [ccells_len] at h1 h2
            rw [List.length_append]
            omega
          rw [hlen, ccells_append]
          exact Rw.own ho10
        · rcases List.mem_append.1 hx with hx | hx
          · rcases List.mem_append.1 hx with hx | hx
            · exact (HH.out.2 x (List.mem_of_mem_take hx)).below hw10
            · obtain rfl := List.mem_singleton.1 hx
              exact ints_own hI10
          · exact (HH.out.2 x (List.mem_of_mem_drop hx)).below hw10

end Go.Proofs.YtmbnmmnoahddcaaGreatDoor

/-
  The document's own put: in the place of the same path.
-/
namespace Go.Proofs.YtmbnmmnoahddcaaGreatDoor
set_option maxRecDepth 100000
open Go.RowKit

set_option maxHeartbeats 8000000 in
theorem put_same (ao : Option Addr) (m cap : Nat) (S : List Cv) (p : List UInt8) (g : Bool) (z d : Int) (v : Value) (cs : List Int) (n : Nat) (w : World) (h : Cgs w (.slice ao m cap) S) (hm : S.length = m) (hm2 : m ≤ 1000) (hv : Ints w v cs) (hcs : cs.length ≤ 1000)
    (hlt : ∀ (i : Nat) (hi : i < S.length), i < n → Op.bytesLess S[i].1.1 p = true) (hn : n < m) (hng : ∀ h : n < S.length, Op.bytesLess S[n].1.1 p = false) (hsame : ∀ h : n < S.length, S[n].1.1 = p) :
    Calls Tryz.prog 26 #[.slice ao m cap, CV p g z d v] w fun e w' => ∃ v' S', e = .returned v' ∧ Cgs w' v' S' ∧ chs S' = (chs S).take n ++ (p, g, z, d, cs) :: (chs S).drop (n + 1) ∧ Below w.heap.size w w' := by
  obtain ⟨s1, s3, rfl⟩ := hv.form
  obtain ⟨i0, hi, hz0, hz1, hz2⟩ := info_parts infoC
  obtain ⟨s2, hs2⟩ : ∃ s2, cs.length = s2 := ⟨_, rfl⟩
  have hB0 := below_alloc w (.cells #[.string ⟨p.toArray⟩, .bool g, .int .i64 z, .int .i64 d, .slice s1 s2 s3] 36)
  have HX := Cx.new w 36 [.string ⟨p.toArray⟩, .bool g, .int .i64 z, .int .i64 d, .slice s1 s2 s3]
  obtain ⟨W0, hW0⟩ : ∃ W0, W0 = w.alloc (.cells #[.string ⟨p.toArray⟩, .bool g, .int .i64 z, .int .i64 d, .slice s1 s2 s3] 36) := ⟨_, rfl⟩
  have HC := Lib.hid (show ∀ W, Below W0.heap.size W0 W → Below w.heap.size w W ∧ (W.cell? ⟨w.heap.size, 0, none⟩ = some (.string ⟨p.toArray⟩) ∧ W.cell? ⟨w.heap.size, 1, none⟩ = some (.bool g) ∧ W.cell? ⟨w.heap.size, 2, none⟩ = some (.int .i64 z) ∧ W.cell? ⟨w.heap.size, 3, none⟩ = some (.int .i64 d) ∧ W.cell? ⟨w.heap.size, 4, none⟩ = some (.slice s1 s2 s3)) from fun W hW => by
    subst hW0
    exact ⟨below2 hB0 hW, (HX.below hW).five⟩)
  have KO := Lib.hid (fun (W : World) (hW : Below w.heap.size w W) => mOwn_calls z d _ cs W (hv.below hW) hcs)
  rw [hs2] at KO ⊢
  have HH := Lib.hid h
  have HL := Lib.hid hlt
  have HM := Lib.hid hm
  have HW0 := Lib.hid hW0
  have hsz0 : W0.heap.size = w.heap.size + 1 := by rw [hW0]; simp
  have HSZ := Lib.hid hsz0
  have hnS : n < S.length := by omega
  have HNG := Lib.hid (hng hnS)
  have hnm : n < m := hn
  have HSM := Lib.hid (hsame hnS)
  clear hs2 hB0 HX hv h hlt hm hW0 hsz0 hng hn hsame
  go_enter Tryz.func26, Tryz.ntmps26
  go_wp2_with fail
  rw [← HW0.out]
  go_loopw [5] (fun i wr => ∃ k : Nat, i = .int .i64 k ∧ k ≤ n ∧ Hid (Below W0.heap.size W0 wr)) (fun i _ => n - (intOf i).toNat)
  case atStart => exact ⟨0, rfl, Nat.zero_le _, Lib.hid (Below.refl _ _)⟩
  case round =>
    obtain ⟨k, rfl, hk, hB⟩ := hrel
    by_cases hkn : k < n
    · have hkS : k < S.length := by have := HM.out; omega
      have hless := HL.out k hkS hkn
      obtain ⟨b, off, rfl, ⟨c0, _, _, _, _⟩, _⟩ := HH.out.at (k := k) hkS
      obtain ⟨q, hq⟩ : ∃ q, S[k].1.1 = q := ⟨_, rfl⟩
      rw [hq] at c0
      rw [hq] at hless
      have HE := Lib.hid (fun (W : World) (hW : Below W0.heap.size W0 W) => And.intro (HC.out W hW).2.1 (look_below (HC.out W hW).1 c0))
      have hbr : Below W0.heap.size W0 wr.drew := below2 hB.out (drew_below _)
      have hd1 : decide (k < m) = true := by rw [decide_eq_true_eq]; have := HM.out; omega
      have hk1 : (0 : Int) ≤ (k : Int) := by omega
      have hk2 : (k : Int) < (m : Int) := by have := HM.out; omega
      clear c0 hq
      go_wp2_with fail
      refine wp_region_held_drew (S := (fun w' => w'.cell? ⟨w.heap.size, 0, none⟩ = some (.string ⟨p.toArray⟩) ∧ w'.cell? ⟨b, off + k * 5, none⟩ = some (.string ⟨q.toArray⟩))) (by kernel_rfl) (HE.out _ hbr) (fun hHeld => ?_)
      refine wpAnyH_take (i := 0) (oi := ⟨_, _, _, _, _, _⟩) (v := ?_) rfl (by kernel_rfl) (by kernel_rfl) (by kernel_rfl) (fun _ _ _ h => h) (Or.inl ⟨by rfl, ?_⟩) hHeld ?_
      rotate_left
      · (intro w hSw; (try dsimp only at hSw); go_simp; try with_reducible rfl)
      try simp only [Act.put, List.setIfInBounds_toArray, List.set_cons_zero, List.set_cons_succ]
      refine wpAnyH_take (i := 1) (oi := ⟨_, _, _, _, _, _⟩) (v := ?_) rfl (by kernel_rfl) (by kernel_rfl) (by kernel_rfl) (fun _ _ _ h => h) (Or.inl ⟨by rfl, ?_⟩) hHeld ?_
      rotate_left
      · (intro w hSw; (try dsimp only at hSw); go_simp; try with_reducible rfl)
      try simp only [Act.put, List.setIfInBounds_toArray, List.set_cons_zero, List.set_cons_succ]
      refine wpAnyH_take (i := 2) (oi := ⟨_, _, _, _, _, _⟩) (v := ?_) rfl (by kernel_rfl) (by kernel_rfl) (by kernel_rfl) (fun _ _ _ h => h) (Or.inl ⟨by rfl, ?_⟩) hHeld ?_
      rotate_left
      · (intro w hSw; (try dsimp only at hSw); go_simp; try with_reducible rfl)
      try simp only [Act.put, List.setIfInBounds_toArray, List.set_cons_zero, List.set_cons_succ]
      refine wpAnyH_take (i := 3) (oi := ⟨_, _, _, _, _, _⟩) (v := ?_) rfl (by kernel_rfl) (by kernel_rfl) (by kernel_rfl) (fun _ _ _ h => h) (Or.inl ⟨by rfl, ?_⟩) hHeld ?_
      rotate_left
      · (intro w hSw; (try dsimp only at hSw); go_simp; try with_reducible rfl)
      try simp only [Act.put, List.setIfInBounds_toArray, List.set_cons_zero, List.set_cons_succ]
      refine wpAnyH_take (i := 4) (oi := ⟨_, _, _, _, _, _⟩) (v := ?_) rfl (by kernel_rfl) (by kernel_rfl) (by kernel_rfl) (fun _ _ _ h => h) (Or.inl ⟨by rfl, ?_⟩) hHeld ?_
      rotate_left
      · (intro w hSw; (try dsimp only at hSw); go_simp; try with_reducible rfl)
      try simp only [Act.put, List.setIfInBounds_toArray, List.set_cons_zero, List.set_cons_succ]
      refine wpAnyH_take (i := 5) (oi := ⟨_, _, _, _, _, _⟩) (v := ?_) rfl (by kernel_rfl) (by kernel_rfl) (by kernel_rfl) (fun _ _ _ h => h) (Or.inl ⟨by rfl, ?_⟩) hHeld ?_
      rotate_left
      · (intro w hSw; (try dsimp only at hSw); go_simp; try with_reducible rfl)
      try simp only [Act.put, List.setIfInBounds_toArray, List.set_cons_zero, List.set_cons_succ]
      refine wpAnyH_take (i := 6) (oi := ⟨_, _, _, _, _, _⟩) (v := ?_) rfl (by kernel_rfl) (by kernel_rfl) (by kernel_rfl) (fun _ _ _ h => h) (Or.inl ⟨by rfl, ?_⟩) hHeld ?_
      rotate_left
      · (intro w hSw; (try dsimp only at hSw); go_simp; try with_reducible rfl)
      try simp only [Act.put, List.setIfInBounds_toArray, List.set_cons_zero, List.set_cons_succ]
      refine wpAnyH_take (i := 7) (oi := ⟨_, _, _, _, _, _⟩) (v := ?_) rfl (by kernel_rfl) (by kernel_rfl) (by kernel_rfl) (fun _ _ _ h => h) (Or.inl ⟨by rfl, ?_⟩) hHeld ?_
      rotate_left
      · (intro w hSw; (try dsimp only at hSw); go_simp; try with_reducible rfl)
      try simp only [Act.put, List.setIfInBounds_toArray, List.set_cons_zero, List.set_cons_succ]
      refine wpAnyH_take (i := 8) (oi := ⟨_, _, _, _, _, _⟩) (v := ?_) rfl (by kernel_rfl) (by kernel_rfl) (by kernel_rfl) (fun _ _ _ h => h) (Or.inl ⟨by rfl, ?_⟩) hHeld ?_
      rotate_left
      · (intro w hSw; (try dsimp only at hSw); go_simp; try with_reducible rfl)
      try simp only [Act.put, List.setIfInBounds_toArray, List.set_cons_zero, List.set_cons_succ]
      refine wpAnyH_take (i := 9) (oi := ⟨_, _, _, _, _, _⟩) (v := ?_) rfl (by kernel_rfl) (by kernel_rfl) (by kernel_rfl) (fun _ _ _ h => h) (Or.inl ⟨by rfl, ?_⟩) hHeld ?_
      rotate_left
      · (intro w hSw; (try dsimp only at hSw); go_simp; try with_reducible rfl)
      try simp only [Act.put, List.setIfInBounds_toArray, List.set_cons_zero, List.set_cons_succ]
      refine wpAnyH_take (i := 10) (oi := ⟨_, _, _, _, _, _⟩) (v := ?_) rfl (by kernel_rfl) (by kernel_rfl) (by kernel_rfl) (fun _ _ _ h => h) (Or.inl ⟨by rfl, ?_⟩) hHeld ?_
      rotate_left
      · (intro w hSw; (try dsimp only at hSw); go_simp; try with_reducible rfl)
      try simp only [Act.put, List.setIfInBounds_toArray, List.set_cons_zero, List.set_cons_succ]
      refine wpAnyH_take (i := 11) (oi := ⟨_, _, _, _, _, _⟩) (v := ?_) rfl (by kernel_rfl) (by kernel_rfl) (by kernel_rfl) (fun _ _ _ h => h) (Or.inl ⟨by rfl, ?_⟩) hHeld ?_
      rotate_left
      · (intro w hSw; (try dsimp only at hSw); go_simp; try with_reducible rfl)
      try simp only [Act.put, List.setIfInBounds_toArray, List.set_cons_zero, List.set_cons_succ]
      refine wpAnyH_take (i := 12) (oi := ⟨_, _, _, _, _, _⟩) (v := ?_) rfl (by kernel_rfl) (by kernel_rfl) (by kernel_rfl) (fun _ _ _ h => h) (Or.inl ⟨by rfl, ?_⟩) hHeld ?_
      rotate_left
      · (intro w hSw; (try dsimp only at hSw); go_simp; try with_reducible rfl)
      try simp only [Act.put, List.setIfInBounds_toArray, List.set_cons_zero, List.set_cons_succ]
      refine wpAnyH_take (i := 13) (oi := ⟨_, _, _, _, _, _⟩) (v := ?_) rfl (by kernel_rfl) (by kernel_rfl) (by kernel_rfl) (fun _ _ _ h => h) (Or.inl ⟨by rfl, ?_⟩) hHeld ?_
      rotate_left
      · (intro w hSw; (try dsimp only at hSw); go_simp; try with_reducible rfl)
      try simp only [Act.put, List.setIfInBounds_toArray, List.set_cons_zero, List.set_cons_succ]
      refine wpAnyH_done (by kernel_rfl) ?_ _
      go_wp2_with fail
      go_roundw
      case rel => exact ⟨k + 1, by go_num, by omega, Lib.hid hbr⟩
      case measure => simp [intOf]; omega
    · obtain rfl : k = n := by omega
      have hbr : Below W0.heap.size W0 wr.drew := below2 hB.out (drew_below _)
      clear hkn
      have hless := HNG.out
      obtain ⟨b, off, rfl, ⟨c0, _, _, _, _⟩, _⟩ := HH.out.at (k := k) hnS
      obtain ⟨q, hq⟩ : ∃ q, S[k].1.1 = q := ⟨_, rfl⟩
      rw [hq] at c0
      rw [hq] at hless
      have HE := Lib.hid (fun (W : World) (hW : Below W0.heap.size W0 W) => And.intro (HC.out W hW).2.1 (look_below (HC.out W hW).1 c0))
      have hd1 : decide (k < m) = true := by rw [decide_eq_true_eq]; omega
      have hk1 : (0 : Int) ≤ (k : Int) := by omega
      have hk2 : (k : Int) < (m : Int) := by omega
      have heq : (q == p) = true := by have := HSM.out; rw [← hq]; simpa using this
      clear c0 hq
      go_wp2_with fail
      refine wp_region_held_drew (S := (fun w' => w'.cell? ⟨w.heap.size, 0, none⟩ = some (.string ⟨p.toArray⟩) ∧ w'.cell? ⟨b, off + k * 5, none⟩ = some (.string ⟨q.toArray⟩))) (by kernel_rfl) (HE.out _ hbr) (fun hHeld => ?_)
      refine wpAnyH_take (i := 0) (oi := ⟨_, _, _, _, _, _⟩) (v := ?_) rfl (by kernel_rfl) (by kernel_rfl) (by kernel_rfl) (fun _ _ _ h => h) (Or.inl ⟨by rfl, ?_⟩) hHeld ?_
      rotate_left
      · (intro w hSw; (try dsimp only at hSw); go_simp; try with_reducible rfl)
      try simp only [Act.put, List.setIfInBounds_toArray, List.set_cons_zero, List.set_cons_succ]
      refine wpAnyH_take (i := 1) (oi := ⟨_, _, _, _, _, _⟩) (v := ?_) rfl (by kernel_rfl) (by kernel_rfl) (by kernel_rfl) (fun _ _ _ h => h) (Or.inl ⟨by rfl, ?_⟩) hHeld ?_
      rotate_left
      · (intro w hSw; (try dsimp only at hSw); go_simp; try with_reducible rfl)
      try simp only [Act.put, List.setIfInBounds_toArray, List.set_cons_zero, List.set_cons_succ]
      refine wpAnyH_take (i := 2) (oi := ⟨_, _, _, _, _, _⟩) (v := ?_) rfl (by kernel_rfl) (by kernel_rfl) (by kernel_rfl) (fun _ _ _ h => h) (Or.inl ⟨by rfl, ?_⟩) hHeld ?_
      rotate_left
      · (intro w hSw; (try dsimp only at hSw); go_simp; try with_reducible rfl)
      try simp only [Act.put, List.setIfInBounds_toArray, List.set_cons_zero, List.set_cons_succ]
      refine wpAnyH_take (i := 3) (oi := ⟨_, _, _, _, _, _⟩) (v := ?_) rfl (by kernel_rfl) (by kernel_rfl) (by kernel_rfl) (fun _ _ _ h => h) (Or.inl ⟨by rfl, ?_⟩) hHeld ?_
      rotate_left
      · (intro w hSw; (try dsimp only at hSw); go_simp; try with_reducible rfl)
      try simp only [Act.put, List.setIfInBounds_toArray, List.set_cons_zero, List.set_cons_succ]
      refine wpAnyH_take (i := 4) (oi := ⟨_, _, _, _, _, _⟩) (v := ?_) rfl (by kernel_rfl) (by kernel_rfl) (by kernel_rfl) (fun _ _ _ h => h) (Or.inl ⟨by rfl, ?_⟩) hHeld ?_
      rotate_left
      · (intro w hSw; (try dsimp only at hSw); go_simp; try with_reducible rfl)
      try simp only [Act.put, List.setIfInBounds_toArray, List.set_cons_zero, List.set_cons_succ]
      refine wpAnyH_take (i := 5) (oi := ⟨_, _, _, _, _, _⟩) (v := ?_) rfl (by kernel_rfl) (by kernel_rfl) (by kernel_rfl) (fun _ _ _ h => h) (Or.inl ⟨by rfl, ?_⟩) hHeld ?_
      rotate_left
      · (intro w hSw; (try dsimp only at hSw); go_simp; try with_reducible rfl)
      try simp only [Act.put, List.setIfInBounds_toArray, List.set_cons_zero, List.set_cons_succ]
      refine wpAnyH_take (i := 6) (oi := ⟨_, _, _, _, _, _⟩) (v := ?_) rfl (by kernel_rfl) (by kernel_rfl) (by kernel_rfl) (fun _ _ _ h => h) (Or.inl ⟨by rfl, ?_⟩) hHeld ?_
      rotate_left
      · (intro w hSw; (try dsimp only at hSw); go_simp; try with_reducible rfl)
      try simp only [Act.put, List.setIfInBounds_toArray, List.set_cons_zero, List.set_cons_succ]
      refine wpAnyH_take (i := 7) (oi := ⟨_, _, _, _, _, _⟩) (v := ?_) rfl (by kernel_rfl) (by kernel_rfl) (by kernel_rfl) (fun _ _ _ h => h) (Or.inl ⟨by rfl, ?_⟩) hHeld ?_
      rotate_left
      · (intro w hSw; (try dsimp only at hSw); go_simp; try with_reducible rfl)
      try simp only [Act.put, List.setIfInBounds_toArray, List.set_cons_zero, List.set_cons_succ]
      refine wpAnyH_take (i := 8) (oi := ⟨_, _, _, _, _, _⟩) (v := ?_) rfl (by kernel_rfl) (by kernel_rfl) (by kernel_rfl) (fun _ _ _ h => h) (Or.inl ⟨by rfl, ?_⟩) hHeld ?_
      rotate_left
      · (intro w hSw; (try dsimp only at hSw); go_simp; try with_reducible rfl)
      try simp only [Act.put, List.setIfInBounds_toArray, List.set_cons_zero, List.set_cons_succ]
      refine wpAnyH_take (i := 9) (oi := ⟨_, _, _, _, _, _⟩) (v := ?_) rfl (by kernel_rfl) (by kernel_rfl) (by kernel_rfl) (fun _ _ _ h => h) (Or.inl ⟨by rfl, ?_⟩) hHeld ?_
      rotate_left
      · (intro w hSw; (try dsimp only at hSw); go_simp; try with_reducible rfl)
      try simp only [Act.put, List.setIfInBounds_toArray, List.set_cons_zero, List.set_cons_succ]
      refine wpAnyH_take (i := 10) (oi := ⟨_, _, _, _, _, _⟩) (v := ?_) rfl (by kernel_rfl) (by kernel_rfl) (by kernel_rfl) (fun _ _ _ h => h) (Or.inl ⟨by rfl, ?_⟩) hHeld ?_
      rotate_left
      · (intro w hSw; (try dsimp only at hSw); go_simp; try with_reducible rfl)
      try simp only [Act.put, List.setIfInBounds_toArray, List.set_cons_zero, List.set_cons_succ]
      refine wpAnyH_take (i := 11) (oi := ⟨_, _, _, _, _, _⟩) (v := ?_) rfl (by kernel_rfl) (by kernel_rfl) (by kernel_rfl) (fun _ _ _ h => h) (Or.inl ⟨by rfl, ?_⟩) hHeld ?_
      rotate_left
      · (intro w hSw; (try dsimp only at hSw); go_simp; try with_reducible rfl)
      try simp only [Act.put, List.setIfInBounds_toArray, List.set_cons_zero, List.set_cons_succ]
      refine wpAnyH_take (i := 12) (oi := ⟨_, _, _, _, _, _⟩) (v := ?_) rfl (by kernel_rfl) (by kernel_rfl) (by kernel_rfl) (fun _ _ _ h => h) (Or.inl ⟨by rfl, ?_⟩) hHeld ?_
      rotate_left
      · (intro w hSw; (try dsimp only at hSw); go_simp; try with_reducible rfl)
      try simp only [Act.put, List.setIfInBounds_toArray, List.set_cons_zero, List.set_cons_succ]
      refine wpAnyH_take (i := 13) (oi := ⟨_, _, _, _, _, _⟩) (v := ?_) rfl (by kernel_rfl) (by kernel_rfl) (by kernel_rfl) (fun _ _ _ h => h) (Or.inl ⟨by rfl, ?_⟩) hHeld ?_
      rotate_left
      · (intro w hSw; (try dsimp only at hSw); go_simp; try with_reducible rfl)
      try simp only [Act.put, List.setIfInBounds_toArray, List.set_cons_zero, List.set_cons_succ]
      refine wpAnyH_done (by kernel_rfl) ?_ _
      have hkm : k ≤ m := by omega
      obtain ⟨hsl, hR⟩ := csl_to HH.out k hkm
      have HR := Lib.hid (hR.below (HC.out _ hbr).1)
      have HR1 := Lib.hid (show Rw wr.drew 5 (.slice (some ⟨b, off, none⟩) k cap) k (ccells (S.take k)) from by
        have := HR.out.1
        rwa [List.length_take, Nat.min_eq_left (by have := HM.out; omega)] at this)
      have hsz := hbr.size
      clear hR
      go_wp2_with (at_builtin; refine wpList_append_nil rfl _ _ 22 rfl W0.heap.size 36 i0 _ 5 64 Tryz.underlying22 hi hz0 hz1 hz2 rfl (by decide) rfl _ k cap (ccells (S.take k)) rfl HR1.out (ccells_one HR.out.2) (by unfold maxLen; omega) (by omega) hsz ?_)
      intro a5 c5 w5 ho5 hB5
      have hb5 := below2 hbr hB5
      have hbr6 : Below W0.heap.size W0 w5.drew := below2 hb5 (drew_below _)
      have HO5 := Lib.hid (show RowC w5.drew W0.heap.size (.slice a5 k c5) (S.take k) from by
        unfold RowC
        rw [List.length_take, Nat.min_eq_left (by have := HM.out; omega)]
        exact own_stays ho5 (drew_below _))
      have hlk : (S.take k).length ≤ 100000 := by rw [List.length_take]; omega
      have HBW := Lib.hid (HC.out _ hbr6).1
      have hszw := HBW.out.size
      obtain ⟨x0, x1, x2, x3, x4⟩ := (HC.out _ hbr6).2
      clear ho5 hsl
      go_upto_region 6 with (fail)
      go_cut [6] from 28 to 38 (fun r wc => ∃ (a8 : Option Addr) (n8 c8 : Nat) (a7 : Option Addr) (n7 c7 b7 : Nat), r = .slice a8 n8 c8 ∧ Hid (n8 = k + 1) ∧ Hid (wc.ownsRow W0.heap.size 36 5 (.slice a8 n8 c8) n8 (ccells (S.take k ++ [(((p, g, z, d, cs), .slice a7 n7 c7) : Cv)]))) ∧ Hid (OwnI wc b7 (.slice a7 n7 c7) cs) ∧ Hid (Below W0.heap.size W0 wc))
      case first =>
        go_region_law (first
          | (refine step_row rfl (.tmp 28) (.tmp 37) rfl W0.heap.size _ (S.take k) rfl HF.out.1 w7.heap.size ((p, g, z, d, cs), .slice a7 n7 c7) HF.out.2.1 rfl (news_litC w7 (ccell ((p, g, z, d, cs), .slice a7 n7 c7)) _) hlk HF.out.2.2.1 ?_; intro v8 w8 ho8 hB8 hK8)
          | (go_simp; go_at_call 19; refine (KO.out _ HBW.out).mono ?_; rintro e w7 ⟨v7, rfl, ho7, hB7⟩; have hone := ccell_one (x := ((p, g, z, d, cs), v7)) ho7; obtain ⟨a7, n7, c7, rfl⟩ := own_form ho7; have hb7 := below2 hbr6 hB7; obtain ⟨y0, y1, y2, y3, y4⟩ := (HC.out _ hb7).2; have hb8 := below_alloc w7 (.cells #[.string ⟨p.toArray⟩, .bool g, .int .i64 z, .int .i64 d, .slice a7 n7 c7] 36); have HF := Lib.hid (And.intro (show RowC _ _ _ _ from own_stays (own_stays HO5.out hB7) hb8) (And.intro hone (And.intro (below2 hb7 hb8).size (And.intro (below2 hb7 hb8) (own_stays ho7 hb8)))))))
        all_goals
          go_wp2_with fail
          go_meet
          case rel =>
            obtain ⟨a8, c8, rfl⟩ := ho8.form
            have hn8 : (S.take k ++ [(((p, g, z, d, cs), .slice a7 n7 c7) : Cv)]).length = k + 1 := by
              rw [List.length_append, List.length_take]
              have := HM.out
              simp
              omega
            refine ⟨a8, _, c8, a7, n7, c7, _, rfl, Lib.hid hn8, Lib.hid ho8, Lib.hid (hK8 _ _ _ _ _ _ (by decide) HF.out.2.2.2.2), Lib.hid (hB8 W0 HF.out.2.2.2.1)⟩
      case rest =>
        obtain ⟨a8, n8, c8, a7, n7, c7, b7, rfl, HN9, HO8, HI8, HB9⟩ := hcut
        rename World => w8
        have hb9 := HB9.out
        have hle8 : n8 ≤ 1001 := by have := HN9.out; omega
        obtain ⟨y0, y1, y2, y3, y4⟩ := (HC.out _ hb9).2
        clear x0 x1 x2 x3 x4 hbr6 hb5 hB5
        replace hbr : Below W0.heap.size W0 w8.drew := below2 hb9 (drew_below _)
        go_wp2_with fail
        refine wp_region_held_drew (S := (fun w' => w'.cell? ⟨w.heap.size, 0, none⟩ = some (.string ⟨p.toArray⟩) ∧ w'.cell? ⟨b, off + k * 5, none⟩ = some (.string ⟨q.toArray⟩))) (by kernel_rfl) (HE.out _ hbr) (fun hHeld => ?_)
        refine wpAnyH_take (i := 0) (oi := ⟨_, _, _, _, _, _⟩) (v := ?_) rfl (by kernel_rfl) (by kernel_rfl) (by kernel_rfl) (fun _ _ _ h => h) (Or.inl ⟨by rfl, ?_⟩) hHeld ?_
        rotate_left
        · (intro w hSw; (try dsimp only at hSw); go_simp; try with_reducible rfl)
        try simp only [Act.put, List.setIfInBounds_toArray, List.set_cons_zero, List.set_cons_succ]
        refine wpAnyH_take (i := 1) (oi := ⟨_, _, _, _, _, _⟩) (v := ?_) rfl (by kernel_rfl) (by kernel_rfl) (by kernel_rfl) (fun _ _ _ h => h) (Or.inl ⟨by rfl, ?_⟩) hHeld ?_
        rotate_left
        · (intro w hSw; (try dsimp only at hSw); go_simp; try with_reducible rfl)
        try simp only [Act.put, List.setIfInBounds_toArray, List.set_cons_zero, List.set_cons_succ]
        refine wpAnyH_take (i := 2) (oi := ⟨_, _, _, _, _, _⟩) (v := ?_) rfl (by kernel_rfl) (by kernel_rfl) (by kernel_rfl) (fun _ _ _ h => h) (Or.inl ⟨by rfl, ?_⟩) hHeld ?_
        rotate_left
        · (intro w hSw; (try dsimp only at hSw); go_simp; try with_reducible rfl)
        try simp only [Act.put, List.setIfInBounds_toArray, List.set_cons_zero, List.set_cons_succ]
        refine wpAnyH_take (i := 3) (oi := ⟨_, _, _, _, _, _⟩) (v := ?_) rfl (by kernel_rfl) (by kernel_rfl) (by kernel_rfl) (fun _ _ _ h => h) (Or.inl ⟨by rfl, ?_⟩) hHeld ?_
        rotate_left
        · (intro w hSw; (try dsimp only at hSw); go_simp; try with_reducible rfl)
        try simp only [Act.put, List.setIfInBounds_toArray, List.set_cons_zero, List.set_cons_succ]
        refine wpAnyH_take (i := 4) (oi := ⟨_, _, _, _, _, _⟩) (v := ?_) rfl (by kernel_rfl) (by kernel_rfl) (by kernel_rfl) (fun _ _ _ h => h) (Or.inl ⟨by rfl, ?_⟩) hHeld ?_
        rotate_left
        · (intro w hSw; (try dsimp only at hSw); go_simp; try with_reducible rfl)
        try simp only [Act.put, List.setIfInBounds_toArray, List.set_cons_zero, List.set_cons_succ]
        refine wpAnyH_take (i := 5) (oi := ⟨_, _, _, _, _, _⟩) (v := ?_) rfl (by kernel_rfl) (by kernel_rfl) (by kernel_rfl) (fun _ _ _ h => h) (Or.inl ⟨by rfl, ?_⟩) hHeld ?_
        rotate_left
        · (intro w hSw; (try dsimp only at hSw); go_simp; try with_reducible rfl)
        try simp only [Act.put, List.setIfInBounds_toArray, List.set_cons_zero, List.set_cons_succ]
        refine wpAnyH_take (i := 6) (oi := ⟨_, _, _, _, _, _⟩) (v := ?_) rfl (by kernel_rfl) (by kernel_rfl) (by kernel_rfl) (fun _ _ _ h => h) (Or.inl ⟨by rfl, ?_⟩) hHeld ?_
        rotate_left
        · (intro w hSw; (try dsimp only at hSw); go_simp; try with_reducible rfl)
        try simp only [Act.put, List.setIfInBounds_toArray, List.set_cons_zero, List.set_cons_succ]
        refine wpAnyH_take (i := 7) (oi := ⟨_, _, _, _, _, _⟩) (v := ?_) rfl (by kernel_rfl) (by kernel_rfl) (by kernel_rfl) (fun _ _ _ h => h) (Or.inl ⟨by rfl, ?_⟩) hHeld ?_
        rotate_left
        · (intro w hSw; (try dsimp only at hSw); go_simp; try with_reducible rfl)
        try simp only [Act.put, List.setIfInBounds_toArray, List.set_cons_zero, List.set_cons_succ]
        refine wpAnyH_take (i := 8) (oi := ⟨_, _, _, _, _, _⟩) (v := ?_) rfl (by kernel_rfl) (by kernel_rfl) (by kernel_rfl) (fun _ _ _ h => h) (Or.inl ⟨by rfl, ?_⟩) hHeld ?_
        rotate_left
        · (intro w hSw; (try dsimp only at hSw); go_simp; try with_reducible rfl)
        try simp only [Act.put, List.setIfInBounds_toArray, List.set_cons_zero, List.set_cons_succ]
        refine wpAnyH_take (i := 9) (oi := ⟨_, _, _, _, _, _⟩) (v := ?_) rfl (by kernel_rfl) (by kernel_rfl) (by kernel_rfl) (fun _ _ _ h => h) (Or.inl ⟨by rfl, ?_⟩) hHeld ?_
        rotate_left
        · (intro w hSw; (try dsimp only at hSw); go_simp; try with_reducible rfl)
        try simp only [Act.put, List.setIfInBounds_toArray, List.set_cons_zero, List.set_cons_succ]
        refine wpAnyH_take (i := 10) (oi := ⟨_, _, _, _, _, _⟩) (v := ?_) rfl (by kernel_rfl) (by kernel_rfl) (by kernel_rfl) (fun _ _ _ h => h) (Or.inl ⟨by rfl, ?_⟩) hHeld ?_
        rotate_left
        · (intro w hSw; (try dsimp only at hSw); go_simp; try with_reducible rfl)
        try simp only [Act.put, List.setIfInBounds_toArray, List.set_cons_zero, List.set_cons_succ]
        refine wpAnyH_take (i := 11) (oi := ⟨_, _, _, _, _, _⟩) (v := ?_) rfl (by kernel_rfl) (by kernel_rfl) (by kernel_rfl) (fun _ _ _ h => h) (Or.inl ⟨by rfl, ?_⟩) hHeld ?_
        rotate_left
        · (intro w hSw; (try dsimp only at hSw); go_simp; try with_reducible rfl)
        try simp only [Act.put, List.setIfInBounds_toArray, List.set_cons_zero, List.set_cons_succ]
        refine wpAnyH_take (i := 12) (oi := ⟨_, _, _, _, _, _⟩) (v := ?_) rfl (by kernel_rfl) (by kernel_rfl) (by kernel_rfl) (fun _ _ _ h => h) (Or.inl ⟨by rfl, ?_⟩) hHeld ?_
        rotate_left
        · (intro w hSw; (try dsimp only at hSw); go_simp; try with_reducible rfl)
        try simp only [Act.put, List.setIfInBounds_toArray, List.set_cons_zero, List.set_cons_succ]
        refine wpAnyH_take (i := 13) (oi := ⟨_, _, _, _, _, _⟩) (v := ?_) rfl (by kernel_rfl) (by kernel_rfl) (by kernel_rfl) (fun _ _ _ h => h) (Or.inl ⟨by rfl, ?_⟩) hHeld ?_
        rotate_left
        · (intro w hSw; (try dsimp only at hSw); go_simp; try with_reducible rfl)
        try simp only [Act.put, List.setIfInBounds_toArray, List.set_cons_zero, List.set_cons_succ]
        refine wpAnyH_done (by kernel_rfl) ?_ _
        obtain ⟨m9, hm9⟩ : ∃ m9, k + 1 + m9 = m := ⟨m - (k + 1), by omega⟩
        obtain ⟨a9, c9, hsl9, hR9⟩ := csl_from HH.out (k + 1) m9 (by omega) hm9
        have e1 : ((k + 1 : Nat) : Int) = (k : Int) + 1 := by omega
        simp only [e1] at hsl9
        have HR9 := Lib.hid (hR9.below (HC.out _ hbr).1)
        have HRW9 := Lib.hid (show Rw w8.drew 5 (.slice a9 m9 c9) m9 (ccells (S.drop (k + 1))) from by
          have := HR9.out.1
          rwa [List.length_drop, show S.length - (k + 1) = m9 by have := HM.out; omega] at this)
        have HO9 := Lib.hid (show w8.drew.ownsRow W0.heap.size 36 5 (.slice a8 n8 c8) n8 (ccells (S.take k ++ [(((p, g, z, d, cs), .slice a7 n7 c7) : Cv)])) from own_stays HO8.out (drew_below w8))
        have hq9 : n8 + m9 ≤ 2001 := by omega
        have hszq := hbr.size
        clear hR9 hm9 y0 y1 y2 y3 y4
        go_wp2_with (at_builtin; refine wpList_append_rw rfl _ _ 22 rfl W0.heap.size 36 i0 _ 5 64 Tryz.underlying22 hi hz0 hz1 hz2 rfl (by decide) _ n8 _ rfl HO9.out a9 m9 c9 (ccells (S.drop (k + 1))) rfl HRW9.out (ccells_one HR9.out.2) (n8 + m9) rfl (by unfold maxLen; omega) (by omega) hszq ?_; intro a10 c10 w10 ho10 hg10)
        go_ret
        have hb10 : Below W0.heap.size W0 w10 := hbr.grown hg10 hbr.size fun j e => (HO9.out.lt j e).1
        have hw10 := (HC.out _ hb10).1
        have hI10 : OwnI w10 _ (.slice a7 n7 c7) cs := KeepC.grown HO9.out hg10 _ _ _ _ _ _ (by decide) (own_stays HI8.out (drew_below w8))
        refine ⟨_, S.take k ++ [(((p, g, z, d, cs), .slice a7 n7 c7) : Cv)] ++ S.drop (k + 1), rfl, ⟨?_, fun x hx => ?_⟩, by simp [List.map_take, List.map_drop], hw10⟩
        · have hlen : (S.take k ++ [(((p, g, z, d, cs), .slice a7 n7 c7) : Cv)] ++ S.drop (k + 1)).length = n8 + m9 := by
            have h1 := HRW9.out.1
            have h2 := HO9.out.1
            rw [ccells_len] at h1 h2
            rw [List.length_append]
            omega
          rw [hlen, ccells_append]
          exact Rw.own ho10
        · rcases List.mem_append.1 hx with hx | hx
          · rcases List.mem_append.1 hx with hx | hx
            · exact (HH.out.2 x (List.mem_of_mem_take hx)).below hw10
            · obtain rfl := List.mem_singleton.1 hx
              exact ints_own hI10
          · exact (HH.out.2 x (List.mem_of_mem_drop hx)).below hw10

end Go.Proofs.YtmbnmmnoahddcaaGreatDoor

/-
  The document's own Norm, Join of changes.
-/
namespace Go.Proofs.YtmbnmmnoahddcaaGreatDoor
set_option maxRecDepth 100000
open Go.RowKit

/-- Changes with no more Chunks than are copied. -/
def FewC (l : List Cg) : Prop := ∀ c ∈ l, c.2.2.2.2.length ≤ 1000

theorem rcPut_calls (ao : Option Addr) (m cap : Nat) (S : List Cv) (p : List UInt8) (g : Bool) (z d : Int) (v : Value) (cs : List Int) (w : World) (h : Cgs w (.slice ao m cap) S) (hm2 : m ≤ 1000) (hv : Ints w v cs) (hcs : cs.length ≤ 1000) :
    Calls Tryz.prog 26 #[.slice ao m cap, CV p g z d v] w fun e w' => ∃ v' S', e = .returned v' ∧ Cgs w' v' S' ∧ chs S' = putC (chs S) (p, g, z, d, cs) ∧ Below w.heap.size w w' := by
  have hm : S.length = m := h.len
  obtain ⟨n, h1, h2, h3⟩ := putAt (chs S) p
  have h1' : n ≤ S.length := by simpa using h1
  have h2' : ∀ (i : Nat) (hi : i < S.length), i < n → Op.bytesLess S[i].1.1 p = true := fun i hi hin => by
    have := h2 i (by simpa using hi) hin
    simpa using this
  have h3' : ∀ h : n < S.length, Op.bytesLess S[n].1.1 p = false := fun h => by
    have := h3 (by simpa using h)
    simpa using this
  have he := putC_at (chs S) (p, g, z, d, cs) n h1 h2 h3
  by_cases hn : n < m
  · have hnS : n < S.length := by omega
    have hnC : n < (chs S).length := by simpa using hnS
    by_cases hq : S[n].1.1 = p
    · rw [if_pos ⟨hnC, by simpa using hq⟩] at he
      rw [he]
      exact put_same ao m cap S p g z d v cs n w h hm hm2 hv hcs h2' hn h3' (fun _ => hq)
    · rw [if_neg (fun ⟨_, e⟩ => hq (by simpa using e))] at he
      rw [he]
      exact put_ahead ao m cap S p g z d v cs n w h hm hm2 hv hcs h2' hn h3' (fun _ => hq)
  · rw [if_neg (fun ⟨hx, _⟩ => hn (by rw [← hm]; simpa using hx))] at he
    rw [he]
    exact put_end ao m cap S p g z d v cs n w h hm hm2 hv hcs h2' (by omega) (by omega)

theorem norm_mayL {l : List Cg} {k : Nat} (hk : k < l.length) (h : mayB l[k] = false) : normL l = [] ∧ normE l = 1 := by
  apply norm_no
  unfold normB
  rw [List.all_eq_false.2 ⟨l[k], List.getElem_mem hk, by rw [h]; simp⟩, Bool.false_and]
theorem norm_isBL {l : List Cg} (h : ∀ (i : Nat) (hi : i < l.length), i < l.length → mayB l[i] = true) : normB l = isB (putsC l) := by
  have ha : l.all mayB = true := List.all_eq_true.2 fun c hc => by
    obtain ⟨i, hi, rfl⟩ := List.getElem_of_mem hc
    exact h i hi hi
  rw [puts_isB ha, normB, ha, Bool.true_and]
theorem puts_take {l : List Cg} {k : Nat} (hk : k < l.length) : putsC (l.take (k + 1)) = putC (putsC (l.take k)) l[k] := by rw [List.take_succ_eq_append_getElem hk, puts_snoc]
def mayToL (l : List Cg) (k : Nat) : Prop := ∀ (i : Nat) (hi : i < l.length), i < k → mayB l[i] = true
theorem mayToL_succ {l : List Cg} {k : Nat} (h : mayToL l k) (hk : k < l.length) (h1 : mayB l[k] = true) : mayToL l (k + 1) := by
  intro i hi hik
  by_cases he : i = k
  · subst he; exact h1
  · exact h i hi (by omega)

set_option maxHeartbeats 8000000 in
theorem rNorm_calls (v : Value) (S : List Cv) (w : World) (h : Cgs w v S) (hn : S.length ≤ 1000) (hs : SmallC (chs S)) (hs2 : FewC (chs S)) :
    Calls Tryz.prog 8 #[v] w fun e w' => ∃ v' S', e = .returned (.tuple #[v', .int .i64 (normE (chs S))]) ∧ Cgs w' v' S' ∧ chs S' = normL (chs S) ∧ Below w.heap.size w w' := by
  obtain ⟨ao, cap, rfl⟩ := h.form
  have HH := Lib.hid h
  have HS := Lib.hid hs
  have HF := Lib.hid hs2
  clear h hs hs2
  go_enter Tryz.func8, Tryz.ntmps8
  go_wp2_with fail
  go_loopw [4, 5] (fun r i wr => ∃ (k : Nat) (ar : Option Addr) (nr cr : Nat) (S' : List Cv), r = .slice ar nr cr ∧ i = .int .i64 k ∧ k ≤ S.length ∧ Hid (Cgs wr (.slice ar nr cr) S') ∧ Hid (chs S' = putsC ((chs S).take k)) ∧ Hid (mayToL (chs S) k) ∧ Hid (Below w.heap.size w wr)) (fun _ i _ => S.length - (intOf i).toNat)
  case atStart => exact ⟨0, none, 0, 0, [], rfl, rfl, Nat.zero_le _, Lib.hid (Cgs.nil _), Lib.hid rfl, Lib.hid (fun _ _ h => absurd h (Nat.not_lt_zero _)), Lib.hid (Below.refl _ _)⟩
  case round =>
    obtain ⟨k, ar, nr, cr, S', rfl, rfl, hk, hown, hch, hf, hB⟩ := hrel
    by_cases hlt : k < S.length
    · obtain ⟨b, off, rfl, ⟨c0, c1, c2, c3, c4⟩, hI⟩ := (HH.out.below hB.out).at hlt
      have hltc : k < (chs S).length := by simpa using hlt
      have hsm := HS.out _ (List.getElem_mem hltc)
      have hfw := HF.out _ (List.getElem_mem hltc)
      have hno := fun h => norm_mayL (l := chs S) hltc h
      have hgo := fun h => mayToL_succ hf.out hltc h
      have htk := puts_take hltc
      simp only [List.getElem_map] at hsm hfw hno hgo htk
      have hln : nr ≤ 1000 := by
        have h1 := hown.out.len
        have h2 := congrArg List.length hch.out
        have h3 := puts_len ((chs S).take k)
        rw [List.length_map] at h2
        rw [List.length_take] at h3
        omega
      obtain ⟨⟨⟨q, g, z, d, cs⟩, vv⟩, hx⟩ : ∃ x, S[k] = x := ⟨_, rfl⟩
      rw [hx] at c0 c1 c2 c3 c4 hI hsm hfw hno hgo htk
      dsimp only at c0 c1 c2 c3 c4 hI hsm hfw hno hgo htk
      obtain ⟨s1, s3, rfl⟩ := hI.form
      have KM := may_calls q g z d _ cs wr hI hsm.2 hsm.1
      clear hx
      cases hma : mayB (q, g, z, d, cs) with
      | false =>
        rw [hma] at KM
        have K := Lib.hid KM
        have HN := Lib.hid (hno hma)
        clear KM hma hno hgo htk hI hsm hfw
        go_wp2_with fail
        refine K.out.mono ?_
        rintro e w1 ⟨rfl, hB2⟩
        go_wp2_with fail
        go_ret2
        exact ⟨_, [], by rw [HN.out.2]; rfl, Cgs.nil _, by rw [HN.out.1]; rfl, below2 hB.out hB2⟩
      | true =>
        rw [hma] at KM
        have K := Lib.hid KM
        have HG := Lib.hid (hgo hma)
        have HT := Lib.hid htk
        have KP := Lib.hid (fun (W : World) (hW : Below wr.heap.size wr W) => rcPut_calls ar nr cr S' q g z d _ cs W (hown.out.below hW) hln (hI.below hW) hfw)
        clear KM hma hno hgo htk hI hsm hfw
        go_wp2_with fail
        refine K.out.mono ?_
        rintro e w1 ⟨rfl, hB2⟩
        have d0 := look_below hB2 c0
        have d1 := look_below hB2 c1
        have d2 := look_below hB2 c2
        have d3 := look_below hB2 c3
        have d4 := look_below hB2 c4
        clear c0 c1 c2 c3 c4
        go_wp2_with fail
        refine (KP.out _ hB2).mono ?_
        rintro e w2 ⟨v2, S2, rfl, hC2, hch2, hB3⟩
        have HC2 := Lib.hid hC2
        have HE := Lib.hid (show chs S2 = putsC ((chs S).take (k + 1)) by rw [hch2, hch.out, HT.out])
        obtain ⟨a2, c2', rfl⟩ := hC2.form
        clear hC2 hch2 d0 d1 d2 d3 d4
        go_wp2_with fail
        go_roundw
        case rel => exact ⟨k + 1, a2, _, c2', S2, rfl, by go_num, by omega, HC2, HE, HG, Lib.hid (below3 hB.out hB2 hB3)⟩
        case measure => simp [intOf]; omega
    · obtain rfl : k = S.length := by omega
      have e0 : (chs S).take S.length = chs S := by rw [← List.length_map (f := Prod.fst)]; exact List.take_length
      have e1 : chs S' = putsC (chs S) := by rw [hch.out, e0]
      have hl2 : S'.length ≤ 1000000 := by
        have h2 := congrArg List.length e1
        have h3 := puts_len (chs S)
        rw [List.length_map] at h2 h3
        omega
      have KI := rBaIs_calls _ S' wr hown.out hl2 (fun c hc => HS.out c (baPuts_mem (by rw [← e1]; exact hc)))
      rw [e1] at KI
      have HN := Lib.hid (norm_isBL (l := chs S) (fun i hi _ => hf.out i hi (by simpa using hi)))
      have HE := Lib.hid e1
      clear hch e0 e1 hl2
      cases hb : isB (putsC (chs S)) with
      | false =>
        rw [hb] at KI
        have K := Lib.hid KI
        have HX := Lib.hid (norm_no (HN.out.trans hb))
        clear KI hb
        go_wp2_with fail
        refine K.out.mono ?_
        rintro e w3 ⟨rfl, hB3⟩
        go_wp2_with fail
        go_ret2
        exact ⟨_, [], by rw [HX.out.2]; rfl, Cgs.nil _, by rw [HX.out.1]; rfl, below2 hB.out hB3⟩
      | true =>
        rw [hb] at KI
        have K := Lib.hid KI
        have HX := Lib.hid (norm_yes (HN.out.trans hb))
        clear KI hb
        go_wp2_with fail
        refine K.out.mono ?_
        rintro e w3 ⟨rfl, hB3⟩
        go_wp2_with fail
        go_ret2
        exact ⟨_, S', by rw [HX.out.2]; rfl, hown.out.below hB3, by rw [HX.out.1]; exact HE.out, below2 hB.out hB3⟩

set_option maxHeartbeats 4000000 in
theorem rJoin_calls (u v : Value) (S T : List Cv) (w : World) (hS : Cgs w u S) (hT : Cgs w v T) (hn : S.length ≤ 500) (hn2 : T.length ≤ 500) (hs : SmallC (chs S)) (hs2 : SmallC (chs T)) (hf : FewC (chs S)) (hf2 : FewC (chs T)) :
    Calls Tryz.prog 12 #[u, v] w fun e w' => ∃ v' S', e = .returned (.tuple #[v', .int .i64 (normE (chs S ++ chs T))]) ∧ Cgs w' v' S' ∧ chs S' = normL (chs S ++ chs T) ∧ Below w.heap.size w w' := by
  obtain ⟨i0, hi, hz0, hz1, hz2⟩ := info_parts infoC
  obtain ⟨ao, c1, rfl⟩ := hS.form
  obtain ⟨bo, c2, rfl⟩ := hT.form
  obtain ⟨m, hm⟩ : ∃ m, S.length = m := ⟨_, rfl⟩
  obtain ⟨n, hn'⟩ : ∃ n, T.length = n := ⟨_, rfl⟩
  have HRS := Lib.hid (show Rw w 5 (.slice ao m c1) m (ccells S) from hm ▸ hS.1)
  have HRT := Lib.hid (show Rw w 5 (.slice bo n c2) n (ccells T) from hn' ▸ hT.1)
  rw [hm, hn']
  have HM := Lib.hid hm
  have HN := Lib.hid hn'
  have HST := Lib.hid (And.intro hS hT)
  have HSM : Hid (SmallC (chs (S ++ T)) ∧ FewC (chs (S ++ T))) := Lib.hid (by
    unfold chs
    rw [List.map_append]
    refine ⟨fun c hc => ?_, fun c hc => ?_⟩
    · rcases List.mem_append.1 hc with hc | hc
      · exact hs c hc
      · exact hs2 c hc
    · rcases List.mem_append.1 hc with hc | hc
      · exact hf c hc
      · exact hf2 c hc)
  have HMA := Lib.hid (List.map_append (f := (Prod.fst : Cv → Cg)) (l₁ := S) (l₂ := T))
  have hm5 : m ≤ 500 := by omega
  have hn5 : n ≤ 500 := by omega
  clear hS hT hm hn' hn hn2 hs hs2 hf hf2
  go_enter Tryz.func12, Tryz.ntmps12
  go_wp2_with (at_builtin; refine wpList_append_nil rfl _ _ 22 rfl w.heap.size 36 i0 _ 5 64 Tryz.underlying22 hi hz0 hz1 hz2 rfl (by decide) rfl ao m c1 (ccells S) rfl HRS.out (ccells_one HST.out.1.2) (by unfold maxLen; omega) (by omega) (Nat.le_refl _) ?_)
  intro a3 c3 w3 ho3 hB3
  have HO3 := Lib.hid ho3
  have HRT3 := Lib.hid (HRT.out.below hB3)
  have HB3 := Lib.hid hB3
  have hsz3 := hB3.size
  clear ho3 hB3
  go_wp2_with (at_builtin; refine wpList_append_rw rfl _ _ 22 rfl w.heap.size 36 i0 _ 5 64 Tryz.underlying22 hi hz0 hz1 hz2 rfl (by decide) _ m _ rfl HO3.out bo n c2 (ccells T) rfl HRT3.out (ccells_one HST.out.2.2) (m + n) rfl (by unfold maxLen; omega) (by omega) hsz3 ?_)
  intro a4 c4 w4 ho4 hg4
  have hB4 := HB3.out.grown hg4 hsz3 fun j e => (HO3.out.lt j e).1
  have hC : Cgs w4 (.slice a4 (m + n) c4) (S ++ T) := by
    refine ⟨?_, fun x hx => ?_⟩
    · rw [List.length_append, HM.out, HN.out, ccells_append]
      exact Rw.own ho4
    · rcases List.mem_append.1 hx with hx | hx
      · exact (HST.out.1.2 x hx).below hB4
      · exact (HST.out.2.2 x hx).below hB4
  have KN := Lib.hid (rNorm_calls _ (S ++ T) w4 hC (by rw [List.length_append, HM.out, HN.out]; omega) HSM.out.1 HSM.out.2)
  have HB4 := Lib.hid hB4
  clear hC ho4 hg4 hB4
  go_wp2_with fail
  refine KN.out.mono ?_
  rintro e w5 ⟨v5, S5, rfl, h5, hch5, hB5⟩
  have H5 := Lib.hid (And.intro h5 (And.intro hch5 hB5))
  obtain ⟨a5, c5, rfl⟩ := h5.form
  clear h5 hch5 hB5
  go_wp2_with fail
  go_ret2
  obtain ⟨h5, hch5, hB5⟩ := H5.out
  refine ⟨_, S5, ?_, h5, ?_, below2 HB4.out hB5⟩
  · rw [← HMA.out]
    rfl
  · rw [← HMA.out]
    exact hch5

end Go.Proofs.YtmbnmmnoahddcaaGreatDoor

/-
  The document's own Put of changes.
-/
namespace Go.Proofs.YtmbnmmnoahddcaaGreatDoor
set_option maxRecDepth 100000
open Go.RowKit

set_option maxHeartbeats 8000000 in
theorem rBaPut_calls (v : Value) (S : List Cv) (w : World) (h : Cgs w v S) (hn : S.length ≤ 1000000) (hs : SmallC (chs S)) :
    Calls Tryz.prog 10 #[v] w fun e w' => e = .returned (.tuple #[.string ⟨(putBT (chs S)).toArray⟩, .int .i64 (putBE (chs S))]) ∧ Below w.heap.size w w' := by
  have KI := rBaIs_calls v S w h hn hs
  obtain ⟨ao, cap, rfl⟩ := h.form
  cases hb : isB (chs S) with
  | false =>
    rw [hb] at KI
    have K := Lib.hid KI
    have HN := Lib.hid (baPut_no hb)
    clear KI h hs hb
    go_enter Tryz.func10, Tryz.ntmps10
    go_wp2_with fail
    refine K.out.mono ?_
    rintro e w1 ⟨rfl, hB⟩
    go_wp2_with fail
    go_ret2
    exact ⟨by rw [HN.out.1, HN.out.2]; rfl, hB⟩
  | true =>
    rw [hb] at KI
    have K := Lib.hid KI
    have HN := Lib.hid (baPut_yes hb)
    have hl20 : S.length ≤ 20 := by
      have := (isB_iff.1 hb).2.1
      rwa [List.length_map] at this
    have HMAY := Lib.hid (isB_iff.1 hb).2.2.1
    have HH := Lib.hid h
    have HS := Lib.hid hs
    clear KI h hs hb
    go_enter Tryz.func10, Tryz.ntmps10
    go_wp2_with fail
    refine K.out.mono ?_
    rintro e w1 ⟨rfl, hB⟩
    go_wp2_with fail
    go_loopw [4, 5] (fun r i wr => ∃ k : Nat, i = .int .i64 k ∧ k ≤ S.length ∧ OwnL wr w.heap.size r (rowL ((chs S).take k)) ∧ Hid (Below w.heap.size w wr)) (fun _ i _ => S.length - (intOf i).toNat)
    case atStart => exact ⟨0, rfl, Nat.zero_le _, ownL_nil _ _, Lib.hid hB⟩
    case round =>
      obtain ⟨k, rfl, hk, hown, hBr⟩ := hrel
      by_cases hlt : k < S.length
      · obtain ⟨b, off, rfl, ⟨c0, c1, c2, c3, c4⟩, hI⟩ := (HH.out.below hBr.out).at hlt
        have hltc : k < (chs S).length := by simpa using hlt
        have hsm := HS.out _ (List.getElem_mem hltc)
        have hnx := fun p g z d cs (hx : (chs S)[k] = (p, g, z, d, cs)) => rowL_next (l := chs S) hltc hx
        simp only [List.getElem_map] at hsm hnx
        have hrl : (rowL ((chs S).take k)).length ≤ 40 := by rw [rowL_len]; simp; omega
        obtain ⟨⟨⟨q, g, z, d, cs⟩, vv⟩, hx⟩ : ∃ x, S[k] = x := ⟨_, rfl⟩
        rw [hx] at c0 c1 c2 c3 c4 hI hsm hnx
        have HNX := Lib.hid (hnx q g z d cs rfl)
        dsimp only at c0 c1 c2 c3 c4 hI hsm
        obtain ⟨s1, s3, rfl⟩ := hI.form
        have KV := Lib.hid (fun (W : World) (hW : Below wr.heap.size wr W) => rValue_calls z d _ cs g W (hI.below hW) hsm.2)
        have hbr : Below wr.heap.size wr wr.drew := drew_below _
        have HC := Lib.hid (fun (W : World) (hW : Below wr.heap.size wr W) => And.intro (look_below hW c0) (And.intro (look_below hW c1) (And.intro (look_below hW c2) (And.intro (look_below hW c3) (look_below hW c4)))))
        have HO1 := Lib.hid hown
        have hk1 : (0 : Int) ≤ (k : Int) := by omega
        have hk2 : (k : Int) < (S.length : Int) := by omega
        clear hI hsm hnx hx hown c0 c1 c2 c3 c4
        go_wp2_with fail
        go_region_held3 (fun w' => w'.cell? ⟨b, off + k * 5, none⟩ = some (.string ⟨q.toArray⟩) ∧ w'.cell? ⟨b, off + k * 5 + 1, none⟩ = some (.bool g) ∧ w'.cell? ⟨b, off + k * 5 + 2, none⟩ = some (.int .i64 z) ∧ w'.cell? ⟨b, off + k * 5 + 3, none⟩ = some (.int .i64 d) ∧ w'.cell? ⟨b, off + k * 5 + 4, none⟩ = some (.slice s1 cs.length s3)) (exact HC.out _ hbr) (first | (go_at_call 29; refine (KV.out _ hbr).mono ?_; rintro e w2 ⟨rfl, hB2⟩; replace hbr := below2 hbr hB2))
        all_goals
          obtain ⟨x0, x1, x2, x3, x4⟩ := HC.out _ hbr
          have HO2 := Lib.hid (ownL_below HO1.out hbr)
          have hBB2 := Lib.hid (below2 hBr.out hbr)
          have hsz2 := hBB2.out.size
          go_wp2_with (at_builtin; refine app_text rfl _ _ rfl w.heap.size _ _ rfl HO2.out q rfl (by omega) hsz2 ?_)
          intro v3 w3 ho3 hB3
          have hBB3 := Lib.hid (hB3 w hBB2.out)
          have HO3 := Lib.hid ho3
          have hsz3 := hBB3.out.size
          have hl3 : (rowL ((chs S).take k) ++ [q]).length ≤ 1000000 := by rw [List.length_append]; simp; omega
          clear ho3 x0 x1 x2 x3 x4
          go_wp2_with (at_builtin; refine app_text rfl _ _ rfl w.heap.size _ _ rfl HO3.out (valM z d cs g) rfl hl3 hsz3 ?_)
          intro v4 w4 ho4 hB4
          go_wp2_with fail
          go_roundw
          case rel => exact ⟨k + 1, by go_num, by omega, by rw [HNX.out]; simpa using ho4, Lib.hid (hB4 w hBB3.out)⟩
          case measure => simp [intOf]; omega
      · obtain rfl : k = S.length := by omega
        have e1 : (chs S).take S.length = chs S := by rw [← List.length_map (f := Prod.fst)]; exact List.take_length
        rw [e1] at hown
        have hlen : (rowL (chs S)).length ≤ 1000 := by rw [rowL_len]; simp; omega
        have KR := refRow_short _ (rowL (chs S)) wr (ownL_txts hown).strs hlen (fun t ht => Nat.le_trans (rowL_fine HMAY.out t ht) (by omega))
        rw [HN.out.2.2] at KR
        have KRH := Lib.hid KR
        obtain ⟨ar, nr, cr, rfl⟩ := own_form hown
        clear KR hown e1 hlen
        go_wp2_with fail
        refine KRH.out.mono ?_
        rintro e w2 ⟨rfl, hB2⟩
        go_wp2_with fail
        go_ret2
        exact ⟨by rw [HN.out.1, HN.out.2.1]; rfl, below2 hBr.out hB2⟩

end Go.Proofs.YtmbnmmnoahddcaaGreatDoor
