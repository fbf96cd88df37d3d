/-
  The texts of one folder in one: BaPut, BaStep, BaGet, BaSame, BaLaid, BaRefM.
-/
import Derived.Test.YtmbnmmnoahddcaaGreatDoorPks14a
import Derived.Test.YtmbnmmnoahddcaaGreatDoorPks12
import Derived.Test.YtmbnmmnoahddcaaGreatDoorPks01
import Derived.Test.YtmbnmmnoahddcaaGreatDoorPks13
import Derived.Deep.RegionLaw
import Derived.Deep.AppendLies
import Derived.Test.YtmbnmmnoahddcaaGreatDoorPks02

/-
  batch: Put.
-/
namespace Go.Proofs.YtmbnmmnoahddcaaGreatDoor
set_option maxRecDepth 100000
open Go.RowKit

/-- An append of two texts. -/
theorem app_texts2 {w : World} {ops : Array Oper} {rest : List Oper} {o : Oper} {a : Act} {Q : Exit → Act → World → Prop} (hgd : o.guard = none) (s x : Operand)
    (ho : o.op = .call { callee := .builtin .append, args := #[s, x], argTypes := #[53, 53] })
    (base : Nat) (v : Value) (l : List (List UInt8)) (hs : a.eval s = v) (hown : OwnL w base v l) (t u : List UInt8) (hx : a.eval x = .slice (some ⟨w.heap.size, 0, none⟩) 2 2)
    (hn : l.length ≤ 1000000) (hbase : base ≤ w.heap.size)
    (h : ∀ v' w', OwnL w' base v' (l ++ [t, u]) → (∀ w0, Below base w0 w → Below base w0 w') → wpList Tryz.prog ops Q rest (a.put o.dst v') w') :
    wpList Tryz.prog ops Q (o :: rest) a (w.alloc (.cells #[.string ⟨t.toArray⟩, .string ⟨u.toArray⟩] 9)) := by
  obtain ⟨i0, hi, hz0, hz1, hz2⟩ := info_parts info9
  refine wpList_append_own_at (P := Tryz.prog) (w.alloc (.cells #[.string ⟨t.toArray⟩, .string ⟨u.toArray⟩] 9)) hgd s x 53 ho base 9 i0 (.string ⟨#[]⟩) 1 16 Tryz.underlying53 hi hz0 hz1 hz2 rfl (by decide) v l.length (l.map SV) hs (World.ownsRow.kept hown (World.grownBy_alloc w _ none) (by cases v.ownBlock <;> simp)) ⟨w.heap.size, 0, none⟩ 2 2 ([t, u].map SV) hx rfl ?_ (texts_one _) (by unfold maxLen; omega) (by omega) (by rw [World.size_alloc]; omega) ?_
  · intro j x hj
    rw [Go.WideShapes.add_plain, Nat.zero_add, World.cell?_alloc_new]
    simpa [SV] using hj
  · intro v' w' h2 h3 _ _
    refine h v' w' (by unfold OwnL; rw [List.length_append, List.map_append]; exact h2) fun w0 hB => (hB.alloc hbase _).grown h3 (by rw [World.size_alloc]; omega) fun j e => (World.ownsRow.lt hown j e).1

theorem rowL_next {l : List Cg} {k : Nat} (hk : k < l.length) {p : List UInt8} {g : Bool} {z d : Int} {cs : List Int} (hx : l[k] = (p, g, z, d, cs)) : rowL (l.take (k + 1)) = rowL (l.take k) ++ [p, valM z d cs g] := by
  rw [rowL_snoc hk, hx]
  rfl

set_option maxHeartbeats 8000000 in
theorem baPut_calls (v : Value) (S : List Cv) (w : World) (h : Cgs w v S) (hn : S.length ≤ 1000000) (hs : SmallC (chs S)) (hm : Ml w) :
    Calls Tryz.prog 9 #[v] w fun e w' => e = .returned (.tuple #[.string ⟨(putBT (chs S)).toArray⟩, .int .i64 (putBE (chs S))]) ∧ Below w.heap.size w w' := by
  have KI := baIs_calls v S w h hn hs hm
  obtain ⟨ao, cap, rfl⟩ := h.form
  cases hb : isB (chs S) with
  | false =>
    rw [hb] at KI
    have K := Lib.hid KI
    have HN := Lib.hid (baPut_no hb)
    clear KI h hs hm hb
    go_enter Tryz.func9, Tryz.ntmps9
    go_wp2_with fail
    refine K.out.mono ?_
    rintro e w1 ⟨rfl, hB⟩
    go_wp2_with fail
    go_ret2
    exact ⟨by rw [HN.out.1, HN.out.2]; rfl, hB⟩
  | true =>
    rw [hb] at KI
    have K := Lib.hid KI
    have HN := Lib.hid (baPut_yes hb)
    have hl20 : S.length ≤ 20 := by
      have := (isB_iff.1 hb).2.1
      rwa [List.length_map] at this
    have HH := Lib.hid h
    have HS := Lib.hid hs
    clear KI h hs hm hb
    go_enter Tryz.func9, Tryz.ntmps9
    go_wp2_with fail
    refine K.out.mono ?_
    rintro e w1 ⟨rfl, hB⟩
    go_wp2_with fail
    go_loopw [4, 14] (fun r i wr => ∃ k : Nat, i = .int .i64 k ∧ k ≤ S.length ∧ OwnL wr w.heap.size r (rowL ((chs S).take k)) ∧ Hid (Below w.heap.size w wr)) (fun _ i _ => S.length - (intOf i).toNat)
    case atStart => exact ⟨0, rfl, Nat.zero_le _, ownL_nil _ _, Lib.hid hB⟩
    case round =>
      obtain ⟨k, rfl, hk, hown, hBr⟩ := hrel
      by_cases hlt : k < S.length
      · obtain ⟨b, off, rfl, ⟨c0, c1, c2, c3, c4⟩, hI⟩ := (HH.out.below hBr.out).at hlt
        have hltc : k < (chs S).length := by simpa using hlt
        have hsm := HS.out _ (List.getElem_mem hltc)
        have hnx := fun p g z d cs (hx : (chs S)[k] = (p, g, z, d, cs)) => rowL_next (l := chs S) hltc hx
        simp only [List.getElem_map] at hsm hnx
        have hrl : (rowL ((chs S).take k)).length ≤ 40 := by rw [rowL_len]; simp; omega
        obtain ⟨⟨⟨q, g, z, d, cs⟩, vv⟩, hx⟩ : ∃ x, S[k] = x := ⟨_, rfl⟩
        rw [hx] at c0 c1 c2 c3 c4 hI hsm hnx
        have HNX := Lib.hid (hnx q g z d cs rfl)
        dsimp only at c0 c1 c2 c3 c4 hI hsm
        obtain ⟨s1, s3, rfl⟩ := hI.form
        have hB1 := below_alloc wr (.cells #[.string ⟨q.toArray⟩, .bool g, .int .i64 z, .int .i64 d, .slice s1 cs.length s3] 36)
        have KV := Lib.hid (mValue_calls z d _ cs g _ (hI.below hB1) hsm.2)
        have HX := Lib.hid (Cx.new wr 36 [.string ⟨q.toArray⟩, .bool g, .int .i64 z, .int .i64 d, .slice s1 cs.length s3])
        have hBB1 := Lib.hid (below2 hBr.out hB1)
        have HO1 := Lib.hid (ownL_below hown hB1)
        clear hI hsm hnx hx hB1 hown
        go_wp2_with fail
        refine KV.out.mono ?_
        rintro e w2 ⟨rfl, hB2⟩
        obtain ⟨x0, x1, x2, x3, x4⟩ := (HX.out.below hB2).five
        have hBB2 := Lib.hid (below2 hBB1.out hB2)
        have hsz2 := hBB2.out.size
        have HO2 := Lib.hid (ownL_below HO1.out hB2)
        clear hB2 c0 c1 c2 c3 c4
        go_wp2_with (at_builtin; refine app_texts2 rfl _ _ rfl w.heap.size _ _ rfl HO2.out q (valM z d cs g) rfl (by omega) hsz2 ?_; intro v3 w3 ho3 hB3)
        go_roundw
        case rel => exact ⟨k + 1, by go_num, by omega, by rw [HNX.out]; exact ho3, Lib.hid (hB3 w hBB2.out)⟩
        case measure => simp [intOf]; omega
      · obtain rfl : k = S.length := by omega
        have e1 : (chs S).take S.length = chs S := by rw [← List.length_map (f := Prod.fst)]; exact List.take_length
        rw [e1] at hown
        have hlen : (rowL (chs S)).length ≤ 1000 := by rw [rowL_len]; simp; omega
        have KR := row_short _ (rowL (chs S)) wr (ownL_txts hown).strs hlen
        rw [HN.out.2.2] at KR
        have KRH := Lib.hid KR
        obtain ⟨ar, nr, cr, rfl⟩ := own_form hown
        clear KR hown e1 hlen
        go_wp2_with fail
        refine KRH.out.mono ?_
        rintro e w2 ⟨rfl, hB2⟩
        go_wp2_with fail
        go_ret2
        exact ⟨by rw [HN.out.1, HN.out.2.1]; rfl, below2 hBr.out hB2⟩

end Go.Proofs.YtmbnmmnoahddcaaGreatDoor

/-
  An append of a change within a region that draws its order.
-/
namespace Go.Proofs.YtmbnmmnoahddcaaGreatDoor
set_option maxRecDepth 100000
open Go.RowKit

/-- What an append of one change makes, in whatever world it is done. -/
theorem ownC_app2 {w w' : World} {base : Nat} {v v' : Value} {S : List Cv} {c : Cv} (hown : OwnC w base v S) (hc : OwnI w base c.2 c.1.2.2.2.2) (h2 : w'.ownsRow base 36 5 v' (S.length + 1) (ccells S ++ ccell c)) (h3 : w.grownBy w' v.ownBlock) :
    OwnC w' base v' (S ++ [c]) ∧ KeepC w w' := by
  have hk := KeepC.grown hown.1 h3
  refine ⟨⟨?_, fun x hx => ?_⟩, hk⟩
  · rw [List.length_append, ccells_snoc]
    exact h2
  · rcases List.mem_append.1 hx with hx | hx
    · exact hk _ _ _ _ _ _ (by decide) (hown.2 x hx)
    · obtain rfl := List.mem_singleton.1 hx
      exact hk _ _ _ _ _ _ (by decide) hc

theorem step_change {w : World} {ops : Array Oper} {o : Oper} {a : Act} {K : Act → World → Prop} {Q : Exit → Act → World → Prop} {E : Prop} (hgd : o.guard = none) (s x : Operand)
    (ho : o.op = .call { callee := .builtin .append, args := #[s, x], argTypes := #[22, 22] })
    (base : Nat) (v : Value) (S : List Cv) (hs : a.eval s = v) (hown : OwnC w base v S) (n : Nat) (c : Cv) (hc : OwnI w base c.2 c.1.2.2.2.2) (hx : a.eval x = .slice (some ⟨n, 0, none⟩) 1 1)
    (hnews : ∀ j y, (ccell c)[j]? = some y → w.cell? ((⟨n, 0, none⟩ : Addr).add j) = some y) (hn : S.length ≤ 100000) (hbase : base ≤ w.heap.size)
    (h : ∀ v' w', OwnC w' base v' (S ++ [c]) → (∀ w0, Below base w0 w → Below base w0 w') → KeepC w w' → K (a.put o.dst v') w') :
    if Region.wanted o (yielded ops a.tmps) = true then Oper.wp Tryz.prog o a w K Q else E := by
  obtain ⟨i0, hi, hz0, hz1, hz2⟩ := info_parts infoC
  refine step_append_lies w hgd s x 22 ho base 36 i0 _ 5 64 Tryz.underlying22 hi hz0 hz1 hz2 rfl (by decide) v S.length (ccells S) hs hown.1 ⟨n, 0, none⟩ 1 1 (ccell c) hx rfl hnews (ccell_one hc) (by decide) (by unfold maxLen; omega) (by omega) hbase w.heap.size rfl ?_
  intro g cap w' h2 h3 _ _
  obtain ⟨k1, k2⟩ := ownC_app2 hown hc h2 h3
  exact h _ w' k1 (fun w0 hB => hB.grown h3 hbase fun j e => (hown.1.lt j e).1) k2
theorem news_drew (w : World) (cs : List Value) (t : TypeId) : ∀ j u, cs[j]? = some u → ((w.alloc (.cells cs.toArray t)).drew).cell? ((⟨w.heap.size, 0, none⟩ : Addr).add j) = some u := news_litC w cs t

end Go.Proofs.YtmbnmmnoahddcaaGreatDoor

/-
  batch: Get.
-/
namespace Go.Proofs.YtmbnmmnoahddcaaGreatDoor
set_option maxRecDepth 100000
open Go.RowKit

theorem getC_none {s : List UInt8} (h : getR s = none) : getC s = none := by rw [getC, h]
theorem getC_rest {s rest : List UInt8} {row : List (List UInt8)} (h : getR s = some (row, rest)) (hr : rest ≠ [] ∨ row.length % 2 = 1) : getC s = none := by
  rw [getC, h]
  simp only
  rw [if_neg]
  rintro ⟨h1, h2, _⟩
  rcases hr with hr | hr
  · exact hr h1
  · omega
theorem getC_red {s : List UInt8} {row : List (List UInt8)} (h : getR s = some (row, [])) {k : Nat} (hk : 2 * k + 1 < row.length) (hr : redE (row.getD (2 * k + 1) []) ≠ 0) : getC s = none := by
  rw [getC, h]
  simp only
  rw [if_neg]
  rintro ⟨_, _, h3, _⟩
  rw [pairsB_not (n := row.length / 2) (by omega) hr] at h3
  cases h3
theorem getC_end {s : List UInt8} {row : List (List UInt8)} (h : getR s = some (row, [])) (h2 : row.length % 2 = 0) (h3 : pairsB row (row.length / 2) = true) : getC s = if isB (pairsL row (row.length / 2)) = true then some (pairsL row (row.length / 2)) else none := by
  rw [getC, h]
  simp only
  by_cases hb : isB (pairsL row (row.length / 2)) = true
  · rw [if_pos ⟨trivial, h2, h3, hb⟩, if_pos hb]
  · rw [if_neg (fun x => hb x.2.2.2), if_neg hb]

theorem getD_at {row : List (List UInt8)} {i : Nat} (hi : i < row.length) : row.getD i [] = row[i] := by
  rw [List.getD_eq_getElem?_getD, List.getElem?_eq_getElem hi]
  rfl
theorem red_small (s : List UInt8) : (redM s).2.2.length ≤ 16 := by
  unfold redM
  split
  · unfold gotM
    cases h : getM s.tail with
    | none => simp
    | some x =>
      obtain ⟨z, d, cs⟩ := x
      exact (metaB_iff.1 (laid_getM h).2).1
  · simp

set_option maxHeartbeats 8000000 in
theorem baGet_calls (s : List UInt8) (hs : s.length ≤ 1000000) (w : World) (hm : Ml w) :
    Calls Tryz.prog 17 #[.string ⟨s.toArray⟩] w fun e w' => ∃ v' S', e = .returned (.tuple #[v', .int .i64 (gotCE s)]) ∧ OwnC w' w.heap.size v' S' ∧ chs S' = gotC s ∧ Below w.heap.size w w' := by
  have HM := Lib.hid hm
  clear hm
  cases hr : getR s with
  | none =>
    have HN := Lib.hid (got_none (getC_none hr))
    have KG := Lib.hid (GetRow_none s (by omega) hr w)
    clear hr
    go_enter Tryz.func17, Tryz.ntmps17
    go_wp2_with fail
    refine KG.out.mono ?_
    rintro e w1 ⟨rfl, hB⟩
    go_wp2_with fail
    go_ret2
    exact ⟨_, [], by rw [HN.out.2]; rfl, OwnC.nil _ _, by rw [HN.out.1]; rfl, hB⟩
  | some x =>
  obtain ⟨row, rest⟩ := x
  have KG := Lib.hid (GetRow_some s (by omega) hr w)
  by_cases hre : rest = []
  · subst hre
    have hlr := (getR_laid hr).2
    by_cases h2 : row.length % 2 = 0
    · have HR := Lib.hid hr
      have hmod : ((row.length : Int)).tmod 2 = 0 := by rw [Int.tmod_eq_emod_of_nonneg (by omega)]; omega
      have H2 := Lib.hid h2
      have HLR := Lib.hid hlr.2
      have hlr := hlr.1
      clear hr h2
      go_enter Tryz.func17, Tryz.ntmps17
      go_wp2_with fail
      refine KG.out.mono ?_
      rintro e w1 ⟨vr, rfl, hB1, hor⟩
      have HO1 := Lib.hid hor
      have HB1 := Lib.hid hB1
      obtain ⟨ar, cr, rfl⟩ := (Rw.own hor).form
      clear hor hB1
      go_wp2_with fail
      go_loopw [7, 8] (fun r i wr => ∃ (k : Nat) (S' : List Cv), i = .int .i64 ((2 * k : Nat) : Int) ∧ 2 * k ≤ row.length ∧ OwnC wr w.heap.size r S' ∧ Hid (chs S' = pairsL row k) ∧ Hid (pairsB row k = true) ∧ Hid (OwnL wr w.heap.size (.slice ar row.length cr) row) ∧ Hid (Below w.heap.size w wr)) (fun _ i _ => row.length - (intOf i).toNat)
      case atStart => exact ⟨0, [], rfl, Nat.zero_le _, OwnC.nil _ _, Lib.hid rfl, Lib.hid rfl, HO1, HB1⟩
      case round =>
        obtain ⟨k, S', rfl, hk, hown, hch, hpb, hor, hB⟩ := hrel
        by_cases hlt : 2 * k < row.length
        · have hlt2 : 2 * k + 1 < row.length := by have := H2.out; omega
          obtain ⟨b, off, rfl, hc0⟩ := (ownL_txts hor.out).strs.at hlt
          obtain ⟨b', off', he, hc1⟩ := (ownL_txts hor.out).strs.at hlt2
          cases he
          have hq2 := HLR.out _ (List.getElem_mem hlt2)
          have e0 := getD_at hlt
          have e1 := getD_at hlt2
          have hgn := fun h => got_none (getC_red HR.out hlt2 h)
          have hps := fun h => pairsB_snoc (row := row) hpb.out h
          have hpa : pairAt row k = (row[2 * k], redG row[2 * k + 1], redM row[2 * k + 1]) := by rw [pairAt, e0, e1]
          have hpl := pairs_snoc row k
          rw [e1] at hgn hps
          rw [hpa] at hpl
          generalize row[2 * k] = p at hc0 hpl
          generalize row[2 * k + 1] = t at hc1 hpl hgn hps hq2
          have KR := mRead_calls t (by omega) wr
          have hlen : S'.length = k := by
            have := congrArg List.length hch.out
            rwa [List.length_map, pairs_len] at this
          have HLN := Lib.hid hlen
          have HPL := Lib.hid hpl
          have hkk : ((2 * k : Nat) : Int) + 1 = ((2 * k + 1 : Nat) : Int) := by omega
          have hsz := hB.out.size
          have hS5 : S'.length ≤ 100000 := by omega
          clear hpa e0 e1 hpl hlen
          generalize redG t = g at KR HPL
          obtain ⟨⟨z, d, cs⟩, hzd⟩ : ∃ m, redM t = m := ⟨_, rfl⟩
          rw [hzd] at KR HPL
          dsimp only at KR
          clear hzd
          by_cases he : redE t = 0
          · rw [he] at KR
            have K := Lib.hid KR
            have HPS := Lib.hid (hps he)
            clear KR hgn hps he
            go_wp2_with fail
            refine K.out.mono ?_
            rintro e w2 ⟨v2, rfl, ho2, hB2⟩
            have HC2 := Lib.hid (hown.stays hB2)
            have HO2 := Lib.hid (ownL_below hor.out hB2)
            have HBB := Lib.hid (below2 hB.out hB2)
            have HI2 := Lib.hid (own_weak ho2 hsz)
            have hd0 := look_below hB2 hc0
            obtain ⟨a2, n2, c2, rfl⟩ := own_form ho2
            clear ho2 hB2 hc0 hc1
            go_wp2_with fail
            have hBW := below2 (below_alloc2 w2 (.cells #[.int .i64 z, .int .i64 d, .slice a2 n2 c2] 34) (.cells #[.string ⟨p.toArray⟩, .bool g, .int .i64 z, .int .i64 d, .slice a2 n2 c2] 36)) (drew_below _)
            have HC4 := Lib.hid (HC2.out.stays hBW)
            have HI4 := Lib.hid (own_stays HI2.out hBW)
            have HO4 := Lib.hid (ownL_below HO2.out hBW)
            have hBB4 := Lib.hid (below2 HBB.out hBW)
            have hsz4 := hBB4.out.size
            have HNW := Lib.hid (news_drew (w2.alloc (.cells #[.int .i64 z, .int .i64 d, .slice a2 n2 c2] 34)) (ccell ((p, g, z, d, cs), .slice a2 n2 c2)) 36)
            rw [World.size_alloc] at HNW
            have hd1 := look_below (below_alloc w2 (.cells #[.int .i64 z, .int .i64 d, .slice a2 n2 c2] 34)) hd0
            have hd2 := look_below (drew_below _) hd1
            have hi1 : (0 : Int) ≤ 2 * (k : Int) := by omega
            have hi2 : 2 * (k : Int) < (row.length : Int) := by omega
            have hi3 : (2 * (k : Int)).toNat = 2 * k := by omega
            clear hBW
            go_region_law (refine step_change rfl (.tmp 48) (.tmp 56) rfl w.heap.size _ S' rfl HC4.out (w2.heap.size + 1) ((p, g, z, d, cs), .slice a2 n2 c2) HI4.out rfl HNW.out hS5 hsz4 ?_; intro v' w3 ho3 hB3 hK3)
            all_goals
              go_wp2_with fail
              go_roundw
              case rel => exact ⟨k + 1, _, by go_num, by omega, ho3, Lib.hid (by rw [HPL.out, ← hch.out]; simp), HPS, Lib.hid (hK3 _ _ _ _ _ _ (by decide) HO4.out), Lib.hid (hB3 w hBB4.out)⟩
              case measure => simp [intOf]; omega
          · obtain ⟨E, hE⟩ : ∃ E, redE t = E := ⟨_, rfl⟩
            rw [hE] at KR
            have hne : (E != 0) = true := by rw [bne_iff_ne, ← hE]; exact he
            have HN := Lib.hid (hgn he)
            have K := Lib.hid KR
            clear KR hgn hps he hE
            go_wp2_with fail
            refine K.out.mono ?_
            rintro e w2 ⟨v2, rfl, ho2, hB2⟩
            obtain ⟨a2, n2, c2, rfl⟩ := own_form ho2
            have HBB := Lib.hid (below2 hB.out hB2)
            clear ho2 hB2 hc0 hc1
            go_wp2_with fail
            go_ret2
            exact ⟨_, [], by rw [HN.out.2]; rfl, OwnC.nil _ _, by rw [HN.out.1]; rfl, below2 HBB.out (below_alloc _ _)⟩
        · have hk2 : 2 * k = row.length := by omega
          have hkd : row.length / 2 = k := by omega
          have hge := getC_end HR.out H2.out (by rw [hkd]; exact hpb.out)
          rw [hkd, ← hch.out] at hge
          have hlen : S'.length = k := by
            have := congrArg List.length hch.out
            rwa [List.length_map, pairs_len] at this
          have KI := baIs_calls _ S' wr hown.cgs (by omega) (fun c hc => by
            rw [hch.out] at hc
            obtain ⟨i, hi, rfl⟩ := List.mem_map.1 hc
            have hi2 := List.mem_range.1 hi
            have q1 : 2 * i < row.length := by omega
            rw [pairAt, getD_at q1]
            exact ⟨Nat.le_trans (HLR.out _ (List.getElem_mem q1)) (by omega), Nat.le_trans (red_small (row.getD (2 * i + 1) [])) (by omega)⟩) (HM.out.below hB.out)
          obtain ⟨a5, c5, rfl⟩ := hown.form
          have HW := Lib.hid hown
          clear hch hor hlen hkd hown
          cases hb : isB (chs S') with
          | false =>
            rw [hb] at KI hge
            have K := Lib.hid KI
            have HX := Lib.hid (got_none hge)
            clear KI hb hge
            go_wp2_with fail
            refine K.out.mono ?_
            rintro e w3 ⟨rfl, hB3⟩
            go_wp2_with fail
            go_ret2
            exact ⟨_, [], by rw [HX.out.2]; rfl, OwnC.nil _ _, by rw [HX.out.1]; rfl, below2 hB.out hB3⟩
          | true =>
            rw [hb] at KI hge
            have K := Lib.hid KI
            have HX := Lib.hid (got_some hge)
            clear KI hb hge
            go_wp2_with fail
            refine K.out.mono ?_
            rintro e w3 ⟨rfl, hB3⟩
            go_wp2_with fail
            go_ret2
            exact ⟨_, S', by rw [HX.out.2]; rfl, HW.out.stays hB3, by rw [HX.out.1], below2 hB.out hB3⟩
    · have HN := Lib.hid (got_none (getC_rest hr (.inr (by omega))))
      have hmod : ((row.length : Int)).tmod 2 = 1 := by rw [Int.tmod_eq_emod_of_nonneg (by omega)]; omega
      clear hr h2 hlr
      go_enter Tryz.func17, Tryz.ntmps17
      go_wp2_with fail
      refine KG.out.mono ?_
      rintro e w1 ⟨vr, rfl, hB1, hor⟩
      obtain ⟨ar, cr, rfl⟩ := (Rw.own hor).form
      clear hor
      go_wp2_with fail
      go_ret2
      exact ⟨_, [], by rw [HN.out.2]; rfl, OwnC.nil _ _, by rw [HN.out.1]; rfl, hB1⟩
  · have HN := Lib.hid (got_none (getC_rest hr (.inl hre)))
    obtain ⟨he, _⟩ := empty_no hre
    clear hr hre
    go_enter Tryz.func17, Tryz.ntmps17
    go_wp2_with fail
    refine KG.out.mono ?_
    rintro e w1 ⟨vr, rfl, hB1, hor⟩
    obtain ⟨ar, cr, rfl⟩ := (Rw.own hor).form
    clear hor
    go_wp2_with fail
    go_ret2
    exact ⟨_, [], by rw [HN.out.2]; rfl, OwnC.nil _ _, by rw [HN.out.1]; rfl, hB1⟩

end Go.Proofs.YtmbnmmnoahddcaaGreatDoor

/-
  The document's own Same of changes.
-/
namespace Go.Proofs.YtmbnmmnoahddcaaGreatDoor
set_option maxRecDepth 100000
open Go.RowKit

theorem bsame_all {a b : List Cg} (hl : a.length = b.length) (h : a.take a.length = b.take a.length) : (a == b) = true := by
  rw [List.take_length, hl, List.take_length] at h
  simpa using h
theorem bsame_next {a b : List Cg} {k : Nat} (h : a.take k = b.take k) (ha : k < a.length) (hb : k < b.length) (he : a[k] = b[k]) : a.take (k + 1) = b.take (k + 1) := by
  rw [List.take_succ_eq_append_getElem ha, List.take_succ_eq_append_getElem hb, h, he]
theorem bsame_not {a b : List Cg} {k : Nat} (ha : k < a.length) (hb : k < b.length) (he : a[k] ≠ b[k]) : (a == b) = false := by
  rw [beq_eq_false_iff_ne]
  intro e
  subst e
  exact he rfl

set_option maxHeartbeats 8000000 in
theorem bSame_calls (va vb : Value) (S T : List Cv) (w : World) (hA : Cgs w va S) (hB : Cgs w vb T) (hn : S.length ≤ 1000000) (hs : SmallC (chs S)) :
    Calls Tryz.prog 13 #[va, vb] w fun e w' => e = .returned (.bool (chs S == chs T)) ∧ Below w.heap.size w w' := by
  obtain ⟨aa, ca, rfl⟩ := hA.form
  obtain ⟨ab, cb, rfl⟩ := hB.form
  by_cases hl : S.length = T.length
  · have hne : ((S.length : Int) != (T.length : Int)) = false := by rw [bne_eq_false_iff_eq]; omega
    have HLS := Lib.hid hl
    have HA := Lib.hid hA
    have HT := Lib.hid hB
    have HS0 := Lib.hid hs
    obtain ⟨n, hnT⟩ : ∃ n, T.length = n := ⟨_, rfl⟩
    rw [hnT] at hne ⊢
    have HNT := Lib.hid hnT
    clear hA hB hl hs hnT
    go_enter Tryz.func13, Tryz.ntmps13
    go_wp2_with fail
    go_loopw [5] (fun i wr => ∃ k : Nat, i = .int .i64 k ∧ k ≤ S.length ∧ Hid ((chs S).take k = (chs T).take k) ∧ Hid (Below w.heap.size w wr)) (fun i _ => S.length - (intOf i).toNat)
    case atStart => exact ⟨0, rfl, Nat.zero_le _, Lib.hid (by simp), Lib.hid (Below.refl _ _)⟩
    case round =>
      obtain ⟨k, rfl, hk, hf, hBr⟩ := hrel
      by_cases hlt : k < S.length
      · have hltT : k < T.length := by have := HLS.out; omega
        obtain ⟨b, off, rfl, ⟨c0, c1, c2, c3, c4⟩, hI⟩ := (HA.out.below hBr.out).at hlt
        obtain ⟨b', off', rfl, ⟨e0, e1, e2, e3, e4⟩, hJ⟩ := (HT.out.below hBr.out).at (n := T.length) hltT
        have hltc : k < (chs S).length := by simpa using hlt
        have hltd : k < (chs T).length := by simpa using hltT
        have hsm := HS0.out _ (List.getElem_mem hltc)
        have hgo := fun h => bsame_next hf.out hltc hltd h
        have hno := fun h => bsame_not hltc hltd h
        simp only [List.getElem_map] at hsm hgo hno
        obtain ⟨⟨⟨q, g, z, d, cs⟩, vv⟩, hx⟩ : ∃ x, S[k] = x := ⟨_, rfl⟩
        obtain ⟨⟨⟨q', g', z', d', cs'⟩, vv'⟩, hy⟩ : ∃ x, T[k] = x := ⟨_, rfl⟩
        rw [hx] at c0 c1 c2 c3 c4 hI hsm
        rw [hy] at e0 e1 e2 e3 e4 hJ
        rw [hx, hy] at hgo hno
        dsimp only at c0 c1 c2 c3 c4 hI hsm hgo hno e0 e1 e2 e3 e4 hJ
        clear hx hy
        obtain ⟨s1, s3, rfl⟩ := hI.form
        obtain ⟨t1, t3, rfl⟩ := hJ.form
        have hK := fun (W : World) (hW : Below wr.heap.size wr W) => mSame_calls z d _ cs z' d' _ cs' W (hI.below hW) (hJ.below hW) hsm.2
        obtain ⟨s2, hs2⟩ : ∃ n, cs.length = n := ⟨_, rfl⟩
        obtain ⟨t2, ht2⟩ : ∃ n, cs'.length = n := ⟨_, rfl⟩
        rw [hs2] at c4 hK
        rw [ht2] at e4 hK
        have HC := Lib.hid (fun (W : World) (hW : Below wr.heap.size wr W) => And.intro (And.intro (look_below hW c0) (And.intro (look_below hW c1) (And.intro (look_below hW c2) (And.intro (look_below hW c3) (look_below hW c4))))) (And.intro (look_below hW e0) (And.intro (look_below hW e1) (And.intro (look_below hW e2) (And.intro (look_below hW e3) (look_below hW e4))))))
        have HKM := Lib.hid hK
        have HR := Lib.hid (And.intro hno hgo)
        have hbr : Below wr.heap.size wr wr.drew := drew_below _
        have hk1 : (0 : Int) ≤ (k : Int) := by omega
        have hk2 : (k : Int) < (S.length : Int) := by omega
        have hk3 : (k : Int) < (n : Int) := by have := HNT.out; omega
        clear hs2 ht2 hI hJ hsm hK hno hgo c0 c1 c2 c3 c4 e0 e1 e2 e3 e4
        by_cases hq : q = q'
        · have hqn : (q != q') = false := by simpa using hq
          have hqe : (q == q') = true := by simpa using hq
          have HQ := Lib.hid hq
          clear hq
          by_cases hg : g = g'
          · have hgn : (g != g') = false := by simpa using hg
            have hge : (g == g') = true := by simpa using hg
            have HG := Lib.hid hg
            clear hg
            cases hm : sameM z d cs z' d' cs' with
            | true =>
              have KM := Lib.hid (hm ▸ HKM.out)
              have HN : Hid ((chs S).take (k + 1) = (chs T).take (k + 1)) := Lib.hid (HR.out.2 (by
                have e := sameM_iff.1 hm
                rw [HQ.out, HG.out]
                simp only [Prod.mk.injEq] at e ⊢
                simp [e]))
              clear hm HKM HR HQ HG
              go_wp2_with fail
              refine wp_region_held_drew (S := (fun w' => (w'.cell? ⟨b, off + k * 5, none⟩ = some (.string ⟨q.toArray⟩) ∧ w'.cell? ⟨b, off + k * 5 + 1, none⟩ = some (.bool g) ∧ w'.cell? ⟨b, off + k * 5 + 2, none⟩ = some (.int .i64 z) ∧ w'.cell? ⟨b, off + k * 5 + 3, none⟩ = some (.int .i64 d) ∧ w'.cell? ⟨b, off + k * 5 + 4, none⟩ = some (.slice s1 s2 s3)) ∧ (w'.cell? ⟨b', off' + k * 5, none⟩ = some (.string ⟨q'.toArray⟩) ∧ w'.cell? ⟨b', off' + k * 5 + 1, none⟩ = some (.bool g') ∧ w'.cell? ⟨b', off' + k * 5 + 2, none⟩ = some (.int .i64 z') ∧ w'.cell? ⟨b', off' + k * 5 + 3, none⟩ = some (.int .i64 d') ∧ w'.cell? ⟨b', off' + k * 5 + 4, none⟩ = some (.slice t1 t2 t3)))) (by kernel_rfl) (HC.out _ hbr) (fun hHeld => ?_)
              refine wpAnyH_take (i := 0) (oi := ⟨_, _, _, _, _, _⟩) (v := ?_) rfl (by kernel_rfl) (by kernel_rfl) (by kernel_rfl) (fun _ _ _ h => h) (Or.inl ⟨by rfl, ?_⟩) hHeld ?_
              rotate_left
              · (intro w hSw; (try dsimp only at hSw); go_simp; try with_reducible rfl)
              try simp only [Act.put, List.setIfInBounds_toArray, List.set_cons_zero, List.set_cons_succ]
              refine wpAnyH_take (i := 1) (oi := ⟨_, _, _, _, _, _⟩) (v := ?_) rfl (by kernel_rfl) (by kernel_rfl) (by kernel_rfl) (fun _ _ _ h => h) (Or.inl ⟨by rfl, ?_⟩) hHeld ?_
              rotate_left
              · (intro w hSw; (try dsimp only at hSw); go_simp; try with_reducible rfl)
              try simp only [Act.put, List.setIfInBounds_toArray, List.set_cons_zero, List.set_cons_succ]
              refine wpAnyH_take (i := 2) (oi := ⟨_, _, _, _, _, _⟩) (v := ?_) rfl (by kernel_rfl) (by kernel_rfl) (by kernel_rfl) (fun _ _ _ h => h) (Or.inl ⟨by rfl, ?_⟩) hHeld ?_
              rotate_left
              · (intro w hSw; (try dsimp only at hSw); go_simp; try with_reducible rfl)
              try simp only [Act.put, List.setIfInBounds_toArray, List.set_cons_zero, List.set_cons_succ]
              refine wpAnyH_take (i := 3) (oi := ⟨_, _, _, _, _, _⟩) (v := ?_) rfl (by kernel_rfl) (by kernel_rfl) (by kernel_rfl) (fun _ _ _ h => h) (Or.inl ⟨by rfl, ?_⟩) hHeld ?_
              rotate_left
              · (intro w hSw; (try dsimp only at hSw); go_simp; try with_reducible rfl)
              try simp only [Act.put, List.setIfInBounds_toArray, List.set_cons_zero, List.set_cons_succ]
              refine wpAnyH_take (i := 4) (oi := ⟨_, _, _, _, _, _⟩) (v := ?_) rfl (by kernel_rfl) (by kernel_rfl) (by kernel_rfl) (fun _ _ _ h => h) (Or.inl ⟨by rfl, ?_⟩) hHeld ?_
              rotate_left
              · (intro w hSw; (try dsimp only at hSw); go_simp; try with_reducible rfl)
              try simp only [Act.put, List.setIfInBounds_toArray, List.set_cons_zero, List.set_cons_succ]
              refine wpAnyH_take (i := 5) (oi := ⟨_, _, _, _, _, _⟩) (v := ?_) rfl (by kernel_rfl) (by kernel_rfl) (by kernel_rfl) (fun _ _ _ h => h) (Or.inl ⟨by rfl, ?_⟩) hHeld ?_
              rotate_left
              · (intro w hSw; (try dsimp only at hSw); go_simp; try with_reducible rfl)
              try simp only [Act.put, List.setIfInBounds_toArray, List.set_cons_zero, List.set_cons_succ]
              refine wpAnyH_take (i := 6) (oi := ⟨_, _, _, _, _, _⟩) (v := ?_) rfl (by kernel_rfl) (by kernel_rfl) (by kernel_rfl) (fun _ _ _ h => h) (Or.inl ⟨by rfl, ?_⟩) hHeld ?_
              rotate_left
              · (intro w hSw; (try dsimp only at hSw); go_simp; try with_reducible rfl)
              try simp only [Act.put, List.setIfInBounds_toArray, List.set_cons_zero, List.set_cons_succ]
              refine wpAnyH_take (i := 7) (oi := ⟨_, _, _, _, _, _⟩) (v := ?_) rfl (by kernel_rfl) (by kernel_rfl) (by kernel_rfl) (fun _ _ _ h => h) (Or.inl ⟨by rfl, ?_⟩) hHeld ?_
              rotate_left
              · (intro w hSw; (try dsimp only at hSw); go_simp; try with_reducible rfl)
              try simp only [Act.put, List.setIfInBounds_toArray, List.set_cons_zero, List.set_cons_succ]
              refine wpAnyH_take (i := 8) (oi := ⟨_, _, _, _, _, _⟩) (v := ?_) rfl (by kernel_rfl) (by kernel_rfl) (by kernel_rfl) (fun _ _ _ h => h) (Or.inl ⟨by rfl, ?_⟩) hHeld ?_
              rotate_left
              · (intro w hSw; (try dsimp only at hSw); go_simp; try with_reducible rfl)
              try simp only [Act.put, List.setIfInBounds_toArray, List.set_cons_zero, List.set_cons_succ]
              refine wpAnyH_take (i := 9) (oi := ⟨_, _, _, _, _, _⟩) (v := ?_) rfl (by kernel_rfl) (by kernel_rfl) (by kernel_rfl) (fun _ _ _ h => h) (Or.inl ⟨by rfl, ?_⟩) hHeld ?_
              rotate_left
              · (intro w hSw; (try dsimp only at hSw); go_simp; try with_reducible rfl)
              try simp only [Act.put, List.setIfInBounds_toArray, List.set_cons_zero, List.set_cons_succ]
              refine wpAnyH_take (i := 10) (oi := ⟨_, _, _, _, _, _⟩) (v := ?_) rfl (by kernel_rfl) (by kernel_rfl) (by kernel_rfl) (fun _ _ _ h => h) (Or.inl ⟨by rfl, ?_⟩) hHeld ?_
              rotate_left
              · (intro w hSw; (try dsimp only at hSw); go_simp; try with_reducible rfl)
              try simp only [Act.put, List.setIfInBounds_toArray, List.set_cons_zero, List.set_cons_succ]
              refine wpAnyH_take (i := 11) (oi := ⟨_, _, _, _, _, _⟩) (v := ?_) rfl (by kernel_rfl) (by kernel_rfl) (by kernel_rfl) (fun _ _ _ h => h) (Or.inl ⟨by rfl, ?_⟩) hHeld ?_
              rotate_left
              · (intro w hSw; (try dsimp only at hSw); go_simp; try with_reducible rfl)
              try simp only [Act.put, List.setIfInBounds_toArray, List.set_cons_zero, List.set_cons_succ]
              refine wpAnyH_take (i := 12) (oi := ⟨_, _, _, _, _, _⟩) (v := ?_) rfl (by kernel_rfl) (by kernel_rfl) (by kernel_rfl) (fun _ _ _ h => h) (Or.inl ⟨by rfl, ?_⟩) hHeld ?_
              rotate_left
              · (intro w hSw; (try dsimp only at hSw); go_simp; try with_reducible rfl)
              try simp only [Act.put, List.setIfInBounds_toArray, List.set_cons_zero, List.set_cons_succ]
              refine wpAnyH_take (i := 13) (oi := ⟨_, _, _, _, _, _⟩) (v := ?_) rfl (by kernel_rfl) (by kernel_rfl) (by kernel_rfl) (fun _ _ _ h => h) (Or.inl ⟨by rfl, ?_⟩) hHeld ?_
              rotate_left
              · (intro w hSw; (try dsimp only at hSw); go_simp; try with_reducible rfl)
              try simp only [Act.put, List.setIfInBounds_toArray, List.set_cons_zero, List.set_cons_succ]
              refine wpAnyH_take (i := 14) (oi := ⟨_, _, _, _, _, _⟩) (v := ?_) rfl (by kernel_rfl) (by kernel_rfl) (by kernel_rfl) (fun _ _ _ h => h) (Or.inl ⟨by rfl, ?_⟩) hHeld ?_
              rotate_left
              · (intro w hSw; (try dsimp only at hSw); go_simp; try with_reducible rfl)
              try simp only [Act.put, List.setIfInBounds_toArray, List.set_cons_zero, List.set_cons_succ]
              refine wpAnyH_take (i := 15) (oi := ⟨_, _, _, _, _, _⟩) (v := ?_) rfl (by kernel_rfl) (by kernel_rfl) (by kernel_rfl) (fun _ _ _ h => h) (Or.inl ⟨by rfl, ?_⟩) hHeld ?_
              rotate_left
              · (intro w hSw; (try dsimp only at hSw); go_simp; try with_reducible rfl)
              try simp only [Act.put, List.setIfInBounds_toArray, List.set_cons_zero, List.set_cons_succ]
              refine wpAnyH_take (i := 16) (oi := ⟨_, _, _, _, _, _⟩) (v := ?_) rfl (by kernel_rfl) (by kernel_rfl) (by kernel_rfl) (fun _ _ _ h => h) (Or.inl ⟨by rfl, ?_⟩) hHeld ?_
              rotate_left
              · (intro w hSw; (try dsimp only at hSw); go_simp; try with_reducible rfl)
              try simp only [Act.put, List.setIfInBounds_toArray, List.set_cons_zero, List.set_cons_succ]
              refine wpAnyH_take (i := 17) (oi := ⟨_, _, _, _, _, _⟩) (v := ?_) rfl (by kernel_rfl) (by kernel_rfl) (by kernel_rfl) (fun _ _ _ h => h) (Or.inl ⟨by rfl, ?_⟩) hHeld ?_
              rotate_left
              · (intro w hSw; (try dsimp only at hSw); go_simp; try with_reducible rfl)
              try simp only [Act.put, List.setIfInBounds_toArray, List.set_cons_zero, List.set_cons_succ]
              refine wpAnyH_take (i := 18) (oi := ⟨_, _, _, _, _, _⟩) (v := ?_) rfl (by kernel_rfl) (by kernel_rfl) (by kernel_rfl) (fun _ _ _ h => h) (Or.inl ⟨by rfl, ?_⟩) hHeld ?_
              rotate_left
              · (intro w hSw; (try dsimp only at hSw); go_simp; try with_reducible rfl)
              try simp only [Act.put, List.setIfInBounds_toArray, List.set_cons_zero, List.set_cons_succ]
              refine wpAnyH_take (i := 19) (oi := ⟨_, _, _, _, _, _⟩) (v := ?_) rfl (by kernel_rfl) (by kernel_rfl) (by kernel_rfl) (fun _ _ _ h => h) (Or.inl ⟨by rfl, ?_⟩) hHeld ?_
              rotate_left
              · (intro w hSw; (try dsimp only at hSw); go_simp; try with_reducible rfl)
              try simp only [Act.put, List.setIfInBounds_toArray, List.set_cons_zero, List.set_cons_succ]
              refine wpAnyH_take (i := 20) (oi := ⟨_, _, _, _, _, _⟩) (v := ?_) rfl (by kernel_rfl) (by kernel_rfl) (by kernel_rfl) (fun _ _ _ h => h) (Or.inl ⟨by rfl, ?_⟩) hHeld ?_
              rotate_left
              · (intro w hSw; (try dsimp only at hSw); go_simp; try with_reducible rfl)
              try simp only [Act.put, List.setIfInBounds_toArray, List.set_cons_zero, List.set_cons_succ]
              refine wpAnyH_take (i := 21) (oi := ⟨_, _, _, _, _, _⟩) (v := ?_) rfl (by kernel_rfl) (by kernel_rfl) (by kernel_rfl) (fun _ _ _ h => h) (Or.inl ⟨by rfl, ?_⟩) hHeld ?_
              rotate_left
              · (intro w hSw; (try dsimp only at hSw); go_simp; try with_reducible rfl)
              try simp only [Act.put, List.setIfInBounds_toArray, List.set_cons_zero, List.set_cons_succ]
              refine wpAnyH_take (i := 22) (oi := ⟨_, _, _, _, _, _⟩) (v := ?_) rfl (by kernel_rfl) (by kernel_rfl) (by kernel_rfl) (fun _ _ _ h => h) (Or.inl ⟨by rfl, ?_⟩) hHeld ?_
              rotate_left
              · (intro w hSw; (try dsimp only at hSw); go_simp; try with_reducible rfl)
              try simp only [Act.put, List.setIfInBounds_toArray, List.set_cons_zero, List.set_cons_succ]
              refine wpAnyH_take (i := 23) (oi := ⟨_, _, _, _, _, _⟩) (v := ?_) rfl (by kernel_rfl) (by kernel_rfl) (by kernel_rfl) (fun _ _ _ h => h) (Or.inl ⟨by rfl, ?_⟩) hHeld ?_
              rotate_left
              · (intro w hSw; (try dsimp only at hSw); go_simp; try with_reducible rfl)
              try simp only [Act.put, List.setIfInBounds_toArray, List.set_cons_zero, List.set_cons_succ]
              refine wpAnyH_take (i := 24) (oi := ⟨_, _, _, _, _, _⟩) (v := ?_) rfl (by kernel_rfl) (by kernel_rfl) (by kernel_rfl) (fun _ _ _ h => h) (Or.inl ⟨by rfl, ?_⟩) hHeld ?_
              rotate_left
              · (intro w hSw; (try dsimp only at hSw); go_simp; try with_reducible rfl)
              try simp only [Act.put, List.setIfInBounds_toArray, List.set_cons_zero, List.set_cons_succ]
              refine wpAnyH_take (i := 25) (oi := ⟨_, _, _, _, _, _⟩) (v := ?_) rfl (by kernel_rfl) (by kernel_rfl) (by kernel_rfl) (fun _ _ _ h => h) (Or.inl ⟨by rfl, ?_⟩) hHeld ?_
              rotate_left
              · (intro w hSw; (try dsimp only at hSw); go_simp; try with_reducible rfl)
              try simp only [Act.put, List.setIfInBounds_toArray, List.set_cons_zero, List.set_cons_succ]
              refine wpAnyH_take (i := 26) (oi := ⟨_, _, _, _, _, _⟩) (v := ?_) rfl (by kernel_rfl) (by kernel_rfl) (by kernel_rfl) (fun _ _ _ h => h) (Or.inl ⟨by rfl, ?_⟩) hHeld ?_
              rotate_left
              · (intro w hSw; (try dsimp only at hSw); go_simp; try with_reducible rfl)
              try simp only [Act.put, List.setIfInBounds_toArray, List.set_cons_zero, List.set_cons_succ]
              refine wpAnyH_take (i := 27) (oi := ⟨_, _, _, _, _, _⟩) (v := ?_) rfl (by kernel_rfl) (by kernel_rfl) (by kernel_rfl) (fun _ _ _ h => h) (Or.inl ⟨by rfl, ?_⟩) hHeld ?_
              rotate_left
              · (intro w hSw; (try dsimp only at hSw); go_simp; try with_reducible rfl)
              try simp only [Act.put, List.setIfInBounds_toArray, List.set_cons_zero, List.set_cons_succ]
              refine wpAnyH_take (i := 28) (oi := ⟨_, _, _, _, _, _⟩) (v := ?_) rfl (by kernel_rfl) (by kernel_rfl) (by kernel_rfl) (fun _ _ _ h => h) (Or.inl ⟨by rfl, ?_⟩) hHeld ?_
              rotate_left
              · (intro w hSw; (try dsimp only at hSw); go_simp; try with_reducible rfl)
              try simp only [Act.put, List.setIfInBounds_toArray, List.set_cons_zero, List.set_cons_succ]
              refine wpAnyH_take (i := 29) (oi := ⟨_, _, _, _, _, _⟩) (v := ?_) rfl (by kernel_rfl) (by kernel_rfl) (by kernel_rfl) (fun _ _ _ h => h) (Or.inl ⟨by rfl, ?_⟩) hHeld ?_
              rotate_left
              · (intro w hSw; (try dsimp only at hSw); go_simp; try with_reducible rfl)
              try simp only [Act.put, List.setIfInBounds_toArray, List.set_cons_zero, List.set_cons_succ]
              refine wpAnyH_take (i := 30) (oi := ⟨_, _, _, _, _, _⟩) (v := ?_) rfl (by kernel_rfl) (by kernel_rfl) (by kernel_rfl) (fun _ _ _ h => h) (Or.inl ⟨by rfl, ?_⟩) hHeld ?_
              rotate_left
              · (intro w hSw; (try dsimp only at hSw); go_simp; try with_reducible rfl)
              try simp only [Act.put, List.setIfInBounds_toArray, List.set_cons_zero, List.set_cons_succ]
              refine wpAnyH_take (i := 31) (oi := ⟨_, _, _, _, _, _⟩) (v := ?_) rfl (by kernel_rfl) (by kernel_rfl) (by kernel_rfl) (fun _ _ _ h => h) (Or.inl ⟨by rfl, ?_⟩) hHeld ?_
              rotate_left
              · (intro w hSw; (try dsimp only at hSw); go_simp; try with_reducible rfl)
              try simp only [Act.put, List.setIfInBounds_toArray, List.set_cons_zero, List.set_cons_succ]
              refine wpAnyH_take (i := 32) (oi := ⟨_, _, _, _, _, _⟩) (v := ?_) rfl (by kernel_rfl) (by kernel_rfl) (by kernel_rfl) (fun _ _ _ h => h) (Or.inl ⟨by rfl, ?_⟩) hHeld ?_
              rotate_left
              · (intro w hSw; (try dsimp only at hSw); go_simp; try with_reducible rfl)
              try simp only [Act.put, List.setIfInBounds_toArray, List.set_cons_zero, List.set_cons_succ]
              refine wpAnyH_take (i := 33) (oi := ⟨_, _, _, _, _, _⟩) (v := ?_) rfl (by kernel_rfl) (by kernel_rfl) (by kernel_rfl) (fun _ _ _ h => h) (Or.inl ⟨by rfl, ?_⟩) hHeld ?_
              rotate_left
              · (intro w hSw; (try dsimp only at hSw); go_simp; try with_reducible rfl)
              try simp only [Act.put, List.setIfInBounds_toArray, List.set_cons_zero, List.set_cons_succ]
              refine wpAnyH_take (i := 34) (oi := ⟨_, _, _, _, _, _⟩) (v := ?_) rfl (by kernel_rfl) (by kernel_rfl) (by kernel_rfl) (fun _ _ _ h => h) (Or.inl ⟨by rfl, ?_⟩) hHeld ?_
              rotate_left
              · (intro w hSw; (try dsimp only at hSw); go_simp; try with_reducible rfl)
              try simp only [Act.put, List.setIfInBounds_toArray, List.set_cons_zero, List.set_cons_succ]
              refine wpAnyH_ready (rs := [35]) (by kernel_rfl) (by simp) ?_
              refine AllReadyH.cons (o := ⟨_, _, _, _, _, _⟩) rfl (fun K hK => ?_) AllReadyH.nil
              go_simp
              (refine (KM.out _ hbr).mono ?_; rintro e w1 ⟨rfl, hB1⟩; replace hbr := below2 hbr hB1)
              refine hK.out _ _ (HC.out _ hbr) (fun hHeld => ?_)
              clear hK K
              try simp only [Act.put, List.setIfInBounds_toArray, List.set_cons_zero, List.set_cons_succ]
              refine wpAnyH_take (i := 36) (oi := ⟨_, _, _, _, _, _⟩) (v := ?_) rfl (by kernel_rfl) (by kernel_rfl) (by kernel_rfl) (fun _ _ _ h => h) (Or.inl ⟨by rfl, ?_⟩) hHeld ?_
              rotate_left
              · (intro w hSw; (try dsimp only at hSw); go_simp; try with_reducible rfl)
              try simp only [Act.put, List.setIfInBounds_toArray, List.set_cons_zero, List.set_cons_succ]
              refine wpAnyH_take (i := 37) (oi := ⟨_, _, _, _, _, _⟩) (v := ?_) rfl (by kernel_rfl) (by kernel_rfl) (by kernel_rfl) (fun _ _ _ h => h) (Or.inl ⟨by rfl, ?_⟩) hHeld ?_
              rotate_left
              · (intro w hSw; (try dsimp only at hSw); go_simp; try with_reducible rfl)
              try simp only [Act.put, List.setIfInBounds_toArray, List.set_cons_zero, List.set_cons_succ]
              refine wpAnyH_done (by kernel_rfl) ?_ _

              go_wp2_with fail
              go_roundw
              case rel => exact ⟨k + 1, by go_num, by omega, HN, Lib.hid (below2 hBr.out hbr)⟩
              case measure => simp [intOf]; omega
            | false =>
              have KM := Lib.hid (hm ▸ HKM.out)
              have HN : Hid ((chs S == chs T) = false) := Lib.hid (HR.out.1 (fun e => by
                have e2 : (z, d, cs) = (z', d', cs') := by
                  simp only [Prod.mk.injEq] at e ⊢
                  exact e.2.2
                rw [sameM_iff.2 e2] at hm
                cases hm))
              clear hm HKM HR HQ HG
              go_wp2_with fail
              refine wp_region_held_drew (S := (fun w' => (w'.cell? ⟨b, off + k * 5, none⟩ = some (.string ⟨q.toArray⟩) ∧ w'.cell? ⟨b, off + k * 5 + 1, none⟩ = some (.bool g) ∧ w'.cell? ⟨b, off + k * 5 + 2, none⟩ = some (.int .i64 z) ∧ w'.cell? ⟨b, off + k * 5 + 3, none⟩ = some (.int .i64 d) ∧ w'.cell? ⟨b, off + k * 5 + 4, none⟩ = some (.slice s1 s2 s3)) ∧ (w'.cell? ⟨b', off' + k * 5, none⟩ = some (.string ⟨q'.toArray⟩) ∧ w'.cell? ⟨b', off' + k * 5 + 1, none⟩ = some (.bool g') ∧ w'.cell? ⟨b', off' + k * 5 + 2, none⟩ = some (.int .i64 z') ∧ w'.cell? ⟨b', off' + k * 5 + 3, none⟩ = some (.int .i64 d') ∧ w'.cell? ⟨b', off' + k * 5 + 4, none⟩ = some (.slice t1 t2 t3)))) (by kernel_rfl) (HC.out _ hbr) (fun hHeld => ?_)
              refine wpAnyH_take (i := 0) (oi := ⟨_, _, _, _, _, _⟩) (v := ?_) rfl (by kernel_rfl) (by kernel_rfl) (by kernel_rfl) (fun _ _ _ h => h) (Or.inl ⟨by rfl, ?_⟩) hHeld ?_
              rotate_left
              · (intro w hSw; (try dsimp only at hSw); go_simp; try with_reducible rfl)
              try simp only [Act.put, List.setIfInBounds_toArray, List.set_cons_zero, List.set_cons_succ]
              refine wpAnyH_take (i := 1) (oi := ⟨_, _, _, _, _, _⟩) (v := ?_) rfl (by kernel_rfl) (by kernel_rfl) (by kernel_rfl) (fun _ _ _ h => h) (Or.inl ⟨by rfl, ?_⟩) hHeld ?_
              rotate_left
              · (intro w hSw; (try dsimp only at hSw); go_simp; try with_reducible rfl)
              try simp only [Act.put, List.setIfInBounds_toArray, List.set_cons_zero, List.set_cons_succ]
              refine wpAnyH_take (i := 2) (oi := ⟨_, _, _, _, _, _⟩) (v := ?_) rfl (by kernel_rfl) (by kernel_rfl) (by kernel_rfl) (fun _ _ _ h => h) (Or.inl ⟨by rfl, ?_⟩) hHeld ?_
              rotate_left
              · (intro w hSw; (try dsimp only at hSw); go_simp; try with_reducible rfl)
              try simp only [Act.put, List.setIfInBounds_toArray, List.set_cons_zero, List.set_cons_succ]
              refine wpAnyH_take (i := 3) (oi := ⟨_, _, _, _, _, _⟩) (v := ?_) rfl (by kernel_rfl) (by kernel_rfl) (by kernel_rfl) (fun _ _ _ h => h) (Or.inl ⟨by rfl, ?_⟩) hHeld ?_
              rotate_left
              · (intro w hSw; (try dsimp only at hSw); go_simp; try with_reducible rfl)
              try simp only [Act.put, List.setIfInBounds_toArray, List.set_cons_zero, List.set_cons_succ]
              refine wpAnyH_take (i := 4) (oi := ⟨_, _, _, _, _, _⟩) (v := ?_) rfl (by kernel_rfl) (by kernel_rfl) (by kernel_rfl) (fun _ _ _ h => h) (Or.inl ⟨by rfl, ?_⟩) hHeld ?_
              rotate_left
              · (intro w hSw; (try dsimp only at hSw); go_simp; try with_reducible rfl)
              try simp only [Act.put, List.setIfInBounds_toArray, List.set_cons_zero, List.set_cons_succ]
              refine wpAnyH_take (i := 5) (oi := ⟨_, _, _, _, _, _⟩) (v := ?_) rfl (by kernel_rfl) (by kernel_rfl) (by kernel_rfl) (fun _ _ _ h => h) (Or.inl ⟨by rfl, ?_⟩) hHeld ?_
              rotate_left
              · (intro w hSw; (try dsimp only at hSw); go_simp; try with_reducible rfl)
              try simp only [Act.put, List.setIfInBounds_toArray, List.set_cons_zero, List.set_cons_succ]
              refine wpAnyH_take (i := 6) (oi := ⟨_, _, _, _, _, _⟩) (v := ?_) rfl (by kernel_rfl) (by kernel_rfl) (by kernel_rfl) (fun _ _ _ h => h) (Or.inl ⟨by rfl, ?_⟩) hHeld ?_
              rotate_left
              · (intro w hSw; (try dsimp only at hSw); go_simp; try with_reducible rfl)
              try simp only [Act.put, List.setIfInBounds_toArray, List.set_cons_zero, List.set_cons_succ]
              refine wpAnyH_take (i := 7) (oi := ⟨_, _, _, _, _, _⟩) (v := ?_) rfl (by kernel_rfl) (by kernel_rfl) (by kernel_rfl) (fun _ _ _ h => h) (Or.inl ⟨by rfl, ?_⟩) hHeld ?_
              rotate_left
              · (intro w hSw; (try dsimp only at hSw); go_simp; try with_reducible rfl)
              try simp only [Act.put, List.setIfInBounds_toArray, List.set_cons_zero, List.set_cons_succ]
              refine wpAnyH_take (i := 8) (oi := ⟨_, _, _, _, _, _⟩) (v := ?_) rfl (by kernel_rfl) (by kernel_rfl) (by kernel_rfl) (fun _ _ _ h => h) (Or.inl ⟨by rfl, ?_⟩) hHeld ?_
              rotate_left
              · (intro w hSw; (try dsimp only at hSw); go_simp; try with_reducible rfl)
              try simp only [Act.put, List.setIfInBounds_toArray, List.set_cons_zero, List.set_cons_succ]
              refine wpAnyH_take (i := 9) (oi := ⟨_, _, _, _, _, _⟩) (v := ?_) rfl (by kernel_rfl) (by kernel_rfl) (by kernel_rfl) (fun _ _ _ h => h) (Or.inl ⟨by rfl, ?_⟩) hHeld ?_
              rotate_left
              · (intro w hSw; (try dsimp only at hSw); go_simp; try with_reducible rfl)
              try simp only [Act.put, List.setIfInBounds_toArray, List.set_cons_zero, List.set_cons_succ]
              refine wpAnyH_take (i := 10) (oi := ⟨_, _, _, _, _, _⟩) (v := ?_) rfl (by kernel_rfl) (by kernel_rfl) (by kernel_rfl) (fun _ _ _ h => h) (Or.inl ⟨by rfl, ?_⟩) hHeld ?_
              rotate_left
              · (intro w hSw; (try dsimp only at hSw); go_simp; try with_reducible rfl)
              try simp only [Act.put, List.setIfInBounds_toArray, List.set_cons_zero, List.set_cons_succ]
              refine wpAnyH_take (i := 11) (oi := ⟨_, _, _, _, _, _⟩) (v := ?_) rfl (by kernel_rfl) (by kernel_rfl) (by kernel_rfl) (fun _ _ _ h => h) (Or.inl ⟨by rfl, ?_⟩) hHeld ?_
              rotate_left
              · (intro w hSw; (try dsimp only at hSw); go_simp; try with_reducible rfl)
              try simp only [Act.put, List.setIfInBounds_toArray, List.set_cons_zero, List.set_cons_succ]
              refine wpAnyH_take (i := 12) (oi := ⟨_, _, _, _, _, _⟩) (v := ?_) rfl (by kernel_rfl) (by kernel_rfl) (by kernel_rfl) (fun _ _ _ h => h) (Or.inl ⟨by rfl, ?_⟩) hHeld ?_
              rotate_left
              · (intro w hSw; (try dsimp only at hSw); go_simp; try with_reducible rfl)
              try simp only [Act.put, List.setIfInBounds_toArray, List.set_cons_zero, List.set_cons_succ]
              refine wpAnyH_take (i := 13) (oi := ⟨_, _, _, _, _, _⟩) (v := ?_) rfl (by kernel_rfl) (by kernel_rfl) (by kernel_rfl) (fun _ _ _ h => h) (Or.inl ⟨by rfl, ?_⟩) hHeld ?_
              rotate_left
              · (intro w hSw; (try dsimp only at hSw); go_simp; try with_reducible rfl)
              try simp only [Act.put, List.setIfInBounds_toArray, List.set_cons_zero, List.set_cons_succ]
              refine wpAnyH_take (i := 14) (oi := ⟨_, _, _, _, _, _⟩) (v := ?_) rfl (by kernel_rfl) (by kernel_rfl) (by kernel_rfl) (fun _ _ _ h => h) (Or.inl ⟨by rfl, ?_⟩) hHeld ?_
              rotate_left
              · (intro w hSw; (try dsimp only at hSw); go_simp; try with_reducible rfl)
              try simp only [Act.put, List.setIfInBounds_toArray, List.set_cons_zero, List.set_cons_succ]
              refine wpAnyH_take (i := 15) (oi := ⟨_, _, _, _, _, _⟩) (v := ?_) rfl (by kernel_rfl) (by kernel_rfl) (by kernel_rfl) (fun _ _ _ h => h) (Or.inl ⟨by rfl, ?_⟩) hHeld ?_
              rotate_left
              · (intro w hSw; (try dsimp only at hSw); go_simp; try with_reducible rfl)
              try simp only [Act.put, List.setIfInBounds_toArray, List.set_cons_zero, List.set_cons_succ]
              refine wpAnyH_take (i := 16) (oi := ⟨_, _, _, _, _, _⟩) (v := ?_) rfl (by kernel_rfl) (by kernel_rfl) (by kernel_rfl) (fun _ _ _ h => h) (Or.inl ⟨by rfl, ?_⟩) hHeld ?_
              rotate_left
              · (intro w hSw; (try dsimp only at hSw); go_simp; try with_reducible rfl)
              try simp only [Act.put, List.setIfInBounds_toArray, List.set_cons_zero, List.set_cons_succ]
              refine wpAnyH_take (i := 17) (oi := ⟨_, _, _, _, _, _⟩) (v := ?_) rfl (by kernel_rfl) (by kernel_rfl) (by kernel_rfl) (fun _ _ _ h => h) (Or.inl ⟨by rfl, ?_⟩) hHeld ?_
              rotate_left
              · (intro w hSw; (try dsimp only at hSw); go_simp; try with_reducible rfl)
              try simp only [Act.put, List.setIfInBounds_toArray, List.set_cons_zero, List.set_cons_succ]
              refine wpAnyH_take (i := 18) (oi := ⟨_, _, _, _, _, _⟩) (v := ?_) rfl (by kernel_rfl) (by kernel_rfl) (by kernel_rfl) (fun _ _ _ h => h) (Or.inl ⟨by rfl, ?_⟩) hHeld ?_
              rotate_left
              · (intro w hSw; (try dsimp only at hSw); go_simp; try with_reducible rfl)
              try simp only [Act.put, List.setIfInBounds_toArray, List.set_cons_zero, List.set_cons_succ]
              refine wpAnyH_take (i := 19) (oi := ⟨_, _, _, _, _, _⟩) (v := ?_) rfl (by kernel_rfl) (by kernel_rfl) (by kernel_rfl) (fun _ _ _ h => h) (Or.inl ⟨by rfl, ?_⟩) hHeld ?_
              rotate_left
              · (intro w hSw; (try dsimp only at hSw); go_simp; try with_reducible rfl)
              try simp only [Act.put, List.setIfInBounds_toArray, List.set_cons_zero, List.set_cons_succ]
              refine wpAnyH_take (i := 20) (oi := ⟨_, _, _, _, _, _⟩) (v := ?_) rfl (by kernel_rfl) (by kernel_rfl) (by kernel_rfl) (fun _ _ _ h => h) (Or.inl ⟨by rfl, ?_⟩) hHeld ?_
              rotate_left
              · (intro w hSw; (try dsimp only at hSw); go_simp; try with_reducible rfl)
              try simp only [Act.put, List.setIfInBounds_toArray, List.set_cons_zero, List.set_cons_succ]
              refine wpAnyH_take (i := 21) (oi := ⟨_, _, _, _, _, _⟩) (v := ?_) rfl (by kernel_rfl) (by kernel_rfl) (by kernel_rfl) (fun _ _ _ h => h) (Or.inl ⟨by rfl, ?_⟩) hHeld ?_
              rotate_left
              · (intro w hSw; (try dsimp only at hSw); go_simp; try with_reducible rfl)
              try simp only [Act.put, List.setIfInBounds_toArray, List.set_cons_zero, List.set_cons_succ]
              refine wpAnyH_take (i := 22) (oi := ⟨_, _, _, _, _, _⟩) (v := ?_) rfl (by kernel_rfl) (by kernel_rfl) (by kernel_rfl) (fun _ _ _ h => h) (Or.inl ⟨by rfl, ?_⟩) hHeld ?_
              rotate_left
              · (intro w hSw; (try dsimp only at hSw); go_simp; try with_reducible rfl)
              try simp only [Act.put, List.setIfInBounds_toArray, List.set_cons_zero, List.set_cons_succ]
              refine wpAnyH_take (i := 23) (oi := ⟨_, _, _, _, _, _⟩) (v := ?_) rfl (by kernel_rfl) (by kernel_rfl) (by kernel_rfl) (fun _ _ _ h => h) (Or.inl ⟨by rfl, ?_⟩) hHeld ?_
              rotate_left
              · (intro w hSw; (try dsimp only at hSw); go_simp; try with_reducible rfl)
              try simp only [Act.put, List.setIfInBounds_toArray, List.set_cons_zero, List.set_cons_succ]
              refine wpAnyH_take (i := 24) (oi := ⟨_, _, _, _, _, _⟩) (v := ?_) rfl (by kernel_rfl) (by kernel_rfl) (by kernel_rfl) (fun _ _ _ h => h) (Or.inl ⟨by rfl, ?_⟩) hHeld ?_
              rotate_left
              · (intro w hSw; (try dsimp only at hSw); go_simp; try with_reducible rfl)
              try simp only [Act.put, List.setIfInBounds_toArray, List.set_cons_zero, List.set_cons_succ]
              refine wpAnyH_take (i := 25) (oi := ⟨_, _, _, _, _, _⟩) (v := ?_) rfl (by kernel_rfl) (by kernel_rfl) (by kernel_rfl) (fun _ _ _ h => h) (Or.inl ⟨by rfl, ?_⟩) hHeld ?_
              rotate_left
              · (intro w hSw; (try dsimp only at hSw); go_simp; try with_reducible rfl)
              try simp only [Act.put, List.setIfInBounds_toArray, List.set_cons_zero, List.set_cons_succ]
              refine wpAnyH_take (i := 26) (oi := ⟨_, _, _, _, _, _⟩) (v := ?_) rfl (by kernel_rfl) (by kernel_rfl) (by kernel_rfl) (fun _ _ _ h => h) (Or.inl ⟨by rfl, ?_⟩) hHeld ?_
              rotate_left
              · (intro w hSw; (try dsimp only at hSw); go_simp; try with_reducible rfl)
              try simp only [Act.put, List.setIfInBounds_toArray, List.set_cons_zero, List.set_cons_succ]
              refine wpAnyH_take (i := 27) (oi := ⟨_, _, _, _, _, _⟩) (v := ?_) rfl (by kernel_rfl) (by kernel_rfl) (by kernel_rfl) (fun _ _ _ h => h) (Or.inl ⟨by rfl, ?_⟩) hHeld ?_
              rotate_left
              · (intro w hSw; (try dsimp only at hSw); go_simp; try with_reducible rfl)
              try simp only [Act.put, List.setIfInBounds_toArray, List.set_cons_zero, List.set_cons_succ]
              refine wpAnyH_take (i := 28) (oi := ⟨_, _, _, _, _, _⟩) (v := ?_) rfl (by kernel_rfl) (by kernel_rfl) (by kernel_rfl) (fun _ _ _ h => h) (Or.inl ⟨by rfl, ?_⟩) hHeld ?_
              rotate_left
              · (intro w hSw; (try dsimp only at hSw); go_simp; try with_reducible rfl)
              try simp only [Act.put, List.setIfInBounds_toArray, List.set_cons_zero, List.set_cons_succ]
              refine wpAnyH_take (i := 29) (oi := ⟨_, _, _, _, _, _⟩) (v := ?_) rfl (by kernel_rfl) (by kernel_rfl) (by kernel_rfl) (fun _ _ _ h => h) (Or.inl ⟨by rfl, ?_⟩) hHeld ?_
              rotate_left
              · (intro w hSw; (try dsimp only at hSw); go_simp; try with_reducible rfl)
              try simp only [Act.put, List.setIfInBounds_toArray, List.set_cons_zero, List.set_cons_succ]
              refine wpAnyH_take (i := 30) (oi := ⟨_, _, _, _, _, _⟩) (v := ?_) rfl (by kernel_rfl) (by kernel_rfl) (by kernel_rfl) (fun _ _ _ h => h) (Or.inl ⟨by rfl, ?_⟩) hHeld ?_
              rotate_left
              · (intro w hSw; (try dsimp only at hSw); go_simp; try with_reducible rfl)
              try simp only [Act.put, List.setIfInBounds_toArray, List.set_cons_zero, List.set_cons_succ]
              refine wpAnyH_take (i := 31) (oi := ⟨_, _, _, _, _, _⟩) (v := ?_) rfl (by kernel_rfl) (by kernel_rfl) (by kernel_rfl) (fun _ _ _ h => h) (Or.inl ⟨by rfl, ?_⟩) hHeld ?_
              rotate_left
              · (intro w hSw; (try dsimp only at hSw); go_simp; try with_reducible rfl)
              try simp only [Act.put, List.setIfInBounds_toArray, List.set_cons_zero, List.set_cons_succ]
              refine wpAnyH_take (i := 32) (oi := ⟨_, _, _, _, _, _⟩) (v := ?_) rfl (by kernel_rfl) (by kernel_rfl) (by kernel_rfl) (fun _ _ _ h => h) (Or.inl ⟨by rfl, ?_⟩) hHeld ?_
              rotate_left
              · (intro w hSw; (try dsimp only at hSw); go_simp; try with_reducible rfl)
              try simp only [Act.put, List.setIfInBounds_toArray, List.set_cons_zero, List.set_cons_succ]
              refine wpAnyH_take (i := 33) (oi := ⟨_, _, _, _, _, _⟩) (v := ?_) rfl (by kernel_rfl) (by kernel_rfl) (by kernel_rfl) (fun _ _ _ h => h) (Or.inl ⟨by rfl, ?_⟩) hHeld ?_
              rotate_left
              · (intro w hSw; (try dsimp only at hSw); go_simp; try with_reducible rfl)
              try simp only [Act.put, List.setIfInBounds_toArray, List.set_cons_zero, List.set_cons_succ]
              refine wpAnyH_take (i := 34) (oi := ⟨_, _, _, _, _, _⟩) (v := ?_) rfl (by kernel_rfl) (by kernel_rfl) (by kernel_rfl) (fun _ _ _ h => h) (Or.inl ⟨by rfl, ?_⟩) hHeld ?_
              rotate_left
              · (intro w hSw; (try dsimp only at hSw); go_simp; try with_reducible rfl)
              try simp only [Act.put, List.setIfInBounds_toArray, List.set_cons_zero, List.set_cons_succ]
              refine wpAnyH_ready (rs := [35]) (by kernel_rfl) (by simp) ?_
              refine AllReadyH.cons (o := ⟨_, _, _, _, _, _⟩) rfl (fun K hK => ?_) AllReadyH.nil
              go_simp
              (refine (KM.out _ hbr).mono ?_; rintro e w1 ⟨rfl, hB1⟩; replace hbr := below2 hbr hB1)
              refine hK.out _ _ (HC.out _ hbr) (fun hHeld => ?_)
              clear hK K
              try simp only [Act.put, List.setIfInBounds_toArray, List.set_cons_zero, List.set_cons_succ]
              refine wpAnyH_take (i := 36) (oi := ⟨_, _, _, _, _, _⟩) (v := ?_) rfl (by kernel_rfl) (by kernel_rfl) (by kernel_rfl) (fun _ _ _ h => h) (Or.inl ⟨by rfl, ?_⟩) hHeld ?_
              rotate_left
              · (intro w hSw; (try dsimp only at hSw); go_simp; try with_reducible rfl)
              try simp only [Act.put, List.setIfInBounds_toArray, List.set_cons_zero, List.set_cons_succ]
              refine wpAnyH_take (i := 37) (oi := ⟨_, _, _, _, _, _⟩) (v := ?_) rfl (by kernel_rfl) (by kernel_rfl) (by kernel_rfl) (fun _ _ _ h => h) (Or.inl ⟨by rfl, ?_⟩) hHeld ?_
              rotate_left
              · (intro w hSw; (try dsimp only at hSw); go_simp; try with_reducible rfl)
              try simp only [Act.put, List.setIfInBounds_toArray, List.set_cons_zero, List.set_cons_succ]
              refine wpAnyH_done (by kernel_rfl) ?_ _

              go_wp2_with fail
              go_ret
              exact ⟨by rw [HN.out]; rfl, below2 hBr.out hbr⟩
          · have hge : (g == g') = false := by simpa using hg
            have HN : Hid ((chs S == chs T) = false) := Lib.hid (HR.out.1 (fun e => hg (by
              simp only [Prod.mk.injEq] at e
              exact e.2.1)))
            clear hg HKM HR HQ
            go_wp2_with fail
            refine wp_region_held_drew (S := (fun w' => (w'.cell? ⟨b, off + k * 5, none⟩ = some (.string ⟨q.toArray⟩) ∧ w'.cell? ⟨b, off + k * 5 + 1, none⟩ = some (.bool g) ∧ w'.cell? ⟨b, off + k * 5 + 2, none⟩ = some (.int .i64 z) ∧ w'.cell? ⟨b, off + k * 5 + 3, none⟩ = some (.int .i64 d) ∧ w'.cell? ⟨b, off + k * 5 + 4, none⟩ = some (.slice s1 s2 s3)) ∧ (w'.cell? ⟨b', off' + k * 5, none⟩ = some (.string ⟨q'.toArray⟩) ∧ w'.cell? ⟨b', off' + k * 5 + 1, none⟩ = some (.bool g') ∧ w'.cell? ⟨b', off' + k * 5 + 2, none⟩ = some (.int .i64 z') ∧ w'.cell? ⟨b', off' + k * 5 + 3, none⟩ = some (.int .i64 d') ∧ w'.cell? ⟨b', off' + k * 5 + 4, none⟩ = some (.slice t1 t2 t3)))) (by kernel_rfl) (HC.out _ hbr) (fun hHeld => ?_)
            refine wpAnyH_take (i := 0) (oi := ⟨_, _, _, _, _, _⟩) (v := ?_) rfl (by kernel_rfl) (by kernel_rfl) (by kernel_rfl) (fun _ _ _ h => h) (Or.inl ⟨by rfl, ?_⟩) hHeld ?_
            rotate_left
            · (intro w hSw; (try dsimp only at hSw); go_simp; try with_reducible rfl)
            try simp only [Act.put, List.setIfInBounds_toArray, List.set_cons_zero, List.set_cons_succ]
            refine wpAnyH_take (i := 1) (oi := ⟨_, _, _, _, _, _⟩) (v := ?_) rfl (by kernel_rfl) (by kernel_rfl) (by kernel_rfl) (fun _ _ _ h => h) (Or.inl ⟨by rfl, ?_⟩) hHeld ?_
            rotate_left
            · (intro w hSw; (try dsimp only at hSw); go_simp; try with_reducible rfl)
            try simp only [Act.put, List.setIfInBounds_toArray, List.set_cons_zero, List.set_cons_succ]
            refine wpAnyH_take (i := 2) (oi := ⟨_, _, _, _, _, _⟩) (v := ?_) rfl (by kernel_rfl) (by kernel_rfl) (by kernel_rfl) (fun _ _ _ h => h) (Or.inl ⟨by rfl, ?_⟩) hHeld ?_
            rotate_left
            · (intro w hSw; (try dsimp only at hSw); go_simp; try with_reducible rfl)
            try simp only [Act.put, List.setIfInBounds_toArray, List.set_cons_zero, List.set_cons_succ]
            refine wpAnyH_take (i := 3) (oi := ⟨_, _, _, _, _, _⟩) (v := ?_) rfl (by kernel_rfl) (by kernel_rfl) (by kernel_rfl) (fun _ _ _ h => h) (Or.inl ⟨by rfl, ?_⟩) hHeld ?_
            rotate_left
            · (intro w hSw; (try dsimp only at hSw); go_simp; try with_reducible rfl)
            try simp only [Act.put, List.setIfInBounds_toArray, List.set_cons_zero, List.set_cons_succ]
            refine wpAnyH_take (i := 4) (oi := ⟨_, _, _, _, _, _⟩) (v := ?_) rfl (by kernel_rfl) (by kernel_rfl) (by kernel_rfl) (fun _ _ _ h => h) (Or.inl ⟨by rfl, ?_⟩) hHeld ?_
            rotate_left
            · (intro w hSw; (try dsimp only at hSw); go_simp; try with_reducible rfl)
            try simp only [Act.put, List.setIfInBounds_toArray, List.set_cons_zero, List.set_cons_succ]
            refine wpAnyH_take (i := 5) (oi := ⟨_, _, _, _, _, _⟩) (v := ?_) rfl (by kernel_rfl) (by kernel_rfl) (by kernel_rfl) (fun _ _ _ h => h) (Or.inl ⟨by rfl, ?_⟩) hHeld ?_
            rotate_left
            · (intro w hSw; (try dsimp only at hSw); go_simp; try with_reducible rfl)
            try simp only [Act.put, List.setIfInBounds_toArray, List.set_cons_zero, List.set_cons_succ]
            refine wpAnyH_take (i := 6) (oi := ⟨_, _, _, _, _, _⟩) (v := ?_) rfl (by kernel_rfl) (by kernel_rfl) (by kernel_rfl) (fun _ _ _ h => h) (Or.inl ⟨by rfl, ?_⟩) hHeld ?_
            rotate_left
            · (intro w hSw; (try dsimp only at hSw); go_simp; try with_reducible rfl)
            try simp only [Act.put, List.setIfInBounds_toArray, List.set_cons_zero, List.set_cons_succ]
            refine wpAnyH_take (i := 7) (oi := ⟨_, _, _, _, _, _⟩) (v := ?_) rfl (by kernel_rfl) (by kernel_rfl) (by kernel_rfl) (fun _ _ _ h => h) (Or.inl ⟨by rfl, ?_⟩) hHeld ?_
            rotate_left
            · (intro w hSw; (try dsimp only at hSw); go_simp; try with_reducible rfl)
            try simp only [Act.put, List.setIfInBounds_toArray, List.set_cons_zero, List.set_cons_succ]
            refine wpAnyH_take (i := 8) (oi := ⟨_, _, _, _, _, _⟩) (v := ?_) rfl (by kernel_rfl) (by kernel_rfl) (by kernel_rfl) (fun _ _ _ h => h) (Or.inl ⟨by rfl, ?_⟩) hHeld ?_
            rotate_left
            · (intro w hSw; (try dsimp only at hSw); go_simp; try with_reducible rfl)
            try simp only [Act.put, List.setIfInBounds_toArray, List.set_cons_zero, List.set_cons_succ]
            refine wpAnyH_take (i := 9) (oi := ⟨_, _, _, _, _, _⟩) (v := ?_) rfl (by kernel_rfl) (by kernel_rfl) (by kernel_rfl) (fun _ _ _ h => h) (Or.inl ⟨by rfl, ?_⟩) hHeld ?_
            rotate_left
            · (intro w hSw; (try dsimp only at hSw); go_simp; try with_reducible rfl)
            try simp only [Act.put, List.setIfInBounds_toArray, List.set_cons_zero, List.set_cons_succ]
            refine wpAnyH_take (i := 10) (oi := ⟨_, _, _, _, _, _⟩) (v := ?_) rfl (by kernel_rfl) (by kernel_rfl) (by kernel_rfl) (fun _ _ _ h => h) (Or.inl ⟨by rfl, ?_⟩) hHeld ?_
            rotate_left
            · (intro w hSw; (try dsimp only at hSw); go_simp; try with_reducible rfl)
            try simp only [Act.put, List.setIfInBounds_toArray, List.set_cons_zero, List.set_cons_succ]
            refine wpAnyH_take (i := 11) (oi := ⟨_, _, _, _, _, _⟩) (v := ?_) rfl (by kernel_rfl) (by kernel_rfl) (by kernel_rfl) (fun _ _ _ h => h) (Or.inl ⟨by rfl, ?_⟩) hHeld ?_
            rotate_left
            · (intro w hSw; (try dsimp only at hSw); go_simp; try with_reducible rfl)
            try simp only [Act.put, List.setIfInBounds_toArray, List.set_cons_zero, List.set_cons_succ]
            refine wpAnyH_take (i := 12) (oi := ⟨_, _, _, _, _, _⟩) (v := ?_) rfl (by kernel_rfl) (by kernel_rfl) (by kernel_rfl) (fun _ _ _ h => h) (Or.inl ⟨by rfl, ?_⟩) hHeld ?_
            rotate_left
            · (intro w hSw; (try dsimp only at hSw); go_simp; try with_reducible rfl)
            try simp only [Act.put, List.setIfInBounds_toArray, List.set_cons_zero, List.set_cons_succ]
            refine wpAnyH_take (i := 13) (oi := ⟨_, _, _, _, _, _⟩) (v := ?_) rfl (by kernel_rfl) (by kernel_rfl) (by kernel_rfl) (fun _ _ _ h => h) (Or.inl ⟨by rfl, ?_⟩) hHeld ?_
            rotate_left
            · (intro w hSw; (try dsimp only at hSw); go_simp; try with_reducible rfl)
            try simp only [Act.put, List.setIfInBounds_toArray, List.set_cons_zero, List.set_cons_succ]
            refine wpAnyH_take (i := 14) (oi := ⟨_, _, _, _, _, _⟩) (v := ?_) rfl (by kernel_rfl) (by kernel_rfl) (by kernel_rfl) (fun _ _ _ h => h) (Or.inl ⟨by rfl, ?_⟩) hHeld ?_
            rotate_left
            · (intro w hSw; (try dsimp only at hSw); go_simp; try with_reducible rfl)
            try simp only [Act.put, List.setIfInBounds_toArray, List.set_cons_zero, List.set_cons_succ]
            refine wpAnyH_take (i := 15) (oi := ⟨_, _, _, _, _, _⟩) (v := ?_) rfl (by kernel_rfl) (by kernel_rfl) (by kernel_rfl) (fun _ _ _ h => h) (Or.inl ⟨by rfl, ?_⟩) hHeld ?_
            rotate_left
            · (intro w hSw; (try dsimp only at hSw); go_simp; try with_reducible rfl)
            try simp only [Act.put, List.setIfInBounds_toArray, List.set_cons_zero, List.set_cons_succ]
            refine wpAnyH_take (i := 16) (oi := ⟨_, _, _, _, _, _⟩) (v := ?_) rfl (by kernel_rfl) (by kernel_rfl) (by kernel_rfl) (fun _ _ _ h => h) (Or.inl ⟨by rfl, ?_⟩) hHeld ?_
            rotate_left
            · (intro w hSw; (try dsimp only at hSw); go_simp; try with_reducible rfl)
            try simp only [Act.put, List.setIfInBounds_toArray, List.set_cons_zero, List.set_cons_succ]
            refine wpAnyH_take (i := 17) (oi := ⟨_, _, _, _, _, _⟩) (v := ?_) rfl (by kernel_rfl) (by kernel_rfl) (by kernel_rfl) (fun _ _ _ h => h) (Or.inl ⟨by rfl, ?_⟩) hHeld ?_
            rotate_left
            · (intro w hSw; (try dsimp only at hSw); go_simp; try with_reducible rfl)
            try simp only [Act.put, List.setIfInBounds_toArray, List.set_cons_zero, List.set_cons_succ]
            refine wpAnyH_take (i := 18) (oi := ⟨_, _, _, _, _, _⟩) (v := ?_) rfl (by kernel_rfl) (by kernel_rfl) (by kernel_rfl) (fun _ _ _ h => h) (Or.inl ⟨by rfl, ?_⟩) hHeld ?_
            rotate_left
            · (intro w hSw; (try dsimp only at hSw); go_simp; try with_reducible rfl)
            try simp only [Act.put, List.setIfInBounds_toArray, List.set_cons_zero, List.set_cons_succ]
            refine wpAnyH_take (i := 19) (oi := ⟨_, _, _, _, _, _⟩) (v := ?_) rfl (by kernel_rfl) (by kernel_rfl) (by kernel_rfl) (fun _ _ _ h => h) (Or.inl ⟨by rfl, ?_⟩) hHeld ?_
            rotate_left
            · (intro w hSw; (try dsimp only at hSw); go_simp; try with_reducible rfl)
            try simp only [Act.put, List.setIfInBounds_toArray, List.set_cons_zero, List.set_cons_succ]
            refine wpAnyH_take (i := 20) (oi := ⟨_, _, _, _, _, _⟩) (v := ?_) rfl (by kernel_rfl) (by kernel_rfl) (by kernel_rfl) (fun _ _ _ h => h) (Or.inl ⟨by rfl, ?_⟩) hHeld ?_
            rotate_left
            · (intro w hSw; (try dsimp only at hSw); go_simp; try with_reducible rfl)
            try simp only [Act.put, List.setIfInBounds_toArray, List.set_cons_zero, List.set_cons_succ]
            refine wpAnyH_take (i := 21) (oi := ⟨_, _, _, _, _, _⟩) (v := ?_) rfl (by kernel_rfl) (by kernel_rfl) (by kernel_rfl) (fun _ _ _ h => h) (Or.inl ⟨by rfl, ?_⟩) hHeld ?_
            rotate_left
            · (intro w hSw; (try dsimp only at hSw); go_simp; try with_reducible rfl)
            try simp only [Act.put, List.setIfInBounds_toArray, List.set_cons_zero, List.set_cons_succ]
            refine wpAnyH_take (i := 22) (oi := ⟨_, _, _, _, _, _⟩) (v := ?_) rfl (by kernel_rfl) (by kernel_rfl) (by kernel_rfl) (fun _ _ _ h => h) (Or.inl ⟨by rfl, ?_⟩) hHeld ?_
            rotate_left
            · (intro w hSw; (try dsimp only at hSw); go_simp; try with_reducible rfl)
            try simp only [Act.put, List.setIfInBounds_toArray, List.set_cons_zero, List.set_cons_succ]
            refine wpAnyH_take (i := 23) (oi := ⟨_, _, _, _, _, _⟩) (v := ?_) rfl (by kernel_rfl) (by kernel_rfl) (by kernel_rfl) (fun _ _ _ h => h) (Or.inl ⟨by rfl, ?_⟩) hHeld ?_
            rotate_left
            · (intro w hSw; (try dsimp only at hSw); go_simp; try with_reducible rfl)
            try simp only [Act.put, List.setIfInBounds_toArray, List.set_cons_zero, List.set_cons_succ]
            refine wpAnyH_take (i := 24) (oi := ⟨_, _, _, _, _, _⟩) (v := ?_) rfl (by kernel_rfl) (by kernel_rfl) (by kernel_rfl) (fun _ _ _ h => h) (Or.inl ⟨by rfl, ?_⟩) hHeld ?_
            rotate_left
            · (intro w hSw; (try dsimp only at hSw); go_simp; try with_reducible rfl)
            try simp only [Act.put, List.setIfInBounds_toArray, List.set_cons_zero, List.set_cons_succ]
            refine wpAnyH_take (i := 25) (oi := ⟨_, _, _, _, _, _⟩) (v := undef) rfl (by kernel_rfl) (by kernel_rfl) (by kernel_rfl) (fun _ _ _ h => h) (Or.inr ⟨by rfl, rfl⟩) hHeld ?_
            try simp only [Act.put, List.setIfInBounds_toArray, List.set_cons_zero, List.set_cons_succ]
            refine wpAnyH_take (i := 26) (oi := ⟨_, _, _, _, _, _⟩) (v := undef) rfl (by kernel_rfl) (by kernel_rfl) (by kernel_rfl) (fun _ _ _ h => h) (Or.inr ⟨by rfl, rfl⟩) hHeld ?_
            try simp only [Act.put, List.setIfInBounds_toArray, List.set_cons_zero, List.set_cons_succ]
            refine wpAnyH_take (i := 27) (oi := ⟨_, _, _, _, _, _⟩) (v := undef) rfl (by kernel_rfl) (by kernel_rfl) (by kernel_rfl) (fun _ _ _ h => h) (Or.inr ⟨by rfl, rfl⟩) hHeld ?_
            try simp only [Act.put, List.setIfInBounds_toArray, List.set_cons_zero, List.set_cons_succ]
            refine wpAnyH_take (i := 28) (oi := ⟨_, _, _, _, _, _⟩) (v := undef) rfl (by kernel_rfl) (by kernel_rfl) (by kernel_rfl) (fun _ _ _ h => h) (Or.inr ⟨by rfl, rfl⟩) hHeld ?_
            try simp only [Act.put, List.setIfInBounds_toArray, List.set_cons_zero, List.set_cons_succ]
            refine wpAnyH_take (i := 29) (oi := ⟨_, _, _, _, _, _⟩) (v := undef) rfl (by kernel_rfl) (by kernel_rfl) (by kernel_rfl) (fun _ _ _ h => h) (Or.inr ⟨by rfl, rfl⟩) hHeld ?_
            try simp only [Act.put, List.setIfInBounds_toArray, List.set_cons_zero, List.set_cons_succ]
            refine wpAnyH_take (i := 30) (oi := ⟨_, _, _, _, _, _⟩) (v := undef) rfl (by kernel_rfl) (by kernel_rfl) (by kernel_rfl) (fun _ _ _ h => h) (Or.inr ⟨by rfl, rfl⟩) hHeld ?_
            try simp only [Act.put, List.setIfInBounds_toArray, List.set_cons_zero, List.set_cons_succ]
            refine wpAnyH_take (i := 31) (oi := ⟨_, _, _, _, _, _⟩) (v := undef) rfl (by kernel_rfl) (by kernel_rfl) (by kernel_rfl) (fun _ _ _ h => h) (Or.inr ⟨by rfl, rfl⟩) hHeld ?_
            try simp only [Act.put, List.setIfInBounds_toArray, List.set_cons_zero, List.set_cons_succ]
            refine wpAnyH_take (i := 32) (oi := ⟨_, _, _, _, _, _⟩) (v := undef) rfl (by kernel_rfl) (by kernel_rfl) (by kernel_rfl) (fun _ _ _ h => h) (Or.inr ⟨by rfl, rfl⟩) hHeld ?_
            try simp only [Act.put, List.setIfInBounds_toArray, List.set_cons_zero, List.set_cons_succ]
            refine wpAnyH_take (i := 33) (oi := ⟨_, _, _, _, _, _⟩) (v := undef) rfl (by kernel_rfl) (by kernel_rfl) (by kernel_rfl) (fun _ _ _ h => h) (Or.inr ⟨by rfl, rfl⟩) hHeld ?_
            try simp only [Act.put, List.setIfInBounds_toArray, List.set_cons_zero, List.set_cons_succ]
            refine wpAnyH_take (i := 34) (oi := ⟨_, _, _, _, _, _⟩) (v := undef) rfl (by kernel_rfl) (by kernel_rfl) (by kernel_rfl) (fun _ _ _ h => h) (Or.inr ⟨by rfl, rfl⟩) hHeld ?_
            try simp only [Act.put, List.setIfInBounds_toArray, List.set_cons_zero, List.set_cons_succ]
            refine wpAnyH_take (i := 35) (oi := ⟨_, _, _, _, _, _⟩) (v := undef) rfl (by kernel_rfl) (by kernel_rfl) (by kernel_rfl) (fun _ _ _ h => h) (Or.inr ⟨by rfl, rfl⟩) hHeld ?_
            try simp only [Act.put, List.setIfInBounds_toArray, List.set_cons_zero, List.set_cons_succ]
            refine wpAnyH_take (i := 36) (oi := ⟨_, _, _, _, _, _⟩) (v := undef) rfl (by kernel_rfl) (by kernel_rfl) (by kernel_rfl) (fun _ _ _ h => h) (Or.inr ⟨by rfl, rfl⟩) hHeld ?_
            try simp only [Act.put, List.setIfInBounds_toArray, List.set_cons_zero, List.set_cons_succ]
            refine wpAnyH_take (i := 37) (oi := ⟨_, _, _, _, _, _⟩) (v := ?_) rfl (by kernel_rfl) (by kernel_rfl) (by kernel_rfl) (fun _ _ _ h => h) (Or.inl ⟨by rfl, ?_⟩) hHeld ?_
            rotate_left
            · (intro w hSw; (try dsimp only at hSw); go_simp; try with_reducible rfl)
            try simp only [Act.put, List.setIfInBounds_toArray, List.set_cons_zero, List.set_cons_succ]
            refine wpAnyH_done (by kernel_rfl) ?_ _

            go_wp2_with fail
            go_ret
            exact ⟨by rw [HN.out]; rfl, below2 hBr.out hbr⟩
        · have hqn : (q != q') = true := by simpa using hq
          have hqe : (q == q') = false := by simpa using hq
          have HN : Hid ((chs S == chs T) = false) := Lib.hid (HR.out.1 (fun e => hq (by
            simp only [Prod.mk.injEq] at e
            exact e.1)))
          clear hq HKM HR
          go_wp2_with fail
          refine wp_region_held_drew (S := (fun w' => (w'.cell? ⟨b, off + k * 5, none⟩ = some (.string ⟨q.toArray⟩) ∧ w'.cell? ⟨b, off + k * 5 + 1, none⟩ = some (.bool g) ∧ w'.cell? ⟨b, off + k * 5 + 2, none⟩ = some (.int .i64 z) ∧ w'.cell? ⟨b, off + k * 5 + 3, none⟩ = some (.int .i64 d) ∧ w'.cell? ⟨b, off + k * 5 + 4, none⟩ = some (.slice s1 s2 s3)) ∧ (w'.cell? ⟨b', off' + k * 5, none⟩ = some (.string ⟨q'.toArray⟩) ∧ w'.cell? ⟨b', off' + k * 5 + 1, none⟩ = some (.bool g') ∧ w'.cell? ⟨b', off' + k * 5 + 2, none⟩ = some (.int .i64 z') ∧ w'.cell? ⟨b', off' + k * 5 + 3, none⟩ = some (.int .i64 d') ∧ w'.cell? ⟨b', off' + k * 5 + 4, none⟩ = some (.slice t1 t2 t3)))) (by kernel_rfl) (HC.out _ hbr) (fun hHeld => ?_)
          refine wpAnyH_take (i := 0) (oi := ⟨_, _, _, _, _, _⟩) (v := ?_) rfl (by kernel_rfl) (by kernel_rfl) (by kernel_rfl) (fun _ _ _ h => h) (Or.inl ⟨by rfl, ?_⟩) hHeld ?_
          rotate_left
          · (intro w hSw; (try dsimp only at hSw); go_simp; try with_reducible rfl)
          try simp only [Act.put, List.setIfInBounds_toArray, List.set_cons_zero, List.set_cons_succ]
          refine wpAnyH_take (i := 1) (oi := ⟨_, _, _, _, _, _⟩) (v := ?_) rfl (by kernel_rfl) (by kernel_rfl) (by kernel_rfl) (fun _ _ _ h => h) (Or.inl ⟨by rfl, ?_⟩) hHeld ?_
          rotate_left
          · (intro w hSw; (try dsimp only at hSw); go_simp; try with_reducible rfl)
          try simp only [Act.put, List.setIfInBounds_toArray, List.set_cons_zero, List.set_cons_succ]
          refine wpAnyH_take (i := 2) (oi := ⟨_, _, _, _, _, _⟩) (v := ?_) rfl (by kernel_rfl) (by kernel_rfl) (by kernel_rfl) (fun _ _ _ h => h) (Or.inl ⟨by rfl, ?_⟩) hHeld ?_
          rotate_left
          · (intro w hSw; (try dsimp only at hSw); go_simp; try with_reducible rfl)
          try simp only [Act.put, List.setIfInBounds_toArray, List.set_cons_zero, List.set_cons_succ]
          refine wpAnyH_take (i := 3) (oi := ⟨_, _, _, _, _, _⟩) (v := ?_) rfl (by kernel_rfl) (by kernel_rfl) (by kernel_rfl) (fun _ _ _ h => h) (Or.inl ⟨by rfl, ?_⟩) hHeld ?_
          rotate_left
          · (intro w hSw; (try dsimp only at hSw); go_simp; try with_reducible rfl)
          try simp only [Act.put, List.setIfInBounds_toArray, List.set_cons_zero, List.set_cons_succ]
          refine wpAnyH_take (i := 4) (oi := ⟨_, _, _, _, _, _⟩) (v := ?_) rfl (by kernel_rfl) (by kernel_rfl) (by kernel_rfl) (fun _ _ _ h => h) (Or.inl ⟨by rfl, ?_⟩) hHeld ?_
          rotate_left
          · (intro w hSw; (try dsimp only at hSw); go_simp; try with_reducible rfl)
          try simp only [Act.put, List.setIfInBounds_toArray, List.set_cons_zero, List.set_cons_succ]
          refine wpAnyH_take (i := 5) (oi := ⟨_, _, _, _, _, _⟩) (v := ?_) rfl (by kernel_rfl) (by kernel_rfl) (by kernel_rfl) (fun _ _ _ h => h) (Or.inl ⟨by rfl, ?_⟩) hHeld ?_
          rotate_left
          · (intro w hSw; (try dsimp only at hSw); go_simp; try with_reducible rfl)
          try simp only [Act.put, List.setIfInBounds_toArray, List.set_cons_zero, List.set_cons_succ]
          refine wpAnyH_take (i := 6) (oi := ⟨_, _, _, _, _, _⟩) (v := ?_) rfl (by kernel_rfl) (by kernel_rfl) (by kernel_rfl) (fun _ _ _ h => h) (Or.inl ⟨by rfl, ?_⟩) hHeld ?_
          rotate_left
          · (intro w hSw; (try dsimp only at hSw); go_simp; try with_reducible rfl)
          try simp only [Act.put, List.setIfInBounds_toArray, List.set_cons_zero, List.set_cons_succ]
          refine wpAnyH_take (i := 7) (oi := ⟨_, _, _, _, _, _⟩) (v := ?_) rfl (by kernel_rfl) (by kernel_rfl) (by kernel_rfl) (fun _ _ _ h => h) (Or.inl ⟨by rfl, ?_⟩) hHeld ?_
          rotate_left
          · (intro w hSw; (try dsimp only at hSw); go_simp; try with_reducible rfl)
          try simp only [Act.put, List.setIfInBounds_toArray, List.set_cons_zero, List.set_cons_succ]
          refine wpAnyH_take (i := 8) (oi := ⟨_, _, _, _, _, _⟩) (v := ?_) rfl (by kernel_rfl) (by kernel_rfl) (by kernel_rfl) (fun _ _ _ h => h) (Or.inl ⟨by rfl, ?_⟩) hHeld ?_
          rotate_left
          · (intro w hSw; (try dsimp only at hSw); go_simp; try with_reducible rfl)
          try simp only [Act.put, List.setIfInBounds_toArray, List.set_cons_zero, List.set_cons_succ]
          refine wpAnyH_take (i := 9) (oi := ⟨_, _, _, _, _, _⟩) (v := ?_) rfl (by kernel_rfl) (by kernel_rfl) (by kernel_rfl) (fun _ _ _ h => h) (Or.inl ⟨by rfl, ?_⟩) hHeld ?_
          rotate_left
          · (intro w hSw; (try dsimp only at hSw); go_simp; try with_reducible rfl)
          try simp only [Act.put, List.setIfInBounds_toArray, List.set_cons_zero, List.set_cons_succ]
          refine wpAnyH_take (i := 10) (oi := ⟨_, _, _, _, _, _⟩) (v := ?_) rfl (by kernel_rfl) (by kernel_rfl) (by kernel_rfl) (fun _ _ _ h => h) (Or.inl ⟨by rfl, ?_⟩) hHeld ?_
          rotate_left
          · (intro w hSw; (try dsimp only at hSw); go_simp; try with_reducible rfl)
          try simp only [Act.put, List.setIfInBounds_toArray, List.set_cons_zero, List.set_cons_succ]
          refine wpAnyH_take (i := 11) (oi := ⟨_, _, _, _, _, _⟩) (v := ?_) rfl (by kernel_rfl) (by kernel_rfl) (by kernel_rfl) (fun _ _ _ h => h) (Or.inl ⟨by rfl, ?_⟩) hHeld ?_
          rotate_left
          · (intro w hSw; (try dsimp only at hSw); go_simp; try with_reducible rfl)
          try simp only [Act.put, List.setIfInBounds_toArray, List.set_cons_zero, List.set_cons_succ]
          refine wpAnyH_take (i := 12) (oi := ⟨_, _, _, _, _, _⟩) (v := undef) rfl (by kernel_rfl) (by kernel_rfl) (by kernel_rfl) (fun _ _ _ h => h) (Or.inr ⟨by rfl, rfl⟩) hHeld ?_
          try simp only [Act.put, List.setIfInBounds_toArray, List.set_cons_zero, List.set_cons_succ]
          refine wpAnyH_take (i := 13) (oi := ⟨_, _, _, _, _, _⟩) (v := undef) rfl (by kernel_rfl) (by kernel_rfl) (by kernel_rfl) (fun _ _ _ h => h) (Or.inr ⟨by rfl, rfl⟩) hHeld ?_
          try simp only [Act.put, List.setIfInBounds_toArray, List.set_cons_zero, List.set_cons_succ]
          refine wpAnyH_take (i := 14) (oi := ⟨_, _, _, _, _, _⟩) (v := undef) rfl (by kernel_rfl) (by kernel_rfl) (by kernel_rfl) (fun _ _ _ h => h) (Or.inr ⟨by rfl, rfl⟩) hHeld ?_
          try simp only [Act.put, List.setIfInBounds_toArray, List.set_cons_zero, List.set_cons_succ]
          refine wpAnyH_take (i := 15) (oi := ⟨_, _, _, _, _, _⟩) (v := undef) rfl (by kernel_rfl) (by kernel_rfl) (by kernel_rfl) (fun _ _ _ h => h) (Or.inr ⟨by rfl, rfl⟩) hHeld ?_
          try simp only [Act.put, List.setIfInBounds_toArray, List.set_cons_zero, List.set_cons_succ]
          refine wpAnyH_take (i := 16) (oi := ⟨_, _, _, _, _, _⟩) (v := undef) rfl (by kernel_rfl) (by kernel_rfl) (by kernel_rfl) (fun _ _ _ h => h) (Or.inr ⟨by rfl, rfl⟩) hHeld ?_
          try simp only [Act.put, List.setIfInBounds_toArray, List.set_cons_zero, List.set_cons_succ]
          refine wpAnyH_take (i := 17) (oi := ⟨_, _, _, _, _, _⟩) (v := undef) rfl (by kernel_rfl) (by kernel_rfl) (by kernel_rfl) (fun _ _ _ h => h) (Or.inr ⟨by rfl, rfl⟩) hHeld ?_
          try simp only [Act.put, List.setIfInBounds_toArray, List.set_cons_zero, List.set_cons_succ]
          refine wpAnyH_take (i := 18) (oi := ⟨_, _, _, _, _, _⟩) (v := undef) rfl (by kernel_rfl) (by kernel_rfl) (by kernel_rfl) (fun _ _ _ h => h) (Or.inr ⟨by rfl, rfl⟩) hHeld ?_
          try simp only [Act.put, List.setIfInBounds_toArray, List.set_cons_zero, List.set_cons_succ]
          refine wpAnyH_take (i := 19) (oi := ⟨_, _, _, _, _, _⟩) (v := undef) rfl (by kernel_rfl) (by kernel_rfl) (by kernel_rfl) (fun _ _ _ h => h) (Or.inr ⟨by rfl, rfl⟩) hHeld ?_
          try simp only [Act.put, List.setIfInBounds_toArray, List.set_cons_zero, List.set_cons_succ]
          refine wpAnyH_take (i := 20) (oi := ⟨_, _, _, _, _, _⟩) (v := undef) rfl (by kernel_rfl) (by kernel_rfl) (by kernel_rfl) (fun _ _ _ h => h) (Or.inr ⟨by rfl, rfl⟩) hHeld ?_
          try simp only [Act.put, List.setIfInBounds_toArray, List.set_cons_zero, List.set_cons_succ]
          refine wpAnyH_take (i := 21) (oi := ⟨_, _, _, _, _, _⟩) (v := undef) rfl (by kernel_rfl) (by kernel_rfl) (by kernel_rfl) (fun _ _ _ h => h) (Or.inr ⟨by rfl, rfl⟩) hHeld ?_
          try simp only [Act.put, List.setIfInBounds_toArray, List.set_cons_zero, List.set_cons_succ]
          refine wpAnyH_take (i := 22) (oi := ⟨_, _, _, _, _, _⟩) (v := undef) rfl (by kernel_rfl) (by kernel_rfl) (by kernel_rfl) (fun _ _ _ h => h) (Or.inr ⟨by rfl, rfl⟩) hHeld ?_
          try simp only [Act.put, List.setIfInBounds_toArray, List.set_cons_zero, List.set_cons_succ]
          refine wpAnyH_take (i := 23) (oi := ⟨_, _, _, _, _, _⟩) (v := ?_) rfl (by kernel_rfl) (by kernel_rfl) (by kernel_rfl) (fun _ _ _ h => h) (Or.inl ⟨by rfl, ?_⟩) hHeld ?_
          rotate_left
          · (intro w hSw; (try dsimp only at hSw); go_simp; try with_reducible rfl)
          try simp only [Act.put, List.setIfInBounds_toArray, List.set_cons_zero, List.set_cons_succ]
          refine wpAnyH_take (i := 24) (oi := ⟨_, _, _, _, _, _⟩) (v := ?_) rfl (by kernel_rfl) (by kernel_rfl) (by kernel_rfl) (fun _ _ _ h => h) (Or.inl ⟨by rfl, ?_⟩) hHeld ?_
          rotate_left
          · (intro w hSw; (try dsimp only at hSw); go_simp; try with_reducible rfl)
          try simp only [Act.put, List.setIfInBounds_toArray, List.set_cons_zero, List.set_cons_succ]
          refine wpAnyH_take (i := 25) (oi := ⟨_, _, _, _, _, _⟩) (v := undef) rfl (by kernel_rfl) (by kernel_rfl) (by kernel_rfl) (fun _ _ _ h => h) (Or.inr ⟨by rfl, rfl⟩) hHeld ?_
          try simp only [Act.put, List.setIfInBounds_toArray, List.set_cons_zero, List.set_cons_succ]
          refine wpAnyH_take (i := 26) (oi := ⟨_, _, _, _, _, _⟩) (v := undef) rfl (by kernel_rfl) (by kernel_rfl) (by kernel_rfl) (fun _ _ _ h => h) (Or.inr ⟨by rfl, rfl⟩) hHeld ?_
          try simp only [Act.put, List.setIfInBounds_toArray, List.set_cons_zero, List.set_cons_succ]
          refine wpAnyH_take (i := 27) (oi := ⟨_, _, _, _, _, _⟩) (v := undef) rfl (by kernel_rfl) (by kernel_rfl) (by kernel_rfl) (fun _ _ _ h => h) (Or.inr ⟨by rfl, rfl⟩) hHeld ?_
          try simp only [Act.put, List.setIfInBounds_toArray, List.set_cons_zero, List.set_cons_succ]
          refine wpAnyH_take (i := 28) (oi := ⟨_, _, _, _, _, _⟩) (v := undef) rfl (by kernel_rfl) (by kernel_rfl) (by kernel_rfl) (fun _ _ _ h => h) (Or.inr ⟨by rfl, rfl⟩) hHeld ?_
          try simp only [Act.put, List.setIfInBounds_toArray, List.set_cons_zero, List.set_cons_succ]
          refine wpAnyH_take (i := 29) (oi := ⟨_, _, _, _, _, _⟩) (v := undef) rfl (by kernel_rfl) (by kernel_rfl) (by kernel_rfl) (fun _ _ _ h => h) (Or.inr ⟨by rfl, rfl⟩) hHeld ?_
          try simp only [Act.put, List.setIfInBounds_toArray, List.set_cons_zero, List.set_cons_succ]
          refine wpAnyH_take (i := 30) (oi := ⟨_, _, _, _, _, _⟩) (v := undef) rfl (by kernel_rfl) (by kernel_rfl) (by kernel_rfl) (fun _ _ _ h => h) (Or.inr ⟨by rfl, rfl⟩) hHeld ?_
          try simp only [Act.put, List.setIfInBounds_toArray, List.set_cons_zero, List.set_cons_succ]
          refine wpAnyH_take (i := 31) (oi := ⟨_, _, _, _, _, _⟩) (v := undef) rfl (by kernel_rfl) (by kernel_rfl) (by kernel_rfl) (fun _ _ _ h => h) (Or.inr ⟨by rfl, rfl⟩) hHeld ?_
          try simp only [Act.put, List.setIfInBounds_toArray, List.set_cons_zero, List.set_cons_succ]
          refine wpAnyH_take (i := 32) (oi := ⟨_, _, _, _, _, _⟩) (v := undef) rfl (by kernel_rfl) (by kernel_rfl) (by kernel_rfl) (fun _ _ _ h => h) (Or.inr ⟨by rfl, rfl⟩) hHeld ?_
          try simp only [Act.put, List.setIfInBounds_toArray, List.set_cons_zero, List.set_cons_succ]
          refine wpAnyH_take (i := 33) (oi := ⟨_, _, _, _, _, _⟩) (v := undef) rfl (by kernel_rfl) (by kernel_rfl) (by kernel_rfl) (fun _ _ _ h => h) (Or.inr ⟨by rfl, rfl⟩) hHeld ?_
          try simp only [Act.put, List.setIfInBounds_toArray, List.set_cons_zero, List.set_cons_succ]
          refine wpAnyH_take (i := 34) (oi := ⟨_, _, _, _, _, _⟩) (v := undef) rfl (by kernel_rfl) (by kernel_rfl) (by kernel_rfl) (fun _ _ _ h => h) (Or.inr ⟨by rfl, rfl⟩) hHeld ?_
          try simp only [Act.put, List.setIfInBounds_toArray, List.set_cons_zero, List.set_cons_succ]
          refine wpAnyH_take (i := 35) (oi := ⟨_, _, _, _, _, _⟩) (v := undef) rfl (by kernel_rfl) (by kernel_rfl) (by kernel_rfl) (fun _ _ _ h => h) (Or.inr ⟨by rfl, rfl⟩) hHeld ?_
          try simp only [Act.put, List.setIfInBounds_toArray, List.set_cons_zero, List.set_cons_succ]
          refine wpAnyH_take (i := 36) (oi := ⟨_, _, _, _, _, _⟩) (v := undef) rfl (by kernel_rfl) (by kernel_rfl) (by kernel_rfl) (fun _ _ _ h => h) (Or.inr ⟨by rfl, rfl⟩) hHeld ?_
          try simp only [Act.put, List.setIfInBounds_toArray, List.set_cons_zero, List.set_cons_succ]
          refine wpAnyH_take (i := 37) (oi := ⟨_, _, _, _, _, _⟩) (v := ?_) rfl (by kernel_rfl) (by kernel_rfl) (by kernel_rfl) (fun _ _ _ h => h) (Or.inl ⟨by rfl, ?_⟩) hHeld ?_
          rotate_left
          · (intro w hSw; (try dsimp only at hSw); go_simp; try with_reducible rfl)
          try simp only [Act.put, List.setIfInBounds_toArray, List.set_cons_zero, List.set_cons_succ]
          refine wpAnyH_done (by kernel_rfl) ?_ _

          go_wp2_with fail
          go_ret
          exact ⟨by rw [HN.out]; rfl, below2 hBr.out hbr⟩
      · obtain rfl : k = S.length := by omega
        have HX := Lib.hid (bsame_all (a := chs S) (b := chs T) (by rw [List.length_map, List.length_map]; exact HLS.out) (by rw [List.length_map]; exact hf.out))
        go_wp2_with fail
        go_ret
        exact ⟨by rw [HX.out]; rfl, hBr.out⟩
  · have hne : ((S.length : Int) != (T.length : Int)) = true := by rw [bne_iff_ne]; omega
    have HX := Lib.hid (show (chs S == chs T) = false by
      rw [beq_eq_false_iff_ne]
      intro e
      have := congrArg List.length e
      rw [List.length_map, List.length_map] at this
      exact hl this)
    clear hl hA hB hs
    go_enter Tryz.func13, Tryz.ntmps13
    go_wp2_with fail
    go_ret
    exact ⟨by rw [HX.out]; rfl, Below.refl _ _⟩

end Go.Proofs.YtmbnmmnoahddcaaGreatDoor

/-
  The law file's laid: the document's rows.
-/
namespace Go.Proofs.YtmbnmmnoahddcaaGreatDoor
set_option maxRecDepth 100000
open Go.RowKit

def nilS : Sl := (none, 0, 0)
def T0 : List Cs := [(([98], true, 0, 0, []), nilS), (([97], false, 1, 0, []), nilS), (([98], false, 2, 0, []), nilS)]
def L0 : List Cg := [([98], true, 0, 0, []), ([97], false, 1, 0, []), ([98], false, 2, 0, [])]
def A0 : List Cg := [([97], false, 1, 0, []), ([98], false, 2, 0, [])]
theorem isP_a : isP [97] = true := by rfl
theorem isP_b : isP [98] = true := by rfl
theorem laid_isA : isB A0 = true := by decide
theorem laid_isL : isB L0 = false := by decide
theorem laid_norm : normL L0 = A0 ∧ normE L0 = 0 := by decide
theorem laid_nil : normL [] = [] ∧ normE [] = 1 := by decide
theorem laid_root : normL [([], false, 0, 0, [])] = [] ∧ normE [([], false, 0, 0, [])] = 1 := by decide
theorem laid_get : gotC [] = [] ∧ gotCE [] = 30 := by decide

theorem laid_len : (putBT A0).length ≤ 1000000 := by decide
theorem laid_back : gotC (putBT A0) = A0 ∧ gotCE (putBT A0) = 0 := got_some (baGet_put laid_isA)
theorem laid_putE : putBE A0 = 0 := by decide
theorem laid_small : SmallC L0 ∧ SmallC A0 := by
  constructor
  · intro c hc
    simp [L0] at hc
    rcases hc with rfl | rfl | rfl <;> simp
  · intro c hc
    simp [A0] at hc
    rcases hc with rfl | rfl <;> simp
/-- Changes as they were written out, without Chunks. -/
theorem cgs_lit (w : World) (T : List Cs) (t : TypeId) (hT : ∀ x ∈ T, x.2 = nilS ∧ x.1.2.2.2.2 = []) : Cgs (w.alloc (.cells (T.flatMap encCs).toArray t)) (.slice (some ⟨w.heap.size, 0, none⟩) T.length T.length) (T.map toCv) := by
  refine ⟨⟨ccells_len _, _, _, by rw [List.length_map], by rw [List.length_map]; exact Nat.le_refl _, .inr ⟨_, 0, rfl, fun j hj => ?_⟩⟩, fun x hx => ?_⟩
  · simp only [cells_flat] at hj ⊢
    rw [Nat.zero_add, World.cell?_alloc_new]
    simp [List.getElem?_eq_getElem hj]
  · obtain ⟨y, hy, rfl⟩ := List.mem_map.1 hx
    obtain ⟨h1, h2⟩ := hT y hy
    obtain ⟨⟨p, g, z, d, cs⟩, s⟩ := y
    dsimp only at h1 h2
    subst h1 h2
    exact Ints.nil _

set_option maxHeartbeats 8000000 in
theorem baLaid_calls (w : World) (hm : Ml w) : Calls Tryz.prog 16 #[] w fun e w' => e = .returned (.bool true) ∧ Below w.heap.size w w' := by
  have HM := Lib.hid hm
  obtain ⟨W0, hW0⟩ : ∃ W0, W0 = w.alloc (.cells #[.string ⟨#[98]⟩, .bool true, .int .i64 0, .int .i64 0, .slice none 0 0, .string ⟨#[97]⟩, .bool false, .int .i64 1, .int .i64 0, .slice none 0 0, .string ⟨#[98]⟩, .bool false, .int .i64 2, .int .i64 0, .slice none 0 0] 36) := ⟨_, rfl⟩
  have hB0 : Below w.heap.size w W0 := by rw [hW0]; exact below_alloc _ _
  have hC0 : Cgs W0 (.slice (some ⟨w.heap.size, 0, none⟩) 3 3) (T0.map toCv) := by
    rw [hW0]
    exact cgs_lit w T0 _ (by intro x hx; simp [T0] at hx; rcases hx with rfl | rfl | rfl <;> exact ⟨rfl, rfl⟩)
  have HL := Lib.hid hC0
  have HB0 := Lib.hid hB0
  have K1 := baNorm_calls _ T0 W0 hC0 (by decide) laid_small.1 (hm.below hB0)
  rw [show normE (T0.map Prod.fst) = 0 from laid_norm.2, show normL (T0.map Prod.fst) = A0 from laid_norm.1, hW0] at K1
  have HK1 := Lib.hid K1
  have HW0 := Lib.hid hW0
  clear K1 hC0 hB0 hm hW0
  go_enter Tryz.func16, Tryz.ntmps16
  go_wp2_with fail
  refine HK1.out.mono ?_
  rw [← HW0.out]
  rintro e w1 ⟨v1, S1, rfl, ho1, hch1, hB1⟩
  have HS1 := Lib.hid hch1
  have hl1 : S1.length = 2 := by
    have := congrArg List.length hch1
    rw [List.length_map] at this
    exact this
  obtain ⟨a1, c1, rfl⟩ := ho1.form
  rw [hl1] at ho1
  rw [hl1]
  have HO1 := Lib.hid ho1
  have HB1 := Lib.hid (below2 HB0.out hB1)
  have HL1 := Lib.hid (HL.out.below hB1)
  have K2 := baNorm_calls _ [] w1 (Cgs.nil _) (by decide) (fun c hc => by cases hc) (HM.out.below HB1.out)
  rw [show normE (([] : List Cs).map Prod.fst) = 1 from laid_nil.2] at K2
  have HK2 := Lib.hid K2
  clear ho1 hB1 hch1 hl1 K2
  go_wp2_with fail
  refine HK2.out.mono ?_
  rintro e w2 ⟨v2, S2, rfl, ho2, _, hB2⟩
  obtain ⟨a2, n2, c2, rfl⟩ := own_form ho2.1
  have HB2 := Lib.hid (below2 HB1.out hB2)
  have HO2 := Lib.hid (HO1.out.stays hB2)
  have HL2 := Lib.hid (HL1.out.below hB2)
  obtain ⟨W3, hW3⟩ : ∃ W3, W3 = w2.alloc (.cells #[.string ⟨#[]⟩, .bool false, .int .i64 0, .int .i64 0, .slice none 0 0] 36) := ⟨_, rfl⟩
  have hB3 : Below w2.heap.size w2 W3 := by rw [hW3]; exact below_alloc _ _
  have hC3 : Cgs W3 (.slice (some ⟨w2.heap.size, 0, none⟩) 1 1) (([((([], false, 0, 0, []) : Cg), nilS)] : List Cs).map toCv) := by
    rw [hW3]
    exact cgs_lit w2 [(([], false, 0, 0, []), nilS)] _ (by intro x hx; simp at hx; subst hx; exact ⟨rfl, rfl⟩)
  have K3 := baNorm_calls _ _ W3 hC3 (by decide) (fun c hc => by simp at hc; subst hc; simp) (HM.out.below (below2 HB2.out hB3))
  rw [show normE (([((([], false, 0, 0, []) : Cg), nilS)] : List Cs).map Prod.fst) = 1 from laid_root.2, hW3] at K3
  have HK3 := Lib.hid K3
  have HW3 := Lib.hid hW3
  have HB3 := Lib.hid (below2 HB2.out hB3)
  have HO3 := Lib.hid (HO2.out.stays hB3)
  have HL3 := Lib.hid (HL2.out.below hB3)
  clear ho2 hB2 K3 hC3 hB3 hW3
  go_wp2_with fail
  refine HK3.out.mono ?_
  rw [← HW3.out]
  rintro e w4 ⟨v4, S4, rfl, ho4, _, hB4⟩
  obtain ⟨a4, n4, c4, rfl⟩ := own_form ho4.1
  have HB4 := Lib.hid (below2 HB3.out hB4)
  have HO4 := Lib.hid (HO3.out.stays hB4)
  have HL4 := Lib.hid (HL3.out.below hB4)
  have K4 := baPut_calls _ S1 w4 HO4.out.cgs (by have := congrArg List.length HS1.out; rw [List.length_map] at this; rw [this]; decide) (by rw [HS1.out]; exact laid_small.2) (HM.out.below HB4.out)
  rw [HS1.out, laid_putE] at K4
  have HK4 := Lib.hid K4
  clear ho4 hB4 K4
  obtain ⟨B0, hB0e⟩ : ∃ B0, putBT A0 = B0 := ⟨_, rfl⟩
  have HBE := Lib.hid hB0e
  rw [hB0e] at HK4
  clear hB0e
  go_wp2_with fail
  refine HK4.out.mono ?_
  rintro e w5 ⟨rfl, hB5⟩
  have HB5 := Lib.hid (below2 HB4.out hB5)
  have HO5 := Lib.hid (HO4.out.stays hB5)
  have HL5 := Lib.hid (HL4.out.below hB5)
  have K5 := baGet_calls B0 (by rw [← HBE.out]; exact laid_len) w5 (HM.out.below HB5.out)
  rw [← HBE.out, laid_back.2, laid_back.1, HBE.out] at K5
  have HK5 := Lib.hid K5
  clear hB5 K5
  go_wp2_with fail
  refine HK5.out.mono ?_
  rintro e w6 ⟨v6, S6, rfl, ho6, hch6, hB6⟩
  have HS6 := Lib.hid hch6
  have HB6 := Lib.hid (below2 HB5.out hB6)
  have HO6 := Lib.hid (HO5.out.stays hB6)
  have HL6 := Lib.hid (HL5.out.below hB6)
  have HP6 := Lib.hid ho6
  obtain ⟨a6, n6, c6, rfl⟩ := own_form ho6.1
  have K6 := baGet_calls [] (by decide) w6 (HM.out.below HB6.out)
  rw [laid_get.2] at K6
  have HK6 := Lib.hid K6
  clear ho6 hB6 hch6 K6
  go_wp2_with fail
  refine HK6.out.mono ?_
  rintro e w7 ⟨v7, S7, rfl, ho7, _, hB7⟩
  obtain ⟨a7, n7, c7, rfl⟩ := own_form ho7.1
  have HB7 := Lib.hid (below2 HB6.out hB7)
  have HO7 := Lib.hid (HO6.out.stays hB7)
  have HL7 := Lib.hid (HL6.out.below hB7)
  have HP7 := Lib.hid (HP6.out.stays hB7)
  clear ho7 hB7
  obtain ⟨b, off, hbo, ⟨p0, p1, p2, p3, p4⟩, _⟩ := HL7.out.at (k := 1) (by decide)
  obtain ⟨b', off', hbo', ⟨q0, q1, q2, q3, q4⟩, _⟩ := HL7.out.at (k := 2) (by decide)
  cases hbo
  cases hbo'
  have HS := Lib.hid (fun (W : World) (hW : Below w7.heap.size w7 W) => And.intro (And.intro (look_below hW p0) (And.intro (look_below hW p1) (And.intro (look_below hW p2) (And.intro (look_below hW p3) (look_below hW p4))))) (And.intro (look_below hW q0) (And.intro (look_below hW q1) (And.intro (look_below hW q2) (And.intro (look_below hW q3) (look_below hW q4))))))
  have hC8 := (cgs_lit w7 [(([97], false, 1, 0, []), nilS), (([98], false, 2, 0, []), nilS)] 36 (by intro x hx; simp at hx; rcases hx with rfl | rfl <;> exact ⟨rfl, rfl⟩)).below (drew_below _)
  have hB8 := below2 (below_alloc w7 (.cells ([(([97], false, 1, 0, []), nilS), (([98], false, 2, 0, []), nilS)].flatMap encCs).toArray 36)) (drew_below _)
  have KS1 := bSame_calls _ _ S1 _ _ (HO7.out.cgs.below hB8) hC8 (by have := congrArg List.length HS1.out; rw [List.length_map] at this; rw [this]; decide) (by rw [HS1.out]; exact laid_small.2)
  rw [HS1.out, show (A0 == chs ([((([97], false, 1, 0, []) : Cg), nilS), (([98], false, 2, 0, []), nilS)].map toCv)) = true by decide] at KS1
  have HKS1 := Lib.hid (show Calls Tryz.prog 13 #[.slice a1 2 c1, .slice (some ⟨w7.heap.size, 0, none⟩) 2 2] (w7.alloc (.cells #[.string ⟨#[97]⟩, .bool false, .int .i64 1, .int .i64 0, .slice none 0 0, .string ⟨#[98]⟩, .bool false, .int .i64 2, .int .i64 0, .slice none 0 0] 36)).drew (fun e w' => e = .returned (.bool true) ∧ Below (w7.alloc (.cells #[.string ⟨#[97]⟩, .bool false, .int .i64 1, .int .i64 0, .slice none 0 0, .string ⟨#[98]⟩, .bool false, .int .i64 2, .int .i64 0, .slice none 0 0] 36)).drew.heap.size (w7.alloc (.cells #[.string ⟨#[97]⟩, .bool false, .int .i64 1, .int .i64 0, .slice none 0 0, .string ⟨#[98]⟩, .bool false, .int .i64 2, .int .i64 0, .slice none 0 0] 36)).drew w') from KS1)
  have HKS2 := Lib.hid (show ∀ W, Below w7.heap.size w7 W → Calls Tryz.prog 13 #[.slice a6 n6 c6, .slice a1 2 c1] W fun e w' => e = .returned (.bool true) ∧ Below W.heap.size W w' from fun W hW => by
    have := bSame_calls _ _ S6 S1 W (HP7.out.cgs.below hW) (HO7.out.cgs.below hW) (by have := congrArg List.length HS6.out; rw [List.length_map] at this; rw [this]; decide) (by rw [HS6.out]; exact laid_small.2)
    rwa [HS1.out, HS6.out, show (A0 == A0) = true by decide] at this)
  have HKI1 := Lib.hid (show ∀ W, Below w7.heap.size w7 W → Calls Tryz.prog 14 #[.slice a1 2 c1] W fun e w' => e = .returned (.bool true) ∧ Below W.heap.size W w' from fun W hW => by
    have := baIs_calls _ S1 W (HO7.out.cgs.below hW) (by have := congrArg List.length HS1.out; rw [List.length_map] at this; rw [this]; decide) (by rw [HS1.out]; exact laid_small.2) (HM.out.below (below2 HB7.out hW))
    rwa [HS1.out, laid_isA] at this)
  have HKI2 := Lib.hid (show ∀ W, Below w7.heap.size w7 W → Calls Tryz.prog 14 #[.slice (some ⟨w.heap.size, 0, none⟩) 3 3] W fun e w' => e = .returned (.bool false) ∧ Below W.heap.size W w' from fun W hW => by
    have := baIs_calls _ _ W (HL7.out.below hW) (by decide) laid_small.1 (HM.out.below (below2 HB7.out hW))
    rwa [show isB (chs (T0.map toCv)) = false from laid_isL] at this)
  have HB8 := Lib.hid hB8
  have hbr : Below w7.heap.size w7 w7.drew := drew_below _
  have hbs := hB8
  clear KS1 hC8 hB8 p0 p1 p2 p3 p4 q0 q1 q2 q3 q4
  go_wp2_with fail
  go_region_held3 (fun w' => (w'.cell? ⟨w.heap.size, 0 + 1 * 5, none⟩ = some (.string ⟨#[97]⟩) ∧ w'.cell? ⟨w.heap.size, 0 + 1 * 5 + 1, none⟩ = some (.bool false) ∧ w'.cell? ⟨w.heap.size, 0 + 1 * 5 + 2, none⟩ = some (.int .i64 1) ∧ w'.cell? ⟨w.heap.size, 0 + 1 * 5 + 3, none⟩ = some (.int .i64 0) ∧ w'.cell? ⟨w.heap.size, 0 + 1 * 5 + 4, none⟩ = some (.slice none 0 0)) ∧ (w'.cell? ⟨w.heap.size, 0 + 2 * 5, none⟩ = some (.string ⟨#[98]⟩) ∧ w'.cell? ⟨w.heap.size, 0 + 2 * 5 + 1, none⟩ = some (.bool false) ∧ w'.cell? ⟨w.heap.size, 0 + 2 * 5 + 2, none⟩ = some (.int .i64 2) ∧ w'.cell? ⟨w.heap.size, 0 + 2 * 5 + 3, none⟩ = some (.int .i64 0) ∧ w'.cell? ⟨w.heap.size, 0 + 2 * 5 + 4, none⟩ = some (.slice none 0 0))) (first | exact HS.out _ hbr | exact HS.out _ hbs) (first
    | (go_at_call 13; (with_reducible refine HKS1.out.mono ?_); rintro e w8 ⟨rfl, hB9⟩; replace hbr := below2 HB8.out hB9)
    | (go_at_call 13; (with_reducible refine (HKS2.out _ hbr).mono ?_); rintro e w8 ⟨rfl, hB9⟩; replace hbr := below2 hbr hB9)
    | (go_at_call 14; (with_reducible refine (HKI1.out _ hbr).mono ?_); rintro e w8 ⟨rfl, hB9⟩; replace hbr := below2 hbr hB9)
    | (go_at_call 14; (with_reducible refine (HKI2.out _ hbr).mono ?_); rintro e w8 ⟨rfl, hB9⟩; replace hbr := below2 hbr hB9))
  all_goals
    go_wp2_with fail
    go_ret
    exact ⟨rfl, below2 HB7.out hbr⟩

end Go.Proofs.YtmbnmmnoahddcaaGreatDoor

/-
  The document's own May, Is of changes.
-/
namespace Go.Proofs.YtmbnmmnoahddcaaGreatDoor
set_option maxRecDepth 100000
open Go.RowKit

theorem empty_eq {p : List UInt8} (h : p ≠ []) : p.isEmpty = false ∧ (p == []) = false ∧ (p != []) = true := by
  cases p with
  | nil => exact absurd rfl h
  | cons x r => exact ⟨rfl, rfl, rfl⟩

set_option maxHeartbeats 4000000 in
theorem may_calls (p : List UInt8) (g : Bool) (z d : Int) (v : Value) (cs : List Int) (w : World) (hv : Ints w v cs) (hl : cs.length ≤ 1000000) (hp : p.length ≤ 1000000) :
    Calls Tryz.prog 25 #[CV p g z d v] w fun e w' => e = .returned (.bool (mayB (p, g, z, d, cs))) ∧ Below w.heap.size w w' := by
  obtain ⟨ao, cap, rfl⟩ := hv.form
  have hB0 := below_alloc w (.cells #[.string ⟨p.toArray⟩, .bool g, .int .i64 z, .int .i64 d, .slice ao cs.length cap] 36)
  have HB := Lib.hid hB0
  have KP := Lib.hid (refPathIs_calls p hp (w.alloc (.cells #[.string ⟨p.toArray⟩, .bool g, .int .i64 z, .int .i64 d, .slice ao cs.length cap] 36)))
  have HV := Lib.hid (hv.below hB0)
  have HX := Lib.hid (Cx.new w 36 [.string ⟨p.toArray⟩, .bool g, .int .i64 z, .int .i64 d, .slice ao cs.length cap])
  have e : mayB (p, g, z, d, cs) = ((p != []) && (isP p && (metaB z d cs && (!g || sameM z d cs 0 0 [])))) := rfl
  rw [e]
  clear hv hB0 e
  by_cases h0 : p = []
  · subst h0
    go_enter Tryz.func25, Tryz.ntmps25
    go_wp2_with fail
    go_ret
    exact ⟨rfl, HB.out⟩
  obtain ⟨he, he2, hne⟩ := empty_eq h0
  rw [hne, Bool.true_and]
  clear h0
  generalize isP p = b at KP ⊢
  cases b with
  | false =>
    go_enter Tryz.func25, Tryz.ntmps25
    go_wp2_with fail
    refine KP.out.mono ?_
    rintro e w1 ⟨rfl, hB1⟩
    go_wp2_with fail
    go_ret
    exact ⟨rfl, below2 HB.out hB1⟩
  | true =>
  rw [Bool.true_and]
  have KM := fun W h => rIs_calls z d _ cs W (HV.out.below h) hl
  have KZ := fun W h => mSame_calls z d _ cs 0 0 _ [] W (HV.out.below h) (Ints.nil W) hl
  generalize metaB z d cs = b at KM ⊢
  generalize sameM z d cs 0 0 [] = c at KZ ⊢
  have KM := Lib.hid KM
  have KZ := Lib.hid KZ
  cases b with
  | false =>
    go_enter Tryz.func25, Tryz.ntmps25
    go_wp2_with fail
    refine KP.out.mono ?_
    rintro e w1 ⟨rfl, hB1⟩
    obtain ⟨c0, c1, c2, c3, c4⟩ := (HX.out.below hB1).five
    go_wp2_with fail
    refine (KM.out _ hB1).mono ?_
    rintro e w2 ⟨rfl, hB2⟩
    go_wp2_with fail
    go_ret
    exact ⟨rfl, below3 HB.out hB1 hB2⟩
  | true =>
  rw [Bool.true_and]
  cases g with
  | false =>
    go_enter Tryz.func25, Tryz.ntmps25
    go_wp2_with fail
    refine KP.out.mono ?_
    rintro e w1 ⟨rfl, hB1⟩
    obtain ⟨c0, c1, c2, c3, c4⟩ := (HX.out.below hB1).five
    go_wp2_with fail
    refine (KM.out _ hB1).mono ?_
    rintro e w2 ⟨rfl, hB2⟩
    have d1 := look_below hB2 c1
    go_wp2_with fail
    go_ret
    exact ⟨rfl, below3 HB.out hB1 hB2⟩
  | true =>
    go_enter Tryz.func25, Tryz.ntmps25
    go_wp2_with fail
    refine KP.out.mono ?_
    rintro e w1 ⟨rfl, hB1⟩
    obtain ⟨c0, c1, c2, c3, c4⟩ := (HX.out.below hB1).five
    go_wp2_with fail
    refine (KM.out _ hB1).mono ?_
    rintro e w2 ⟨rfl, hB2⟩
    have hB12 := below2 hB1 hB2
    obtain ⟨d0, d1, d2, d3, d4⟩ := (HX.out.below hB12).five
    clear c0 c1 c2 c3 c4
    go_wp2_with fail
    refine (KZ.out _ hB12).mono ?_
    rintro e w3 ⟨rfl, hB3⟩
    go_wp2_with fail
    go_ret
    exact ⟨by simp, below2 (below2 HB.out hB12) hB3⟩

set_option maxHeartbeats 8000000 in
theorem rBaIs_calls (v : Value) (S : List Cv) (w : World) (h : Cgs w v S) (hn : S.length ≤ 1000000) (hs : SmallC (chs S)) :
    Calls Tryz.prog 15 #[v] w fun e w' => e = .returned (.bool (isB (chs S))) ∧ Below w.heap.size w w' := by
  obtain ⟨ao, cap, rfl⟩ := h.form
  by_cases hf : S.length < 1
  · have HF := Lib.hid (show isB (chs S) = false from isB_few (by rw [List.length_map]; omega))
    rw [HF.out]
    obtain rfl : S = [] := List.eq_nil_of_length_eq_zero (by omega)
    clear h hf hn hs
    go_enter Tryz.func15, Tryz.ntmps15
    go_wp2_with fail
    go_ret
    exact ⟨rfl, Below.refl _ _⟩
  have h1 : decide ((S.length : Int) < 1) = false := by rw [decide_eq_false_iff_not]; omega
  by_cases hg : 20 < S.length
  · have HF := Lib.hid (show isB (chs S) = false from isB_few (by rw [List.length_map]; omega))
    rw [HF.out]
    have h2 : decide ((20 : Int) < (S.length : Int)) = true := by rw [decide_eq_true_eq]; omega
    clear h hf hs hg
    go_enter Tryz.func15, Tryz.ntmps15
    go_wp2_with fail
    go_ret
    exact ⟨rfl, Below.refl _ _⟩
  have h2 : decide ((20 : Int) < (S.length : Int)) = false := by rw [decide_eq_false_iff_not]; omega
  have HL := Lib.hid (show 1 ≤ (chs S).length ∧ (chs S).length ≤ 20 by rw [List.length_map]; omega)
  have hn20 : S.length ≤ 20 := by omega
  have HH := Lib.hid h
  have HS0 := Lib.hid hs
  clear h hf hg hs
  go_enter Tryz.func15, Tryz.ntmps15
  go_wp2_with fail
  go_loopw [3] (fun i wr => ∃ k : Nat, i = .int .i64 k ∧ k ≤ S.length ∧ Hid (okTo (chs S) k) ∧ Hid (Below w.heap.size w wr)) (fun i _ => S.length - (intOf i).toNat)
  case atStart => exact ⟨0, rfl, Nat.zero_le _, Lib.hid (okTo_zero _), Lib.hid (Below.refl _ _)⟩
  case round =>
    obtain ⟨k, rfl, hk, hf, hB⟩ := hrel
    by_cases hlt : k < S.length
    · obtain ⟨b, off, rfl, ⟨c0, c1, c2, c3, c4⟩, hI⟩ := (HH.out.below hB.out).at hlt
      have hltc : k < (chs S).length := by simpa using hlt
      have hsm := HS0.out _ (List.getElem_mem hltc)
      have hgo1 := fun (h1 : 0 < S.length) h => okTo_one (l := chs S) (by simpa using h1) h
      have hgo := fun (j : Nat) (h1 : j + 1 < S.length) hf h h2 => okTo_succ (l := chs S) (k := j) hf (by simpa using h1) h h2
      have hno := fun h => isB_may_not (l := chs S) hltc h
      have hno2 := fun (j : Nat) (h1 : j + 1 < S.length) h => isB_rise_not (l := chs S) (k := j) (by simpa using h1) h
      have hat := fun (j : Nat) (hj : j < S.length) => (HH.out.below hB.out).at (k := j) hj
      have hsz := hB.out.size
      simp only [List.getElem_map] at hsm hgo1 hgo hno hno2
      obtain ⟨⟨⟨q, g, z, d, cs⟩, vv⟩, hx⟩ : ∃ x, S[k] = x := ⟨_, rfl⟩
      rw [hx] at c0 c1 c2 c3 c4 hI hsm hno
      dsimp only at c0 c1 c2 c3 c4 hI hsm hno
      obtain ⟨s1, s3, rfl⟩ := hI.form
      obtain ⟨s2, hs2⟩ : ∃ n, cs.length = n := ⟨_, rfl⟩
      rw [hs2] at c4
      have hC : ∀ W, Below wr.heap.size wr W → (W.cell? ⟨b, off + k * 5, none⟩ = some (.string ⟨q.toArray⟩) ∧ W.cell? ⟨b, off + k * 5 + 1, none⟩ = some (.bool g) ∧ W.cell? ⟨b, off + k * 5 + 2, none⟩ = some (.int .i64 z) ∧ W.cell? ⟨b, off + k * 5 + 3, none⟩ = some (.int .i64 d) ∧ W.cell? ⟨b, off + k * 5 + 4, none⟩ = some (.slice s1 s2 s3)) :=
        fun W hW => ⟨look_below hW c0, look_below hW c1, look_below hW c2, look_below hW c3, look_below hW c4⟩
      have hK : ∀ W, Below wr.heap.size wr W → Calls Tryz.prog 25 #[CV q g z d (.slice s1 s2 s3)] W fun e w' => e = .returned (.bool (mayB (q, g, z, d, cs))) ∧ Below W.heap.size W w' :=
        fun W hW => hs2 ▸ may_calls q g z d _ cs W (hI.below hW) hsm.2 hsm.1
      have hbr : Below wr.heap.size wr wr.drew := drew_below _
      have HC := Lib.hid hC
      have HKM := Lib.hid hK
      have HR := Lib.hid (And.intro hno (And.intro hno2 (And.intro hgo (And.intro hgo1 hat))))
      have hk1 : (0 : Int) ≤ (k : Int) := by omega
      have hk2 : (k : Int) < (S.length : Int) := by omega
      clear hs2 hI hsm hC hK hno hno2 hgo hgo1 hat c0 c1 c2 c3 c4
      go_wp2_with fail
      cases hma : mayB (q, g, z, d, cs) with
      | false =>
        have KM := Lib.hid (hma ▸ HKM.out)
        have HN := Lib.hid (HR.out.1 hma)
        clear hma HKM HR
        refine wp_region_held_drew (S := (fun w' => w'.cell? ⟨b, off + k * 5, none⟩ = some (.string ⟨q.toArray⟩) ∧ w'.cell? ⟨b, off + k * 5 + 1, none⟩ = some (.bool g) ∧ w'.cell? ⟨b, off + k * 5 + 2, none⟩ = some (.int .i64 z) ∧ w'.cell? ⟨b, off + k * 5 + 3, none⟩ = some (.int .i64 d) ∧ w'.cell? ⟨b, off + k * 5 + 4, none⟩ = some (.slice s1 s2 s3))) (by kernel_rfl) (HC.out _ hbr) (fun hHeld => ?_)
        refine wpAnyH_take (i := 0) (oi := ⟨_, _, _, _, _, _⟩) (v := ?_) rfl (by kernel_rfl) (by kernel_rfl) (by kernel_rfl) (fun _ _ _ h => h) (Or.inl ⟨by rfl, ?_⟩) hHeld ?_
        rotate_left
        · (intro w hSw; (try dsimp only at hSw); go_simp; try with_reducible rfl)
        try simp only [Act.put, List.setIfInBounds_toArray, List.set_cons_zero, List.set_cons_succ]
        refine wpAnyH_take (i := 1) (oi := ⟨_, _, _, _, _, _⟩) (v := ?_) rfl (by kernel_rfl) (by kernel_rfl) (by kernel_rfl) (fun _ _ _ h => h) (Or.inl ⟨by rfl, ?_⟩) hHeld ?_
        rotate_left
        · (intro w hSw; (try dsimp only at hSw); go_simp; try with_reducible rfl)
        try simp only [Act.put, List.setIfInBounds_toArray, List.set_cons_zero, List.set_cons_succ]
        refine wpAnyH_take (i := 2) (oi := ⟨_, _, _, _, _, _⟩) (v := ?_) rfl (by kernel_rfl) (by kernel_rfl) (by kernel_rfl) (fun _ _ _ h => h) (Or.inl ⟨by rfl, ?_⟩) hHeld ?_
        rotate_left
        · (intro w hSw; (try dsimp only at hSw); go_simp; try with_reducible rfl)
        try simp only [Act.put, List.setIfInBounds_toArray, List.set_cons_zero, List.set_cons_succ]
        refine wpAnyH_take (i := 3) (oi := ⟨_, _, _, _, _, _⟩) (v := ?_) rfl (by kernel_rfl) (by kernel_rfl) (by kernel_rfl) (fun _ _ _ h => h) (Or.inl ⟨by rfl, ?_⟩) hHeld ?_
        rotate_left
        · (intro w hSw; (try dsimp only at hSw); go_simp; try with_reducible rfl)
        try simp only [Act.put, List.setIfInBounds_toArray, List.set_cons_zero, List.set_cons_succ]
        refine wpAnyH_ready (rs := [4]) (by kernel_rfl) (by simp) ?_
        refine AllReadyH.cons (o := ⟨_, _, _, _, _, _⟩) rfl (fun K hK => ?_) AllReadyH.nil
        go_simp
        (refine (KM.out _ hbr).mono ?_; rintro e w1 ⟨rfl, hB1⟩; replace hbr := below2 hbr hB1)
        refine hK.out _ _ (HC.out _ hbr) (fun hHeld => ?_)
        clear hK K
        try simp only [Act.put, List.setIfInBounds_toArray, List.set_cons_zero, List.set_cons_succ]
        refine wpAnyH_take (i := 5) (oi := ⟨_, _, _, _, _, _⟩) (v := ?_) rfl (by kernel_rfl) (by kernel_rfl) (by kernel_rfl) (fun _ _ _ h => h) (Or.inl ⟨by rfl, ?_⟩) hHeld ?_
        rotate_left
        · (intro w hSw; (try dsimp only at hSw); go_simp; try with_reducible rfl)
        try simp only [Act.put, List.setIfInBounds_toArray, List.set_cons_zero, List.set_cons_succ]
        refine wpAnyH_take (i := 6) (oi := ⟨_, _, _, _, _, _⟩) (v := ?_) rfl (by kernel_rfl) (by kernel_rfl) (by kernel_rfl) (fun _ _ _ h => h) (Or.inl ⟨by rfl, ?_⟩) hHeld ?_
        rotate_left
        · (intro w hSw; (try dsimp only at hSw); go_simp; try with_reducible rfl)
        try simp only [Act.put, List.setIfInBounds_toArray, List.set_cons_zero, List.set_cons_succ]
        refine wpAnyH_take (i := 7) (oi := ⟨_, _, _, _, _, _⟩) (v := undef) rfl (by kernel_rfl) (by kernel_rfl) (by kernel_rfl) (fun _ _ _ h => h) (Or.inr ⟨by rfl, rfl⟩) hHeld ?_
        try simp only [Act.put, List.setIfInBounds_toArray, List.set_cons_zero, List.set_cons_succ]
        refine wpAnyH_take (i := 8) (oi := ⟨_, _, _, _, _, _⟩) (v := undef) rfl (by kernel_rfl) (by kernel_rfl) (by kernel_rfl) (fun _ _ _ h => h) (Or.inr ⟨by rfl, rfl⟩) hHeld ?_
        try simp only [Act.put, List.setIfInBounds_toArray, List.set_cons_zero, List.set_cons_succ]
        refine wpAnyH_take (i := 9) (oi := ⟨_, _, _, _, _, _⟩) (v := undef) rfl (by kernel_rfl) (by kernel_rfl) (by kernel_rfl) (fun _ _ _ h => h) (Or.inr ⟨by rfl, rfl⟩) hHeld ?_
        try simp only [Act.put, List.setIfInBounds_toArray, List.set_cons_zero, List.set_cons_succ]
        refine wpAnyH_take (i := 10) (oi := ⟨_, _, _, _, _, _⟩) (v := undef) rfl (by kernel_rfl) (by kernel_rfl) (by kernel_rfl) (fun _ _ _ h => h) (Or.inr ⟨by rfl, rfl⟩) hHeld ?_
        try simp only [Act.put, List.setIfInBounds_toArray, List.set_cons_zero, List.set_cons_succ]
        refine wpAnyH_take (i := 11) (oi := ⟨_, _, _, _, _, _⟩) (v := undef) rfl (by kernel_rfl) (by kernel_rfl) (by kernel_rfl) (fun _ _ _ h => h) (Or.inr ⟨by rfl, rfl⟩) hHeld ?_
        try simp only [Act.put, List.setIfInBounds_toArray, List.set_cons_zero, List.set_cons_succ]
        refine wpAnyH_take (i := 12) (oi := ⟨_, _, _, _, _, _⟩) (v := undef) rfl (by kernel_rfl) (by kernel_rfl) (by kernel_rfl) (fun _ _ _ h => h) (Or.inr ⟨by rfl, rfl⟩) hHeld ?_
        try simp only [Act.put, List.setIfInBounds_toArray, List.set_cons_zero, List.set_cons_succ]
        refine wpAnyH_take (i := 13) (oi := ⟨_, _, _, _, _, _⟩) (v := undef) rfl (by kernel_rfl) (by kernel_rfl) (by kernel_rfl) (fun _ _ _ h => h) (Or.inr ⟨by rfl, rfl⟩) hHeld ?_
        try simp only [Act.put, List.setIfInBounds_toArray, List.set_cons_zero, List.set_cons_succ]
        refine wpAnyH_take (i := 14) (oi := ⟨_, _, _, _, _, _⟩) (v := undef) rfl (by kernel_rfl) (by kernel_rfl) (by kernel_rfl) (fun _ _ _ h => h) (Or.inr ⟨by rfl, rfl⟩) hHeld ?_
        try simp only [Act.put, List.setIfInBounds_toArray, List.set_cons_zero, List.set_cons_succ]
        refine wpAnyH_take (i := 15) (oi := ⟨_, _, _, _, _, _⟩) (v := undef) rfl (by kernel_rfl) (by kernel_rfl) (by kernel_rfl) (fun _ _ _ h => h) (Or.inr ⟨by rfl, rfl⟩) hHeld ?_
        try simp only [Act.put, List.setIfInBounds_toArray, List.set_cons_zero, List.set_cons_succ]
        refine wpAnyH_take (i := 16) (oi := ⟨_, _, _, _, _, _⟩) (v := undef) rfl (by kernel_rfl) (by kernel_rfl) (by kernel_rfl) (fun _ _ _ h => h) (Or.inr ⟨by rfl, rfl⟩) hHeld ?_
        try simp only [Act.put, List.setIfInBounds_toArray, List.set_cons_zero, List.set_cons_succ]
        refine wpAnyH_take (i := 17) (oi := ⟨_, _, _, _, _, _⟩) (v := undef) rfl (by kernel_rfl) (by kernel_rfl) (by kernel_rfl) (fun _ _ _ h => h) (Or.inr ⟨by rfl, rfl⟩) hHeld ?_
        try simp only [Act.put, List.setIfInBounds_toArray, List.set_cons_zero, List.set_cons_succ]
        refine wpAnyH_take (i := 18) (oi := ⟨_, _, _, _, _, _⟩) (v := undef) rfl (by kernel_rfl) (by kernel_rfl) (by kernel_rfl) (fun _ _ _ h => h) (Or.inr ⟨by rfl, rfl⟩) hHeld ?_
        try simp only [Act.put, List.setIfInBounds_toArray, List.set_cons_zero, List.set_cons_succ]
        refine wpAnyH_take (i := 19) (oi := ⟨_, _, _, _, _, _⟩) (v := undef) rfl (by kernel_rfl) (by kernel_rfl) (by kernel_rfl) (fun _ _ _ h => h) (Or.inr ⟨by rfl, rfl⟩) hHeld ?_
        try simp only [Act.put, List.setIfInBounds_toArray, List.set_cons_zero, List.set_cons_succ]
        refine wpAnyH_take (i := 20) (oi := ⟨_, _, _, _, _, _⟩) (v := undef) rfl (by kernel_rfl) (by kernel_rfl) (by kernel_rfl) (fun _ _ _ h => h) (Or.inr ⟨by rfl, rfl⟩) hHeld ?_
        try simp only [Act.put, List.setIfInBounds_toArray, List.set_cons_zero, List.set_cons_succ]
        refine wpAnyH_take (i := 21) (oi := ⟨_, _, _, _, _, _⟩) (v := undef) rfl (by kernel_rfl) (by kernel_rfl) (by kernel_rfl) (fun _ _ _ h => h) (Or.inr ⟨by rfl, rfl⟩) hHeld ?_
        try simp only [Act.put, List.setIfInBounds_toArray, List.set_cons_zero, List.set_cons_succ]
        refine wpAnyH_take (i := 22) (oi := ⟨_, _, _, _, _, _⟩) (v := undef) rfl (by kernel_rfl) (by kernel_rfl) (by kernel_rfl) (fun _ _ _ h => h) (Or.inr ⟨by rfl, rfl⟩) hHeld ?_
        try simp only [Act.put, List.setIfInBounds_toArray, List.set_cons_zero, List.set_cons_succ]
        refine wpAnyH_take (i := 23) (oi := ⟨_, _, _, _, _, _⟩) (v := ?_) rfl (by kernel_rfl) (by kernel_rfl) (by kernel_rfl) (fun _ _ _ h => h) (Or.inl ⟨by rfl, ?_⟩) hHeld ?_
        rotate_left
        · (intro w hSw; (try dsimp only at hSw); go_simp; try with_reducible rfl)
        try simp only [Act.put, List.setIfInBounds_toArray, List.set_cons_zero, List.set_cons_succ]
        refine wpAnyH_done (by kernel_rfl) ?_ _

        go_wp2_with fail
        go_ret
        exact ⟨by rw [HN.out]; rfl, below2 hB.out hbr⟩
      | true =>
        have KM := Lib.hid (hma ▸ HKM.out)
        by_cases hk0 : k = 0
        · have hd0 : decide (0 < k) = false := by rw [decide_eq_false_iff_not]; omega
          have HG : Hid (okTo (chs S) (k + 1)) := Lib.hid (by subst hk0; exact HR.out.2.2.2.1 hlt (by rw [hx]; exact hma))
          clear hma HKM HR hk0
          refine wp_region_held_drew (S := (fun w' => w'.cell? ⟨b, off + k * 5, none⟩ = some (.string ⟨q.toArray⟩) ∧ w'.cell? ⟨b, off + k * 5 + 1, none⟩ = some (.bool g) ∧ w'.cell? ⟨b, off + k * 5 + 2, none⟩ = some (.int .i64 z) ∧ w'.cell? ⟨b, off + k * 5 + 3, none⟩ = some (.int .i64 d) ∧ w'.cell? ⟨b, off + k * 5 + 4, none⟩ = some (.slice s1 s2 s3))) (by kernel_rfl) (HC.out _ hbr) (fun hHeld => ?_)
          refine wpAnyH_take (i := 0) (oi := ⟨_, _, _, _, _, _⟩) (v := ?_) rfl (by kernel_rfl) (by kernel_rfl) (by kernel_rfl) (fun _ _ _ h => h) (Or.inl ⟨by rfl, ?_⟩) hHeld ?_
          rotate_left
          · (intro w hSw; (try dsimp only at hSw); go_simp; try with_reducible rfl)
          try simp only [Act.put, List.setIfInBounds_toArray, List.set_cons_zero, List.set_cons_succ]
          refine wpAnyH_take (i := 1) (oi := ⟨_, _, _, _, _, _⟩) (v := ?_) rfl (by kernel_rfl) (by kernel_rfl) (by kernel_rfl) (fun _ _ _ h => h) (Or.inl ⟨by rfl, ?_⟩) hHeld ?_
          rotate_left
          · (intro w hSw; (try dsimp only at hSw); go_simp; try with_reducible rfl)
          try simp only [Act.put, List.setIfInBounds_toArray, List.set_cons_zero, List.set_cons_succ]
          refine wpAnyH_take (i := 2) (oi := ⟨_, _, _, _, _, _⟩) (v := ?_) rfl (by kernel_rfl) (by kernel_rfl) (by kernel_rfl) (fun _ _ _ h => h) (Or.inl ⟨by rfl, ?_⟩) hHeld ?_
          rotate_left
          · (intro w hSw; (try dsimp only at hSw); go_simp; try with_reducible rfl)
          try simp only [Act.put, List.setIfInBounds_toArray, List.set_cons_zero, List.set_cons_succ]
          refine wpAnyH_take (i := 3) (oi := ⟨_, _, _, _, _, _⟩) (v := ?_) rfl (by kernel_rfl) (by kernel_rfl) (by kernel_rfl) (fun _ _ _ h => h) (Or.inl ⟨by rfl, ?_⟩) hHeld ?_
          rotate_left
          · (intro w hSw; (try dsimp only at hSw); go_simp; try with_reducible rfl)
          try simp only [Act.put, List.setIfInBounds_toArray, List.set_cons_zero, List.set_cons_succ]
          refine wpAnyH_ready (rs := [4]) (by kernel_rfl) (by simp) ?_
          refine AllReadyH.cons (o := ⟨_, _, _, _, _, _⟩) rfl (fun K hK => ?_) AllReadyH.nil
          go_simp
          (refine (KM.out _ hbr).mono ?_; rintro e w1 ⟨rfl, hB1⟩; replace hbr := below2 hbr hB1)
          refine hK.out _ _ (HC.out _ hbr) (fun hHeld => ?_)
          clear hK K
          try simp only [Act.put, List.setIfInBounds_toArray, List.set_cons_zero, List.set_cons_succ]
          refine wpAnyH_take (i := 5) (oi := ⟨_, _, _, _, _, _⟩) (v := ?_) rfl (by kernel_rfl) (by kernel_rfl) (by kernel_rfl) (fun _ _ _ h => h) (Or.inl ⟨by rfl, ?_⟩) hHeld ?_
          rotate_left
          · (intro w hSw; (try dsimp only at hSw); go_simp; try with_reducible rfl)
          try simp only [Act.put, List.setIfInBounds_toArray, List.set_cons_zero, List.set_cons_succ]
          refine wpAnyH_take (i := 6) (oi := ⟨_, _, _, _, _, _⟩) (v := ?_) rfl (by kernel_rfl) (by kernel_rfl) (by kernel_rfl) (fun _ _ _ h => h) (Or.inl ⟨by rfl, ?_⟩) hHeld ?_
          rotate_left
          · (intro w hSw; (try dsimp only at hSw); go_simp; try with_reducible rfl)
          try simp only [Act.put, List.setIfInBounds_toArray, List.set_cons_zero, List.set_cons_succ]
          refine wpAnyH_take (i := 7) (oi := ⟨_, _, _, _, _, _⟩) (v := ?_) rfl (by kernel_rfl) (by kernel_rfl) (by kernel_rfl) (fun _ _ _ h => h) (Or.inl ⟨by rfl, ?_⟩) hHeld ?_
          rotate_left
          · (intro w hSw; (try dsimp only at hSw); go_simp; try with_reducible rfl)
          try simp only [Act.put, List.setIfInBounds_toArray, List.set_cons_zero, List.set_cons_succ]
          refine wpAnyH_take (i := 8) (oi := ⟨_, _, _, _, _, _⟩) (v := ?_) rfl (by kernel_rfl) (by kernel_rfl) (by kernel_rfl) (fun _ _ _ h => h) (Or.inl ⟨by rfl, ?_⟩) hHeld ?_
          rotate_left
          · (intro w hSw; (try dsimp only at hSw); go_simp; try with_reducible rfl)
          try simp only [Act.put, List.setIfInBounds_toArray, List.set_cons_zero, List.set_cons_succ]
          refine wpAnyH_take (i := 9) (oi := ⟨_, _, _, _, _, _⟩) (v := ?_) rfl (by kernel_rfl) (by kernel_rfl) (by kernel_rfl) (fun _ _ _ h => h) (Or.inl ⟨by rfl, ?_⟩) hHeld ?_
          rotate_left
          · (intro w hSw; (try dsimp only at hSw); go_simp; try with_reducible rfl)
          try simp only [Act.put, List.setIfInBounds_toArray, List.set_cons_zero, List.set_cons_succ]
          refine wpAnyH_take (i := 10) (oi := ⟨_, _, _, _, _, _⟩) (v := undef) rfl (by kernel_rfl) (by kernel_rfl) (by kernel_rfl) (fun _ _ _ h => h) (Or.inr ⟨by rfl, rfl⟩) hHeld ?_
          try simp only [Act.put, List.setIfInBounds_toArray, List.set_cons_zero, List.set_cons_succ]
          refine wpAnyH_take (i := 11) (oi := ⟨_, _, _, _, _, _⟩) (v := undef) rfl (by kernel_rfl) (by kernel_rfl) (by kernel_rfl) (fun _ _ _ h => h) (Or.inr ⟨by rfl, rfl⟩) hHeld ?_
          try simp only [Act.put, List.setIfInBounds_toArray, List.set_cons_zero, List.set_cons_succ]
          refine wpAnyH_take (i := 12) (oi := ⟨_, _, _, _, _, _⟩) (v := undef) rfl (by kernel_rfl) (by kernel_rfl) (by kernel_rfl) (fun _ _ _ h => h) (Or.inr ⟨by rfl, rfl⟩) hHeld ?_
          try simp only [Act.put, List.setIfInBounds_toArray, List.set_cons_zero, List.set_cons_succ]
          refine wpAnyH_take (i := 13) (oi := ⟨_, _, _, _, _, _⟩) (v := undef) rfl (by kernel_rfl) (by kernel_rfl) (by kernel_rfl) (fun _ _ _ h => h) (Or.inr ⟨by rfl, rfl⟩) hHeld ?_
          try simp only [Act.put, List.setIfInBounds_toArray, List.set_cons_zero, List.set_cons_succ]
          refine wpAnyH_take (i := 14) (oi := ⟨_, _, _, _, _, _⟩) (v := undef) rfl (by kernel_rfl) (by kernel_rfl) (by kernel_rfl) (fun _ _ _ h => h) (Or.inr ⟨by rfl, rfl⟩) hHeld ?_
          try simp only [Act.put, List.setIfInBounds_toArray, List.set_cons_zero, List.set_cons_succ]
          refine wpAnyH_take (i := 15) (oi := ⟨_, _, _, _, _, _⟩) (v := undef) rfl (by kernel_rfl) (by kernel_rfl) (by kernel_rfl) (fun _ _ _ h => h) (Or.inr ⟨by rfl, rfl⟩) hHeld ?_
          try simp only [Act.put, List.setIfInBounds_toArray, List.set_cons_zero, List.set_cons_succ]
          refine wpAnyH_take (i := 16) (oi := ⟨_, _, _, _, _, _⟩) (v := undef) rfl (by kernel_rfl) (by kernel_rfl) (by kernel_rfl) (fun _ _ _ h => h) (Or.inr ⟨by rfl, rfl⟩) hHeld ?_
          try simp only [Act.put, List.setIfInBounds_toArray, List.set_cons_zero, List.set_cons_succ]
          refine wpAnyH_take (i := 17) (oi := ⟨_, _, _, _, _, _⟩) (v := undef) rfl (by kernel_rfl) (by kernel_rfl) (by kernel_rfl) (fun _ _ _ h => h) (Or.inr ⟨by rfl, rfl⟩) hHeld ?_
          try simp only [Act.put, List.setIfInBounds_toArray, List.set_cons_zero, List.set_cons_succ]
          refine wpAnyH_take (i := 18) (oi := ⟨_, _, _, _, _, _⟩) (v := undef) rfl (by kernel_rfl) (by kernel_rfl) (by kernel_rfl) (fun _ _ _ h => h) (Or.inr ⟨by rfl, rfl⟩) hHeld ?_
          try simp only [Act.put, List.setIfInBounds_toArray, List.set_cons_zero, List.set_cons_succ]
          refine wpAnyH_take (i := 19) (oi := ⟨_, _, _, _, _, _⟩) (v := undef) rfl (by kernel_rfl) (by kernel_rfl) (by kernel_rfl) (fun _ _ _ h => h) (Or.inr ⟨by rfl, rfl⟩) hHeld ?_
          try simp only [Act.put, List.setIfInBounds_toArray, List.set_cons_zero, List.set_cons_succ]
          refine wpAnyH_take (i := 20) (oi := ⟨_, _, _, _, _, _⟩) (v := undef) rfl (by kernel_rfl) (by kernel_rfl) (by kernel_rfl) (fun _ _ _ h => h) (Or.inr ⟨by rfl, rfl⟩) hHeld ?_
          try simp only [Act.put, List.setIfInBounds_toArray, List.set_cons_zero, List.set_cons_succ]
          refine wpAnyH_take (i := 21) (oi := ⟨_, _, _, _, _, _⟩) (v := undef) rfl (by kernel_rfl) (by kernel_rfl) (by kernel_rfl) (fun _ _ _ h => h) (Or.inr ⟨by rfl, rfl⟩) hHeld ?_
          try simp only [Act.put, List.setIfInBounds_toArray, List.set_cons_zero, List.set_cons_succ]
          refine wpAnyH_take (i := 22) (oi := ⟨_, _, _, _, _, _⟩) (v := ?_) rfl (by kernel_rfl) (by kernel_rfl) (by kernel_rfl) (fun _ _ _ h => h) (Or.inl ⟨by rfl, ?_⟩) hHeld ?_
          rotate_left
          · (intro w hSw; (try dsimp only at hSw); go_simp; try with_reducible rfl)
          try simp only [Act.put, List.setIfInBounds_toArray, List.set_cons_zero, List.set_cons_succ]
          refine wpAnyH_take (i := 23) (oi := ⟨_, _, _, _, _, _⟩) (v := ?_) rfl (by kernel_rfl) (by kernel_rfl) (by kernel_rfl) (fun _ _ _ h => h) (Or.inl ⟨by rfl, ?_⟩) hHeld ?_
          rotate_left
          · (intro w hSw; (try dsimp only at hSw); go_simp; try with_reducible rfl)
          try simp only [Act.put, List.setIfInBounds_toArray, List.set_cons_zero, List.set_cons_succ]
          refine wpAnyH_done (by kernel_rfl) ?_ _

          go_wp2_with fail
          go_roundw
          case rel => exact ⟨k + 1, by go_num, by omega, HG, Lib.hid (below2 hB.out hbr)⟩
          case measure => simp [intOf]; omega
        · obtain ⟨j, hj⟩ : ∃ j, k = j + 1 := ⟨k - 1, by omega⟩
          have hd0 : decide (0 < k) = true := by rw [decide_eq_true_eq]; omega
          have hw1 : IntKind.i64.wrap ((k : Int) - 1) = (j : Int) := by rw [IntWalk.i64_in _ (by omega)]; omega
          have hjl : j < S.length := by omega
          have hw2 : IntKind.i64.wrap (j : Int) = (j : Int) := IntWalk.i64_in _ (by omega)
          have hj4 : (0 : Int) ≤ (j : Int) := by omega
          have hj5 : (j : Int) < (S.length : Int) := by omega
          obtain ⟨b2, off2, he2, ⟨e0, _, _, _, _⟩, _⟩ := HR.out.2.2.2.2 j hjl
          cases he2
          obtain ⟨⟨⟨p, g', z', d', cs'⟩, vv'⟩, hy⟩ : ∃ x, S[j] = x := ⟨_, rfl⟩
          rw [hy] at e0
          dsimp only at e0
          have HS2 := Lib.hid (fun (W : World) (hW : Below wr.heap.size wr W) => And.intro (HC.out W hW) (look_below hW e0))
          clear e0 HKM
          cases hl : Op.bytesLess p q with
          | false =>
            have HN : Hid (isB (chs S) = false) := Lib.hid (by
              have h2 := HR.out.2.1 j (by omega)
              subst hj
              rw [hx, hy] at h2
              exact h2 hl)
            clear hma HR hk0 hx hy hj
            refine wp_region_held_drew (S := (fun w' => (w'.cell? ⟨b, off + k * 5, none⟩ = some (.string ⟨q.toArray⟩) ∧ w'.cell? ⟨b, off + k * 5 + 1, none⟩ = some (.bool g) ∧ w'.cell? ⟨b, off + k * 5 + 2, none⟩ = some (.int .i64 z) ∧ w'.cell? ⟨b, off + k * 5 + 3, none⟩ = some (.int .i64 d) ∧ w'.cell? ⟨b, off + k * 5 + 4, none⟩ = some (.slice s1 s2 s3)) ∧ w'.cell? ⟨b, off + j * 5, none⟩ = some (.string ⟨p.toArray⟩))) (by kernel_rfl) (HS2.out _ hbr) (fun hHeld => ?_)
            refine wpAnyH_take (i := 0) (oi := ⟨_, _, _, _, _, _⟩) (v := ?_) rfl (by kernel_rfl) (by kernel_rfl) (by kernel_rfl) (fun _ _ _ h => h) (Or.inl ⟨by rfl, ?_⟩) hHeld ?_
            rotate_left
            · (intro w hSw; (try dsimp only at hSw); go_simp; try with_reducible rfl)
            try simp only [Act.put, List.setIfInBounds_toArray, List.set_cons_zero, List.set_cons_succ]
            refine wpAnyH_take (i := 1) (oi := ⟨_, _, _, _, _, _⟩) (v := ?_) rfl (by kernel_rfl) (by kernel_rfl) (by kernel_rfl) (fun _ _ _ h => h) (Or.inl ⟨by rfl, ?_⟩) hHeld ?_
            rotate_left
            · (intro w hSw; (try dsimp only at hSw); go_simp; try with_reducible rfl)
            try simp only [Act.put, List.setIfInBounds_toArray, List.set_cons_zero, List.set_cons_succ]
            refine wpAnyH_take (i := 2) (oi := ⟨_, _, _, _, _, _⟩) (v := ?_) rfl (by kernel_rfl) (by kernel_rfl) (by kernel_rfl) (fun _ _ _ h => h) (Or.inl ⟨by rfl, ?_⟩) hHeld ?_
            rotate_left
            · (intro w hSw; (try dsimp only at hSw); go_simp; try with_reducible rfl)
            try simp only [Act.put, List.setIfInBounds_toArray, List.set_cons_zero, List.set_cons_succ]
            refine wpAnyH_take (i := 3) (oi := ⟨_, _, _, _, _, _⟩) (v := ?_) rfl (by kernel_rfl) (by kernel_rfl) (by kernel_rfl) (fun _ _ _ h => h) (Or.inl ⟨by rfl, ?_⟩) hHeld ?_
            rotate_left
            · (intro w hSw; (try dsimp only at hSw); go_simp; try with_reducible rfl)
            try simp only [Act.put, List.setIfInBounds_toArray, List.set_cons_zero, List.set_cons_succ]
            refine wpAnyH_ready (rs := [4]) (by kernel_rfl) (by simp) ?_
            refine AllReadyH.cons (o := ⟨_, _, _, _, _, _⟩) rfl (fun K hK => ?_) AllReadyH.nil
            go_simp
            (refine (KM.out _ hbr).mono ?_; rintro e w1 ⟨rfl, hB1⟩; replace hbr := below2 hbr hB1)
            refine hK.out _ _ (HS2.out _ hbr) (fun hHeld => ?_)
            clear hK K
            try simp only [Act.put, List.setIfInBounds_toArray, List.set_cons_zero, List.set_cons_succ]
            refine wpAnyH_take (i := 5) (oi := ⟨_, _, _, _, _, _⟩) (v := ?_) rfl (by kernel_rfl) (by kernel_rfl) (by kernel_rfl) (fun _ _ _ h => h) (Or.inl ⟨by rfl, ?_⟩) hHeld ?_
            rotate_left
            · (intro w hSw; (try dsimp only at hSw); go_simp; try with_reducible rfl)
            try simp only [Act.put, List.setIfInBounds_toArray, List.set_cons_zero, List.set_cons_succ]
            refine wpAnyH_take (i := 6) (oi := ⟨_, _, _, _, _, _⟩) (v := ?_) rfl (by kernel_rfl) (by kernel_rfl) (by kernel_rfl) (fun _ _ _ h => h) (Or.inl ⟨by rfl, ?_⟩) hHeld ?_
            rotate_left
            · (intro w hSw; (try dsimp only at hSw); go_simp; try with_reducible rfl)
            try simp only [Act.put, List.setIfInBounds_toArray, List.set_cons_zero, List.set_cons_succ]
            refine wpAnyH_take (i := 7) (oi := ⟨_, _, _, _, _, _⟩) (v := ?_) rfl (by kernel_rfl) (by kernel_rfl) (by kernel_rfl) (fun _ _ _ h => h) (Or.inl ⟨by rfl, ?_⟩) hHeld ?_
            rotate_left
            · (intro w hSw; (try dsimp only at hSw); go_simp; try with_reducible rfl)
            try simp only [Act.put, List.setIfInBounds_toArray, List.set_cons_zero, List.set_cons_succ]
            refine wpAnyH_take (i := 8) (oi := ⟨_, _, _, _, _, _⟩) (v := ?_) rfl (by kernel_rfl) (by kernel_rfl) (by kernel_rfl) (fun _ _ _ h => h) (Or.inl ⟨by rfl, ?_⟩) hHeld ?_
            rotate_left
            · (intro w hSw; (try dsimp only at hSw); go_simp; try with_reducible rfl)
            try simp only [Act.put, List.setIfInBounds_toArray, List.set_cons_zero, List.set_cons_succ]
            refine wpAnyH_take (i := 9) (oi := ⟨_, _, _, _, _, _⟩) (v := ?_) rfl (by kernel_rfl) (by kernel_rfl) (by kernel_rfl) (fun _ _ _ h => h) (Or.inl ⟨by rfl, ?_⟩) hHeld ?_
            rotate_left
            · (intro w hSw; (try dsimp only at hSw); go_simp; try with_reducible rfl)
            try simp only [Act.put, List.setIfInBounds_toArray, List.set_cons_zero, List.set_cons_succ]
            refine wpAnyH_take (i := 10) (oi := ⟨_, _, _, _, _, _⟩) (v := ?_) rfl (by kernel_rfl) (by kernel_rfl) (by kernel_rfl) (fun _ _ _ h => h) (Or.inl ⟨by rfl, ?_⟩) hHeld ?_
            rotate_left
            · (intro w hSw; (try dsimp only at hSw); go_simp; try with_reducible rfl)
            try simp only [Act.put, List.setIfInBounds_toArray, List.set_cons_zero, List.set_cons_succ]
            refine wpAnyH_take (i := 11) (oi := ⟨_, _, _, _, _, _⟩) (v := ?_) rfl (by kernel_rfl) (by kernel_rfl) (by kernel_rfl) (fun _ _ _ h => h) (Or.inl ⟨by rfl, ?_⟩) hHeld ?_
            rotate_left
            · (intro w hSw; (try dsimp only at hSw); go_simp; try with_reducible rfl)
            try simp only [Act.put, List.setIfInBounds_toArray, List.set_cons_zero, List.set_cons_succ]
            refine wpAnyH_take (i := 12) (oi := ⟨_, _, _, _, _, _⟩) (v := ?_) rfl (by kernel_rfl) (by kernel_rfl) (by kernel_rfl) (fun _ _ _ h => h) (Or.inl ⟨by rfl, ?_⟩) hHeld ?_
            rotate_left
            · (intro w hSw; (try dsimp only at hSw); go_simp; try with_reducible rfl)
            try simp only [Act.put, List.setIfInBounds_toArray, List.set_cons_zero, List.set_cons_succ]
            refine wpAnyH_take (i := 13) (oi := ⟨_, _, _, _, _, _⟩) (v := ?_) rfl (by kernel_rfl) (by kernel_rfl) (by kernel_rfl) (fun _ _ _ h => h) (Or.inl ⟨by rfl, ?_⟩) hHeld ?_
            rotate_left
            · (intro w hSw; (try dsimp only at hSw); go_simp; try with_reducible rfl)
            try simp only [Act.put, List.setIfInBounds_toArray, List.set_cons_zero, List.set_cons_succ]
            refine wpAnyH_take (i := 14) (oi := ⟨_, _, _, _, _, _⟩) (v := ?_) rfl (by kernel_rfl) (by kernel_rfl) (by kernel_rfl) (fun _ _ _ h => h) (Or.inl ⟨by rfl, ?_⟩) hHeld ?_
            rotate_left
            · (intro w hSw; (try dsimp only at hSw); go_simp; try with_reducible rfl)
            try simp only [Act.put, List.setIfInBounds_toArray, List.set_cons_zero, List.set_cons_succ]
            refine wpAnyH_take (i := 15) (oi := ⟨_, _, _, _, _, _⟩) (v := ?_) rfl (by kernel_rfl) (by kernel_rfl) (by kernel_rfl) (fun _ _ _ h => h) (Or.inl ⟨by rfl, ?_⟩) hHeld ?_
            rotate_left
            · (intro w hSw; (try dsimp only at hSw); go_simp; try with_reducible rfl)
            try simp only [Act.put, List.setIfInBounds_toArray, List.set_cons_zero, List.set_cons_succ]
            refine wpAnyH_take (i := 16) (oi := ⟨_, _, _, _, _, _⟩) (v := ?_) rfl (by kernel_rfl) (by kernel_rfl) (by kernel_rfl) (fun _ _ _ h => h) (Or.inl ⟨by rfl, ?_⟩) hHeld ?_
            rotate_left
            · (intro w hSw; (try dsimp only at hSw); go_simp; try with_reducible rfl)
            try simp only [Act.put, List.setIfInBounds_toArray, List.set_cons_zero, List.set_cons_succ]
            refine wpAnyH_take (i := 17) (oi := ⟨_, _, _, _, _, _⟩) (v := ?_) rfl (by kernel_rfl) (by kernel_rfl) (by kernel_rfl) (fun _ _ _ h => h) (Or.inl ⟨by rfl, ?_⟩) hHeld ?_
            rotate_left
            · (intro w hSw; (try dsimp only at hSw); go_simp; try with_reducible rfl)
            try simp only [Act.put, List.setIfInBounds_toArray, List.set_cons_zero, List.set_cons_succ]
            refine wpAnyH_take (i := 18) (oi := ⟨_, _, _, _, _, _⟩) (v := ?_) rfl (by kernel_rfl) (by kernel_rfl) (by kernel_rfl) (fun _ _ _ h => h) (Or.inl ⟨by rfl, ?_⟩) hHeld ?_
            rotate_left
            · (intro w hSw; (try dsimp only at hSw); go_simp; try with_reducible rfl)
            try simp only [Act.put, List.setIfInBounds_toArray, List.set_cons_zero, List.set_cons_succ]
            refine wpAnyH_take (i := 19) (oi := ⟨_, _, _, _, _, _⟩) (v := ?_) rfl (by kernel_rfl) (by kernel_rfl) (by kernel_rfl) (fun _ _ _ h => h) (Or.inl ⟨by rfl, ?_⟩) hHeld ?_
            rotate_left
            · (intro w hSw; (try dsimp only at hSw); go_simp; try with_reducible rfl)
            try simp only [Act.put, List.setIfInBounds_toArray, List.set_cons_zero, List.set_cons_succ]
            refine wpAnyH_take (i := 20) (oi := ⟨_, _, _, _, _, _⟩) (v := ?_) rfl (by kernel_rfl) (by kernel_rfl) (by kernel_rfl) (fun _ _ _ h => h) (Or.inl ⟨by rfl, ?_⟩) hHeld ?_
            rotate_left
            · (intro w hSw; (try dsimp only at hSw); go_simp; try with_reducible rfl)
            try simp only [Act.put, List.setIfInBounds_toArray, List.set_cons_zero, List.set_cons_succ]
            refine wpAnyH_take (i := 21) (oi := ⟨_, _, _, _, _, _⟩) (v := ?_) rfl (by kernel_rfl) (by kernel_rfl) (by kernel_rfl) (fun _ _ _ h => h) (Or.inl ⟨by rfl, ?_⟩) hHeld ?_
            rotate_left
            · (intro w hSw; (try dsimp only at hSw); go_simp; try with_reducible rfl)
            try simp only [Act.put, List.setIfInBounds_toArray, List.set_cons_zero, List.set_cons_succ]
            refine wpAnyH_take (i := 22) (oi := ⟨_, _, _, _, _, _⟩) (v := ?_) rfl (by kernel_rfl) (by kernel_rfl) (by kernel_rfl) (fun _ _ _ h => h) (Or.inl ⟨by rfl, ?_⟩) hHeld ?_
            rotate_left
            · (intro w hSw; (try dsimp only at hSw); go_simp; try with_reducible rfl)
            try simp only [Act.put, List.setIfInBounds_toArray, List.set_cons_zero, List.set_cons_succ]
            refine wpAnyH_take (i := 23) (oi := ⟨_, _, _, _, _, _⟩) (v := ?_) rfl (by kernel_rfl) (by kernel_rfl) (by kernel_rfl) (fun _ _ _ h => h) (Or.inl ⟨by rfl, ?_⟩) hHeld ?_
            rotate_left
            · (intro w hSw; (try dsimp only at hSw); go_simp; try with_reducible rfl)
            try simp only [Act.put, List.setIfInBounds_toArray, List.set_cons_zero, List.set_cons_succ]
            refine wpAnyH_done (by kernel_rfl) ?_ _

            go_wp2_with fail
            go_ret
            exact ⟨by rw [HN.out]; rfl, below2 hB.out hbr⟩
          | true =>
            have HG : Hid (okTo (chs S) (k + 1)) := Lib.hid (by
              have h2 := HR.out.2.2.1 j (by omega)
              subst hj
              rw [hx, hy] at h2
              exact h2 hf.out hma hl)
            clear hma HR hk0 hx hy hj
            refine wp_region_held_drew (S := (fun w' => (w'.cell? ⟨b, off + k * 5, none⟩ = some (.string ⟨q.toArray⟩) ∧ w'.cell? ⟨b, off + k * 5 + 1, none⟩ = some (.bool g) ∧ w'.cell? ⟨b, off + k * 5 + 2, none⟩ = some (.int .i64 z) ∧ w'.cell? ⟨b, off + k * 5 + 3, none⟩ = some (.int .i64 d) ∧ w'.cell? ⟨b, off + k * 5 + 4, none⟩ = some (.slice s1 s2 s3)) ∧ w'.cell? ⟨b, off + j * 5, none⟩ = some (.string ⟨p.toArray⟩))) (by kernel_rfl) (HS2.out _ hbr) (fun hHeld => ?_)
            refine wpAnyH_take (i := 0) (oi := ⟨_, _, _, _, _, _⟩) (v := ?_) rfl (by kernel_rfl) (by kernel_rfl) (by kernel_rfl) (fun _ _ _ h => h) (Or.inl ⟨by rfl, ?_⟩) hHeld ?_
            rotate_left
            · (intro w hSw; (try dsimp only at hSw); go_simp; try with_reducible rfl)
            try simp only [Act.put, List.setIfInBounds_toArray, List.set_cons_zero, List.set_cons_succ]
            refine wpAnyH_take (i := 1) (oi := ⟨_, _, _, _, _, _⟩) (v := ?_) rfl (by kernel_rfl) (by kernel_rfl) (by kernel_rfl) (fun _ _ _ h => h) (Or.inl ⟨by rfl, ?_⟩) hHeld ?_
            rotate_left
            · (intro w hSw; (try dsimp only at hSw); go_simp; try with_reducible rfl)
            try simp only [Act.put, List.setIfInBounds_toArray, List.set_cons_zero, List.set_cons_succ]
            refine wpAnyH_take (i := 2) (oi := ⟨_, _, _, _, _, _⟩) (v := ?_) rfl (by kernel_rfl) (by kernel_rfl) (by kernel_rfl) (fun _ _ _ h => h) (Or.inl ⟨by rfl, ?_⟩) hHeld ?_
            rotate_left
            · (intro w hSw; (try dsimp only at hSw); go_simp; try with_reducible rfl)
            try simp only [Act.put, List.setIfInBounds_toArray, List.set_cons_zero, List.set_cons_succ]
            refine wpAnyH_take (i := 3) (oi := ⟨_, _, _, _, _, _⟩) (v := ?_) rfl (by kernel_rfl) (by kernel_rfl) (by kernel_rfl) (fun _ _ _ h => h) (Or.inl ⟨by rfl, ?_⟩) hHeld ?_
            rotate_left
            · (intro w hSw; (try dsimp only at hSw); go_simp; try with_reducible rfl)
            try simp only [Act.put, List.setIfInBounds_toArray, List.set_cons_zero, List.set_cons_succ]
            refine wpAnyH_ready (rs := [4]) (by kernel_rfl) (by simp) ?_
            refine AllReadyH.cons (o := ⟨_, _, _, _, _, _⟩) rfl (fun K hK => ?_) AllReadyH.nil
            go_simp
            (refine (KM.out _ hbr).mono ?_; rintro e w1 ⟨rfl, hB1⟩; replace hbr := below2 hbr hB1)
            refine hK.out _ _ (HS2.out _ hbr) (fun hHeld => ?_)
            clear hK K
            try simp only [Act.put, List.setIfInBounds_toArray, List.set_cons_zero, List.set_cons_succ]
            refine wpAnyH_take (i := 5) (oi := ⟨_, _, _, _, _, _⟩) (v := ?_) rfl (by kernel_rfl) (by kernel_rfl) (by kernel_rfl) (fun _ _ _ h => h) (Or.inl ⟨by rfl, ?_⟩) hHeld ?_
            rotate_left
            · (intro w hSw; (try dsimp only at hSw); go_simp; try with_reducible rfl)
            try simp only [Act.put, List.setIfInBounds_toArray, List.set_cons_zero, List.set_cons_succ]
            refine wpAnyH_take (i := 6) (oi := ⟨_, _, _, _, _, _⟩) (v := ?_) rfl (by kernel_rfl) (by kernel_rfl) (by kernel_rfl) (fun _ _ _ h => h) (Or.inl ⟨by rfl, ?_⟩) hHeld ?_
            rotate_left
            · (intro w hSw; (try dsimp only at hSw); go_simp; try with_reducible rfl)
            try simp only [Act.put, List.setIfInBounds_toArray, List.set_cons_zero, List.set_cons_succ]
            refine wpAnyH_take (i := 7) (oi := ⟨_, _, _, _, _, _⟩) (v := ?_) rfl (by kernel_rfl) (by kernel_rfl) (by kernel_rfl) (fun _ _ _ h => h) (Or.inl ⟨by rfl, ?_⟩) hHeld ?_
            rotate_left
            · (intro w hSw; (try dsimp only at hSw); go_simp; try with_reducible rfl)
            try simp only [Act.put, List.setIfInBounds_toArray, List.set_cons_zero, List.set_cons_succ]
            refine wpAnyH_take (i := 8) (oi := ⟨_, _, _, _, _, _⟩) (v := ?_) rfl (by kernel_rfl) (by kernel_rfl) (by kernel_rfl) (fun _ _ _ h => h) (Or.inl ⟨by rfl, ?_⟩) hHeld ?_
            rotate_left
            · (intro w hSw; (try dsimp only at hSw); go_simp; try with_reducible rfl)
            try simp only [Act.put, List.setIfInBounds_toArray, List.set_cons_zero, List.set_cons_succ]
            refine wpAnyH_take (i := 9) (oi := ⟨_, _, _, _, _, _⟩) (v := ?_) rfl (by kernel_rfl) (by kernel_rfl) (by kernel_rfl) (fun _ _ _ h => h) (Or.inl ⟨by rfl, ?_⟩) hHeld ?_
            rotate_left
            · (intro w hSw; (try dsimp only at hSw); go_simp; try with_reducible rfl)
            try simp only [Act.put, List.setIfInBounds_toArray, List.set_cons_zero, List.set_cons_succ]
            refine wpAnyH_take (i := 10) (oi := ⟨_, _, _, _, _, _⟩) (v := ?_) rfl (by kernel_rfl) (by kernel_rfl) (by kernel_rfl) (fun _ _ _ h => h) (Or.inl ⟨by rfl, ?_⟩) hHeld ?_
            rotate_left
            · (intro w hSw; (try dsimp only at hSw); go_simp; try with_reducible rfl)
            try simp only [Act.put, List.setIfInBounds_toArray, List.set_cons_zero, List.set_cons_succ]
            refine wpAnyH_take (i := 11) (oi := ⟨_, _, _, _, _, _⟩) (v := ?_) rfl (by kernel_rfl) (by kernel_rfl) (by kernel_rfl) (fun _ _ _ h => h) (Or.inl ⟨by rfl, ?_⟩) hHeld ?_
            rotate_left
            · (intro w hSw; (try dsimp only at hSw); go_simp; try with_reducible rfl)
            try simp only [Act.put, List.setIfInBounds_toArray, List.set_cons_zero, List.set_cons_succ]
            refine wpAnyH_take (i := 12) (oi := ⟨_, _, _, _, _, _⟩) (v := ?_) rfl (by kernel_rfl) (by kernel_rfl) (by kernel_rfl) (fun _ _ _ h => h) (Or.inl ⟨by rfl, ?_⟩) hHeld ?_
            rotate_left
            · (intro w hSw; (try dsimp only at hSw); go_simp; try with_reducible rfl)
            try simp only [Act.put, List.setIfInBounds_toArray, List.set_cons_zero, List.set_cons_succ]
            refine wpAnyH_take (i := 13) (oi := ⟨_, _, _, _, _, _⟩) (v := ?_) rfl (by kernel_rfl) (by kernel_rfl) (by kernel_rfl) (fun _ _ _ h => h) (Or.inl ⟨by rfl, ?_⟩) hHeld ?_
            rotate_left
            · (intro w hSw; (try dsimp only at hSw); go_simp; try with_reducible rfl)
            try simp only [Act.put, List.setIfInBounds_toArray, List.set_cons_zero, List.set_cons_succ]
            refine wpAnyH_take (i := 14) (oi := ⟨_, _, _, _, _, _⟩) (v := ?_) rfl (by kernel_rfl) (by kernel_rfl) (by kernel_rfl) (fun _ _ _ h => h) (Or.inl ⟨by rfl, ?_⟩) hHeld ?_
            rotate_left
            · (intro w hSw; (try dsimp only at hSw); go_simp; try with_reducible rfl)
            try simp only [Act.put, List.setIfInBounds_toArray, List.set_cons_zero, List.set_cons_succ]
            refine wpAnyH_take (i := 15) (oi := ⟨_, _, _, _, _, _⟩) (v := ?_) rfl (by kernel_rfl) (by kernel_rfl) (by kernel_rfl) (fun _ _ _ h => h) (Or.inl ⟨by rfl, ?_⟩) hHeld ?_
            rotate_left
            · (intro w hSw; (try dsimp only at hSw); go_simp; try with_reducible rfl)
            try simp only [Act.put, List.setIfInBounds_toArray, List.set_cons_zero, List.set_cons_succ]
            refine wpAnyH_take (i := 16) (oi := ⟨_, _, _, _, _, _⟩) (v := ?_) rfl (by kernel_rfl) (by kernel_rfl) (by kernel_rfl) (fun _ _ _ h => h) (Or.inl ⟨by rfl, ?_⟩) hHeld ?_
            rotate_left
            · (intro w hSw; (try dsimp only at hSw); go_simp; try with_reducible rfl)
            try simp only [Act.put, List.setIfInBounds_toArray, List.set_cons_zero, List.set_cons_succ]
            refine wpAnyH_take (i := 17) (oi := ⟨_, _, _, _, _, _⟩) (v := ?_) rfl (by kernel_rfl) (by kernel_rfl) (by kernel_rfl) (fun _ _ _ h => h) (Or.inl ⟨by rfl, ?_⟩) hHeld ?_
            rotate_left
            · (intro w hSw; (try dsimp only at hSw); go_simp; try with_reducible rfl)
            try simp only [Act.put, List.setIfInBounds_toArray, List.set_cons_zero, List.set_cons_succ]
            refine wpAnyH_take (i := 18) (oi := ⟨_, _, _, _, _, _⟩) (v := ?_) rfl (by kernel_rfl) (by kernel_rfl) (by kernel_rfl) (fun _ _ _ h => h) (Or.inl ⟨by rfl, ?_⟩) hHeld ?_
            rotate_left
            · (intro w hSw; (try dsimp only at hSw); go_simp; try with_reducible rfl)
            try simp only [Act.put, List.setIfInBounds_toArray, List.set_cons_zero, List.set_cons_succ]
            refine wpAnyH_take (i := 19) (oi := ⟨_, _, _, _, _, _⟩) (v := ?_) rfl (by kernel_rfl) (by kernel_rfl) (by kernel_rfl) (fun _ _ _ h => h) (Or.inl ⟨by rfl, ?_⟩) hHeld ?_
            rotate_left
            · (intro w hSw; (try dsimp only at hSw); go_simp; try with_reducible rfl)
            try simp only [Act.put, List.setIfInBounds_toArray, List.set_cons_zero, List.set_cons_succ]
            refine wpAnyH_take (i := 20) (oi := ⟨_, _, _, _, _, _⟩) (v := ?_) rfl (by kernel_rfl) (by kernel_rfl) (by kernel_rfl) (fun _ _ _ h => h) (Or.inl ⟨by rfl, ?_⟩) hHeld ?_
            rotate_left
            · (intro w hSw; (try dsimp only at hSw); go_simp; try with_reducible rfl)
            try simp only [Act.put, List.setIfInBounds_toArray, List.set_cons_zero, List.set_cons_succ]
            refine wpAnyH_take (i := 21) (oi := ⟨_, _, _, _, _, _⟩) (v := ?_) rfl (by kernel_rfl) (by kernel_rfl) (by kernel_rfl) (fun _ _ _ h => h) (Or.inl ⟨by rfl, ?_⟩) hHeld ?_
            rotate_left
            · (intro w hSw; (try dsimp only at hSw); go_simp; try with_reducible rfl)
            try simp only [Act.put, List.setIfInBounds_toArray, List.set_cons_zero, List.set_cons_succ]
            refine wpAnyH_take (i := 22) (oi := ⟨_, _, _, _, _, _⟩) (v := ?_) rfl (by kernel_rfl) (by kernel_rfl) (by kernel_rfl) (fun _ _ _ h => h) (Or.inl ⟨by rfl, ?_⟩) hHeld ?_
            rotate_left
            · (intro w hSw; (try dsimp only at hSw); go_simp; try with_reducible rfl)
            try simp only [Act.put, List.setIfInBounds_toArray, List.set_cons_zero, List.set_cons_succ]
            refine wpAnyH_take (i := 23) (oi := ⟨_, _, _, _, _, _⟩) (v := ?_) rfl (by kernel_rfl) (by kernel_rfl) (by kernel_rfl) (fun _ _ _ h => h) (Or.inl ⟨by rfl, ?_⟩) hHeld ?_
            rotate_left
            · (intro w hSw; (try dsimp only at hSw); go_simp; try with_reducible rfl)
            try simp only [Act.put, List.setIfInBounds_toArray, List.set_cons_zero, List.set_cons_succ]
            refine wpAnyH_done (by kernel_rfl) ?_ _

            go_wp2_with fail
            go_roundw
            case rel => exact ⟨k + 1, by go_num, by omega, HG, Lib.hid (below2 hB.out hbr)⟩
            case measure => simp [intOf]; omega
    · obtain rfl : k = S.length := by omega
      have HR := Lib.hid (okTo_all (l := chs S) (by simpa using hf.out) HL.out.1 HL.out.2)
      go_wp2_with fail
      go_ret
      exact ⟨by rw [HR.out]; rfl, hB.out⟩

end Go.Proofs.YtmbnmmnoahddcaaGreatDoor
