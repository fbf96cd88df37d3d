/-
  meta.readMeta.
-/
import Derived.Test.YtijhbnkfkjfcfaaMeNext
import Derived.Test.YtijhbnkfkjfcfaaMeRets
import Derived.Deep.DeepCutAuto
import Derived.Deep.AppendLies
import Derived.Deep.RegionHeld3
namespace Go.Proofs.Ytijhbnkfkjfcfaa
set_option maxRecDepth 100000
open Go.RowKit

/-- The method value 'r.number' of the box b. -/
abbrev nextV (b : Nat) : Value := .func (.func 25) #[.pointer (some ⟨b, 0, none⟩)] #[]
/-- What readMeta leaves. -/
def RMPost (w : World) (b : Nat) (o : Option (Mt × List UInt8)) (e : Ending) (w' : World) : Prop :=
  w.grownBy w' (some b) ∧ match o with
    | none => e = .panicked [thrownM]
    | some x => ∃ v, e = .returned (MV x.1.1 x.1.2.1 v) ∧ w'.ownsRow w.heap.size 3 1 v x.1.2.2.length (x.1.2.2.map (Value.int .i64)) ∧ RdBox w' b x.2

/-- What stands behind the Mode, and behind the Size. -/
def readN (z d : Nat) (s : List UInt8) : Option (Mt × List UInt8) :=
  (getN s).bind fun n => if 16 < n.1 then none else (getNs n.1 n.2).map fun c => (((z : Int), (d : Int), c.1), c.2)
def readD (z : Nat) (s : List UInt8) : Option (Mt × List UInt8) := (getN s).bind fun y => if 4095 < y.1 then none else readN z y.1 y.2
theorem readM_eq (s : List UInt8) : readM s = (getN s).bind fun x => if 1000000000 < x.1 then none else readD x.1 x.2 := rfl
theorem bind_no {α : Type} {s : List UInt8} {m : Nat} {f : Nat × List UInt8 → Option α} (h : ∀ n r, getN s = some (n, r) → (m : Int) < (n : Int)) : ((getN s).bind fun x => if m < x.1 then none else f x) = none := by
  cases hg : getN s with
  | none => rfl
  | some x =>
    have := h x.1 x.2 hg
    rw [Option.bind_some, if_pos (by omega)]
theorem bind_ok {α : Type} {s r : List UInt8} {m n : Nat} {f : Nat × List UInt8 → Option α} (h : getN s = some (n, r)) (hn : (n : Int) ≤ (m : Int)) : ((getN s).bind fun x => if m < x.1 then none else f x) = f (n, r) := by
  rw [h, Option.bind_some, if_neg (by dsimp only; omega)]

/-- What a call of the reader's number tells. -/
theorem rNum_calls (b : Nat) (s : List UInt8) (m : Int) (hs : s.length ≤ 4611686018427387904) (w : World) (hb : RdBox w b s) :
    Calls Try.prog 25 #[.pointer (some ⟨b, 0, none⟩), .int .i64 m] w fun e w' => w.grownBy w' (some b) ∧
      ((∃ n r, getN s = some (n, r) ∧ (n : Int) ≤ m ∧ e = .returned (.int .i64 n) ∧ RdBox w' b r) ∨ ((∀ n r, getN s = some (n, r) → m < (n : Int)) ∧ e = .panicked [thrownM])) := by
  by_cases h : ∀ n r, getN s = some (n, r) → m < (n : Int)
  · exact (rNum_no b s m hs h w hb).mono fun e w' he => ⟨he.2, .inr ⟨h, he.1⟩⟩
  · obtain ⟨n, h⟩ := Classical.not_forall.1 h
    obtain ⟨r, h⟩ := Classical.not_forall.1 h
    obtain ⟨h1, h2⟩ := Classical.not_imp.1 h
    exact (rNum_ok b s m hs h1 (by omega) w hb).mono fun e w' he => ⟨he.2.2, .inl ⟨n, r, h1, by omega, he.1, he.2.1⟩⟩

/-- How things stand within readMeta: its result's box, its own meta, the reader. -/
def RSt (w : World) (b : Nat) (z d : Int) (v : Value) (cs : List Int) (r : List UInt8) (W : World) : Prop :=
  w.grownBy W (some b) ∧ Cx W w.heap.size 24 [.int .i64 0, .int .i64 0, .slice none 0 0] ∧ Cx W (w.heap.size + 1) 24 [.int .i64 z, .int .i64 d, v] ∧
  W.ownsRow (w.heap.size + 2) 3 1 v cs.length (cs.map (Value.int .i64)) ∧ RdBox W b r ∧ b < w.heap.size ∧ r.length ≤ 4611686018427387904

theorem Cx.stays {w w' : World} {g b : Nat} {t : TypeId} {cs : List Value} (h : Cx w g t cs) (hg : w.grownBy w' (some b)) (hne : g ≠ b) : Cx w' g t cs :=
  (hg.block g h.lt (fun e => hne (Option.some.inj e))).trans h
theorem RSt.call {w W W' : World} {b : Nat} {z d : Int} {v : Value} {cs : List Int} {r r' : List UInt8} (h : RSt w b z d v cs r W) (hg : W.grownBy W' (some b)) (hb : RdBox W' b r') (hl : r'.length ≤ r.length) : RSt w b z d v cs r' W' := by
  obtain ⟨h1, h2, h3, h4, h5, h6, h7⟩ := h
  refine ⟨grown_trans h1 hg, h2.stays hg (by omega), h3.stays hg (by omega), h4.kept hg (.inr fun e => ?_), hb, h6, by omega⟩
  have := (h4.lt b e).1
  omega
theorem RSt.cells {w W : World} {b : Nat} {z d : Int} {v : Value} {cs : List Int} {r : List UInt8} (h : RSt w b z d v cs r W) :
    W.cell? ⟨w.heap.size + 1, 0, none⟩ = some (.int .i64 z) ∧ W.cell? ⟨w.heap.size + 1, 1, none⟩ = some (.int .i64 d) ∧ W.cell? ⟨w.heap.size + 1, 2, none⟩ = some v ∧
    W.frozen? ⟨w.heap.size + 1, 0, none⟩ = false ∧ W.frozen? ⟨w.heap.size + 1, 1, none⟩ = false ∧ W.frozen? ⟨w.heap.size + 1, 2, none⟩ = false ∧ w.heap.size + 1 < W.heap.size := h.2.2.1.three
theorem RSt.zeros {w W : World} {b : Nat} {z d : Int} {v : Value} {cs : List Int} {r : List UInt8} (h : RSt w b z d v cs r W) :
    W.cell? ⟨w.heap.size, 0, none⟩ = some (.int .i64 0) ∧ W.cell? ⟨w.heap.size, 1, none⟩ = some (.int .i64 0) ∧ W.cell? ⟨w.heap.size, 2, none⟩ = some (.slice none 0 0) ∧
    W.frozen? ⟨w.heap.size, 0, none⟩ = false ∧ W.frozen? ⟨w.heap.size, 1, none⟩ = false ∧ W.frozen? ⟨w.heap.size, 2, none⟩ = false ∧ w.heap.size < W.heap.size := h.2.1.three
/-- A cell of its own meta is written. -/
theorem RSt.store {w W : World} {b : Nat} {z d z' d' : Int} {v v' : Value} {cs cs' : List Int} {r : List UInt8} (h : RSt w b z d v cs r W) (j : Nat) (u : Value) (he : [Value.int .i64 z, .int .i64 d, v].set j u = [.int .i64 z', .int .i64 d', v'])
    (ho : W.ownsRow (w.heap.size + 2) 3 1 v' cs'.length (cs'.map (Value.int .i64))) : RSt w b z' d' v' cs' r (W.setCell ⟨w.heap.size + 1, j, none⟩ u) := by
  obtain ⟨h1, h2, h3, h4, h5, h6, h7⟩ := h
  have hg : W.grownBy (W.setCell ⟨w.heap.size + 1, j, none⟩ u) (some (w.heap.size + 1)) := ⟨rfl, rfl, rfl, by simp [World.setCell], fun k _ hk => Below.heap_setCell _ _ _ _ (fun e => hk (by simp [e]))⟩
  refine ⟨⟨h1.os, h1.tape, h1.output, Nat.le_trans h1.size hg.size, fun k hk hne => (hg.block k (Nat.lt_of_lt_of_le hk h1.size) (by simp; omega)).trans (h1.block k hk hne)⟩, h2.other (by omega) _, he ▸ h3.set j u, ho.kept hg (.inr fun e => ?_), h5.kept hg (by simp; omega), h6, h7⟩
  have := (ho.lt _ e).1
  omega
theorem RSt.new (w : World) (b : Nat) (s : List UInt8) (hb : RdBox w b s) (hs : s.length ≤ 4611686018427387904) : RSt w b 0 0 (.slice none 0 0) [] s ((w.alloc (.cells #[.int .i64 0, .int .i64 0, .slice none 0 0] 24)).alloc (.cells #[.int .i64 0, .int .i64 0, .slice none 0 0] 24)) := by
  have hB := below_alloc2 w (.cells #[.int .i64 0, .int .i64 0, .slice none 0 0] 24) (.cells #[.int .i64 0, .int .i64 0, .slice none 0 0] 24)
  refine ⟨grown_row hB _, (Cx.new w 24 [.int .i64 0, .int .i64 0, .slice none 0 0]).below (below_alloc _ _), ?_, World.ownsRow_nil _ _ _ _, rd_below hb hB, hb.lt, hs⟩
  have := Cx.new (w.alloc (.cells #[.int .i64 0, .int .i64 0, .slice none 0 0] 24)) 24 [.int .i64 0, .int .i64 0, .slice none 0 0]
  rw [World.size_alloc] at this
  exact this
/-- Behind an append of one number. -/
theorem RSt.appended {w W W' : World} {b : Nat} {z d : Int} {v v' : Value} {cs : List Int} {r : List UInt8} {u : Value} {t : TypeId} (h : RSt w b z d v cs r W) (hg : (W.alloc (.cells #[u] t)).grownBy W' v.ownBlock) {n' : Nat} {xs : List Value} (ho : W'.ownsRow (w.heap.size + 2) 3 1 v' n' xs) :
    Cx W' (w.heap.size + 1) 24 [.int .i64 z, .int .i64 d, v] ∧ (∀ cs' : List Int, n' = cs'.length → xs = cs'.map (Value.int .i64) → RSt w b z d v' cs' r (W'.setCell ⟨w.heap.size + 1, 2, none⟩ v')) := by
  obtain ⟨h1, h2, h3, h4, h5, h6, h7⟩ := h
  have hl := h3.lt
  have hs := hg.size
  rw [World.size_alloc] at hs
  have hk : ∀ k, k < w.heap.size + 2 → W'.heap[k]? = W.heap[k]? := by
    intro k hk
    rw [hg.block k (by rw [World.size_alloc]; omega) (fun e => by have := (h4.lt k e.symm).1; omega)]
    exact heap_alloc_old W _ (by omega)
  have h3' : Cx W' (w.heap.size + 1) 24 [.int .i64 z, .int .i64 d, v] := (hk _ (by omega)).trans h3
  refine ⟨h3', fun cs' hn hx => ?_⟩
  subst hn
  subst hx
  have h2' : Cx W' w.heap.size 24 [.int .i64 0, .int .i64 0, .slice none 0 0] := (hk _ (by omega)).trans h2
  have h5' : RdBox W' b r := (hk _ (by omega)).trans h5
  have hS : (W'.setCell ⟨w.heap.size + 1, 2, none⟩ v').heap.size = W'.heap.size := by simp [World.setCell]
  have hG : W'.grownBy (W'.setCell ⟨w.heap.size + 1, 2, none⟩ v') (some (w.heap.size + 1)) := ⟨rfl, rfl, rfl, by omega, fun k _ hk => Below.heap_setCell _ _ _ _ (fun e => hk (by simp [e]))⟩
  refine ⟨⟨hg.os.trans h1.os, hg.tape.trans h1.tape, hg.output.trans h1.output, by have := h1.size; omega, fun k hkk hne => ?_⟩, h2'.other (by omega) _, h3'.set 2 v', ho.kept hG (.inr fun e => ?_), h5'.kept hG (by simp; omega), h6, h7⟩
  · rw [hG.block k (by have := h1.size; omega) (by simp; omega), hk k (by omega)]
    exact h1.block k hkk hne
  · have := (ho.lt _ e).1
    omega
theorem grown_above {w W : World} {row : Option Nat} {g j : Nat} {u : Value} (h : w.grownBy W row) (hb : w.heap.size ≤ g) : w.grownBy (W.setCell ⟨g, j, none⟩ u) row :=
  ⟨h.os, h.tape, h.output, by have := h.size; simp [World.setCell]; exact this, fun k hk hne => (Below.heap_setCell _ _ _ _ (by simp; omega)).trans (h.block k hk hne)⟩
theorem box_far {W : World} {b g : Nat} {s : List UInt8} (h : RdBox W b s) (hne : b ≠ g) (j : Nat) (u : Value) : RdBox (W.setCell ⟨g, j, none⟩ u) b s := (Below.heap_setCell _ _ _ _ (by simpa using hne)).trans h
theorem RSt.drawn {w W : World} {b : Nat} {z d : Int} {v : Value} {cs : List Int} {r : List UInt8} (h : RSt w b z d v cs r W) : RSt w b z d v cs r W.drew :=
  h.call (grown_row (drew_below _) _) (rd_below h.2.2.2.2.1 (drew_below _)) (Nat.le_refl _)

set_option maxHeartbeats 8000000 in
theorem readMeta_calls (b : Nat) (s : List UInt8) (hs : s.length ≤ 4611686018427387904) (w : World) (hb : RdBox w b s) :
    Calls Try.prog 24 #[nextV b] w (RMPost w b (readM s)) := by
  have H0 := Lib.hid (RSt.new w b s hb hs)
  have HM := Lib.hid (readM_eq s)
  generalize readM s = o at *
  go_enter Try.func24, Try.ntmps24
  go_wp2_with fail
  refine (rNum_calls b s 1000000000 hs _ H0.out.2.2.2.2.1).mono ?_
  rintro e w1 ⟨hg1, ⟨z, r1, hz, hz1, rfl, hb1⟩ | ⟨hno, rfl⟩⟩
  · have H1 := Lib.hid (H0.out.call hg1 hb1 (getN_bounds hz).2)
    have HM1 := Lib.hid (HM.out.trans (bind_ok (m := 1000000000) hz hz1))
    obtain ⟨c0, c1, c2, f0, f1, f2, hlt⟩ := H1.out.cells
    clear hg1 hz hz1 hb1
    go_wp2_with fail
    have H2 := Lib.hid (H1.out.store (z' := z) (d' := 0) (v' := .slice none 0 0) (cs' := []) 0 (.int .i64 z) rfl H1.out.2.2.2.1)
    clear c0 c1 c2 f0 f1 f2 hlt
    refine (rNum_calls b r1 4095 H2.out.2.2.2.2.2.2 _ H2.out.2.2.2.2.1).mono ?_
    rintro e w2 ⟨hg2, ⟨d, r2, hd, hd1, rfl, hb2⟩ | ⟨hno, rfl⟩⟩
    · have H3 := Lib.hid (H2.out.call hg2 hb2 (getN_bounds hd).2)
      have HM2 := Lib.hid (HM1.out.trans (bind_ok (m := 4095) hd hd1))
      obtain ⟨c0, c1, c2, f0, f1, f2, hlt⟩ := H3.out.cells
      clear hg2 hd hd1 hb2
      go_wp2_with fail
      have H4 := Lib.hid (H3.out.store (z' := z) (d' := d) (v' := .slice none 0 0) (cs' := []) 1 (.int .i64 d) rfl H3.out.2.2.2.1)
      clear c0 c1 c2 f0 f1 f2 hlt
      refine (rNum_calls b r2 16 H4.out.2.2.2.2.2.2 _ H4.out.2.2.2.2.1).mono ?_
      rintro e w3 ⟨hg3, ⟨n, r3, hn, hn1, rfl, hb3⟩ | ⟨hno, rfl⟩⟩
      · have H5 := Lib.hid (H4.out.call hg3 hb3 (getN_bounds hn).2)
        have HM3 := Lib.hid (HM2.out.trans (bind_ok (m := 16) hn hn1))
        clear hg3 hn hb3
        go_wp2_with fail
        go_loopw [12] (fun i wr => ∃ (k : Nat) (cs : List Int) (r : List UInt8) (v : Value), k ≤ n ∧ i = .int .i64 k ∧ cs.length = k ∧ Hid (getNs k r3 = some (cs, r)) ∧ Hid (RSt w b z d v cs r wr)) (fun i _ => n - (intOf i).toNat)
        case atStart => exact ⟨0, [], r3, _, Nat.zero_le _, rfl, rfl, Lib.hid rfl, H5⟩
        case round =>
          obtain ⟨k, cs, r, v, hk, rfl, hck, hK, hR⟩ := hrel
          by_cases hlt : k < n
          · cases hg : getN r with
            | none =>
              have ho : o = none := by
                rw [HM3.out, getNs_stop k hK.out hg n hlt]
                rfl
              have KN := Lib.hid (fun W (h : RdBox W b r) => rNum_no b r 4294967295 hR.out.2.2.2.2.2.2 (by rw [hg]; intro n r h; cases h) W h)
              obtain ⟨c0, c1, c2, f0, f1, f2, hl2⟩ := hR.out.cells
              have hbd := Lib.hid (rd_below hR.out.2.2.2.2.1 (drew_below wr))
              have HO := Lib.hid ho
              clear ho hg
              go_upto_region 6 with fail
              refine wp_region_held_drew (S := fun W => W.cell? ⟨w.heap.size + 1, 2, none⟩ = some v) (by kernel_rfl) (look_below (drew_below wr) c2) (fun hHeld => ?_)
              refine wpAnyH_take (i := 0) (oi := ⟨_, _, _, _, _, _⟩) (v := ?_) rfl (by kernel_rfl) (by kernel_rfl) (by kernel_rfl) (fun _ _ _ h => h) (Or.inl ⟨by rfl, ?_⟩) hHeld ?_
              rotate_left
              · (intro w hSw; (try dsimp only at hSw); go_simp; try with_reducible rfl)
              try simp only [Act.put, List.setIfInBounds_toArray, List.set_cons_zero, List.set_cons_succ]
              refine wpAnyH_take (i := 1) (oi := ⟨_, _, _, _, _, _⟩) (v := ?_) rfl (by kernel_rfl) (by kernel_rfl) (by kernel_rfl) (fun _ _ _ h => h) (Or.inl ⟨by rfl, ?_⟩) hHeld ?_
              rotate_left
              · (intro w hSw; (try dsimp only at hSw); go_simp; try with_reducible rfl)
              try simp only [Act.put, List.setIfInBounds_toArray, List.set_cons_zero, List.set_cons_succ]
              refine wpAnyH_take (i := 2) (oi := ⟨_, _, _, _, _, _⟩) (v := ?_) rfl (by kernel_rfl) (by kernel_rfl) (by kernel_rfl) (fun _ _ _ h => h) (Or.inl ⟨by rfl, ?_⟩) hHeld ?_
              rotate_left
              · (intro w hSw; (try dsimp only at hSw); go_simp; try with_reducible rfl)
              try simp only [Act.put, List.setIfInBounds_toArray, List.set_cons_zero, List.set_cons_succ]
              refine wpAnyH_ready (rs := [3]) (by kernel_rfl) (by simp) ?_
              refine AllReadyH.cons (o := ⟨_, _, _, _, _, _⟩) rfl (fun K hK => ?_) AllReadyH.nil
              go_simp
              refine (KN.out _ hbd.out).mono ?_
              rintro e w4 ⟨rfl, hg4⟩
              exact panic_out (f := Try.f24) rfl ⟨grown_trans hR.out.drawn.1 hg4, by rw [HO.out]⟩
            | some x =>
              obtain ⟨m, r'⟩ := x
              obtain ⟨hm4, hrl⟩ := getN_bounds hg
              have KM := Lib.hid (fun W (h : RdBox W b r) => rNum_ok b r 4294967295 hR.out.2.2.2.2.2.2 hg (by omega) W h)
              have HK := Lib.hid (getNs_more k hK.out hg)
              obtain ⟨c0, c1, c2, f0, f1, f2, hl2⟩ := hR.out.cells
              have hbd := Lib.hid (rd_below hR.out.2.2.2.2.1 (drew_below wr))
              have HD := Lib.hid hR.out.drawn
              have hL1 : cs.length + 1 ≤ maxLen := by unfold maxLen; omega
              have hL2 : (cs.length + 1) * 8 ≤ 140737488355328 := by omega
              have hL3 : ∀ (W : World) (o : Obj), w.heap.size + 1 < W.heap.size → w.heap.size + 2 ≤ (W.alloc o).heap.size := by intro W o h; rw [World.size_alloc]; omega
              obtain ⟨i0, hi, hz0, hz1, hz2⟩ := info_parts int_info
              clear hg
              go_upto_region 6 with fail
              go_region_law (first
                | (refine step_append_lies _ rfl (.tmp 15) (.tmp 18) 22 rfl (w.heap.size + 2) 3 i0 (.int .i64 0) 1 8 Try.underlying22 hi hz0 hz1 hz2 rfl Nat.one_pos v cs.length (cs.map (Value.int .i64)) rfl (HQ.2.2.2.1.alloc _) ⟨w4.heap.size, 0, none⟩ 1 1 [.int .i64 m] rfl rfl (news_new w4 _ _) (one_int m) Nat.one_pos hL1 hL2 (hL3 _ _ hl4) (w4.heap.size + 1) (World.size_alloc _ _) ?_; intro g cap w5 ho5 hg5 hgo hlt5; have H5 := HQ.appended hg5 ho5; obtain ⟨p0, p1, p2, k0, k1, k2, hl5⟩ := H5.1.three)
                | (go_simp; go_at_call 25; refine (KM.out _ hbd.out).mono ?_; rintro e w4 ⟨rfl, hb4, hg4⟩; have HQ := HD.out.call hg4 hb4 hrl; obtain ⟨q0, q1, q2, e0, e1, e2, hl4⟩ := HQ.cells))
              all_goals
                go_wp2_with fail
                go_roundw
                case rel =>
                  have hq := H5.2 (cs ++ [(m : Int)]) (by simp) (by simp)
                  rw [hck] at hq
                  exact ⟨k + 1, cs ++ [(m : Int)], r', _, by omega, by go_num, by simp [hck], HK, Lib.hid hq⟩
                case measure => simp [intOf]; omega
          · obtain rfl : k = n := by omega
            obtain ⟨c0, c1, c2, f0, f1, f2, hl2⟩ := hR.out.cells
            obtain ⟨b0, b1, b2, g0, g1, g2, hl3⟩ := hR.out.zeros
            obtain ⟨ao, nn, cap, rfl⟩ := own_form hR.out.2.2.2.1
            go_wp2_with fail
            have hx := hR.out.2.1.sets3 (.int .i64 z) (.int .i64 d) (.slice ao nn cap)
            obtain ⟨x0, x1, x2, _⟩ := hx.three
            refine ret_meta rfl rfl w.heap.size _ _ _ rfl x0 x1 x2 ?_
            refine ⟨grown_above (grown_above (grown_above hR.out.1 (Nat.le_refl _)) (Nat.le_refl _)) (Nat.le_refl _), ?_⟩
            rw [HM3.out, hK.out]
            have ho := hR.out.2.2.2.1
            have hI := own_weak (b := w.heap.size) ((own_above (own_above (own_above ho (Nat.lt_add_of_pos_right Nat.two_pos) 0 (.int .i64 z)) (Nat.lt_add_of_pos_right Nat.two_pos) 1 (.int .i64 d)) (Nat.lt_add_of_pos_right Nat.two_pos) 2 (.slice ao nn cap))) (Nat.le_add_right _ 2)
            have hne : b ≠ w.heap.size := Nat.ne_of_lt hR.out.2.2.2.2.2.1
            exact ⟨_, rfl, hI, box_far (box_far (box_far hR.out.2.2.2.2.1 hne 0 _) hne 1 _) hne 2 _⟩
      · exact panic_out rfl ⟨grown_trans H4.out.1 hg3, by rw [HM2.out, readN, bind_no hno]⟩
    · exact panic_out rfl ⟨grown_trans H2.out.1 hg2, by rw [HM1.out, readD, bind_no hno]⟩
  · exact panic_out rfl ⟨grown_trans H0.out.1 hg1, by rw [HM.out, bind_no hno]⟩

end Go.Proofs.Ytijhbnkfkjfcfaa
