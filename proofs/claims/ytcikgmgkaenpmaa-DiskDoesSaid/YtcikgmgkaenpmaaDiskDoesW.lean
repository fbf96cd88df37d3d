/-
  The walk of DiskDoes.
-/
import Derived.Test.YtcikgmgkaenpmaaFar
import Derived.Test.YtcikgmgkaenpmaaSpun
import Derived.Test.YtcikgmgkaenpmaaSync
import Derived.Test.YtcikgmgkaenpmaaSameD
import Derived.Test.YtcikgmgkaenpmaaRefWrite
import Derived.Test.YtcikgmgkaenpmaaRefCrash
import Derived.Deep.DeepCutAuto
import Derived.Deep.RegionHeld3
namespace Go.Proofs.Ytcikgmgkaenpmaa
open Go.RowKit

/-- The boxes and what lay ahead of the calls are as they were. -/
def Kept (w0 w2 : World) (v0 x0 v2 x2 v3 x3 v7 x7 v9 x9 : Value) (b3 b7 b9 : Nat) (wr : World) : Prop :=
  Bx wr w0.heap.size v0 x0 ∧ Bx wr w2.heap.size v2 x2 ∧ Bx wr b3 v3 x3 ∧ Bx wr b7 v7 x7 ∧ Bx wr b9 v9 x9 ∧ Below w0.heap.size w0 wr ∧ Below w2.heap.size w2 wr
theorem Kept.set {w0 w2 wr : World} {v0 x0 v2 x2 v3 x3 v7 x7 v9 x9 : Value} {b3 b7 b9 base k n g cap m : Nat} {e : TypeId} {xs : List Value} (h : Kept w0 w2 v0 x0 v2 x2 v3 x3 v7 x7 v9 x9 b3 b7 b9 wr) (ho : wr.ownsRow base e k (.slice (some ⟨g, 0, none⟩) m cap) n xs) (he : e ≠ 25)
    (hg0 : w0.heap.size ≤ g) (hg2 : w2.heap.size ≤ g) (j : Nat) (u : Value) : Kept w0 w2 v0 x0 v2 x2 v3 x3 v7 x7 v9 x9 b3 b7 b9 (wr.setCell ⟨g, j, none⟩ u) := by
  have far : ∀ {B : Nat} {v x : Value}, Bx wr B v x → Bx (wr.setCell ⟨g, j, none⟩ u) B v x := fun hb => bx_far hb (fun e' => hb.not_row ho he (by rw [e']; rfl)) u
  obtain ⟨h1, h2, h3, h4, h5, h6, h7⟩ := h
  exact ⟨far h1, far h2, far h3, far h4, far h5, h6.setCell (by simpa using hg0) _, h7.setCell (by simpa using hg2) _⟩
/-- A row of the call's own, whatever it holds. -/
def Row (base : Nat) (e : TypeId) (k : Nat) (v : Value) (n : Nat) (wr : World) : Prop := ∃ xs, wr.ownsRow base e k v n xs
theorem Row.set {wr : World} {base k n g cap : Nat} {e : TypeId} (h : Row base e k (.slice (some ⟨g, 0, none⟩) n cap) n wr) (j : Nat) (u : Value) : Row base e k (.slice (some ⟨g, 0, none⟩) n cap) n (wr.setCell ⟨g, j, none⟩ u) := by
  obtain ⟨xs, h⟩ := h
  exact ⟨_, (h.stored j u).1⟩
theorem Row.far {wr : World} {base k n g cap m k' : Nat} {e e' : TypeId} {base' : Nat} {v : Value} {ys : List Value} {q : Nat} (h : Row base e k v n wr) (ho : wr.ownsRow base' e' k' (.slice (some ⟨g, 0, none⟩) m cap) q ys) (he : e ≠ e') (j : Nat) (u : Value) : Row base e k v n (wr.setCell ⟨g, j, none⟩ u) := by
  obtain ⟨xs, h⟩ := h
  refine ⟨xs, ownsRow_setCell_other h ?_ u⟩
  rcases rows_apart h ho he with h0 | h0
  · rw [h0]; simp
  · simpa [Value.ownBlock] using h0
theorem Row.high {wr : World} {base k n g : Nat} {e : TypeId} {v : Value} (h : Row base e k v n wr) (hg : g < base) (j : Nat) (u : Value) : Row base e k v n (wr.setCell ⟨g, j, none⟩ u) := by
  obtain ⟨xs, h⟩ := h
  exact ⟨xs, ownsRow_setCell_below h (by simpa using hg) u⟩
theorem Row.at {wr : World} {base k n q : Nat} {e : TypeId} {ao : Option Addr} {cap : Nat} (h : Row base e k (.slice ao n cap) n wr) (hn : 0 < n) : ∃ g, ao = some ⟨g, 0, none⟩ ∧ base ≤ g ∧ (q < n * k → ∃ u, wr.cell? ⟨g, q, none⟩ = some u) ∧ wr.frozen? ⟨g, q, none⟩ = false := by
  obtain ⟨xs, h⟩ := h
  obtain ⟨g, c, hv, hg, _⟩ := h.form hn
  cases hv
  refine ⟨g, rfl, hg, fun hq => ?_, h.frozenAt q⟩
  rw [h.cellAt q hq]
  have hl := h.1
  exact ⟨xs[q]'(by omega), List.getElem?_eq_getElem (by omega)⟩

set_option maxRecDepth 100000 in
set_option maxHeartbeats 16000000 in
theorem diskDoes_walk (vb vw : Value) (bs : List (List UInt8)) (ws : List Wr) (i : Int) (s : List UInt8) (v3 : Value) (ks : List Bool) (n : Int) (w0 : World) (ht0 : Txts w0 vb bs) (hv0 : Wrs w0 vw ws) (hk : Bools w0 v3 ks) :
    Calls Try.prog 3 #[.agg #[vb, vw], .int .i64 i, .string ⟨s.toArray⟩, v3, .int .i64 n] w0 fun e w' => e = .returned (.bool true) ∧ Below w0.heap.size w0 w' := by
  obtain ⟨ab0, cb0, rfl⟩ := ht0.strs.form
  obtain ⟨aw0, cw0, rfl⟩ := hv0.form
  obtain ⟨ak, ck, rfl⟩ := hk.form
  have hBB := Below.refl w0.heap.size w0
  have T0 := Lib.hid (And.intro ht0 hv0)
  cases hF : farB bs ws s ks.length with
  | true =>
    have HF := Lib.hid hF
    clear hF
    go_enter Try.func3, Try.ntmps3
    go_wp2_with fail
    refine (far_calls _ _ ak ks.length ck _ _ s _ (ht0.below (below_alloc _ _)) (hv0.below (below_alloc _ _))).mono ?_
    rintro e w1 ⟨he, hB1⟩
    rw [HF.out] at he
    subst he
    have hC1 := below2 (below_alloc _ _) hB1
    have hx0 := (Bx.new w0 _ _).below hB1
    replace ht0 := ht0.below hC1
    replace hv0 := hv0.below hC1
    replace hk := hk.below hC1
    have c00 := hx0.cells.1
    have c01 := hx0.cells.2.1
    have l0 := hx0.cells.2.2.2.2
    replace hBB := below2 hBB hC1
    go_wp2_with fail
    go_ret
    exact ⟨rfl, hBB⟩
  | false =>
    have HF := Lib.hid hF
    obtain ⟨hbl, hwl, _⟩ := far_not hF
    clear hF
    obtain ⟨ew, hew⟩ : ∃ c, c = writeE bs ws i s := ⟨_, rfl⟩
    obtain ⟨Bw, hBw⟩ : ∃ c, c = writeBs bs ws i s := ⟨_, rfl⟩
    obtain ⟨Ww, hWw⟩ : ∃ c, c = writeWs bs ws i s := ⟨_, rfl⟩
    obtain ⟨er, her⟩ : ∃ c, c = readE bs ws i := ⟨_, rfl⟩
    obtain ⟨tr, htr⟩ : ∃ c, c = readT bs ws i := ⟨_, rfl⟩
    obtain ⟨es, hes⟩ : ∃ c, c = syncE bs ws := ⟨_, rfl⟩
    obtain ⟨Bs, hBs⟩ : ∃ c, c = syncBs bs ws := ⟨_, rfl⟩
    obtain ⟨Bc, hBc⟩ : ∃ c, c = crashBs bs ws ks := ⟨_, rfl⟩
    obtain ⟨en, hen⟩ : ∃ c, c = newE n := ⟨_, rfl⟩
    obtain ⟨Bn, hBn⟩ : ∃ c, c = newB n := ⟨_, rfl⟩
    have lw : Bw.length ≤ 250 ∧ Ww.length ≤ 151 := by
      rw [hBw, hWw, writeBs, writeWs]
      constructor
      · split
        · exact hbl
        · simp
      · split
        · simp; omega
        · simp
    have ls : Bs.length ≤ 250 := by
      rw [hBs, syncBs]
      split
      · rw [layL_len]; omega
      · simp
    have lc : Bc.length ≤ 250 := by
      rw [hBc, crashBs]
      split
      · rw [layL_len]; omega
      · simp
    have ln : Bn.length ≤ 250 := by
      rw [hBn, newB]
      split
      · simp; omega
      · simp
    have LL := Lib.hid (And.intro lw (And.intro ls (And.intro lc ln)))
    have EW := Lib.hid hew
    have BW := Lib.hid hBw
    have WW := Lib.hid hWw
    have ER := Lib.hid her
    have TR := Lib.hid htr
    have ES := Lib.hid hes
    have BS := Lib.hid hBs
    have BC := Lib.hid hBc
    have EN := Lib.hid hen
    have BN := Lib.hid hBn
    clear hew hBw hWw her htr hes hBs hBc hen hBn lw ls lc ln
    go_enter Try.func3, Try.ntmps3
    go_wp2_with fail
    refine (far_calls _ _ ak ks.length ck _ _ s _ (ht0.below (below_alloc _ _)) (hv0.below (below_alloc _ _))).mono ?_
    rintro e w1 ⟨he, hB1⟩
    rw [HF.out] at he
    subst he
    have hC1 := below2 (below_alloc _ _) hB1
    have hx0 := (Bx.new w0 _ _).below hB1
    replace ht0 := ht0.below hC1
    replace hv0 := hv0.below hC1
    replace hk := hk.below hC1
    have c00 := hx0.cells.1
    have c01 := hx0.cells.2.1
    have l0 := hx0.cells.2.2.2.2
    replace hBB := below2 hBB hC1
    go_wp2_with fail
    refine (refOwn_calls _ _ bs ws _ ht0 hv0 (by omega) (by omega)).mono ?_
    rintro e w2 ⟨vb2, vw2, he, ho2, hB2⟩
    subst he
    have hC2 := hB2
    replace hx0 := hx0.below hC2
    replace ht0 := ht0.below hC2
    replace hv0 := hv0.below hC2
    replace hk := hk.below hC2
    replace c00 := hx0.cells.1
    replace c01 := hx0.cells.2.1
    replace l0 := hx0.cells.2.2.2.2
    replace hBB := below2 hBB hC2
    obtain ⟨ab2, nb2, cb2, aw2, nw2, cw2, rfl, rfl, hnb2, hnw2⟩ := ho2.forms
    have ht2 := ho2.texts
    have hv2 := ho2.wrs
    have N2 := Lib.hid (And.intro hnb2 hnw2)
    clear hnb2 hnw2
    have hBB2 := Below.refl w2.heap.size w2
    have HO2 := Lib.hid ho2
    have T2 := Lib.hid (And.intro ht2 hv2)
    go_wp2_with fail
    refine (write_calls _ _ bs ws i s _ (ht0.below (below_alloc _ _)) (hv0.below (below_alloc _ _))).mono ?_
    rintro e w3 ⟨vb3, vw3, he, ho3, hB3⟩
    rw [← EW.out] at he
    subst he
    have hC3 := below2 (below_alloc _ _) hB3
    replace hx0 := hx0.below hC3
    replace ht0 := ht0.below hC3
    replace hv0 := hv0.below hC3
    have hx2 := (Bx.new w2 _ _).below hB3
    replace ht2 := ht2.below hC3
    replace hv2 := hv2.below hC3
    replace hk := hk.below hC3
    replace c00 := hx0.cells.1
    replace c01 := hx0.cells.2.1
    replace l0 := hx0.cells.2.2.2.2
    have c20 := hx2.cells.1
    have c21 := hx2.cells.2.1
    have l2 := hx2.cells.2.2.2.2
    replace hBB2 := below2 hBB2 hC3
    replace hBB := below2 hBB hC3
    obtain ⟨ab3, nb3, cb3, aw3, nw3, cw3, rfl, rfl, hnb3, hnw3⟩ := ho3.forms
    have ht3 := ho3.texts
    have hv3 := ho3.wrs
    have N3 := Lib.hid (And.intro hnb3 hnw3)
    clear hnb3 hnw3
    rw [← BW.out] at ho3 ht3 N3
    rw [← WW.out] at ho3 hv3 N3
    simp only [World.size_alloc] at ho3
    go_wp2_with fail
    refine (refWrite_calls _ _ bs ws i s _ (ht2.below (below_alloc _ _)) (hv2.below (below_alloc _ _))).mono ?_
    rintro e w4 ⟨vb4, vw4, he, ho4, hB4⟩
    rw [← EW.out] at he
    subst he
    have hC4 := below2 (below_alloc _ _) hB4
    replace hx0 := hx0.below hC4
    replace ht0 := ht0.below hC4
    replace hv0 := hv0.below hC4
    replace hx2 := hx2.below hC4
    replace ht2 := ht2.below hC4
    replace hv2 := hv2.below hC4
    have hx3 := (Bx.new w3 _ _).below hB4
    replace ht3 := ht3.below hC4
    replace hv3 := hv3.below hC4
    replace hk := hk.below hC4
    replace ho3 := ho3.below hC4
    replace c00 := hx0.cells.1
    replace c01 := hx0.cells.2.1
    replace l0 := hx0.cells.2.2.2.2
    replace c20 := hx2.cells.1
    replace c21 := hx2.cells.2.1
    replace l2 := hx2.cells.2.2.2.2
    replace hBB2 := below2 hBB2 hC4
    replace hBB := below2 hBB hC4
    obtain ⟨ab4, nb4, cb4, aw4, nw4, cw4, rfl, rfl, hnb4, hnw4⟩ := ho4.forms
    have ht4 := ho4.texts
    have hv4 := ho4.wrs
    have N4 := Lib.hid (And.intro hnb4 hnw4)
    clear hnb4 hnw4
    rw [← BW.out] at ho4 ht4 N4
    rw [← WW.out] at ho4 hv4 N4
    go_wp2_with fail
    refine (read_calls _ _ bs ws i _ (ht0.below (below_alloc _ _)) (hv0.below (below_alloc _ _))).mono ?_
    rintro e w5 ⟨he, hB5⟩
    rw [← ER.out] at he
    rw [← TR.out] at he
    subst he
    have hC5 := below2 (below_alloc _ _) hB5
    replace hx0 := hx0.below hC5
    replace ht0 := ht0.below hC5
    replace hv0 := hv0.below hC5
    replace hx2 := hx2.below hC5
    replace ht2 := ht2.below hC5
    replace hv2 := hv2.below hC5
    replace hx3 := hx3.below hC5
    replace ht3 := ht3.below hC5
    replace hv3 := hv3.below hC5
    have hx4 := (Bx.new w4 _ _).below hB5
    replace ht4 := ht4.below hC5
    replace hv4 := hv4.below hC5
    replace hk := hk.below hC5
    replace ho3 := ho3.below hC5
    replace c00 := hx0.cells.1
    replace c01 := hx0.cells.2.1
    replace l0 := hx0.cells.2.2.2.2
    replace c20 := hx2.cells.1
    replace c21 := hx2.cells.2.1
    replace l2 := hx2.cells.2.2.2.2
    replace hBB2 := below2 hBB2 hC5
    replace hBB := below2 hBB hC5
    go_wp2_with fail
    refine (refRead_calls _ _ bs ws i _ ht2 hv2).mono ?_
    rintro e w6 ⟨he, hB6⟩
    rw [← ER.out] at he
    rw [← TR.out] at he
    subst he
    have hC6 := hB6
    replace hx0 := hx0.below hC6
    replace ht0 := ht0.below hC6
    replace hv0 := hv0.below hC6
    replace hx2 := hx2.below hC6
    replace ht2 := ht2.below hC6
    replace hv2 := hv2.below hC6
    replace hx3 := hx3.below hC6
    replace ht3 := ht3.below hC6
    replace hv3 := hv3.below hC6
    replace hx4 := hx4.below hC6
    replace ht4 := ht4.below hC6
    replace hv4 := hv4.below hC6
    replace hk := hk.below hC6
    replace ho3 := ho3.below hC6
    replace c00 := hx0.cells.1
    replace c01 := hx0.cells.2.1
    replace l0 := hx0.cells.2.2.2.2
    replace c20 := hx2.cells.1
    replace c21 := hx2.cells.2.1
    replace l2 := hx2.cells.2.2.2.2
    replace hBB2 := below2 hBB2 hC6
    replace hBB := below2 hBB hC6
    go_wp2_with fail
    refine (sync_calls _ _ bs ws _ ht0 hv0).mono ?_
    rintro e w7 ⟨vb7, vw7, he, ho7, hB7⟩
    rw [← ES.out] at he
    subst he
    have hC7 := hB7
    replace hx0 := hx0.below hC7
    replace ht0 := ht0.below hC7
    replace hv0 := hv0.below hC7
    replace hx2 := hx2.below hC7
    replace ht2 := ht2.below hC7
    replace hv2 := hv2.below hC7
    replace hx3 := hx3.below hC7
    replace ht3 := ht3.below hC7
    replace hv3 := hv3.below hC7
    replace hx4 := hx4.below hC7
    replace ht4 := ht4.below hC7
    replace hv4 := hv4.below hC7
    replace hk := hk.below hC7
    replace ho3 := ho3.below hC7
    replace c00 := hx0.cells.1
    replace c01 := hx0.cells.2.1
    replace l0 := hx0.cells.2.2.2.2
    replace c20 := hx2.cells.1
    replace c21 := hx2.cells.2.1
    replace l2 := hx2.cells.2.2.2.2
    replace hBB2 := below2 hBB2 hC7
    replace hBB := below2 hBB hC7
    obtain ⟨ab7, nb7, cb7, aw7, nw7, cw7, rfl, rfl, hnb7, hnw7⟩ := ho7.forms
    have ht7 := ho7.texts
    have hv7 := ho7.wrs
    have N7 := Lib.hid (And.intro hnb7 hnw7)
    clear hnb7 hnw7
    rw [← BS.out] at ho7 ht7 N7
    have lt7 := Lib.hid ho7.1.lt
    go_wp2_with fail
    refine (refSync_calls _ _ bs ws _ (ht2.below (below_alloc _ _)) (hv2.below (below_alloc _ _))).mono ?_
    rintro e w8 ⟨vb8, vw8, he, ho8, hB8⟩
    rw [← ES.out] at he
    subst he
    have hC8 := below2 (below_alloc _ _) hB8
    replace hx0 := hx0.below hC8
    replace ht0 := ht0.below hC8
    replace hv0 := hv0.below hC8
    replace hx2 := hx2.below hC8
    replace ht2 := ht2.below hC8
    replace hv2 := hv2.below hC8
    replace hx3 := hx3.below hC8
    replace ht3 := ht3.below hC8
    replace hv3 := hv3.below hC8
    replace hx4 := hx4.below hC8
    replace ht4 := ht4.below hC8
    replace hv4 := hv4.below hC8
    have hx7 := (Bx.new w7 _ _).below hB8
    replace ht7 := ht7.below hC8
    replace hv7 := hv7.below hC8
    replace hk := hk.below hC8
    replace ho3 := ho3.below hC8
    replace ho7 := ho7.below hC8
    replace c00 := hx0.cells.1
    replace c01 := hx0.cells.2.1
    replace l0 := hx0.cells.2.2.2.2
    replace c20 := hx2.cells.1
    replace c21 := hx2.cells.2.1
    replace l2 := hx2.cells.2.2.2.2
    replace hBB2 := below2 hBB2 hC8
    replace hBB := below2 hBB hC8
    obtain ⟨ab8, nb8, cb8, aw8, nw8, cw8, rfl, rfl, hnb8, hnw8⟩ := ho8.forms
    have ht8 := ho8.texts
    have hv8 := ho8.wrs
    have N8 := Lib.hid (And.intro hnb8 hnw8)
    clear hnb8 hnw8
    rw [← BS.out] at ho8 ht8 N8
    go_wp2_with fail
    refine (crash_calls _ _ _ bs ws ks _ (ht0.below (below_alloc _ _)) (hv0.below (below_alloc _ _)) (hk.below (below_alloc _ _))).mono ?_
    rintro e w9 ⟨vb9, vw9, he, ho9, hB9⟩
    rw [← ES.out] at he
    subst he
    have hC9 := below2 (below_alloc _ _) hB9
    replace hx0 := hx0.below hC9
    replace ht0 := ht0.below hC9
    replace hv0 := hv0.below hC9
    replace hx2 := hx2.below hC9
    replace ht2 := ht2.below hC9
    replace hv2 := hv2.below hC9
    replace hx3 := hx3.below hC9
    replace ht3 := ht3.below hC9
    replace hv3 := hv3.below hC9
    replace hx4 := hx4.below hC9
    replace ht4 := ht4.below hC9
    replace hv4 := hv4.below hC9
    replace hx7 := hx7.below hC9
    replace ht7 := ht7.below hC9
    replace hv7 := hv7.below hC9
    have hx8 := (Bx.new w8 _ _).below hB9
    replace ht8 := ht8.below hC9
    replace hv8 := hv8.below hC9
    replace hk := hk.below hC9
    replace ho3 := ho3.below hC9
    replace ho7 := ho7.below hC9
    replace c00 := hx0.cells.1
    replace c01 := hx0.cells.2.1
    replace l0 := hx0.cells.2.2.2.2
    replace c20 := hx2.cells.1
    replace c21 := hx2.cells.2.1
    replace l2 := hx2.cells.2.2.2.2
    replace hBB2 := below2 hBB2 hC9
    replace hBB := below2 hBB hC9
    obtain ⟨ab9, nb9, cb9, aw9, nw9, cw9, rfl, rfl, hnb9, hnw9⟩ := ho9.forms
    have ht9 := ho9.texts
    have hv9 := ho9.wrs
    have N9 := Lib.hid (And.intro hnb9 hnw9)
    clear hnb9 hnw9
    rw [← BC.out] at ho9 ht9 N9
    simp only [World.size_alloc] at ho9
    go_wp2_with fail
    refine (refCrash_calls _ _ _ bs ws ks _ (ht2.below (below_alloc _ _)) (hv2.below (below_alloc _ _)) (hk.below (below_alloc _ _))).mono ?_
    rintro e w10 ⟨vb10, vw10, he, ho10, hB10⟩
    rw [← ES.out] at he
    subst he
    have hC10 := below2 (below_alloc _ _) hB10
    replace hx0 := hx0.below hC10
    replace ht0 := ht0.below hC10
    replace hv0 := hv0.below hC10
    replace hx2 := hx2.below hC10
    replace ht2 := ht2.below hC10
    replace hv2 := hv2.below hC10
    replace hx3 := hx3.below hC10
    replace ht3 := ht3.below hC10
    replace hv3 := hv3.below hC10
    replace hx4 := hx4.below hC10
    replace ht4 := ht4.below hC10
    replace hv4 := hv4.below hC10
    replace hx7 := hx7.below hC10
    replace ht7 := ht7.below hC10
    replace hv7 := hv7.below hC10
    replace hx8 := hx8.below hC10
    replace ht8 := ht8.below hC10
    replace hv8 := hv8.below hC10
    have hx9 := (Bx.new w9 _ _).below hB10
    replace ht9 := ht9.below hC10
    replace hv9 := hv9.below hC10
    replace hk := hk.below hC10
    replace ho3 := ho3.below hC10
    replace ho7 := ho7.below hC10
    replace ho9 := ho9.below hC10
    replace c00 := hx0.cells.1
    replace c01 := hx0.cells.2.1
    replace l0 := hx0.cells.2.2.2.2
    replace c20 := hx2.cells.1
    replace c21 := hx2.cells.2.1
    replace l2 := hx2.cells.2.2.2.2
    replace hBB2 := below2 hBB2 hC10
    replace hBB := below2 hBB hC10
    obtain ⟨ab10, nb10, cb10, aw10, nw10, cw10, rfl, rfl, hnb10, hnw10⟩ := ho10.forms
    have ht10 := ho10.texts
    have hv10 := ho10.wrs
    have N10 := Lib.hid (And.intro hnb10 hnw10)
    clear hnb10 hnw10
    rw [← BC.out] at ho10 ht10 N10
    go_wp2_with fail
    refine (new_calls n _).mono ?_
    rintro e w11 ⟨vb11, vw11, he, ho11, hB11⟩
    rw [← EN.out] at he
    subst he
    have hC11 := below2 (below_alloc _ _) hB11
    replace hx0 := hx0.below hC11
    replace ht0 := ht0.below hC11
    replace hv0 := hv0.below hC11
    replace hx2 := hx2.below hC11
    replace ht2 := ht2.below hC11
    replace hv2 := hv2.below hC11
    replace hx3 := hx3.below hC11
    replace ht3 := ht3.below hC11
    replace hv3 := hv3.below hC11
    replace hx4 := hx4.below hC11
    replace ht4 := ht4.below hC11
    replace hv4 := hv4.below hC11
    replace hx7 := hx7.below hC11
    replace ht7 := ht7.below hC11
    replace hv7 := hv7.below hC11
    replace hx8 := hx8.below hC11
    replace ht8 := ht8.below hC11
    replace hv8 := hv8.below hC11
    replace hx9 := hx9.below hC11
    replace ht9 := ht9.below hC11
    replace hv9 := hv9.below hC11
    have hx10 := (Bx.new w10 _ _).below hB11
    replace ht10 := ht10.below hC11
    replace hv10 := hv10.below hC11
    replace hk := hk.below hC11
    replace ho3 := ho3.below hC11
    replace ho7 := ho7.below hC11
    replace ho9 := ho9.below hC11
    replace c00 := hx0.cells.1
    replace c01 := hx0.cells.2.1
    replace l0 := hx0.cells.2.2.2.2
    replace c20 := hx2.cells.1
    replace c21 := hx2.cells.2.1
    replace l2 := hx2.cells.2.2.2.2
    replace hBB2 := below2 hBB2 hC11
    replace hBB := below2 hBB hC11
    obtain ⟨ab11, nb11, cb11, aw11, nw11, cw11, rfl, rfl, hnb11, hnw11⟩ := ho11.forms
    have ht11 := ho11.texts
    have hv11 := ho11.wrs
    have N11 := Lib.hid (And.intro hnb11 hnw11)
    clear hnb11 hnw11
    rw [← BN.out] at ho11 ht11 N11
    go_wp2_with fail
    refine (refNew_calls n _).mono ?_
    rintro e w12 ⟨vb12, vw12, he, ho12, hB12⟩
    rw [← EN.out] at he
    subst he
    have hC12 := below2 (below_alloc _ _) hB12
    replace hx0 := hx0.below hC12
    replace ht0 := ht0.below hC12
    replace hv0 := hv0.below hC12
    replace hx2 := hx2.below hC12
    replace ht2 := ht2.below hC12
    replace hv2 := hv2.below hC12
    replace hx3 := hx3.below hC12
    replace ht3 := ht3.below hC12
    replace hv3 := hv3.below hC12
    replace hx4 := hx4.below hC12
    replace ht4 := ht4.below hC12
    replace hv4 := hv4.below hC12
    replace hx7 := hx7.below hC12
    replace ht7 := ht7.below hC12
    replace hv7 := hv7.below hC12
    replace hx8 := hx8.below hC12
    replace ht8 := ht8.below hC12
    replace hv8 := hv8.below hC12
    replace hx9 := hx9.below hC12
    replace ht9 := ht9.below hC12
    replace hv9 := hv9.below hC12
    replace hx10 := hx10.below hC12
    replace ht10 := ht10.below hC12
    replace hv10 := hv10.below hC12
    have hx11 := (Bx.new w11 _ _).below hB12
    replace ht11 := ht11.below hC12
    replace hv11 := hv11.below hC12
    replace hk := hk.below hC12
    replace ho3 := ho3.below hC12
    replace ho7 := ho7.below hC12
    replace ho9 := ho9.below hC12
    replace c00 := hx0.cells.1
    replace c01 := hx0.cells.2.1
    replace l0 := hx0.cells.2.2.2.2
    replace c20 := hx2.cells.1
    replace c21 := hx2.cells.2.1
    replace l2 := hx2.cells.2.2.2.2
    replace hBB2 := below2 hBB2 hC12
    replace hBB := below2 hBB hC12
    obtain ⟨ab12, nb12, cb12, aw12, nw12, cw12, rfl, rfl, hnb12, hnw12⟩ := ho12.forms
    have ht12 := ho12.texts
    have hv12 := ho12.wrs
    have N12 := Lib.hid (And.intro hnb12 hnw12)
    clear hnb12 hnw12
    rw [← BN.out] at ho12 ht12 N12
    go_upto_region 14 with fail
    have hA := below_alloc w12 (.cells #[.slice ab12 nb12 cb12, .slice aw12 nw12 cw12] 25)
    have hx12 := Bx.new w12 (.slice ab12 nb12 cb12) (.slice aw12 nw12 cw12)
    generalize hW : w12.alloc (.cells #[.slice ab12 nb12 cb12, .slice aw12 nw12 cw12] 25) = W at hA hx12 ⊢
    clear hW
    replace hx0 := hx0.below hA
    replace ht0 := ht0.below hA
    replace hv0 := hv0.below hA
    replace hx2 := hx2.below hA
    replace ht2 := ht2.below hA
    replace hv2 := hv2.below hA
    replace hx3 := hx3.below hA
    replace ht3 := ht3.below hA
    replace hv3 := hv3.below hA
    replace hx4 := hx4.below hA
    replace ht4 := ht4.below hA
    replace hv4 := hv4.below hA
    replace hx7 := hx7.below hA
    replace ht7 := ht7.below hA
    replace hv7 := hv7.below hA
    replace hx8 := hx8.below hA
    replace ht8 := ht8.below hA
    replace hv8 := hv8.below hA
    replace hx9 := hx9.below hA
    replace ht9 := ht9.below hA
    replace hv9 := hv9.below hA
    replace hx10 := hx10.below hA
    replace ht10 := ht10.below hA
    replace hv10 := hv10.below hA
    replace hx11 := hx11.below hA
    replace ht11 := ht11.below hA
    replace hv11 := hv11.below hA
    replace ht12 := ht12.below hA
    replace hv12 := hv12.below hA
    clear c00 c01 l0 c20 c21 l2
    have HS : Hid (∀ w', Below W.heap.size W w' → w'.cell? ⟨w0.heap.size, 0, none⟩ = some (.slice ab0 bs.length cb0) ∧ w'.cell? ⟨w0.heap.size, 1, none⟩ = some (.slice aw0 ws.length cw0) ∧ w'.cell? ⟨w2.heap.size, 0, none⟩ = some (.slice ab2 nb2 cb2) ∧ w'.cell? ⟨w2.heap.size, 1, none⟩ = some (.slice aw2 nw2 cw2) ∧ w'.cell? ⟨w3.heap.size, 0, none⟩ = some (.slice ab3 nb3 cb3) ∧ w'.cell? ⟨w3.heap.size, 1, none⟩ = some (.slice aw3 nw3 cw3) ∧ w'.cell? ⟨w4.heap.size, 0, none⟩ = some (.slice ab4 nb4 cb4) ∧ w'.cell? ⟨w4.heap.size, 1, none⟩ = some (.slice aw4 nw4 cw4) ∧ w'.cell? ⟨w7.heap.size, 0, none⟩ = some (.slice ab7 nb7 cb7) ∧ w'.cell? ⟨w7.heap.size, 1, none⟩ = some (.slice aw7 nw7 cw7) ∧ w'.cell? ⟨w8.heap.size, 0, none⟩ = some (.slice ab8 nb8 cb8) ∧ w'.cell? ⟨w8.heap.size, 1, none⟩ = some (.slice aw8 nw8 cw8) ∧ w'.cell? ⟨w9.heap.size, 0, none⟩ = some (.slice ab9 nb9 cb9) ∧ w'.cell? ⟨w9.heap.size, 1, none⟩ = some (.slice aw9 nw9 cw9) ∧ w'.cell? ⟨w10.heap.size, 0, none⟩ = some (.slice ab10 nb10 cb10) ∧ w'.cell? ⟨w10.heap.size, 1, none⟩ = some (.slice aw10 nw10 cw10) ∧ w'.cell? ⟨w11.heap.size, 0, none⟩ = some (.slice ab11 nb11 cb11) ∧ w'.cell? ⟨w11.heap.size, 1, none⟩ = some (.slice aw11 nw11 cw11) ∧ w'.cell? ⟨w12.heap.size, 0, none⟩ = some (.slice ab12 nb12 cb12) ∧ w'.cell? ⟨w12.heap.size, 1, none⟩ = some (.slice aw12 nw12 cw12)) := Lib.hid (fun w' hb => ⟨look_below hb hx0.cells.1, look_below hb hx0.cells.2.1, look_below hb hx2.cells.1, look_below hb hx2.cells.2.1, look_below hb hx3.cells.1, look_below hb hx3.cells.2.1, look_below hb hx4.cells.1, look_below hb hx4.cells.2.1, look_below hb hx7.cells.1, look_below hb hx7.cells.2.1, look_below hb hx8.cells.1, look_below hb hx8.cells.2.1, look_below hb hx9.cells.1, look_below hb hx9.cells.2.1, look_below hb hx10.cells.1, look_below hb hx10.cells.2.1, look_below hb hx11.cells.1, look_below hb hx11.cells.2.1, look_below hb hx12.cells.1, look_below hb hx12.cells.2.1⟩)
    have CS1 := Lib.hid (fun (V : World) (hb : Below W.heap.size W V) => same_calls _ _ _ _ Bw Bw Ww Ww V (ht3.below hb) (hv3.below hb) (ht4.below hb) (hv4.below hb) (by have h := LL.out.1.1; omega) (by have h := LL.out.1.2; omega))
    have CS2 := Lib.hid (fun (V : World) (hb : Below W.heap.size W V) => same_calls _ _ _ _ Bs Bs [] [] V (ht7.below hb) (hv7.below hb) (ht8.below hb) (hv8.below hb) (by have h := LL.out.2.1; omega) (by simp))
    have CS3 := Lib.hid (fun (V : World) (hb : Below W.heap.size W V) => same_calls _ _ _ _ Bc Bc [] [] V (ht9.below hb) (hv9.below hb) (ht10.below hb) (hv10.below hb) (by have h := LL.out.2.2.1; omega) (by simp))
    have CS4 := Lib.hid (fun (V : World) (hb : Below W.heap.size W V) => same_calls _ _ _ _ Bn Bn [] [] V (ht11.below hb) (hv11.below hb) (ht12.below hb) (hv12.below hb) (by have h := LL.out.2.2.2; omega) (by simp))
    have CC1 := Lib.hid (fun (V : World) (hb : Below W.heap.size W V) => check_calls _ _ bs ws V (ht0.below hb) (hv0.below hb))
    have CC2 := Lib.hid (fun (V : World) (hb : Below W.heap.size W V) => refCheck_calls _ _ bs ws V (ht2.below hb) (hv2.below hb))
    obtain ⟨rt, hrt⟩ : ∃ c, c = rightB bs ws := ⟨_, rfl⟩
    rw [← hrt] at CC1 CC2
    have HRT := Lib.hid hrt
    clear hrt
    have hbr : Below W.heap.size W W.drew := drew_below _
    go_cut [32] (fun b wc => b = .bool true ∧ Below W.heap.size W wc)
    case first =>
      go_region_held3 (fun w' => w'.cell? ⟨w0.heap.size, 0, none⟩ = some (.slice ab0 bs.length cb0) ∧ w'.cell? ⟨w0.heap.size, 1, none⟩ = some (.slice aw0 ws.length cw0) ∧ w'.cell? ⟨w2.heap.size, 0, none⟩ = some (.slice ab2 nb2 cb2) ∧ w'.cell? ⟨w2.heap.size, 1, none⟩ = some (.slice aw2 nw2 cw2) ∧ w'.cell? ⟨w3.heap.size, 0, none⟩ = some (.slice ab3 nb3 cb3) ∧ w'.cell? ⟨w3.heap.size, 1, none⟩ = some (.slice aw3 nw3 cw3) ∧ w'.cell? ⟨w4.heap.size, 0, none⟩ = some (.slice ab4 nb4 cb4) ∧ w'.cell? ⟨w4.heap.size, 1, none⟩ = some (.slice aw4 nw4 cw4) ∧ w'.cell? ⟨w7.heap.size, 0, none⟩ = some (.slice ab7 nb7 cb7) ∧ w'.cell? ⟨w7.heap.size, 1, none⟩ = some (.slice aw7 nw7 cw7) ∧ w'.cell? ⟨w8.heap.size, 0, none⟩ = some (.slice ab8 nb8 cb8) ∧ w'.cell? ⟨w8.heap.size, 1, none⟩ = some (.slice aw8 nw8 cw8) ∧ w'.cell? ⟨w9.heap.size, 0, none⟩ = some (.slice ab9 nb9 cb9) ∧ w'.cell? ⟨w9.heap.size, 1, none⟩ = some (.slice aw9 nw9 cw9) ∧ w'.cell? ⟨w10.heap.size, 0, none⟩ = some (.slice ab10 nb10 cb10) ∧ w'.cell? ⟨w10.heap.size, 1, none⟩ = some (.slice aw10 nw10 cw10) ∧ w'.cell? ⟨w11.heap.size, 0, none⟩ = some (.slice ab11 nb11 cb11) ∧ w'.cell? ⟨w11.heap.size, 1, none⟩ = some (.slice aw11 nw11 cw11) ∧ w'.cell? ⟨w12.heap.size, 0, none⟩ = some (.slice ab12 nb12 cb12) ∧ w'.cell? ⟨w12.heap.size, 1, none⟩ = some (.slice aw12 nw12 cw12)) (first | exact HS.out _ hbr) (first | (go_at_call 20; (first | ((with_reducible refine (CS1.out _ hbr).mono ?_); rintro e wx ⟨he, hBx⟩; rw [sameD_refl] at he; subst he; have hbr := below2 hbr hBx) | ((with_reducible refine (CS2.out _ hbr).mono ?_); rintro e wx ⟨he, hBx⟩; rw [sameD_refl] at he; subst he; have hbr := below2 hbr hBx) | ((with_reducible refine (CS3.out _ hbr).mono ?_); rintro e wx ⟨he, hBx⟩; rw [sameD_refl] at he; subst he; have hbr := below2 hbr hBx) | ((with_reducible refine (CS4.out _ hbr).mono ?_); rintro e wx ⟨he, hBx⟩; rw [sameD_refl] at he; subst he; have hbr := below2 hbr hBx))) | (go_at_call 21; ((with_reducible refine (CC1.out _ hbr).mono ?_); rintro e wx ⟨he, hBx⟩; subst he; have hbr := below2 hbr hBx)) | (go_at_call 22; ((with_reducible refine (CC2.out _ hbr).mono ?_); rintro e wx ⟨he, hBx⟩; subst he; have hbr := below2 hbr hBx)))
      go_wp2_with fail
      go_meet
      case rel => exact ⟨rfl, hbr⟩
    case rest =>
      obtain ⟨rfl, hcw⟩ := hcut
      have hAc := below2 hA hcw
      have hK : Kept w0 w2 (.slice ab0 bs.length cb0) (.slice aw0 ws.length cw0) (.slice ab2 nb2 cb2) (.slice aw2 nw2 cw2) (.slice ab3 nb3 cb3) (.slice aw3 nw3 cw3) (.slice ab7 nb7 cb7) (.slice aw7 nw7 cw7) (.slice ab9 nb9 cb9) (.slice aw9 nw9 cw9) w3.heap.size w7.heap.size w9.heap.size wc := ⟨hx0.below hcw, hx2.below hcw, hx3.below hcw, hx7.below hcw, hx9.below hcw, below2 hBB hAc, below2 hBB2 hAc⟩
      have h7 : Row w6.heap.size 9 1 (.slice ab7 nb7 cb7) nb7 wc := by
        have h := (OwnD.below ho7 hAc).1
        rw [← N7.out.1] at h
        exact ⟨_, h⟩
      have h9 : Row (w8.heap.size + 1) 9 1 (.slice ab9 nb9 cb9) nb9 wc := by
        have h := (OwnD.below ho9 hAc).1
        rw [← N9.out.1] at h
        exact ⟨_, h⟩
      have h3 : Row (w2.heap.size + 1) 40 2 (.slice aw3 nw3 cw3) nw3 wc := by
        have h := (OwnD.below ho3 hAc).2
        rw [← N3.out.2] at h
        exact ⟨_, h⟩
      have hz : w0.heap.size ≤ w2.heap.size ∧ w2.heap.size ≤ w6.heap.size ∧ w7.heap.size ≤ w8.heap.size ∧ w6.heap.size ≤ w7.heap.size := by
        have a1 := hC1.size
        have a2 := hC2.size
        have a3 := hC3.size
        have a4 := hC4.size
        have a5 := hC5.size
        have a6 := hC6.size
        have a7 := hC7.size
        have a8 := hC8.size
        omega
      obtain ⟨hz1, hz2, hz3, hz4⟩ := hz
      have hn7 : nb7 ≤ 250 := by have h := N7.out.1; have h2 := LL.out.2.1; omega
      have hn9 : nb9 ≤ 250 := by have h := N9.out.1; have h2 := LL.out.2.2.1; omega
      have hn3 : nw3 ≤ 151 := by have h := N3.out.2; have h2 := LL.out.1.2; omega
      have HST := Lib.hid (And.intro hK (And.intro h7 (And.intro h9 h3)))
      clear hx0 hx2 hx3 hx4 hx7 hx8 hx9 hx10 hx11 hx12 ht0 ht2 ht3 ht4 ht7 ht8 ht9 ht10 ht11 ht12 hv0 hv2 hv3 hv4 hv7 hv8 hv9 hv10 hv11 hv12 HS CS1 CS2 CS3 CS4 CC1 CC2 hbr hA hcw hAc ho3 ho7 ho9 hK h7 h9 h3
      go_wp2_with fail
      go_loopw [33] (fun i wr => ∃ k : Nat, k ≤ nb7 ∧ i = .int .i64 k ∧ Kept w0 w2 (.slice ab0 bs.length cb0) (.slice aw0 ws.length cw0) (.slice ab2 nb2 cb2) (.slice aw2 nw2 cw2) (.slice ab3 nb3 cb3) (.slice aw3 nw3 cw3) (.slice ab7 nb7 cb7) (.slice aw7 nw7 cw7) (.slice ab9 nb9 cb9) (.slice aw9 nw9 cw9) w3.heap.size w7.heap.size w9.heap.size wr ∧ Row w6.heap.size 9 1 (.slice ab7 nb7 cb7) nb7 wr ∧ Row (w8.heap.size + 1) 9 1 (.slice ab9 nb9 cb9) nb9 wr ∧ Row (w2.heap.size + 1) 40 2 (.slice aw3 nw3 cw3) nw3 wr) (fun i _ => nb7 - (intOf i).toNat)
      case atStart => exact ⟨0, Nat.zero_le _, rfl, HST.out⟩
      case round =>
        obtain ⟨k, hk1, rfl, hK, h7, h9, h3⟩ := hrel
        have m0 := hK.2.2.2.1.cells.1
        by_cases hlt : k < nb7
        · obtain ⟨xs, hox⟩ := h7
          have h7 : Row w6.heap.size 9 1 (.slice ab7 nb7 cb7) nb7 wr := ⟨xs, hox⟩
          obtain ⟨g, rfl, hg1, hg2, hg3⟩ := h7.at (q := k) (by omega)
          obtain ⟨u, hu⟩ := hg2 (by omega)
          have hgl := (lt7.out g rfl).2
          have HN := Lib.hid (And.intro (hK.set hox (by decide) (by omega) (by omega) (k) (.string ⟨#[115, 109, 117, 100, 103, 101]⟩)) (And.intro (h7.set k (.string ⟨#[115, 109, 117, 100, 103, 101]⟩)) (And.intro (h9.high (g := g) (by omega) k (.string ⟨#[115, 109, 117, 100, 103, 101]⟩)) (h3.far hox (by decide) k (.string ⟨#[115, 109, 117, 100, 103, 101]⟩)))))
          clear hox h7 h9 h3 hg2
          go_wp2_with fail
          go_roundw
          case rel => exact ⟨k + 1, by omega, by go_num, HN.out⟩
          case measure => simp [intOf]; omega
        · obtain rfl : nb7 = k := by omega
          have HST2 := Lib.hid (And.intro hK (And.intro h9 h3))
          clear HST hK h7 h9 h3
          have HST := HST2
          clear HST2
          go_wp2_with fail
          go_loopw [34] (fun i wr => ∃ k : Nat, k ≤ nb9 ∧ i = .int .i64 k ∧ Kept w0 w2 (.slice ab0 bs.length cb0) (.slice aw0 ws.length cw0) (.slice ab2 nb2 cb2) (.slice aw2 nw2 cw2) (.slice ab3 nb3 cb3) (.slice aw3 nw3 cw3) (.slice ab7 nb7 cb7) (.slice aw7 nw7 cw7) (.slice ab9 nb9 cb9) (.slice aw9 nw9 cw9) w3.heap.size w7.heap.size w9.heap.size wr ∧ Row (w8.heap.size + 1) 9 1 (.slice ab9 nb9 cb9) nb9 wr ∧ Row (w2.heap.size + 1) 40 2 (.slice aw3 nw3 cw3) nw3 wr) (fun i _ => nb9 - (intOf i).toNat)
          case atStart => exact ⟨0, Nat.zero_le _, rfl, HST.out⟩
          case round =>
            obtain ⟨k, hk1, rfl, hK, h9, h3⟩ := hrel
            have m0 := hK.2.2.2.2.1.cells.1
            by_cases hlt : k < nb9
            · obtain ⟨xs, hox⟩ := h9
              have h9 : Row (w8.heap.size + 1) 9 1 (.slice ab9 nb9 cb9) nb9 wr := ⟨xs, hox⟩
              obtain ⟨g, rfl, hg1, hg2, hg3⟩ := h9.at (q := k) (by omega)
              obtain ⟨u, hu⟩ := hg2 (by omega)
              have HN := Lib.hid (And.intro (hK.set hox (by decide) (by omega) (by omega) (k) (.string ⟨#[115, 109, 117, 100, 103, 101]⟩)) (And.intro (h9.set k (.string ⟨#[115, 109, 117, 100, 103, 101]⟩)) (h3.far hox (by decide) k (.string ⟨#[115, 109, 117, 100, 103, 101]⟩))))
              clear hox h9 h3 hg2
              go_wp2_with fail
              go_roundw
              case rel => exact ⟨k + 1, by omega, by go_num, HN.out⟩
              case measure => simp [intOf]; omega
            · obtain rfl : nb9 = k := by omega
              have HST2 := Lib.hid (And.intro hK h3)
              clear HST hK h9 h3
              have HST := HST2
              clear HST2
              go_wp2_with fail
              go_loopw [35] (fun i wr => ∃ k : Nat, k ≤ nw3 ∧ i = .int .i64 k ∧ Kept w0 w2 (.slice ab0 bs.length cb0) (.slice aw0 ws.length cw0) (.slice ab2 nb2 cb2) (.slice aw2 nw2 cw2) (.slice ab3 nb3 cb3) (.slice aw3 nw3 cw3) (.slice ab7 nb7 cb7) (.slice aw7 nw7 cw7) (.slice ab9 nb9 cb9) (.slice aw9 nw9 cw9) w3.heap.size w7.heap.size w9.heap.size wr ∧ Row (w2.heap.size + 1) 40 2 (.slice aw3 nw3 cw3) nw3 wr) (fun i _ => nw3 - (intOf i).toNat)
              case atStart => exact ⟨0, Nat.zero_le _, rfl, HST.out⟩
              case round =>
                obtain ⟨k, hk1, rfl, hK, h3⟩ := hrel
                have m0 := hK.2.2.1.cells.2.1
                by_cases hlt : k < nw3
                · obtain ⟨xs, hox⟩ := h3
                  have h3 : Row (w2.heap.size + 1) 40 2 (.slice aw3 nw3 cw3) nw3 wr := ⟨xs, hox⟩
                  obtain ⟨g, rfl, hg1, hg2, hg3⟩ := h3.at (q := k * 2 + 1) (by omega)
                  obtain ⟨u, hu⟩ := hg2 (by omega)
                  have HN := Lib.hid (And.intro (hK.set hox (by decide) (by omega) (by omega) (k * 2 + 1) (.string ⟨#[115, 109, 117, 100, 103, 101]⟩)) (h3.set (k * 2 + 1) (.string ⟨#[115, 109, 117, 100, 103, 101]⟩)))
                  clear hox h3 hg2
                  go_wp2_with fail
                  go_roundw
                  case rel => exact ⟨k + 1, by omega, by go_num, HN.out⟩
                  case measure => simp [intOf]; omega
                · obtain rfl : nw3 = k := by omega
                  obtain ⟨hb0, hb2, _, _, _, hbw0, hbw2⟩ := hK
                  clear HST
                  go_wp2_with fail
                  refine (spun_calls _).mono ?_
                  rintro e w13 ⟨rfl, hB13⟩
                  replace hb0 := hb0.below hB13
                  replace hb2 := hb2.below hB13
                  have c00 := hb0.cells.1
                  have c01 := hb0.cells.2.1
                  have c20 := hb2.cells.1
                  have c21 := hb2.cells.2.1
                  replace hbw0 := below2 hbw0 hB13
                  replace hbw2 := below2 hbw2 hB13
                  go_wp2_with fail
                  refine (same_calls _ _ _ _ bs bs ws ws _ (T0.out.1.below hbw0) (T0.out.2.below hbw0) (T2.out.1.below hbw2) (T2.out.2.below hbw2) (by omega) (by omega)).mono ?_
                  rintro e w14 ⟨he, hB14⟩
                  rw [sameD_refl] at he
                  subst he
                  go_wp2_with fail
                  go_ret
                  exact ⟨rfl, below2 hbw0 hB14⟩

end Go.Proofs.Ytcikgmgkaenpmaa
