/-
  disk: wait, lay: what is done to a disk behind a pointer.
-/
import Derived.Test.YtcikgmgkaenpmaaCopied
import Derived.Test.YtcikgmgkaenpmaaDSmall
import Derived.Maps.AppendAt
import Derived.Deep.AppendLies
import Derived.Deep.RegionLaw
namespace Go.Proofs.Ytcikgmgkaenpmaa
open Go.RowKit

/-- A disk's two cells, in a block of their own. -/
def Bx (w : World) (b : Nat) (vb vw : Value) : Prop := w.heap[b]? = some (.cells #[vb, vw] 25 (0, 0))
theorem Bx.cells {w : World} {b : Nat} {vb vw : Value} (h : Bx w b vb vw) : w.cell? ⟨b, 0, none⟩ = some vb ∧ w.cell? ⟨b, 1, none⟩ = some vw ∧ w.frozen? ⟨b, 0, none⟩ = false ∧ w.frozen? ⟨b, 1, none⟩ = false ∧ b < w.heap.size :=
  ⟨cell_of_row w b 0 _ _ _ h, cell_of_row w b 1 _ _ _ h, by unfold Bx at h; simp [World.frozen?, h], by unfold Bx at h; simp [World.frozen?, h], (Array.getElem?_eq_some_iff.1 h).1⟩
theorem Bx.not_row {w : World} {b base k : Nat} {vb vw : Value} {e : TypeId} {v : Value} {n : Nat} {xs : List Value} (h : Bx w b vb vw) (ho : w.ownsRow base e k v n xs) (he : e ≠ 25) : v.ownBlock ≠ some b := by
  intro hv
  rcases ho.2 with ⟨rfl, _⟩ | ⟨g, cap, cur, rfl, _, hg, _⟩
  · simp [Value.ownBlock] at hv
  · simp [Value.ownBlock] at hv
    subst hv
    unfold Bx at h
    rw [hg] at h
    simp at h
    exact he h.2
theorem Bx.kept {w w' : World} {b : Nat} {vb vw : Value} {row : Option Nat} (h : Bx w b vb vw) (hg : w.grownBy w' row) (hr : row ≠ some b) : Bx w' b vb vw := by
  unfold Bx at h ⊢
  rw [hg.block _ (Array.getElem?_eq_some_iff.1 h).1 (Ne.symm hr)]
  exact h
theorem Bx.below {w w' : World} {b : Nat} {vb vw : Value} (h : Bx w b vb vw) (hb : Below w.heap.size w w') : Bx w' b vb vw := h.kept (below_grown hb) (by simp)
theorem Bx.new (w : World) (vb vw : Value) : Bx (w.alloc (.cells #[vb, vw] 25)) w.heap.size vb vw := heap_alloc_new w _
theorem rows_apart {w : World} {base base' k k' : Nat} {e e' : TypeId} {v v' : Value} {n n' : Nat} {xs xs' : List Value} (h : w.ownsRow base e k v n xs) (h' : w.ownsRow base' e' k' v' n' xs') (he : e ≠ e') : v.ownBlock = none ∨ v.ownBlock ≠ v'.ownBlock := by
  rcases h.2 with ⟨rfl, _⟩ | ⟨g, cap, cur, rfl, _, hg, _⟩
  · exact .inl rfl
  · refine .inr fun hv => ?_
    rcases h'.2 with ⟨rfl, _⟩ | ⟨g', cap', cur', rfl, _, hg', _⟩
    · simp [Value.ownBlock] at hv
    · simp [Value.ownBlock] at hv
      subst hv
      rw [hg'] at hg
      simp at hg
      exact he hg.2.symm

theorem news_two (w : World) (o : Obj) (y z : Value) (t : TypeId) : ∀ j u, [y, z][j]? = some u → ((w.alloc o).alloc (.cells #[y, z] t)).drew.cell? ((⟨w.heap.size + 1, 0, none⟩ : Addr).add j) = some u := by
  intro j u hu
  have h := World.news_of_block (heap_alloc_new (w.alloc o) (.cells #[y, z] t)) j u hu
  rw [World.size_alloc] at h
  exact h

/-- Behind the append: the world is as it was but for the row. -/
theorem wait_end {w : World} {base Bc : Nat} {vb vw : Value} {bs : List (List UInt8)} {ws : List Wr} {x : Wr} {o1 o2 : Obj} {w1 : World} {v' : Value} (hbx : Bx w Bc vb vw) (ho : OwnD w base vb bs vw ws) (hb1 : base ≤ w.heap.size) (hb2 : base ≤ Bc)
    (hown : w1.ownsRow base 40 2 v' (ws.length + 1) (wcells ws ++ wcell x)) (hg : ((w.alloc o1).alloc o2).drew.grownBy w1 vw.ownBlock) :
    Bx w1 Bc vb vw ∧ (Bx (w1.setCell ⟨Bc, 1, none⟩ v') Bc vb v' ∧ OwnD (w1.setCell ⟨Bc, 1, none⟩ v') base vb bs v' (ws ++ [x]) ∧ Below base w (w1.setCell ⟨Bc, 1, none⟩ v')) := by
  have hB0 : Below w.heap.size w ((w.alloc o1).alloc o2).drew := below2 (below_alloc2 w o1 o2) (drew_below _)
  have hx0 := hbx.below hB0
  have o2' := own_stays ho.1 hB0
  have o3' := own_stays ho.2 hB0
  have hx1 : Bx w1 Bc vb vw := hx0.kept hg (hx0.not_row o3' (by decide))
  have ob : w1.ownsRow base 9 1 vb bs.length (bs.map SV) := o2'.kept hg (rows_apart o2' o3' (by decide))
  refine ⟨hx1, ?_, ⟨?_, ?_⟩, ?_⟩
  · have := heap_setCell_same w1 Bc 1 _ _ v' hx1
    exact this
  · exact ownsRow_setCell_other ob (by simpa using hx1.not_row ob (by decide)) _
  · have h1 := ownsRow_setCell_other hown (a := ⟨Bc, 1, none⟩) (by simpa using hx1.not_row hown (by decide)) v'
    rw [wcells_append]
    simpa [wcells] using h1
  · have hB1 : Below base w ((w.alloc o1).alloc o2).drew := ((((Below.refl base w).alloc hb1 _).alloc (by simp; omega) _).drew)
    exact (hB1.grown hg (by simp; omega) (fun k e => (o3'.lt k e).1)).setCell hb2 _

set_option maxRecDepth 100000 in
set_option maxHeartbeats 4000000 in
theorem wait_calls (w : World) (base Bc : Nat) (vb vw : Value) (bs : List (List UInt8)) (ws : List Wr) (x : Wr) (hbx : Bx w Bc vb vw) (ho : OwnD w base vb bs vw ws) (hb1 : base ≤ w.heap.size) (hb2 : base ≤ Bc) (hl : ws.length ≤ 1000) :
    Calls Try.prog 29 #[.pointer (some ⟨Bc, 0, none⟩), .agg #[.int .i64 x.1, .string ⟨x.2.toArray⟩]] w fun e w' => ∃ vw', e = .returned (.tuple #[]) ∧ Bx w' Bc vb vw' ∧ OwnD w' base vb bs vw' (ws ++ [x]) ∧ Below base w w' := by
  obtain ⟨i0, hi, hz0, hz1, hz2⟩ := info_parts infoW
  obtain ⟨a, s⟩ := x
  obtain ⟨hc0, hc1, hf0, hf1, hlt⟩ := hbx.cells
  have HX := Lib.hid hbx
  have HO := Lib.hid ho
  clear hbx ho
  obtain ⟨aw, cw, rfl⟩ := (Wrs.own HO.out.2).form
  obtain ⟨ab, cb, rfl⟩ := (Txts.own HO.out.1).strs.form
  go_enter Try.func29, Try.ntmps29
  go_wp2_with fail
  have hW := Lib.hid (fun (w1 : World) (v' : Value) => wait_end (w1 := w1) (v' := v') (x := (a, s)) (o1 := .cells #[.int .i64 a, .string ⟨s.toArray⟩] 40) (o2 := .cells #[.int .i64 a, .string ⟨s.toArray⟩] 40) HX.out HO.out hb1 hb2)
  have hownW : Hid ((((w.alloc (.cells #[.int .i64 a, .string ⟨s.toArray⟩] 40)).alloc (.cells #[.int .i64 a, .string ⟨s.toArray⟩] 40)).drew).ownsRow base 40 2 (.slice aw ws.length cw) ws.length (wcells ws)) := Lib.hid (own_stays HO.out.2 (below2 (below_alloc2 w _ _) (drew_below _)))
  have hnewsW := Lib.hid (news_two w (.cells #[.int .i64 a, .string ⟨s.toArray⟩] 40) (.int .i64 a) (.string ⟨s.toArray⟩) 40)
  go_region_law (refine step_append_lies _ rfl (.tmp 8) (.tmp 10) 23 rfl base 40 i0 (.agg #[.int .i64 0, .string ⟨#[]⟩]) 2 24 Try.underlying23 hi hz0 hz1 hz2 rfl (by decide) (.slice aw ws.length cw) ws.length (wcells ws) (by simp [Act.eval]) hownW.out ⟨w.heap.size + 1, 0, none⟩ 1 1 [.int .i64 a, .string ⟨s.toArray⟩] (by simp [Act.eval]) rfl hnewsW.out (by simp [Value.oneCell']) (by omega) (by unfold maxLen; omega) (by omega) (by simp; omega) (w.heap.size + 2) (by simp) ?_; intro g cap w1 hown' hgrow hg hlt1; have HE := Lib.hid (hW.out _ _ hown' hgrow); have hbx1 := HE.out.1; obtain ⟨hd0, hd1, hg0, hg1, _⟩ := hbx1.cells; clear hown' hgrow)
  all_goals
    go_wp2_with fail
    go_end0
    exact ⟨_, rfl, HE.out.2⟩

/-- Behind the store: the block has the text. -/
theorem lay_end {w : World} {base Bc : Nat} {vb vw : Value} {bs : List (List UInt8)} {ws : List Wr} {k : Nat} {s : List UInt8} {o1 : Obj} {g cap : Nat} (hv : vb = .slice (some ⟨g, 0, none⟩) bs.length cap) (hbx : Bx w Bc vb vw) (ho : OwnD w base vb bs vw ws) (hb1 : base ≤ w.heap.size) :
    Bx ((w.setCell ⟨g, k, none⟩ (.string ⟨s.toArray⟩)).alloc o1).drew Bc vb vw ∧ OwnD ((w.setCell ⟨g, k, none⟩ (.string ⟨s.toArray⟩)).alloc o1).drew base vb (bs.set k s) vw ws ∧ Below base w ((w.setCell ⟨g, k, none⟩ (.string ⟨s.toArray⟩)).alloc o1).drew := by
  subst hv
  obtain ⟨s1, s2⟩ := ho.1.stored k (.string ⟨s.toArray⟩)
  have hbg := (ho.1.lt g rfl).1
  have hx1 := hbx.kept s2 (hbx.not_row ho.1 (by decide))
  have hB0 : Below (w.setCell ⟨g, k, none⟩ (.string ⟨s.toArray⟩)).heap.size (w.setCell ⟨g, k, none⟩ (.string ⟨s.toArray⟩)) ((w.setCell ⟨g, k, none⟩ (.string ⟨s.toArray⟩)).alloc o1).drew := below2 (below_alloc _ o1) (drew_below _)
  refine ⟨hx1.below hB0, ⟨own_stays ?_ hB0, own_stays (ho.2.kept s2 (rows_apart ho.2 ho.1 (by decide))) hB0⟩, (((Below.refl base w).setCell (by simpa using hbg) _).alloc (by simpa using hb1) _).drew⟩
  have e : (bs.set k s).map SV = (bs.map SV).set k (.string ⟨s.toArray⟩) := by rw [List.map_set]; rfl
  rw [e]
  simpa using s1

set_option maxRecDepth 100000 in
set_option maxHeartbeats 4000000 in
theorem lay_calls (w : World) (base Bc : Nat) (vb vw : Value) (bs : List (List UInt8)) (ws : List Wr) (x : Wr) (hbx : Bx w Bc vb vw) (ho : OwnD w base vb bs vw ws) (hb1 : base ≤ w.heap.size) (hx : hasB bs.length x.1 = true) :
    Calls Try.prog 33 #[.pointer (some ⟨Bc, 0, none⟩), .agg #[.int .i64 x.1, .string ⟨x.2.toArray⟩]] w fun e w' => e = .returned (.tuple #[]) ∧ Bx w' Bc vb vw ∧ OwnD w' base vb (bs.set x.1.toNat x.2) vw ws ∧ Below base w w' := by
  obtain ⟨a, s⟩ := x
  have ha : 0 ≤ a ∧ a < bs.length := by simpa [hasB] using hx
  obtain ⟨k, rfl⟩ : ∃ k : Nat, a = (k : Int) := ⟨a.toNat, by omega⟩
  have hk : k < bs.length := by omega
  obtain ⟨g, cap, rfl⟩ : ∃ g cap, vb = .slice (some ⟨g, 0, none⟩) bs.length cap := by
    obtain ⟨g, cap, h, _⟩ := ho.1.form (by omega)
    exact ⟨g, cap, h⟩
  obtain ⟨hc0, hc1, hf0, hf1, hlt⟩ := hbx.cells
  obtain ⟨aw, cw, rfl⟩ := (Wrs.own ho.2).form
  have hce : w.cell? ⟨g, k, none⟩ = some (.string ⟨bs[k].toArray⟩) := by
    rw [ho.1.cellAt k (by omega)]; simp [List.getElem?_eq_getElem hk, SV]
  have hfe := ho.1.frozenAt k
  have hgl := (ho.1.lt g rfl).2
  have HE := Lib.hid (lay_end (s := s) (o1 := .cells #[.int .i64 k, .string ⟨s.toArray⟩] 40) (k := k) rfl hbx ho hb1)
  generalize bs[k] = old at hce
  clear hbx ho hx ha
  go_enter Try.func33, Try.ntmps33
  go_wp2_with fail
  go_region
  all_goals
    go_wp2_with fail
    go_end0
    exact ⟨rfl, HE.out⟩

end Go.Proofs.Ytcikgmgkaenpmaa
