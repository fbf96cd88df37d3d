/-
  What the calls on a disk answer; what is laid where a disk is handed in and another one comes out.
-/
import Derived.Test.YtcikgmgkaenpmaaDCheck
import Derived.Test.YtcikgmgkaenpmaaAfter
import Derived.Test.YtcikgmgkaenpmaaKept
namespace Go.Proofs.Ytcikgmgkaenpmaa
open Go.RowKit

def writeE (bs : List (List UInt8)) (ws : List Wr) (i : Int) (s : List UInt8) : Int :=
  if rightB bs ws = true then (if hasB bs.length i = true then (if s.length ≤ 256 then (if ws.length < 100 then 0 else 41) else 1) else 40) else 1
def writeBs (bs : List (List UInt8)) (ws : List Wr) (i : Int) (s : List UInt8) : List (List UInt8) := if writeE bs ws i s = 0 then bs else []
def writeWs (bs : List (List UInt8)) (ws : List Wr) (i : Int) (s : List UInt8) : List Wr := if writeE bs ws i s = 0 then ws ++ [(i, s)] else []
def syncE (bs : List (List UInt8)) (ws : List Wr) : Int := if rightB bs ws = true then 0 else 1
def syncBs (bs : List (List UInt8)) (ws : List Wr) : List (List UInt8) := if rightB bs ws = true then layL bs ws else []
def crashBs (bs : List (List UInt8)) (ws : List Wr) (ks : List Bool) : List (List UInt8) := if rightB bs ws = true then layL bs (keptL ws ks) else []
/-- What a block says: the text of the last one that waits for it. -/
def saysL (bs : List (List UInt8)) (ws : List Wr) (i : Int) : List UInt8 := (layL bs ws).getD i.toNat []
def readE (bs : List (List UInt8)) (ws : List Wr) (i : Int) : Int := if rightB bs ws = true then (if hasB bs.length i = true then 0 else 40) else 1
def readT (bs : List (List UInt8)) (ws : List Wr) (i : Int) : List UInt8 := if readE bs ws i = 0 then saysL bs ws i else []

theorem right_parts {bs : List (List UInt8)} {ws : List Wr} (h : rightB bs ws = true) : 1 ≤ bs.length ∧ bs.length ≤ 200 ∧ ws.length ≤ 100 ∧ (∀ s ∈ bs, s.length ≤ 256) ∧ ∀ x ∈ ws, hasB bs.length x.1 = true ∧ x.2.length ≤ 256 := by
  simp only [rightB, Bool.and_eq_true, decide_eq_true_eq, List.all_eq_true] at h
  obtain ⟨⟨⟨⟨h1, h2⟩, h3⟩, h4⟩, h5⟩ := h
  refine ⟨h1, h2, h3, fun s hs => by simpa [blockB] using h4 s hs, fun x hx => ?_⟩
  have := h5 x hx
  simpa [writeB, blockB] using this

theorem nil_own (w : World) (B : Nat) : OwnD w B (.slice none 0 0) [] (.slice none 0 0) [] := ⟨World.ownsRow_nil _ _ _ _, World.ownsRow_nil _ _ _ _⟩
/-- The two boxes at a call's beginning: the disk that came in, and the one that goes out. -/
theorem entry2 (w : World) (vb vw : Value) : Bx ((w.alloc (.cells #[vb, vw] 25)).alloc (.cells #[.slice none 0 0, .slice none 0 0] 25)) w.heap.size vb vw ∧
    Bx ((w.alloc (.cells #[vb, vw] 25)).alloc (.cells #[.slice none 0 0, .slice none 0 0] 25)) (w.heap.size + 1) (.slice none 0 0) (.slice none 0 0) ∧
    Below w.heap.size w ((w.alloc (.cells #[vb, vw] 25)).alloc (.cells #[.slice none 0 0, .slice none 0 0] 25)) := by
  refine ⟨(Bx.new w vb vw).below (below_alloc _ _), ?_, below_alloc2 w _ _⟩
  have h := Bx.new (w.alloc (.cells #[vb, vw] 25)) (.slice none 0 0) (.slice none 0 0)
  rw [World.size_alloc] at h
  exact h
theorem ret_own {w w4 : World} {B : Nat} {vb vw x y : Value} {bs : List (List UInt8)} {ws : List Wr} (ho : OwnD w4 B vb bs vw ws) (hB : w.heap.size + 2 ≤ B) (hb : Below w.heap.size w w4) :
    OwnD ((w4.setCell ⟨w.heap.size + 1, 0, none⟩ x).setCell ⟨w.heap.size + 1, 1, none⟩ y) w.heap.size vb bs vw ws ∧ Below w.heap.size w ((w4.setCell ⟨w.heap.size + 1, 0, none⟩ x).setCell ⟨w.heap.size + 1, 1, none⟩ y) := by
  refine ⟨⟨own_weak (ownsRow_setCell_below (ownsRow_setCell_below ho.1 ?_ _) ?_ _) (by omega), own_weak (ownsRow_setCell_below (ownsRow_setCell_below ho.2 ?_ _) ?_ _) (by omega)⟩, (hb.setCell ?_ _).setCell ?_ _⟩
  all_goals simp
  all_goals omega
theorem OwnD.forms {w : World} {B : Nat} {vb vw : Value} {bs : List (List UInt8)} {ws : List Wr} (h : OwnD w B vb bs vw ws) : ∃ ab nb cb aw nw cw, vb = .slice ab nb cb ∧ vw = .slice aw nw cw ∧ nb = bs.length ∧ nw = ws.length := by
  obtain ⟨ab, cb, h1⟩ := h.texts.strs.form
  obtain ⟨aw, cw, h2⟩ := h.wrs.form
  exact ⟨ab, _, cb, aw, _, cw, h1, h2, rfl, rfl⟩
theorem txts_form' {w : World} {v : Value} {ls : List (List UInt8)} (h : Txts w v ls) : ∃ ao n cap, v = .slice ao n cap := by
  obtain ⟨ao, cap, rfl⟩ := h.strs.form
  exact ⟨ao, _, cap, rfl⟩

theorem OwnD.below {w w' : World} {base : Nat} {vb vw : Value} {bs : List (List UInt8)} {ws : List Wr} (h : OwnD w base vb bs vw ws) (hb : Below w.heap.size w w') : OwnD w' base vb bs vw ws := ⟨own_stays h.1 hb, own_stays h.2 hb⟩
theorem bx_set {w : World} {B : Nat} {v x : Value} (h : Bx w B v x) (v' x' : Value) : Bx ((w.setCell ⟨B, 0, none⟩ v').setCell ⟨B, 1, none⟩ x') B v' x' := by
  unfold Bx at h ⊢
  have h1 := heap_setCell_same w B 0 _ _ v' h
  have h2 := heap_setCell_same _ B 1 _ _ x' h1
  exact h2
theorem own_sets {w : World} {base B : Nat} {vb vw : Value} {bs : List (List UInt8)} {ws : List Wr} (h : OwnD w base vb bs vw ws) (hB : B < base) (v x : Value) : OwnD ((w.setCell ⟨B, 0, none⟩ v).setCell ⟨B, 1, none⟩ x) base vb bs vw ws :=
  ⟨ownsRow_setCell_below (ownsRow_setCell_below h.1 (by simpa using hB) _) (by simpa using hB) _, ownsRow_setCell_below (ownsRow_setCell_below h.2 (by simpa using hB) _) (by simpa using hB) _⟩
theorem bx_other {w : World} {B B' : Nat} {v x : Value} (h : Bx w B v x) (hne : B ≠ B') (v' x' : Value) : Bx ((w.setCell ⟨B', 0, none⟩ v').setCell ⟨B', 1, none⟩ x') B v x := by
  unfold Bx at h ⊢
  rw [heap_setCell_other _ ⟨B', 1, none⟩ B x' hne, heap_setCell_other _ ⟨B', 0, none⟩ B v' hne]
  exact h

/-- One write, in a slice of its own. -/
theorem Wrs.one (w : World) (a : Int) (s : List UInt8) (t : TypeId) : Wrs (w.alloc (.cells #[.int .i64 a, .string ⟨s.toArray⟩] t)) (.slice (some ⟨w.heap.size, 0, none⟩) 1 1) [(a, s)] := by
  refine ⟨rfl, _, 1, rfl, Nat.le_refl _, .inr ⟨w.heap.size, 0, rfl, fun j hj => ?_⟩⟩
  have h := cell_of_row _ _ j _ _ _ (heap_alloc_new w (.cells #[.int .i64 a, .string ⟨s.toArray⟩] t))
  rw [Nat.zero_add, h]
  match j, hj with
  | 0, _ => rfl
  | 1, _ => rfl

end Go.Proofs.Ytcikgmgkaenpmaa
