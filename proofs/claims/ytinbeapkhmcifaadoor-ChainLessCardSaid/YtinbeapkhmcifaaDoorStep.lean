/-
  The method step of crc's register: one byte's step of the number in the box.
-/
import Derived.Test.YtinbeapkhmcifaaDoorBase
import Derived.Test.YtinbeapkhmcifaaDoorCrcSpec
import Derived.RangeFuncBox
import Derived.Laws.BitsAllLaws
namespace Go.Proofs.YtinbeapkhmcifaaDoor
open Go.RowKit

/-- The package's table reads as it is laid. -/
def TabOk (w : World) : Prop := ∀ i, i < 16 → w.cell? ⟨0, i, none⟩ = some (.int .u32 (tabN.getD i 0 : Nat))

theorem TabOk.same {w w' : World} (h : TabOk w) (hk : w'.heap[0]? = w.heap[0]?) : TabOk w' := by
  intro i hi
  have h1 := h i hi
  simp only [World.cell?] at h1 ⊢
  rw [hk]
  exact h1
theorem TabOk.lt {w : World} (h : TabOk w) : 0 < w.heap.size := World.block_lt_of_cell? w _ (h 0 (by omega))
theorem TabOk.below {w w' : World} (h : TabOk w) (hb : Below w.heap.size w w') : TabOk w' := h.same (hb.block _ h.lt)
theorem TabOk.ne {w : World} (h : TabOk w) {B : Nat} {t : TypeId} {v : Value} (hb : Boxed w B t v) : 0 ≠ B := by
  intro e
  subst e
  have h1 := h 1 (by omega)
  simp [World.cell?, show w.heap[0]? = _ from hb] at h1
theorem TabOk.grown {w w' : World} (h : TabOk w) {B : Nat} {t : TypeId} {v : Value} (hb : Boxed w B t v) (hg : w.grownBy w' (some B)) : TabOk w' :=
  h.same (hg.block _ h.lt (fun e => h.ne hb (Option.some.inj e)))

theorem and_fifteen (c : Nat) : c &&& 15 = c % 16 := by
  have := Nat.and_two_pow_sub_one_eq_mod c 4
  simpa using this
theorem half_eqs (c : Nat) (hc : c < 4294967296) : bits .and .u32 (c : Int) 15 = ((c % 16 : Nat) : Int) ∧ bits .xor .u32 ((c : Int) / 16) ((tabN.getD (c % 16) 0 : Nat) : Int) = ((halfN c : Nat) : Int) := by
  refine ⟨?_, ?_⟩
  · have := u32_and_nat c 15 hc (by omega)
    rw [and_fifteen] at this
    exact this
  · have := u32_xor_nat (c / 16) (tabN.getD (c % 16) 0) (by omega) (tab_lt _)
    exact this

set_option maxHeartbeats 1000000 in
theorem step_calls (Bs c : Nat) (hc : c < 4294967296) (b : UInt8) (w : World) (hb : Boxed w Bs 56 (.int .u32 c)) (hT : TabOk w) :
    Calls Tryd.prog 34 #[.pointer (some ⟨Bs, 0, none⟩), .int .u8 b.toNat] w fun e w' => e = .returned (.tuple #[]) ∧ w' = w.setCell ⟨Bs, 0, none⟩ (.int .u32 (stepN c b : Nat)) := by
  have hcell := hb.cell
  have hfz := hb.frozen
  have hx0 : bits .xor .u32 (c : Int) ((b.toNat : Int) % 4294967296) = ((c ^^^ b.toNat : Nat) : Int) := by
    have hb := b.toNat_lt
    have e : ((b.toNat : Int) % 4294967296) = (b.toNat : Int) := by omega
    rw [e]
    exact u32_xor_nat c b.toNat hc (by omega)
  have hl0 := byte_xor_lt hc b
  unfold stepN
  generalize c ^^^ b.toNat = c0 at *
  obtain ⟨ha1, hx1⟩ := half_eqs c0 hl0
  have hl1 := half_lt hl0
  have hm0 : c0 % 16 < 16 := Nat.mod_lt _ (by omega)
  have ht0 := hT (c0 % 16) hm0
  generalize halfN c0 = c1 at *
  generalize tabN.getD (c0 % 16) 0 = t0 at *
  generalize c0 % 16 = m0 at *
  obtain ⟨ha2, hx2⟩ := half_eqs c1 hl1
  have hm1 : c1 % 16 < 16 := Nat.mod_lt _ (by omega)
  have ht1 := hT (c1 % 16) hm1
  generalize halfN c1 = c2 at *
  generalize tabN.getD (c1 % 16) 0 = t1 at *
  generalize c1 % 16 = m1 at *
  clear hT hb
  go_enter Tryd.func34, Tryd.ntmps34
  go_wp2
  go_end0
  exact ⟨rfl, rfl⟩

end Go.Proofs.YtinbeapkhmcifaaDoor
