/-
  crc.All: the texts of the frames that bytes begin with.
-/
import Derived.Test.YtoaoinmmfpmgkaaDoorGetF
namespace Go.Proofs.YtoaoinmmfpmgkaaDoor
open Go.RowKit

def strSize (v : Value) : Nat := match v with | .string b => b.size | _ => 0

set_option maxHeartbeats 2000000 in
theorem all_calls (s : List UInt8) (hm : s.length ≤ 1000000000) (w : World) (hT : TabOk w) :
    Calls Tryd.prog 17 #[.string ⟨s.toArray⟩] w fun e w' => ∃ v, e = .returned (.tuple #[v, .int .i64 ((s.length : Int) - ((allF s).2.length : Int))]) ∧ Below w.heap.size w w' ∧ w'.ownsRow w.heap.size 9 1 v (allF s).1.length ((allF s).1.map SV) := by
  obtain ⟨i0, hi, hz0, hz1, hz2⟩ := info_parts info9
  go_enter Tryd.func17, Tryd.ntmps17
  go_wp2_with fail
  go_loopw [4, 5, 6, 7, 8] (fun v q _ _ _ wr => ∃ (ts : List (List UInt8)) (r : List UInt8), ts.length + r.length ≤ s.length ∧ q = .string ⟨r.toArray⟩ ∧ allF s = (ts ++ (allF r).1, (allF r).2) ∧ wr.ownsRow w.heap.size 9 1 v ts.length (ts.map SV) ∧ Below w.heap.size w wr) (fun _ q _ _ _ _ => strSize q)
  case atStart => exact ⟨[], s, by simp, rfl, by simp, World.ownsRow_nil _ _ _ _, Below.refl _ _⟩
  case round =>
    obtain ⟨ts, r, hle, rfl, hall, hown, hB⟩ := hrel
    have hTr := hT.below hB
    cases hgf : getF r with
    | none =>
      rw [allF_none hgf, List.append_nil] at hall
      have HA := Lib.hid hall
      have HG := Lib.hid hgf
      clear hall hgf
      go_wp2_with (go_at_call 15; refine (get_none r (by omega) HG.out _ hTr).mono ?_; rintro e w2 ⟨rfl, hB2⟩; have hown2 := own_below hown hB2)
      go_ret2
      exact ⟨_, by rw [HA.out]; rfl, below2 hB hB2, by rw [HA.out]; exact hown2⟩
    | some tr =>
      obtain ⟨t, r'⟩ := tr
      obtain ⟨ht4, hr4⟩ := getF_bounds hgf
      rw [allF_some hgf] at hall
      have HA := Lib.hid hall
      have HG := Lib.hid hgf
      clear hall hgf
      go_wp2_with (first | (go_at_call 15; refine (get_some r (by omega) HG.out _ hTr).mono ?_; rintro e w2 ⟨rfl, hB2⟩; have hown2 := own_below hown hB2) | (at_builtin; refine wpList_append_own _ rfl _ _ 32 rfl w.heap.size 9 i0 (.string ⟨#[]⟩) 1 16 Tryd.underlying32 hi hz0 hz1 hz2 rfl (by decide) _ _ _ rfl (hown2.alloc _) ⟨w2.heap.size, 0, none⟩ 1 1 [.string ⟨t.toArray⟩] rfl rfl (cell_one_new _ _ _) (by simp [Value.oneCell']) (by unfold maxLen; omega) (by omega) (by have := hB.size; have := hB2.size; simp; omega) ?_; intro v3 w3 hown3 hg3 _))
      go_roundw
      case rel => exact ⟨ts ++ [t], r', by simp; omega, rfl, by rw [HA.out]; simp, by simpa [SV] using hown3, ((hB.trans (hB2.mono hB.size)).alloc (Nat.le_trans hB.size hB2.size) _).grown hg3 (by have := hB.size; have := hB2.size; simp; omega) (fun j e => (hown.lt j e).1)⟩
      case measure => simp [strSize, ByteArray.size]; omega

end Go.Proofs.YtoaoinmmfpmgkaaDoor
