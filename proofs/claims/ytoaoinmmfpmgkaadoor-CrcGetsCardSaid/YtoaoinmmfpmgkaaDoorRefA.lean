/-
  The document's own Get and All.
-/
import Derived.Test.YtoaoinmmfpmgkaaDoorRefC
namespace Go.Proofs.YtoaoinmmfpmgkaaDoor
open Go.RowKit

theorem refGet_none (s : List UInt8) (hm : s.length ≤ 4611686018427387904) (h : getF s = none) (w : World) :
    Calls Tryd.prog 16 #[.string ⟨s.toArray⟩] w fun e w' => e = .returned (.tuple #[.string ⟨#[]⟩, .string ⟨#[]⟩, .int .i64 30]) ∧ Below w.heap.size w w' := by
  by_cases h4 : s.length < 4
  · exact (refGetF_few s h4 w).mono fun e w' ⟨he, hw⟩ => ⟨he, hw ▸ Below.refl _ _⟩
  · cases hg : getT (s.drop 4) with
    | none => exact refGetF_noText s (by omega) hm hg w
    | some x =>
      obtain ⟨t, r⟩ := x
      refine refGetF_other s t r (by omega) hm hg (fun he => ?_) w
      rw [getF_ok h4 hg he] at h
      cases h
theorem refGet_some (s : List UInt8) (hm : s.length ≤ 4611686018427387904) {t r : List UInt8} (h : getF s = some (t, r)) (w : World) :
    Calls Tryd.prog 16 #[.string ⟨s.toArray⟩] w fun e w' => e = .returned (.tuple #[.string ⟨t.toArray⟩, .string ⟨r.toArray⟩, .int .i64 0]) ∧ Below w.heap.size w w' := by
  by_cases h4 : s.length < 4
  · rw [getF_short h4] at h; cases h
  · cases hg : getT (s.drop 4) with
    | none => rw [getF_no h4 hg] at h; cases h
    | some x =>
      obtain ⟨t', r'⟩ := x
      by_cases he : s.take 4 = digsTo (sumN t') 4
      · rw [getF_ok h4 hg he] at h
        simp only [Option.some.injEq, Prod.mk.injEq] at h
        obtain ⟨rfl, rfl⟩ := h
        exact refGetF_ok s _ _ (by omega) hm hg he w
      · rw [getF_other h4 hg he] at h; cases h

def strSizeR (v : Value) : Nat := match v with | .string b => b.size | _ => 0

set_option maxHeartbeats 2000000 in
theorem refAll_calls (s : List UInt8) (hm : s.length ≤ 1000000000) (w : World) :
    Calls Tryd.prog 18 #[.string ⟨s.toArray⟩] w fun e w' => ∃ v, e = .returned (.tuple #[v, .int .i64 ((s.length : Int) - ((allF s).2.length : Int))]) ∧ Below w.heap.size w w' ∧ w'.ownsRow w.heap.size 9 1 v (allF s).1.length ((allF s).1.map SV) := by
  obtain ⟨i0, hi, hz0, hz1, hz2⟩ := info_parts info9
  go_enter Tryd.func18, Tryd.ntmps18
  go_wp2_with fail
  go_loopw [4, 5, 6, 7, 8] (fun v q _ _ _ wr => ∃ (ts : List (List UInt8)) (r : List UInt8), ts.length + r.length ≤ s.length ∧ q = .string ⟨r.toArray⟩ ∧ allF s = (ts ++ (allF r).1, (allF r).2) ∧ wr.ownsRow w.heap.size 9 1 v ts.length (ts.map SV) ∧ Below w.heap.size w wr) (fun _ q _ _ _ _ => strSizeR q)
  case atStart => exact ⟨[], s, by simp, rfl, by simp, World.ownsRow_nil _ _ _ _, Below.refl _ _⟩
  case round =>
    obtain ⟨ts, r, hle, rfl, hall, hown, hB⟩ := hrel
    cases hgf : getF r with
    | none =>
      rw [allF_none hgf, List.append_nil] at hall
      have HA := Lib.hid hall
      have HG := Lib.hid hgf
      clear hall hgf
      go_wp2_with (go_at_call 16; refine (refGet_none r (by omega) HG.out _).mono ?_; rintro e w2 ⟨rfl, hB2⟩; have hown2 := own_below hown hB2)
      go_ret2
      exact ⟨_, by rw [HA.out]; rfl, below2 hB hB2, by rw [HA.out]; exact hown2⟩
    | some tr =>
      obtain ⟨t, r'⟩ := tr
      obtain ⟨ht4, hr4⟩ := getF_bounds hgf
      rw [allF_some hgf] at hall
      have HA := Lib.hid hall
      have HG := Lib.hid hgf
      clear hall hgf
      go_wp2_with (first | (go_at_call 16; refine (refGet_some r (by omega) HG.out _).mono ?_; rintro e w2 ⟨rfl, hB2⟩; have hown2 := own_below hown hB2) | (at_builtin; refine wpList_append_own _ rfl _ _ 32 rfl w.heap.size 9 i0 (.string ⟨#[]⟩) 1 16 Tryd.underlying32 hi hz0 hz1 hz2 rfl (by decide) _ _ _ rfl (hown2.alloc _) ⟨w2.heap.size, 0, none⟩ 1 1 [.string ⟨t.toArray⟩] rfl rfl (cell_one_new _ _ _) (by simp [Value.oneCell']) (by unfold maxLen; omega) (by omega) (by have := hB.size; have := hB2.size; simp; omega) ?_; intro v3 w3 hown3 hg3 _))
      go_roundw
      case rel => exact ⟨ts ++ [t], r', by simp; omega, rfl, by rw [HA.out]; simp, by simpa [SV] using hown3, ((hB.trans (hB2.mono hB.size)).alloc (Nat.le_trans hB.size hB2.size) _).grown hg3 (by have := hB.size; have := hB2.size; simp; omega) (fun j e => (hown.lt j e).1)⟩
      case measure => simp [strSizeR, ByteArray.size]; omega

end Go.Proofs.YtoaoinmmfpmgkaaDoor
