/-
  Own: texts in memory of their own.
-/
import Derived.Test.YtinbeapkhmcifaaDoorGround
import Derived.Laws.AppendOwnNone
namespace Go.Proofs.YtinbeapkhmcifaaDoor
open Go.RowKit

set_option maxHeartbeats 1000000 in
theorem own_row (v : Value) (ls : List (List UInt8)) (w : World) (hs : Strs w v ls) (hl : ls.length ≤ 1100) :
    Calls Tryd.prog 9 #[v] w fun e w' => ∃ v', e = .returned v' ∧ w'.ownsRow w.heap.size 9 1 v' ls.length (ls.map SV) ∧ Below w.heap.size w w' := by
  obtain ⟨i0, hi, hz0, hz1, hz2⟩ := info_parts info9
  obtain ⟨ao, cap, rfl⟩ := hs.form
  cases ao with
  | none =>
    obtain rfl : ls = [] := by
      obtain ⟨ao, c, he, hc⟩ := hs
      cases he
      rcases hc with h0 | ⟨b, off, he, _⟩
      · exact h0
      · cases he
    clear hs
    go_enter Tryd.func9, Tryd.ntmps9
    go_wp2
    go_ret
    exact ⟨_, rfl, World.ownsRow_nil _ _ _ _, Below.refl _ _⟩
  | some a =>
    have hc := Lib.hid (strs_cells hs)
    clear hs
    go_enter Tryd.func9, Tryd.ntmps9
    go_wp2_with (at_builtin; refine wpList_append_own _ rfl _ _ 25 rfl w.heap.size 9 i0 (.string ⟨#[]⟩) 1 16 Tryd.underlying25 hi hz0 hz1 hz2 rfl (by decide) _ _ _ rfl (World.ownsRow_nil _ _ _ _) a ls.length cap (ls.map SV) rfl (by simp) hc.out (by intro u hu; obtain ⟨t, _, rfl⟩ := List.mem_map.1 hu; rfl) (by unfold maxLen; omega) (by omega) (Nat.le_refl _) ?_; intro v3 w3 hown3 hg3 _)
    go_ret
    exact ⟨v3, rfl, by simpa using hown3, (Below.refl _ w).grown hg3 (Nat.le_refl _) (fun j e => by cases e)⟩

theorem own_calls (v : Value) (ls : List (List UInt8)) (w : World) (hs : Strs w v ls) (hl : ls.length ≤ 1100) :
    Calls Tryd.prog 9 #[v] w fun e w' => ∃ v', e = .returned v' ∧ Strs w' v' ls ∧ Below w.heap.size w w' :=
  (own_row v ls w hs hl).mono fun _ _ ⟨v', h1, h2, h3⟩ => ⟨v', h1, strs_own h2, h3⟩

end Go.Proofs.YtinbeapkhmcifaaDoor
