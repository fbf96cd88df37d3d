/-
  Own: texts in memory of their own.
-/
import Derived.Test.YtclfemhlonobiaaRefO
import Derived.Laws.AppendOwnNone
namespace Go.Proofs.Ytclfemhlonobiaa
open Go.RowKit

theorem strs_cells {w : World} {a : Addr} {n cap : Nat} {ls : List (List UInt8)} (h : Strs w (.slice (some a) n cap) ls) : ∀ j u, (ls.map SV)[j]? = some u → w.cell? (a.add j) = some u := by
  intro j u hu
  obtain ⟨ao, c, he, hc⟩ := h
  cases he
  rcases hc with h0 | ⟨b, off, he, hc⟩
  · subst h0; simp at hu
  · cases he
    have hj : j < ls.length := by
      have := (List.getElem?_eq_some_iff.1 hu).1
      simpa using this
    rw [Go.WideShapes.add_plain, hc j hj]
    simp [List.getElem?_eq_getElem hj, SV] at hu
    rw [← hu]

set_option maxHeartbeats 1000000 in
theorem own_calls (v : Value) (ls : List (List UInt8)) (w : World) (hs : Strs w v ls) (hl : ls.length ≤ 1100) :
    Calls Try.prog 9 #[v] w fun e w' => ∃ v', e = .returned v' ∧ Strs w' v' ls ∧ Below w.heap.size w w' := by
  obtain ⟨i0, hi, hz0, hz1, hz2⟩ := info_parts info9
  obtain ⟨ao, cap, rfl⟩ := hs.form
  cases ao with
  | none =>
    obtain rfl : ls = [] := by
      obtain ⟨ao, c, he, hc⟩ := hs
      cases he
      rcases hc with h0 | ⟨b, off, he, _⟩
      · exact h0
      · cases he
    clear hs
    go_enter Try.func9, Try.ntmps9
    go_wp2
    go_ret
    exact ⟨_, rfl, ⟨none, 0, rfl, .inl rfl⟩, Below.refl _ _⟩
  | some a =>
    have hc := Lib.hid (strs_cells hs)
    clear hs
    go_enter Try.func9, Try.ntmps9
    go_wp2_with (at_builtin; refine wpList_append_own _ rfl _ _ 22 rfl w.heap.size 9 i0 (.string ⟨#[]⟩) 1 16 Try.underlying22 hi hz0 hz1 hz2 rfl (by decide) _ _ _ rfl (World.ownsRow_nil _ _ _ _) a ls.length cap (ls.map SV) rfl (by simp) hc.out (by intro u hu; obtain ⟨t, _, rfl⟩ := List.mem_map.1 hu; rfl) (by unfold maxLen; omega) (by omega) (Nat.le_refl _) ?_; intro v3 w3 hown3 hg3 _)
    go_ret
    exact ⟨v3, rfl, strs_own (base := w.heap.size) (by simpa using hown3), (Below.refl _ w).grown hg3 (Nat.le_refl _) (fun j e => by cases e)⟩

end Go.Proofs.Ytclfemhlonobiaa
