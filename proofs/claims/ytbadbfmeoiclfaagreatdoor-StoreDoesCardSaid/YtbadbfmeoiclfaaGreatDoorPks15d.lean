/-
  The texts of one folder in one: SoMade.
-/
import Derived.Test.YtbadbfmeoiclfaaGreatDoorPks15b
import Derived.Test.YtbadbfmeoiclfaaGreatDoorPks10

/-
  The law's made: a tree of some pairs.
-/
namespace Go.Proofs.YtbadbfmeoiclfaaGreatDoor
set_option maxRecDepth 100000
open Go.RowKit

/-- The pairs of the tree: each put, one behind the other. -/
def madeL (l : List Pr) : List Pr := l.foldl putL []
theorem made_snoc {l : List Pr} {k : Nat} (h : k < l.length) : madeL (l.take (k + 1)) = putL (madeL (l.take k)) l[k] := by
  unfold madeL
  rw [List.take_succ_eq_append_getElem h, List.foldl_append]
  rfl
theorem made_len : ∀ (l acc : List Pr), (l.foldl putL acc).length ≤ acc.length + l.length
  | [], acc => by simp
  | x :: r, acc => by
    have h := made_len r (putL acc x)
    have h2 : (putL acc x).length ≤ acc.length + 1 := by rw [putL_length]; split <;> omega
    rw [List.foldl_cons, List.length_cons]
    omega
theorem made_rises : ∀ (l : List Pr) {acc : List Pr}, Rises acc → Rises (l.foldl putL acc)
  | [], _, h => h
  | x :: r, _, h => made_rises r (put_rises h x)
theorem mem_made : ∀ (l : List Pr) {acc : List Pr}, Rises acc → ∀ x ∈ l.foldl putL acc, x ∈ acc ∨ x ∈ l
  | [], _, _, x, hx => .inl hx
  | y :: r, _, h, x, hx => by
    rcases mem_made r (put_rises h y) x hx with h1 | h1
    · rcases (mem_put h _ _).1 h1 with rfl | ⟨h2, _⟩
      · exact .inr (by simp)
      · exact .inl h2
    · exact .inr (List.mem_cons_of_mem _ h1)
theorem made_facts (l : List Pr) : Rises (madeL l) ∧ (madeL l).length ≤ l.length ∧ ∀ x ∈ madeL l, x ∈ l := by
  refine ⟨made_rises l List.Pairwise.nil, ?_, fun x hx => ?_⟩
  · have := made_len l []
    simpa [madeL] using this
  · rcases mem_made l List.Pairwise.nil x hx with h | h
    · cases h
    · exact h

set_option maxHeartbeats 4000000 in
theorem soMade_calls (v : Value) (l : List Pr) (w : World) (h : Prs w v l) (hn : l.length ≤ 1000) :
    Calls Tryz.prog 10 #[v] w fun e w' => ∃ u, e = .returned u ∧ TreeV w' u (madeL l) ∧ Below w.heap.size w w' := by
  obtain ⟨av, cv, rfl⟩ := h.form
  have HH := Lib.hid (And.intro h hn)
  clear h hn
  go_enter Tryz.func10, Tryz.ntmps10
  go_wp2_with fail
  refine (new_calls w).mono ?_
  rintro e w1 ⟨u, rfl, ht, hB⟩
  obtain ⟨tp, rfl⟩ := ht.val
  have HT := Lib.hid (And.intro ht hB)
  clear ht hB
  go_wp2_with fail
  go_loopw [3, 4] (fun t i wr => ∃ k : Nat, i = .int .i64 k ∧ k ≤ l.length ∧ l.length ≤ 1000 ∧ Hid (TreeV wr t (madeL (l.take k))) ∧ Hid (Below w.heap.size w wr)) (fun _ i _ => l.length - (intOf i).toNat)
  case atStart => exact ⟨0, rfl, Nat.zero_le _, HH.out.2, Lib.hid HT.out.1, Lib.hid HT.out.2⟩
  case round =>
    obtain ⟨k, rfl, hk, hn, ht, hB⟩ := hrel
    obtain ⟨tp, rfl⟩ := ht.out.val
    by_cases hlt : k < l.length
    · have hd : decide ((k : Int) < (l.length : Int)) = true := by rw [decide_eq_true_eq]; omega
      obtain ⟨b, off, rfl, c0, c1, c2⟩ := (HH.out.1.below hB.out).at hlt
      have hsn := Lib.hid (made_snoc hlt)
      have hle := (made_facts (l.take k)).2.1
      rw [List.length_take] at hle
      obtain ⟨⟨⟨q, m⟩, s⟩, hx⟩ : ∃ x, l[k] = x := ⟨_, rfl⟩
      rw [hx] at c0 c1 c2 hsn
      dsimp only at c0 c1 c2
      have KT := Lib.hid (tput_calls _ _ q m s wr ht.out (by omega))
      clear hle hx
      go_wp2_with fail
      refine KT.out.mono ?_
      rintro e w2 ⟨u, rfl, hu, hB2⟩
      obtain ⟨up, rfl⟩ := hu.val
      have HU := Lib.hid hu
      clear hu
      go_wp2_with fail
      go_roundw
      case rel => exact ⟨k + 1, by go_num, by omega, hn, Lib.hid (by rw [hsn.out]; exact HU.out), Lib.hid (below2 hB.out hB2)⟩
      case measure => simp [intOf]; omega
    · obtain rfl : k = l.length := by omega
      have hd : decide ((l.length : Int) < (l.length : Int)) = false := by simp
      have HT2 := Lib.hid (show TreeV wr (.pointer tp) (madeL l) by have h := ht.out; rw [List.take_length] at h; exact h)
      clear ht
      go_wp2_with fail
      go_ret
      exact ⟨_, rfl, HT2.out, hB.out⟩

end Go.Proofs.YtbadbfmeoiclfaaGreatDoor
