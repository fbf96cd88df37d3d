/-
  codec.GetNumber, codec.GetText and codec.GetRow: what bytes begin with.
-/
import Derived.Test.YtclfemhlonobiaaReadR
namespace Go.Proofs.Ytclfemhlonobiaa
open Go.RowKit

theorem below_box {w w2 : World} {o : Obj} (h : (w.alloc o).grownBy w2 (some w.heap.size)) : Below w.heap.size w w2 :=
  ((Below.refl _ w).alloc (Nat.le_refl _) o).grown h (by simp) (fun k e => by cases e; exact Nat.le_refl _)

theorem readRow_none (Bs : Nat) (s : List UInt8) (hm : s.length ≤ 4611686018427387904) (h : getR s = none) (w : World) (hb : Boxed w Bs 9 (.string ⟨s.toArray⟩)) :
    Calls Try.prog 32 #[takeV Bs] w fun e w' => e = .returned (.tuple #[.slice none 0 0, .bool false]) ∧ w.grownBy w' (some Bs) :=
  (readRow_calls Bs s hm w hb).mono fun e w' hp => by
    rw [h] at hp
    exact ⟨hp.2, hp.1⟩
theorem readRow_some (Bs : Nat) (s : List UInt8) (hm : s.length ≤ 4611686018427387904) {ts : List (List UInt8)} {r : List UInt8} (h : getR s = some (ts, r)) (w : World) (hb : Boxed w Bs 9 (.string ⟨s.toArray⟩)) :
    Calls Try.prog 32 #[takeV Bs] w fun e w' => ∃ v, e = .returned (.tuple #[v, .bool true]) ∧ w.grownBy w' (some Bs) ∧ Boxed w' Bs 9 (.string ⟨r.toArray⟩) ∧ w'.ownsRow w.heap.size 9 1 v ts.length (ts.map SV) :=
  (readRow_calls Bs s hm w hb).mono fun e w' hp => by
    rw [h] at hp
    obtain ⟨hg, v, he, ho, hbx⟩ := hp
    exact ⟨v, he, hg, hbx, ho⟩

theorem own_less {w : World} {b b' : Nat} {v : Value} {n : Nat} {xs : List Value} (h : w.ownsRow b' 9 1 v n xs) (hb : b ≤ b') : w.ownsRow b 9 1 v n xs := by
  refine ⟨h.1, ?_⟩
  rcases h.2 with hn | ⟨g, cap, cur, rfl, hbg, rest⟩
  · exact .inl hn
  · exact .inr ⟨g, cap, cur, rfl, Nat.le_trans hb hbg, rest⟩

set_option maxHeartbeats 1000000 in
theorem getNumber_none (s : List UInt8) (hm : s.length ≤ 4611686018427387904) (h : getN s = none) (w : World) :
    Calls Try.prog 27 #[.string ⟨s.toArray⟩, .func (.func 28) #[] #[]] w fun e w' => e = .returned (.tuple #[.int .i64 0, .string ⟨#[]⟩, .bool false]) ∧ Below w.heap.size w w' := by
  have H := Lib.hid h
  clear h
  have hb := Boxed.new w 9 (.string ⟨s.toArray⟩)
  go_enter Try.func27, Try.ntmps27
  go_wp2_with (first | (go_at_call 35; refine (open_calls s _).mono ?_; rintro e w1 ⟨rfl, rfl⟩) | (go_at_call 28; refine (readNumber_none w.heap.size s hm H.out _ hb).mono ?_; rintro e w2 ⟨rfl, hg2⟩))
  go_ret3
  exact ⟨rfl, below_box hg2⟩

set_option maxHeartbeats 1000000 in
theorem GetNumber_none (s : List UInt8) (hm : s.length ≤ 4611686018427387904) (h : getN s = none) (w : World) :
    Calls Try.prog 18 #[.string ⟨s.toArray⟩] w fun e w' => e = .returned (.tuple #[.int .i64 0, .string ⟨#[]⟩, .bool false]) ∧ Below w.heap.size w w' := by
  have H := Lib.hid h
  clear h
  go_enter Try.func18, Try.ntmps18
  go_wp2_with (go_at_call 27; refine (getNumber_none s hm H.out _).mono ?_; rintro e w1 ⟨rfl, hB⟩)
  go_ret3
  exact ⟨rfl, hB⟩

set_option maxHeartbeats 1000000 in
theorem getNumber_some (s : List UInt8) (hm : s.length ≤ 4611686018427387904) {n : Nat} {r : List UInt8} (h : getN s = some (n, r)) (w : World) :
    Calls Try.prog 27 #[.string ⟨s.toArray⟩, .func (.func 28) #[] #[]] w fun e w' => e = .returned (.tuple #[.int .i64 n, .string ⟨r.toArray⟩, .bool true]) ∧ Below w.heap.size w w' := by
  have H := Lib.hid h
  clear h
  have hb := Boxed.new w 9 (.string ⟨s.toArray⟩)
  go_enter Try.func27, Try.ntmps27
  go_wp2_with (first | (go_at_call 35; refine (open_calls s _).mono ?_; rintro e w1 ⟨rfl, rfl⟩) | (go_at_call 28; refine (readNumber_some w.heap.size s hm H.out _ hb).mono ?_; rintro e w2 ⟨rfl, hg2, hb2⟩) | (go_at_call 39; refine (rest_calls w.heap.size r _ hb2).mono ?_; rintro e w3 ⟨rfl, rfl⟩))
  go_ret3
  exact ⟨rfl, below_box hg2⟩

set_option maxHeartbeats 1000000 in
theorem GetNumber_some (s : List UInt8) (hm : s.length ≤ 4611686018427387904) {n : Nat} {r : List UInt8} (h : getN s = some (n, r)) (w : World) :
    Calls Try.prog 18 #[.string ⟨s.toArray⟩] w fun e w' => e = .returned (.tuple #[.int .i64 n, .string ⟨r.toArray⟩, .bool true]) ∧ Below w.heap.size w w' := by
  have H := Lib.hid h
  clear h
  go_enter Try.func18, Try.ntmps18
  go_wp2_with (go_at_call 27; refine (getNumber_some s hm H.out _).mono ?_; rintro e w1 ⟨rfl, hB⟩)
  go_ret3
  exact ⟨rfl, hB⟩

set_option maxHeartbeats 1000000 in
theorem getText_none (s : List UInt8) (hm : s.length ≤ 4611686018427387904) (h : getT s = none) (w : World) :
    Calls Try.prog 29 #[.string ⟨s.toArray⟩, .func (.func 30) #[] #[]] w fun e w' => e = .returned (.tuple #[.string ⟨#[]⟩, .string ⟨#[]⟩, .bool false]) ∧ Below w.heap.size w w' := by
  have H := Lib.hid h
  clear h
  have hb := Boxed.new w 9 (.string ⟨s.toArray⟩)
  go_enter Try.func29, Try.ntmps29
  go_wp2_with (first | (go_at_call 35; refine (open_calls s _).mono ?_; rintro e w1 ⟨rfl, rfl⟩) | (go_at_call 30; refine (readText_none w.heap.size s hm H.out _ hb).mono ?_; rintro e w2 ⟨rfl, hg2⟩))
  go_ret3
  exact ⟨rfl, below_box hg2⟩

set_option maxHeartbeats 1000000 in
theorem GetText_none (s : List UInt8) (hm : s.length ≤ 4611686018427387904) (h : getT s = none) (w : World) :
    Calls Try.prog 20 #[.string ⟨s.toArray⟩] w fun e w' => e = .returned (.tuple #[.string ⟨#[]⟩, .string ⟨#[]⟩, .bool false]) ∧ Below w.heap.size w w' := by
  have H := Lib.hid h
  clear h
  go_enter Try.func20, Try.ntmps20
  go_wp2_with (go_at_call 29; refine (getText_none s hm H.out _).mono ?_; rintro e w1 ⟨rfl, hB⟩)
  go_ret3
  exact ⟨rfl, hB⟩

set_option maxHeartbeats 1000000 in
theorem getText_some (s : List UInt8) (hm : s.length ≤ 4611686018427387904) {t r : List UInt8} (h : getT s = some (t, r)) (w : World) :
    Calls Try.prog 29 #[.string ⟨s.toArray⟩, .func (.func 30) #[] #[]] w fun e w' => e = .returned (.tuple #[.string ⟨t.toArray⟩, .string ⟨r.toArray⟩, .bool true]) ∧ Below w.heap.size w w' := by
  have H := Lib.hid h
  clear h
  have hb := Boxed.new w 9 (.string ⟨s.toArray⟩)
  go_enter Try.func29, Try.ntmps29
  go_wp2_with (first | (go_at_call 35; refine (open_calls s _).mono ?_; rintro e w1 ⟨rfl, rfl⟩) | (go_at_call 30; refine (readText_some w.heap.size s hm H.out _ hb).mono ?_; rintro e w2 ⟨rfl, hg2, hb2⟩) | (go_at_call 39; refine (rest_calls w.heap.size r _ hb2).mono ?_; rintro e w3 ⟨rfl, rfl⟩))
  go_ret3
  exact ⟨rfl, below_box hg2⟩

set_option maxHeartbeats 1000000 in
theorem GetText_some (s : List UInt8) (hm : s.length ≤ 4611686018427387904) {t r : List UInt8} (h : getT s = some (t, r)) (w : World) :
    Calls Try.prog 20 #[.string ⟨s.toArray⟩] w fun e w' => e = .returned (.tuple #[.string ⟨t.toArray⟩, .string ⟨r.toArray⟩, .bool true]) ∧ Below w.heap.size w w' := by
  have H := Lib.hid h
  clear h
  go_enter Try.func20, Try.ntmps20
  go_wp2_with (go_at_call 29; refine (getText_some s hm H.out _).mono ?_; rintro e w1 ⟨rfl, hB⟩)
  go_ret3
  exact ⟨rfl, hB⟩

set_option maxHeartbeats 1000000 in
theorem getRow_none (s : List UInt8) (hm : s.length ≤ 4611686018427387904) (h : getR s = none) (w : World) :
    Calls Try.prog 31 #[.string ⟨s.toArray⟩, .func (.func 32) #[] #[]] w fun e w' => e = .returned (.tuple #[.slice none 0 0, .string ⟨#[]⟩, .bool false]) ∧ Below w.heap.size w w' := by
  have H := Lib.hid h
  clear h
  have hb := Boxed.new w 9 (.string ⟨s.toArray⟩)
  go_enter Try.func31, Try.ntmps31
  go_wp2_with (first | (go_at_call 35; refine (open_calls s _).mono ?_; rintro e w1 ⟨rfl, rfl⟩) | (go_at_call 32; refine (readRow_none w.heap.size s hm H.out _ hb).mono ?_; rintro e w2 ⟨rfl, hg2⟩))
  go_ret3
  exact ⟨rfl, below_box hg2⟩

set_option maxHeartbeats 1000000 in
theorem GetRow_none (s : List UInt8) (hm : s.length ≤ 4611686018427387904) (h : getR s = none) (w : World) :
    Calls Try.prog 22 #[.string ⟨s.toArray⟩] w fun e w' => e = .returned (.tuple #[.slice none 0 0, .string ⟨#[]⟩, .bool false]) ∧ Below w.heap.size w w' := by
  have H := Lib.hid h
  clear h
  go_enter Try.func22, Try.ntmps22
  go_wp2_with (go_at_call 31; refine (getRow_none s hm H.out _).mono ?_; rintro e w1 ⟨rfl, hB⟩)
  go_ret3
  exact ⟨rfl, hB⟩

set_option maxHeartbeats 1000000 in
theorem getRow_some (s : List UInt8) (hm : s.length ≤ 4611686018427387904) {ts : List (List UInt8)} {r : List UInt8} (h : getR s = some (ts, r)) (w : World) :
    Calls Try.prog 31 #[.string ⟨s.toArray⟩, .func (.func 32) #[] #[]] w fun e w' => ∃ v, e = .returned (.tuple #[v, .string ⟨r.toArray⟩, .bool true]) ∧ Below w.heap.size w w' ∧ w'.ownsRow w.heap.size 9 1 v ts.length (ts.map SV) := by
  have H := Lib.hid h
  clear h
  have hb := Boxed.new w 9 (.string ⟨s.toArray⟩)
  go_enter Try.func31, Try.ntmps31
  go_wp2_with (first | (go_at_call 35; refine (open_calls s _).mono ?_; rintro e w1 ⟨rfl, rfl⟩) | (go_at_call 32; refine (readRow_some w.heap.size s hm H.out _ hb).mono ?_; rintro e w2 ⟨v, rfl, hg2, hb2, hown2⟩) | (go_at_call 39; refine (rest_calls w.heap.size r _ hb2).mono ?_; rintro e w3 ⟨rfl, rfl⟩))
  go_ret3
  exact ⟨v, rfl, below_box hg2, own_less hown2 (by simp)⟩

set_option maxHeartbeats 1000000 in
theorem GetRow_some (s : List UInt8) (hm : s.length ≤ 4611686018427387904) {ts : List (List UInt8)} {r : List UInt8} (h : getR s = some (ts, r)) (w : World) :
    Calls Try.prog 22 #[.string ⟨s.toArray⟩] w fun e w' => ∃ v, e = .returned (.tuple #[v, .string ⟨r.toArray⟩, .bool true]) ∧ Below w.heap.size w w' ∧ w'.ownsRow w.heap.size 9 1 v ts.length (ts.map SV) := by
  have H := Lib.hid h
  clear h
  go_enter Try.func22, Try.ntmps22
  go_wp2_with (go_at_call 31; refine (getRow_some s hm H.out _).mono ?_; rintro e w1 ⟨v, rfl, hB, hown2⟩)
  go_ret3
  exact ⟨v, rfl, hB, hown2⟩

end Go.Proofs.Ytclfemhlonobiaa
