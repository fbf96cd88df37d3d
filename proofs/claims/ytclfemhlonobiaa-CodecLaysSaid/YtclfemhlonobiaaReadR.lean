/-
  codec.readRow: the row that the text in the box begins with.
-/
import Derived.Test.YtclfemhlonobiaaReadT
namespace Go.Proofs.Ytclfemhlonobiaa
open Go.RowKit

/-- A text as a cell. -/
def SV (t : List UInt8) : Value := .string ⟨t.toArray⟩
/-- k texts, ts, are read; r is left. -/
def Left (n : Nat) (r0 : List UInt8) (k : Nat) (ts : List (List UInt8)) (r : List UInt8) : Prop := getTs n r0 = (getTs (n - k) r).map fun p => (ts ++ p.1, p.2)

theorem left_zero (n : Nat) (r0 : List UInt8) : Left n r0 0 [] r0 := by
  unfold Left; simp
theorem left_all {n : Nat} {r0 : List UInt8} {ts : List (List UInt8)} {r : List UInt8} (h : Left n r0 n ts r) : getTs n r0 = some (ts, r) := by
  unfold Left at h; simpa [getTs] using h
theorem left_none {n : Nat} {r0 : List UInt8} {k : Nat} {ts : List (List UInt8)} {r : List UInt8} (h : Left n r0 k ts r) (hk : k < n) (hg : getT r = none) : getTs n r0 = none := by
  unfold Left at h
  obtain ⟨m, hm⟩ : ∃ m, n - k = m + 1 := ⟨n - k - 1, by omega⟩
  rw [hm] at h
  simpa [getTs, hg] using h
theorem left_succ {n : Nat} {r0 : List UInt8} {k : Nat} {ts : List (List UInt8)} {r : List UInt8} (h : Left n r0 k ts r) (hk : k < n) {t r' : List UInt8} (hg : getT r = some (t, r')) : Left n r0 (k + 1) (ts ++ [t]) r' := by
  unfold Left at h ⊢
  obtain ⟨m, hm⟩ : ∃ m, n - k = m + 1 := ⟨n - k - 1, by omega⟩
  have hm' : n - (k + 1) = m := by omega
  rw [hm] at h
  have e : getTs (m + 1) r = (getTs m r').map fun p => (t :: p.1, p.2) := by
    rw [getTs, hg]
    cases h2 : getTs m r' with
    | none => simp [h2]
    | some p => simp [h2]
  rw [h, hm', e]
  cases getTs m r' with
  | none => rfl
  | some p => simp

theorem getT_bounds {s t r : List UInt8} (h : getT s = some (t, r)) : t.length ≤ 4000 ∧ r.length ≤ s.length := by
  unfold getT at h
  cases hg : getN s with
  | none => rw [hg] at h; cases h
  | some p =>
    obtain ⟨n, q⟩ := p
    have hb := getN_bounds hg
    rw [hg] at h
    change (if 4000 < n then none else if q.length < n then none else some (q.take n, q.drop n)) = _ at h
    by_cases h4 : 4000 < n
    · rw [if_pos h4] at h; cases h
    rw [if_neg h4] at h
    by_cases hl : q.length < n
    · rw [if_pos hl] at h; cases h
    rw [if_neg hl] at h
    simp only [Option.some.injEq, Prod.mk.injEq] at h
    obtain ⟨rfl, rfl⟩ := h
    exact ⟨by rw [List.length_take]; omega, by rw [List.length_drop]; omega⟩

theorem readText_none (Bs : Nat) (s : List UInt8) (hm : s.length ≤ 4611686018427387904) (h : getT s = none) (w : World) (hb : Boxed w Bs 9 (.string ⟨s.toArray⟩)) :
    Calls Try.prog 30 #[takeV Bs] w fun e w' => e = .returned (.tuple #[.string ⟨#[]⟩, .bool false]) ∧ w.grownBy w' (some Bs) :=
  (readText_calls Bs s hm w hb).mono fun e w' hp => by
    rw [h] at hp
    exact ⟨hp.2, hp.1⟩
theorem readText_some (Bs : Nat) (s : List UInt8) (hm : s.length ≤ 4611686018427387904) {t r : List UInt8} (h : getT s = some (t, r)) (w : World) (hb : Boxed w Bs 9 (.string ⟨s.toArray⟩)) :
    Calls Try.prog 30 #[takeV Bs] w fun e w' => e = .returned (.tuple #[.string ⟨t.toArray⟩, .bool true]) ∧ w.grownBy w' (some Bs) ∧ Boxed w' Bs 9 (.string ⟨r.toArray⟩) :=
  (readText_calls Bs s hm w hb).mono fun e w' hp => by
    rw [h] at hp
    exact ⟨hp.2.1, hp.1, hp.2.2⟩

theorem info9 : (Try.prog.info? 9).map (fun i => (i.zero, i.size, i.bytes)) = some (some (.string ⟨#[]⟩), 1, 16) := by kernel_rfl

/-- What readRow leaves. -/
def RPost (Bs : Nat) (w : World) (o : Option (List (List UInt8) × List UInt8)) (e : Ending) (w' : World) : Prop :=
  w.grownBy w' (some Bs) ∧ (match o with
      | none => e = .returned (.tuple #[.slice none 0 0, .bool false])
      | some (ts, r) => ∃ v, e = .returned (.tuple #[v, .bool true]) ∧ w'.ownsRow w.heap.size 9 1 v ts.length (ts.map SV) ∧ Boxed w' Bs 9 (.string ⟨r.toArray⟩))

theorem own_ne {w wr : World} {v : Value} {n : Nat} {xs : List Value} {Bs : Nat} (h : wr.ownsRow w.heap.size 9 1 v n xs) (hb : Bs < w.heap.size) : v.ownBlock = none ∨ v.ownBlock ≠ some Bs := by
  cases hv : v.ownBlock with
  | none => exact .inl rfl
  | some k =>
    right
    intro e
    have := (h.lt k hv).1
    cases e
    omega

theorem own_ne' {w wr : World} {v : Value} {n : Nat} {xs : List Value} {Bs : Nat} (h : wr.ownsRow w.heap.size 9 1 v n xs) (hb : Bs < w.heap.size) : some Bs ≠ v.ownBlock := by
  intro e
  have := (h.lt Bs e.symm).1
  omega
theorem grown_own {a b c : World} {row row' : Option Nat} (h : a.grownBy b row) (k : b.grownBy c row') (hr : ∀ j, row' = some j → a.heap.size ≤ j) : a.grownBy c row :=
  ⟨k.os.trans h.os, k.tape.trans h.tape, k.output.trans h.output, Nat.le_trans h.size k.size, fun i hi hne => (k.block i (Nat.lt_of_lt_of_le hi h.size) (fun e => by have := hr i e.symm; omega)).trans (h.block i hi hne)⟩

set_option maxHeartbeats 4000000 in
theorem readRow_calls (Bs : Nat) (s : List UInt8) (hm : s.length ≤ 4611686018427387904) (w : World) (hb : Boxed w Bs 9 (.string ⟨s.toArray⟩)) :
    Calls Try.prog 32 #[takeV Bs] w (RPost Bs w (getR s)) := by
  cases hgn : getN s with
  | none =>
    have hgt : getR s = none := by simp [getR, hgn]
    rw [hgt]
    have HG := Lib.hid hgn
    clear hgn hgt
    go_enter Try.func32, Try.ntmps32
    go_wp2_with (go_at_call 28; refine (readNumber_none Bs s hm HG.out _ hb).mono ?_; rintro e w1 ⟨rfl, hg1⟩)
    go_ret2
    exact ⟨hg1, rfl⟩
  | some nr =>
    obtain ⟨n, r0⟩ := nr
    have HG := Lib.hid hgn
    obtain ⟨hn, hr0⟩ := getN_bounds hgn
    by_cases h4 : 1000 < n
    · have hgt : getR s = none := by simp [getR, hgn, h4]
      rw [hgt]
      clear hgn hgt
      go_enter Try.func32, Try.ntmps32
      go_wp2_with (go_at_call 28; refine (readNumber_some Bs s hm HG.out _ hb).mono ?_; rintro e w1 ⟨rfl, hg1, hb1⟩)
      go_ret2
      exact ⟨hg1, rfl⟩
    · have hgt : getR s = getTs n r0 := by simp [getR, hgn, h4]
      rw [hgt]
      have h5 : n ≤ 1000 := by omega
      have hd5 : decide ((1000 : Int) < n) = false := by simp; omega
      clear hgn hgt h4
      have hBs := hb.lt
      obtain ⟨i0, hi, hz0, hz1, hz2⟩ := info_parts info9
      go_enter Try.func32, Try.ntmps32
      go_wp2_with (go_at_call 28; refine (readNumber_some Bs s hm HG.out _ hb).mono ?_; rintro e w1 ⟨rfl, hg1, hb1⟩)
      go_loopw [6, 21] (fun v i wr => ∃ (k : Nat) (ts : List (List UInt8)) (r : List UInt8), k ≤ n ∧ i = .int .i64 k ∧ ts.length = k ∧ r.length ≤ s.length ∧ Left n r0 k ts r ∧ Boxed wr Bs 9 (.string ⟨r.toArray⟩) ∧ wr.ownsRow w.heap.size 9 1 v ts.length (ts.map SV) ∧ w.grownBy wr (some Bs)) (fun _ i _ => n - (intOf i).toNat)
      case atStart => exact ⟨0, [], r0, Nat.zero_le _, rfl, rfl, hr0, left_zero n r0, hb1, World.ownsRow_nil _ _ _ _, hg1⟩
      case round =>
        obtain ⟨k, ts, r, hk, rfl, rfl, hr, hleft, hbr, hown, hg⟩ := hrel
        by_cases hlt : ts.length < n
        · cases hgt : getT r with
          | none =>
            have hz := left_none hleft hlt hgt
            have HT := Lib.hid hgt
            have HZ := Lib.hid hz
            clear hgt hz
            go_wp2_with (go_at_call 30; refine (readText_none Bs r (by omega) HT.out _ hbr).mono ?_; rintro e w2 ⟨rfl, hg2⟩)
            go_ret2
            exact ⟨grown_trans hg hg2, by rw [HZ.out]; rfl⟩
          | some tr =>
            obtain ⟨t, r'⟩ := tr
            have hsucc := left_succ hleft hlt hgt
            obtain ⟨ht4, hr4⟩ := getT_bounds hgt
            have HT := Lib.hid hgt
            clear hgt
            go_wp2_with (first | (go_at_call 30; refine (readText_some Bs r (by omega) HT.out _ hbr).mono ?_; rintro e w2 ⟨rfl, hg2, hb2⟩; have hown2 := hown.kept hg2 (own_ne hown hBs)) | (at_builtin; refine wpList_append_own _ rfl _ _ 22 rfl w.heap.size 9 i0 (.string ⟨#[]⟩) 1 16 Try.underlying22 hi hz0 hz1 hz2 rfl (by decide) _ _ _ rfl (hown2.alloc _) ⟨w2.heap.size, 0, none⟩ 1 1 [.string ⟨t.toArray⟩] rfl rfl (cell_one_new _ _ _) (by simp [Value.oneCell']) (by unfold maxLen; omega) (by omega) (by have := hg.size; have := hg2.size; simp; omega) ?_; intro v3 w3 hown3 hg3 _))
            go_roundw
            case rel => exact ⟨ts.length + 1, ts ++ [t], r', by omega, by go_num, by simp, by omega, hsucc, (hb2.alloc _).kept hg3 (own_ne' hown hBs), by simpa [SV] using hown3, grown_own (grown_own (grown_trans hg hg2) (World.grownBy_alloc w2 _ none) (by simp)) hg3 (fun j e => (hown.lt j e).1)⟩
            case measure => simp [intOf]; omega
        · obtain rfl : n = ts.length := by omega
          have HL := Lib.hid (left_all hleft)
          go_wp2_with fail
          go_ret2
          exact ⟨hg, by rw [HL.out]; exact ⟨_, rfl, hown, hbr⟩⟩

end Go.Proofs.Ytclfemhlonobiaa
