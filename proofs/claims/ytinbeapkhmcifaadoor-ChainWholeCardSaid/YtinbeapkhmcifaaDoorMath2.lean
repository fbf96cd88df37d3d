/-
  What is laid is read, whatever stands behind; what is read is laid as it was. No program is named here.
-/
import Derived.Test.YtinbeapkhmcifaaDoorMath
namespace Go.Proofs.YtinbeapkhmcifaaDoor

theorem digs_valB : ∀ (k : Nat) (d : List UInt8), d.length = k → digsTo (valB d) k = d
  | 0, d, h => by rw [List.eq_nil_of_length_eq_zero h]; rfl
  | k + 1, d, h => by
    have hne : d ≠ [] := by intro e; subst e; simp at h
    obtain ⟨d', b, rfl⟩ : ∃ d' b, d = d' ++ [b] := ⟨d.dropLast, d.getLast hne, (List.dropLast_concat_getLast hne).symm⟩
    have hb := b.toNat_lt
    rw [digsTo_snoc, valB_snoc]
    have e1 : (valB d' * 256 + b.toNat) / 256 = valB d' := by omega
    have e2 : UInt8.ofNat (valB d' * 256 + b.toNat) = b := by
      apply UInt8.toNat_inj.1
      simp
    rw [e1, e2, digs_valB k d' (by simpa using h)]

theorem getN_laid {s r : List UInt8} {n : Nat} (h : getN s = some (n, r)) : s = numB n ++ r ∧ n ≤ 4294967295 := by
  cases s with
  | nil => cases h
  | cons a t =>
    change (if 4 < a.toNat then none else if t.length < a.toNat then none else if wid (valB (t.take a.toNat)) = a.toNat then some (valB (t.take a.toNat), t.drop a.toNat) else none) = _ at h
    by_cases h1 : 4 < a.toNat
    · rw [if_pos h1] at h; cases h
    rw [if_neg h1] at h
    by_cases h2 : t.length < a.toNat
    · rw [if_pos h2] at h; cases h
    rw [if_neg h2] at h
    by_cases h3 : wid (valB (t.take a.toNat)) = a.toNat
    · rw [if_pos h3] at h
      simp only [Option.some.injEq, Prod.mk.injEq] at h
      obtain ⟨rfl, rfl⟩ := h
      refine ⟨?_, valB_small _ (by rw [List.length_take]; omega)⟩
      have hl : (t.take a.toNat).length = a.toNat := by rw [List.length_take]; omega
      rw [numB, digs, h3, digs_valB _ _ hl]
      simp
    · rw [if_neg h3] at h; cases h

theorem laid_getN (n : Nat) (hn : n ≤ 4294967295) (r : List UInt8) : getN (numB n ++ r) = some (n, r) := by
  have hw := wid_le n
  have ha : (UInt8.ofNat (wid n)).toNat = wid n := by simp; omega
  have hd := digs_length n
  have ht : (digs n ++ r).take (wid n) = digs n := by rw [← hd, List.take_left]
  have hr : (digs n ++ r).drop (wid n) = r := by rw [← hd, List.drop_left]
  have hv : valB (digs n) = n := valB_digs _ _ (wid_pow n hn)
  change (if 4 < (UInt8.ofNat (wid n)).toNat then none else if (digs n ++ r).length < (UInt8.ofNat (wid n)).toNat then none else if wid (valB ((digs n ++ r).take (UInt8.ofNat (wid n)).toNat)) = (UInt8.ofNat (wid n)).toNat then some (valB ((digs n ++ r).take (UInt8.ofNat (wid n)).toNat), (digs n ++ r).drop (UInt8.ofNat (wid n)).toNat) else none) = _
  rw [ha, if_neg (by omega), if_neg (by rw [List.length_append]; omega), ht, hr, hv, if_pos rfl]

theorem getT_laid {s t r : List UInt8} (h : getT s = some (t, r)) : s = txtB t ++ r ∧ t.length ≤ 4000 := by
  unfold getT at h
  cases hg : getN s with
  | none => rw [hg] at h; cases h
  | some p =>
    obtain ⟨n, q⟩ := p
    obtain ⟨rfl, hn⟩ := getN_laid hg
    rw [hg] at h
    change (if 4000 < n then none else if q.length < n then none else some (q.take n, q.drop n)) = _ at h
    by_cases h4 : 4000 < n
    · rw [if_pos h4] at h; cases h
    rw [if_neg h4] at h
    by_cases hl : q.length < n
    · rw [if_pos hl] at h; cases h
    rw [if_neg hl] at h
    simp only [Option.some.injEq, Prod.mk.injEq] at h
    obtain ⟨rfl, rfl⟩ := h
    have e : (q.take n).length = n := by rw [List.length_take]; omega
    exact ⟨by rw [txtB, e]; simp, by omega⟩

theorem laid_getT (t : List UInt8) (h : t.length ≤ 4000) (r : List UInt8) : getT (txtB t ++ r) = some (t, r) := by
  have e : getN (txtB t ++ r) = some (t.length, t ++ r) := by rw [txtB, List.append_assoc]; exact laid_getN t.length (by omega) (t ++ r)
  unfold getT
  rw [e]
  change (if 4000 < t.length then none else if (t ++ r).length < t.length then none else some ((t ++ r).take t.length, (t ++ r).drop t.length)) = _
  rw [if_neg (by omega), if_neg (by rw [List.length_append]; omega), List.take_left, List.drop_left]

theorem getTs_laid : ∀ (k : Nat) {s r : List UInt8} {ts : List (List UInt8)}, getTs k s = some (ts, r) → s = (ts.map txtB).flatten ++ r ∧ ts.length = k ∧ ∀ t ∈ ts, t.length ≤ 4000
  | 0, s, r, ts, h => by
    simp only [getTs, Option.some.injEq, Prod.mk.injEq] at h
    obtain ⟨rfl, rfl⟩ := h
    simp
  | k + 1, s, r, ts, h => by
    cases ht : getT s with
    | none => simp [getTs, ht] at h
    | some p =>
      obtain ⟨t, q⟩ := p
      cases hk : getTs k q with
      | none => simp [getTs, ht, hk] at h
      | some p2 =>
        obtain ⟨us, r'⟩ := p2
        simp only [getTs, ht, hk, Option.some.injEq, Prod.mk.injEq] at h
        obtain ⟨rfl, rfl⟩ := h
        obtain ⟨rfl, h4⟩ := getT_laid ht
        obtain ⟨rfl, hl, ha⟩ := getTs_laid k hk
        refine ⟨by simp, by simp [hl], fun u hu => ?_⟩
        rcases List.mem_cons.1 hu with rfl | hu
        · exact h4
        · exact ha u hu

theorem laid_getTs : ∀ (ts : List (List UInt8)) (r : List UInt8), (∀ t ∈ ts, t.length ≤ 4000) → getTs ts.length ((ts.map txtB).flatten ++ r) = some (ts, r)
  | [], r, _ => by simp [getTs]
  | t :: ts, r, h => by
    have h1 := laid_getT t (h t (by simp)) ((ts.map txtB).flatten ++ r)
    have h2 := laid_getTs ts r (fun u hu => h u (by simp [hu]))
    simp only [List.map_cons, List.flatten_cons, List.append_assoc, List.length_cons, getTs, h1, h2]

theorem getR_laid {s r : List UInt8} {ts : List (List UInt8)} (h : getR s = some (ts, r)) : s = rowB ts ++ r ∧ ts.length ≤ 1000 ∧ ∀ t ∈ ts, t.length ≤ 4000 := by
  unfold getR at h
  cases hg : getN s with
  | none => rw [hg] at h; cases h
  | some p =>
    obtain ⟨n, q⟩ := p
    obtain ⟨rfl, hn⟩ := getN_laid hg
    rw [hg] at h
    change (if 1000 < n then none else getTs n q) = _ at h
    by_cases h4 : 1000 < n
    · rw [if_pos h4] at h; cases h
    rw [if_neg h4] at h
    obtain ⟨rfl, rfl, ha⟩ := getTs_laid n h
    exact ⟨by simp [rowB], by omega, ha⟩

theorem laid_getR (ts : List (List UInt8)) (hl : ts.length ≤ 1000) (h : ∀ t ∈ ts, t.length ≤ 4000) (r : List UInt8) : getR (rowB ts ++ r) = some (ts, r) := by
  have e : getN (rowB ts ++ r) = some (ts.length, (ts.map txtB).flatten ++ r) := by rw [rowB, List.append_assoc]; exact laid_getN ts.length (by omega) _
  unfold getR
  rw [e]
  change (if 1000 < ts.length then none else getTs ts.length ((ts.map txtB).flatten ++ r)) = _
  rw [if_neg (by omega), laid_getTs ts r h]

theorem rowOut_fine {ts : List (List UInt8)} (hl : ts.length ≤ 1000) (h : ∀ t ∈ ts, t.length ≤ 4000) : rowOut ts = (rowB ts, 0) :=
  rowOut_ok hl (fun s hs => h s (by simpa using hs))

theorem rowOut_zero {ts : List (List UInt8)} (h : (rowOut ts).2 = 0) : ts.length ≤ 1000 ∧ (∀ t ∈ ts, t.length ≤ 4000) ∧ rowOut ts = (rowB ts, 0) := by
  by_cases ho : okRow ts = true
  · have hr : rowOut ts = (rowB ts, 0) := by simp [rowOut, ho]
    simp only [okRow, Bool.and_eq_true, decide_eq_true_eq, List.all_eq_true] at ho
    exact ⟨ho.1, ho.2, hr⟩
  · simp [rowOut, ho] at h

theorem byte_mod (m : Nat) : UInt8.ofNat (m % 256) = UInt8.ofNat m := by
  apply UInt8.toNat_inj.1
  simp
theorem four_eq (n : Nat) : [UInt8.ofNat (n / 16777216), UInt8.ofNat (n / 65536 % 256), UInt8.ofNat (n / 256 % 256), UInt8.ofNat (n % 256)] = digsTo n 4 := by
  simp only [digsTo, Nat.reducePow, Nat.div_one, byte_mod]

end Go.Proofs.YtinbeapkhmcifaaDoor
