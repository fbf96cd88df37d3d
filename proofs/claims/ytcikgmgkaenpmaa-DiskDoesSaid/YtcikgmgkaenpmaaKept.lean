/-
  disk: kept: the writes that a crash leaves.
-/
import Derived.Test.YtcikgmgkaenpmaaWrs
namespace Go.Proofs.Ytcikgmgkaenpmaa
open Go.RowKit

/-- The slice v reads as these bools. -/
def Bools (w : World) (v : Value) (ks : List Bool) : Prop := Rw w 1 v ks.length (ks.map Value.bool)
theorem Bools.below {w w' : World} {v : Value} {ks : List Bool} (h : Bools w v ks) (hb : Below w.heap.size w w') : Bools w' v ks := Rw.below h hb
theorem Bools.form {w : World} {v : Value} {ks : List Bool} (h : Bools w v ks) : ∃ ao cap, v = .slice ao ks.length cap := Rw.form h
theorem Bools.nil (w : World) : Bools w (.slice none 0 0) [] := Rw.nil w 1
theorem Bools.at {w : World} {ao : Option Addr} {n cap : Nat} {ks : List Bool} (h : Bools w (.slice ao n cap) ks) {k : Nat} (hk : k < ks.length) : ∃ b off, ao = some ⟨b, off, none⟩ ∧ w.cell? ⟨b, off + k, none⟩ = some (.bool ks[k]) := by
  obtain ⟨hl, ao', cap', he, _, hc⟩ := h
  cases he
  rcases hc with h0 | ⟨b, off, rfl, hc⟩
  · omega
  · exact ⟨b, off, rfl, by rw [hc k (by simpa using hk)]; simp⟩

/-- The writes at whose place keep has true. -/
def keptL : List Wr → List Bool → List Wr
  | x :: r, b :: q => if b then x :: keptL r q else keptL r q
  | _, _ => []
/-- The writes among the first k that are kept. -/
def keptTo (ws : List Wr) (ks : List Bool) (k : Nat) : List Wr := keptL (ws.take k) ks
theorem keptL_nil (ws : List Wr) : keptL ws [] = [] := by cases ws <;> rfl
theorem keptL_le (ws : List Wr) (ks : List Bool) : (keptL ws ks).length ≤ ws.length := by
  induction ws generalizing ks with
  | nil => simp [keptL]
  | cons x r ih =>
    cases ks with
    | nil => simp [keptL]
    | cons b q =>
      have := ih q
      cases b <;> simp [keptL] <;> omega
theorem keptL_mem {x : Wr} {ws : List Wr} {ks : List Bool} (h : x ∈ keptL ws ks) : x ∈ ws := by
  induction ws generalizing ks with
  | nil => simp [keptL] at h
  | cons y r ih =>
    cases ks with
    | nil => simp [keptL] at h
    | cons b q =>
      cases b
      · exact List.mem_cons_of_mem _ (ih (ks := q) (by simpa [keptL] using h))
      · rcases List.mem_cons.1 (show x ∈ y :: keptL r q by simpa [keptL] using h) with rfl | h'
        · exact List.mem_cons_self
        · exact List.mem_cons_of_mem _ (ih h')
theorem keptTo_le (ws : List Wr) (ks : List Bool) (k : Nat) : (keptTo ws ks k).length ≤ k := by
  have h1 := keptL_le (ws.take k) ks
  have h2 := List.length_take_le k ws
  unfold keptTo
  omega
theorem keptTo_zero (ws : List Wr) (ks : List Bool) : keptTo ws ks 0 = [] := by cases ks <;> rfl
theorem keptTo_all (ws : List Wr) (ks : List Bool) : keptTo ws ks ws.length = keptL ws ks := by simp [keptTo]
/-- The one more write. -/
theorem keptTo_succ (ws : List Wr) (ks : List Bool) (k : Nat) (h : k < ws.length) : keptTo ws ks (k + 1) = keptTo ws ks k ++ (if ks[k]? = some true then [ws[k]] else []) := by
  unfold keptTo
  induction ws generalizing ks k with
  | nil => simp at h
  | cons x r ih =>
    cases k with
    | zero =>
      cases ks with
      | nil => simp [keptL]
      | cons b q => cases b <;> simp [keptL]
    | succ k =>
      cases ks with
      | nil => simp [keptL]
      | cons b q =>
        have h1 := ih q k (by simpa using h)
        cases b
        · simpa [keptL] using h1
        · simp [keptL]
          simpa using h1

theorem infoWr : (Try.prog.info? 40).map (fun i => (i.zero, i.size, i.bytes)) = some (some (.agg #[.int .i64 0, .string ⟨#[]⟩]), 2, 24) := by kernel_rfl

set_option maxRecDepth 100000 in
set_option maxHeartbeats 4000000 in
theorem kept_calls (vw vk : Value) (ws : List Wr) (ks : List Bool) (w : World) (hw : Wrs w vw ws) (hk : Bools w vk ks) (hwl : ws.length ≤ 1000) :
    Calls Try.prog 34 #[vw, vk] w fun e w' => ∃ v, e = .returned v ∧ w'.ownsRow w.heap.size 40 2 v (keptL ws ks).length (wcells (keptL ws ks)) ∧ Below w.heap.size w w' := by
  obtain ⟨i0, hi, hz0, hz1, hz2⟩ := info_parts infoWr
  obtain ⟨aw, cw, rfl⟩ := hw.form
  obtain ⟨ak, ck, rfl⟩ := hk.form
  have HW := Lib.hid hw
  have HK := Lib.hid hk
  clear hw hk
  go_enter Try.func34, Try.ntmps34
  go_wp2_with fail
  go_loopw [5, 10] (fun v i wr => ∃ k : Nat, k ≤ ws.length ∧ i = .int .i64 k ∧ wr.ownsRow w.heap.size 40 2 v (keptTo ws ks k).length (wcells (keptTo ws ks k)) ∧ Below w.heap.size w wr) (fun _ i _ => ws.length - (intOf i).toNat)
  case atStart => exact ⟨0, Nat.zero_le _, rfl, by rw [keptTo_zero]; exact World.ownsRow_nil _ _ _ _, Below.refl _ _⟩
  case round =>
    obtain ⟨k, hkl, rfl, hown, hB⟩ := hrel
    by_cases hlt : k < ws.length
    · obtain ⟨b, off, rfl, hc0, hc1⟩ := (HW.out.below hB).at hlt
      obtain ⟨⟨a, s⟩, hx⟩ : ∃ y, ws[k] = y := ⟨_, rfl⟩
      rw [hx] at hc0 hc1
      have hbl := World.block_lt_of_cell? wr _ hc0
      have hkt := keptTo_le ws ks k
      have HS := Lib.hid (keptTo_succ ws ks k hlt)
      have HX := Lib.hid hx
      have hBa := hB.alloc (by have := hB.size; omega) (.cells #[.int .i64 a, .string ⟨s.toArray⟩] 40)
      by_cases hq : ks[k]? = some true
      · have hkk : k < ks.length := by
          rcases Nat.lt_or_ge k ks.length with h | h
          · exact h
          · rw [List.getElem?_eq_none h] at hq; cases hq
        obtain ⟨bk, offk, rfl, hck⟩ := (HK.out.below hB).at hkk
        have hbk : ks[k] = true := by rw [List.getElem?_eq_getElem hkk] at hq; simpa using hq
        rw [hbk] at hck
        have hbkl := World.block_lt_of_cell? wr _ hck
        have e3 : keptTo ws ks (k + 1) = keptTo ws ks k ++ [(a, s)] := by rw [HS.out, if_pos hq, HX.out]
        have H3 := Lib.hid e3
        clear e3 hq hx hbk
        have HN := Lib.hid (news_row wr (.cells #[.int .i64 a, .string ⟨s.toArray⟩] 40) (.int .i64 a) (.string ⟨s.toArray⟩) 40)
        go_wp2_with (at_builtin; refine wpList_append_own _ rfl (.tmp 25) (.tmp 27) 23 rfl w.heap.size 40 i0 (.agg #[.int .i64 0, .string ⟨#[]⟩]) 2 24 Try.underlying23 hi hz0 hz1 hz2 rfl (by decide) _ _ _ rfl ((hown.alloc _).alloc _) ⟨wr.heap.size + 1, 0, none⟩ 1 1 [.int .i64 a, .string ⟨s.toArray⟩] rfl rfl HN.out (by simp [Value.oneCell']) (by unfold maxLen; omega) (by omega) (by have := hB.size; simp; omega) ?_; intro v3 w3 hown3 hg3 _)
        go_roundw
        case rel =>
          refine ⟨k + 1, by omega, by go_num, ?_, ((hBa.alloc (by have := hB.size; simp; omega) _).grown hg3 (by have := hB.size; simp; omega) (fun j e => (hown.lt j e).1))⟩
          rw [H3.out, wcells_append]
          simpa [wcells, wcell, SV] using hown3
        case measure => simp [intOf]; omega
      · have e3 : keptTo ws ks (k + 1) = keptTo ws ks k := by rw [HS.out, if_neg hq]; simp
        have H3 := Lib.hid e3
        have hown2 := Lib.hid (hown.alloc (.cells #[.int .i64 a, .string ⟨s.toArray⟩] 40))
        by_cases hkk : k < ks.length
        · obtain ⟨bk, offk, rfl, hck⟩ := (HK.out.below hB).at hkk
          have hbk : ks[k] = false := by rw [List.getElem?_eq_getElem hkk] at hq; simpa using hq
          rw [hbk] at hck
          have hbkl := World.block_lt_of_cell? wr _ hck
          clear e3 hq hx hbk hown
          go_wp2_with fail
          go_roundw
          case rel => exact ⟨k + 1, by omega, by go_num, by rw [H3.out]; exact hown2.out, hBa⟩
          case measure => simp [intOf]; omega
        · clear e3 hq hx hown
          go_wp2_with fail
          go_roundw
          case rel => exact ⟨k + 1, by omega, by go_num, by rw [H3.out]; exact hown2.out, hBa⟩
          case measure => simp [intOf]; omega
    · obtain rfl : k = ws.length := by omega
      rw [keptTo_all] at hown
      have HO := Lib.hid hown
      clear hown
      go_wp2_with fail
      go_ret
      exact ⟨_, rfl, HO.out, hB⟩

end Go.Proofs.Ytcikgmgkaenpmaa
