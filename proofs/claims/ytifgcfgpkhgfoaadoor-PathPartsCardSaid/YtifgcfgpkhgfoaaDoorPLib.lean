/-
  strings.Split, strings.Join and slices.Equal at lists of bytes.
-/
import Derived.Test.YtifgcfgpkhgfoaaDoorBase
import Derived.Test.YtifgcfgpkhgfoaaDoorShelf
import Derived.Test.YtifgcfgpkhgfoaaDoorPSpec
namespace Go.Proofs.YtifgcfgpkhgfoaaDoor
open Go.RowKit

/-- The library's variable MaxLen holds a number. -/
def Ml (w : World) : Prop := ∃ m, w.cell? ⟨0, 0, none⟩ = some (.int .i64 m)
theorem Ml.below {w w' : World} (h : Ml w) (hb : Below w.heap.size w w') : Ml w' := by
  obtain ⟨m, hm⟩ := h
  exact ⟨m, (hb.cell (p := ⟨0, 0, none⟩) (World.block_lt_of_cell? w _ hm)).trans hm⟩

/-- Texts in a slice, with room. -/
def Txts (w : World) (v : Value) (ls : List (List UInt8)) : Prop :=
  ∃ ao cap, v = .slice ao ls.length cap ∧ ls.length ≤ cap ∧ (ls = [] ∨ ∃ b off, ao = some ⟨b, off, none⟩ ∧ ∀ i (h : i < ls.length), w.cell? ⟨b, off + i, none⟩ = some (SV ls[i]))
theorem Txts.strs {w : World} {v : Value} {ls : List (List UInt8)} (h : Txts w v ls) : Strs w v ls := by
  obtain ⟨ao, cap, rfl, _, h⟩ := h
  exact ⟨ao, cap, rfl, h⟩
theorem Txts.below {w w' : World} {v : Value} {ls : List (List UInt8)} (h : Txts w v ls) (hb : Below w.heap.size w w') : Txts w' v ls := by
  obtain ⟨ao, cap, rfl, hc, h | ⟨b, off, rfl, hcs⟩⟩ := h
  · exact ⟨ao, cap, rfl, hc, .inl h⟩
  · refine ⟨_, cap, rfl, hc, .inr ⟨b, off, rfl, fun i hi => ?_⟩⟩
    have h1 := hcs i hi
    exact (hb.cell (p := ⟨b, off + i, none⟩) (World.block_lt_of_cell? w _ h1)).trans h1
theorem Txts.nil (w : World) : Txts w (.slice none 0 0) [] := ⟨none, 0, rfl, Nat.le_refl _, .inl rfl⟩
theorem Txts.take {w : World} {ao : Option Addr} {n cap : Nat} {ls : List (List UInt8)} (h : Txts w (.slice ao n cap) ls) (k : Nat) (hk : k ≤ ls.length) : Txts w (.slice ao k cap) (ls.take k) := by
  obtain ⟨ao', c, he, hc, h⟩ := h
  cases he
  have hl : (ls.take k).length = k := by simp; omega
  refine ⟨ao, cap, by rw [hl], by omega, ?_⟩
  rcases h with h0 | ⟨b', off', he, hcs⟩
  · subst h0; left; simp
  · exact .inr ⟨b', off', he, fun i hi => by rw [hcs i (by omega)]; simp⟩
theorem Txts.new (w : World) (ls : List (List UInt8)) (t : TypeId) : Txts (w.alloc (.cells (ls.map SV).toArray t)) (.slice (some ⟨w.heap.size, 0, none⟩) ls.length ls.length) ls := by
  refine ⟨_, _, rfl, Nat.le_refl _, .inr ⟨w.heap.size, 0, rfl, fun i hi => ?_⟩⟩
  rw [Nat.zero_add, World.cell?_alloc_new]
  simp [List.getElem?_eq_getElem hi]
theorem Txts.own {w : World} {base : Nat} {v : Value} {ts : List (List UInt8)} (h : w.ownsRow base 9 1 v ts.length (ts.map SV)) : Txts w v ts := by
  rcases h.2 with ⟨rfl, hn⟩ | ⟨g, cap, cur, rfl, _, _, hc, _⟩
  · have : ts = [] := List.eq_nil_of_length_eq_zero hn
    subst this
    exact Txts.nil w
  · refine ⟨_, cap, rfl, hc, .inr ⟨g, 0, rfl, fun i hi => ?_⟩⟩
    have h1 := h.cells (g := g) rfl i (SV ts[i]) (by simp [List.getElem?_eq_getElem hi])
    rw [Go.WideShapes.add_plain] at h1
    exact h1

theorem data_map : ∀ ls : List (List UInt8), (ls.map fun l => ByteArray.mk l.toArray).map (fun x : ByteArray => x.data.toList) = ls
  | [] => rfl
  | l :: r => by rw [List.map_cons, List.map_cons, data_map r]

theorem split_list (s : List UInt8) : (Lib.splitB ⟨#[47]⟩ 0 (Lib.countB ⟨s.toArray⟩ ⟨#[47]⟩) ⟨s.toArray⟩).map Value.string = (cut s).map SV := by
  have h := Lib.splitB_data ⟨#[47]⟩ 0 (Lib.countB ⟨s.toArray⟩ ⟨#[47]⟩) ⟨s.toArray⟩
  have e : Lib.splitK (ByteArray.mk #[47]).data.toList 0 (Lib.countB ⟨s.toArray⟩ ⟨#[47]⟩) (ByteArray.mk s.toArray).data.toList = cut s := by
    rw [← split_cut s]
  rw [e] at h
  rw [← h, List.map_map]
  apply List.map_congr_left
  intro x _
  exact (SV_data x).symm
theorem split_len (s : List UInt8) : Lib.countB ⟨s.toArray⟩ ⟨#[47]⟩ + 1 = (cut s).length := by
  have h1 := Lib.splitB_all ⟨#[47]⟩ (by decide) 0 _ ⟨s.toArray⟩ rfl
  have h2 := congrArg List.length (split_list s)
  simp only [List.length_map] at h2
  omega

theorem split_calls (s : List UInt8) (hs : s.length ≤ 1000000) (w : World) (hm : Ml w) :
    Calls Tryd.prog 37 #[.string ⟨s.toArray⟩, .string ⟨#[47]⟩] w fun e w' => e = .returned (.slice (some ⟨w.heap.size, 0, none⟩) (cut s).length (cut s).length) ∧ w' = w.alloc (.cells ((cut s).map SV).toArray 9) := by
  obtain ⟨m, hm⟩ := hm
  refine (Tryd.strings_Split ⟨s.toArray⟩ ⟨#[47]⟩ m w (by rw [size_mk]; omega) hm (by decide)).mono ?_
  rintro e w' ⟨rfl, rfl⟩
  rw [split_list, split_len]
  exact ⟨rfl, rfl⟩

theorem join_calls (v : Value) (ls : List (List UInt8)) (w : World) (h : Txts w v ls) (hn : ls.length ≤ 1000000) (hl : (gl ls).length ≤ 1000000) :
    Calls Tryd.prog 26 #[v, .string ⟨#[47]⟩] w fun e w' => e = .returned (.string ⟨(gl ls).toArray⟩) ∧ Below w.heap.size w w' := by
  obtain ⟨ao, cap, rfl, hc, h⟩ := h
  rcases h with h0 | ⟨b, off, rfl, hcs⟩
  · subst h0
    refine (Tryd.strings_Join_none ao cap ⟨#[47]⟩ w).mono ?_
    rintro e w' ⟨rfl, rfl⟩
    exact ⟨rfl, Below.refl _ _⟩
  · have e1 : (ls.map fun l => ByteArray.mk l.toArray).map (·.data.toList) = ls := data_map ls
    have e2 : (ls.map fun l => ByteArray.mk l.toArray).length = ls.length := by simp
    by_cases h0 : ls = []
    · subst h0
      refine (Tryd.strings_Join_none _ cap ⟨#[47]⟩ w).mono ?_
      rintro e w' ⟨rfl, rfl⟩
      exact ⟨rfl, Below.refl _ _⟩
    have hb : b < w.heap.size := World.block_lt_of_cell? w _ (hcs 0 (List.length_pos_iff.2 h0))
    have h1 := Tryd.strings_Join b off cap (ls.map fun l => ByteArray.mk l.toArray) ⟨#[47]⟩ w (by
      intro j x hx
      have hj : j < ls.length := by have := (List.getElem?_eq_some_iff.1 hx).1; simpa using this
      simp [List.getElem?_eq_getElem hj] at hx
      rw [hcs j hj, ← hx]; rfl) hb (by rw [e2]; omega) (by rw [e2]; exact hc) (by
      rw [e1]
      show (Lib.join ls [47]).length ≤ _
      rw [gl_join]; omega)
    rw [e1, e2] at h1
    refine h1.mono ?_
    rintro e w' ⟨rfl, hB⟩
    refine ⟨?_, hB⟩
    rw [← gl_join]

/-- Are two rows of texts the same? -/
theorem equal_calls (va vb : Value) (la lb : List (List UInt8)) (w : World) (ha : Txts w va la) (hb : Txts w vb lb) (h1 : la.length ≤ 1000000) (h2 : lb.length ≤ 1000000) :
    Calls Tryd.prog 33 #[va, vb] w fun e w' => e = .returned (.bool (decide (la = lb))) ∧ Below w.heap.size w w' := by
  obtain ⟨aa, ca, rfl, hca, ha⟩ := ha
  obtain ⟨ab, cb, rfl, hcb, hb⟩ := hb
  by_cases hl : la.length = lb.length
  · by_cases h0 : la = []
    · subst h0
      have : lb = [] := List.eq_nil_of_length_eq_zero (by simpa using hl.symm)
      subst this
      refine (Tryd.slices_Equal_string_empty aa ab ca 0 cb w (by decide)).mono ?_
      rintro e w' ⟨rfl, rfl⟩
      exact ⟨by simp, Below.refl _ _⟩
    · have h0' : lb ≠ [] := by
        intro e; subst e; simp at hl; exact h0 hl
      obtain ⟨b1, o1, rfl, hc1⟩ := ha.resolve_left h0
      obtain ⟨b2, o2, rfl, hc2⟩ := hb.resolve_left h0'
      refine (Tryd.slices_Equal_string b1 o1 la.length ca b2 o2 lb.length cb (la.map fun l => ByteArray.mk l.toArray) (lb.map fun l => ByteArray.mk l.toArray) w (by simp) (by simp) (by omega) (by omega) ?_ ?_).mono ?_
      · intro j hj
        have hj' : j < la.length := by simpa using hj
        rw [hc1 j hj']; simp [List.getD, List.getElem?_eq_getElem hj', SV]
      · intro j hj
        have hj' : j < lb.length := by simpa using hj
        rw [hc2 j hj']; simp [List.getD, List.getElem?_eq_getElem hj', SV]
      · rintro e w' ⟨rfl, q, rfl⟩
        refine ⟨?_, below_drewN w q⟩
        congr 2
        rw [List.take_of_length_le (by simp), List.take_of_length_le (by simp)]
        have hinj : ∀ a b : List (List UInt8), (a.map fun l => ByteArray.mk l.toArray) = (b.map fun l => ByteArray.mk l.toArray) ↔ a = b := by
          intro a b
          constructor
          · intro h
            have := congrArg (List.map fun x : ByteArray => x.data.toList) h
            rwa [data_map, data_map] at this
          · rintro rfl; rfl
        simp only [hinj]
  · refine (Tryd.slices_Equal_string_lens aa ab la.length ca lb.length cb w hl).mono ?_
    rintro e w' ⟨rfl, rfl⟩
    refine ⟨?_, Below.refl _ _⟩
    have : la ≠ lb := fun e => hl (by rw [e])
    simp [this]

end Go.Proofs.YtifgcfgpkhgfoaaDoor
