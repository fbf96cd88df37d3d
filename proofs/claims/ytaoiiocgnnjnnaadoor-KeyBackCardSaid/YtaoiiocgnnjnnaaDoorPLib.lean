/-
  strings.Split at lists of bytes.
-/
import Derived.Test.YtaoiiocgnnjnnaaDoorBase
import Derived.Test.YtaoiiocgnnjnnaaDoorShelf
import Derived.Test.YtaoiiocgnnjnnaaDoorPSpec
namespace Go.Proofs.YtaoiiocgnnjnnaaDoor
open Go.RowKit

/-- The library's variable MaxLen holds a number. -/
def Ml (w : World) : Prop := ∃ m, w.cell? ⟨0, 0, none⟩ = some (.int .i64 m)
theorem Ml.below {w w' : World} (h : Ml w) (hb : Below w.heap.size w w') : Ml w' := by
  obtain ⟨m, hm⟩ := h
  exact ⟨m, (hb.cell (p := ⟨0, 0, none⟩) (World.block_lt_of_cell? w _ hm)).trans hm⟩

theorem data_map : ∀ ls : List (List UInt8), (ls.map fun l => ByteArray.mk l.toArray).map (fun x : ByteArray => x.data.toList) = ls
  | [] => rfl
  | l :: r => by rw [List.map_cons, List.map_cons, data_map r]

theorem split_list (s : List UInt8) : (Lib.splitB ⟨#[47]⟩ 0 (Lib.countB ⟨s.toArray⟩ ⟨#[47]⟩) ⟨s.toArray⟩).map Value.string = (cut s).map SV := by
  have h := Lib.splitB_data ⟨#[47]⟩ 0 (Lib.countB ⟨s.toArray⟩ ⟨#[47]⟩) ⟨s.toArray⟩
  have e : Lib.splitK (ByteArray.mk #[47]).data.toList 0 (Lib.countB ⟨s.toArray⟩ ⟨#[47]⟩) (ByteArray.mk s.toArray).data.toList = cut s := by
    rw [← split_cut s]
  rw [e] at h
  rw [← h, List.map_map]
  apply List.map_congr_left
  intro x _
  exact (SV_data x).symm
theorem split_len (s : List UInt8) : Lib.countB ⟨s.toArray⟩ ⟨#[47]⟩ + 1 = (cut s).length := by
  have h1 := Lib.splitB_all ⟨#[47]⟩ (by decide) 0 _ ⟨s.toArray⟩ rfl
  have h2 := congrArg List.length (split_list s)
  simp only [List.length_map] at h2
  omega

theorem split_calls (s : List UInt8) (hs : s.length ≤ 1000000) (w : World) (hm : Ml w) :
    Calls Tryd.prog 33 #[.string ⟨s.toArray⟩, .string ⟨#[47]⟩] w fun e w' => e = .returned (.slice (some ⟨w.heap.size, 0, none⟩) (cut s).length (cut s).length) ∧ w' = w.alloc (.cells ((cut s).map SV).toArray 9) := by
  obtain ⟨m, hm⟩ := hm
  refine (Tryd.strings_Split ⟨s.toArray⟩ ⟨#[47]⟩ m w (by rw [size_mk]; omega) hm (by decide)).mono ?_
  rintro e w' ⟨rfl, rfl⟩
  rw [split_list, split_len]
  exact ⟨rfl, rfl⟩

end Go.Proofs.YtaoiiocgnnjnnaaDoor
