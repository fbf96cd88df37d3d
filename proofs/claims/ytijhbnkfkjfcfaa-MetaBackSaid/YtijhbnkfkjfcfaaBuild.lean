/-
  strings.Builder's WriteString, at a builder of the call's own.
-/
import Derived.Test.YtijhbnkfkjfcfaaCell
import Derived.Test.YtijhbnkfkjfcfaaShelf
import Derived.Lib.Builder
import Derived.Lib.AppendStr
import Derived.Lib.UnsafeStr
namespace Go.Proofs.Ytijhbnkfkjfcfaa
set_option maxRecDepth 100000
open Go.RowKit

abbrev BT : TypeId := 57
theorem builder_info : ∃ j, Try.prog.info? 57 = some j ∧ j.size = 2 := by
  obtain ⟨j, hj, hs⟩ := Option.map_eq_some_iff.1 (show (Try.prog.info? 57).map (·.size) = some 2 by kernel_rfl)
  exact ⟨j, hj, hs⟩
theorem builder_lies : liesAt Try.prog Try.prog.depth 57 (2 / Try.prog.cellsOf 57) 0 57 1 = true := by kernel_rfl
theorem byte_info : (Try.prog.info? 5).map (fun i => (i.zero, i.size, i.bytes)) = some (some (.int .u8 0), 1, 1) := by kernel_rfl

/-- A builder stays what it is where only blocks above are made. -/
theorem builderAt_below {B b : Nat} {p : Value} {bs : List Value} {w w' : World} (h : Lib.BuilderAt BT 5 B b p bs w) (hb : Below w.heap.size w w') : Lib.BuilderAt BT 5 B b p bs w' := by
  have hlt := h.lt
  obtain ⟨hB, v, hk, ho, hn⟩ := h
  exact ⟨hB, v, (hb.block b hlt).trans hk, own_stays ho hb, hn⟩
theorem isBuilder_below {B b : Nat} {bs : List Value} {w w' : World} (h : Lib.IsBuilder BT 5 B b bs w) (hb : Below w.heap.size w w') : Lib.IsBuilder BT 5 B b bs w' :=
  h.imp (fun h => builderAt_below h hb) (fun h => builderAt_below h hb)
theorem isBuilder_new (w : World) : Lib.IsBuilder BT 5 w.heap.size w.heap.size [] (w.alloc (.cells #[.pointer none, .slice none 0 0] BT)) :=
  .inl ⟨Nat.le_refl _, _, heap_alloc_new w _, World.ownsRow_nil _ _ _ _, by simp [Value.ownBlock]⟩

set_option maxHeartbeats 1000000 in
/-- The check at a builder that was never written: it keeps its own address. -/
theorem bdCheck_new (b : Nat) (w : World) (h0 : w.cell? ⟨b, 0, none⟩ = some (.pointer none)) (hs : w.shape? b = some (BT, 2)) (hf : w.frozen? ⟨b, 0, none⟩ = false) :
    Calls Try.prog 38 #[.pointer (some ⟨b, 0, none⟩)] w fun e w' => e = .returned (.tuple #[]) ∧ w' = w.setCell ⟨b, 0, none⟩ (.pointer (some ⟨b, 0, none⟩)) := by
  obtain ⟨j, hj, hjs⟩ := builder_info
  have k1 := Lib.run_to_unsafe (P := Try.prog) w (src := 54) (dst := 73) ⟨b, 0, none⟩ Try.underlying54 Try.underlying73 hj (by rw [hjs]; decide) hs (Nat.zero_lt_succ 1)
  have k2 := Lib.run_from_unsafe (P := Try.prog) w (src := 73) (dst := 54) ⟨b, 0, none⟩ Try.underlying73 Try.underlying54 hj hs builder_lies
  have k3 := run_callFunc_extern (P := Try.prog) Try.func44 (by kernel_rfl) (by kernel_rfl) (by kernel_rfl) (e := Extern.AbiNoEscape.same) (by kernel_rfl) (args := #[.pointer (some ⟨b, 0, none⟩)]) (w := w)
  go_enter Try.func38, Try.ntmps38
  go_wp2_with fail
  rw [Lib.run_noEscape]
  simp only [Result.andThen]
  rw [Oper.upon_value]
  go_wp2_with fail
  go_end0
  exact ⟨rfl, rfl⟩

set_option maxHeartbeats 1000000 in
/-- The check at a builder that was written. -/
theorem bdCheck_old (b : Nat) (w : World) (h0 : w.cell? ⟨b, 0, none⟩ = some (.pointer (some ⟨b, 0, none⟩))) :
    Calls Try.prog 38 #[.pointer (some ⟨b, 0, none⟩)] w fun e w' => e = .returned (.tuple #[]) ∧ w' = w := by
  obtain ⟨j, hj, _⟩ := builder_info
  have k := Lib.run_neq_ptr_same (P := Try.prog) w (tp := 54) ⟨b, 0, none⟩ Try.underlying54 hj
  go_enter Try.func38, Try.ntmps38
  go_wp2_with fail
  go_end0
  exact ⟨rfl, rfl⟩

theorem bdCheck_calls (B b : Nat) (bs : List Value) (w : World) (h : Lib.IsBuilder BT 5 B b bs w) :
    Calls Try.prog 38 #[.pointer (some ⟨b, 0, none⟩)] w fun e w' => e = .returned (.tuple #[]) ∧ Lib.BuilderAt BT 5 B b (.pointer (some ⟨b, 0, none⟩)) bs w' ∧ Below B w w' := by
  rcases h with h | h
  · refine (bdCheck_new b w h.cell0 h.shape h.frozen0).mono ?_
    rintro e w' ⟨rfl, rfl⟩
    exact ⟨rfl, h.used _, (Below.refl B w).setCell (p := ⟨b, 0, none⟩) h.1 _⟩
  · refine (bdCheck_old b w h.cell0).mono ?_
    rintro e w' ⟨rfl, rfl⟩
    exact ⟨rfl, h, Below.refl B _⟩

set_option maxHeartbeats 2000000 in
/-- A text is written behind what a builder holds. -/
theorem writeString_calls (B b : Nat) (pre s : List UInt8) (w : World) (h : Lib.IsBuilder BT 5 B b (Lib.byteCells pre) w) (hl : pre.length + s.length ≤ 140737488355328) (hw : B ≤ w.heap.size) :
    Calls Try.prog 32 #[.pointer (some ⟨b, 0, none⟩), .string ⟨s.toArray⟩] w fun e w' => e = .returned (.tuple #[.int .i64 s.length, .nilIface]) ∧ Lib.IsBuilder BT 5 B b (Lib.byteCells (pre ++ s)) w' ∧ Below B w w' := by
  obtain ⟨i0, hi, hz0, hz1, hz2⟩ := info_parts byte_info
  go_enter Try.func32, Try.ntmps32
  go_wp2_with fail
  refine (bdCheck_calls B b _ _ h).mono ?_
  rintro e w1 ⟨rfl, h1, hb1⟩
  have hlt := h1.lt
  obtain ⟨hB, v, hk, ho, hn⟩ := h1
  have c1 : w1.cell? ⟨b, 1, none⟩ = some v := by rw [cell_of_row w1 b 1 _ _ _ hk]; rfl
  have hlen : (Lib.byteCells pre).length = pre.length := Lib.byteCells_length pre
  have hsz : (ByteArray.mk s.toArray).size = s.length := size_mk s
  have HL := Lib.hid (And.intro hlen hsz)
  have hb1z := hb1.size
  go_wp2_with (at_builtin; (refine Lib.wpList_append_own_string _ rfl _ _ 55 9 rfl B 5 i0 Try.underlying55 Try.underlying9 hi hz0 hz1 hz2 _ _ _ rfl ho ⟨s.toArray⟩ rfl (by rw [HL.out.1, HL.out.2]; unfold maxLen; omega) (by rw [HL.out.1, HL.out.2]; exact hl) (by omega) ?_))
  intro v2 w2 ho2 hg _
  have hk2 : w2.heap[b]? = some (.cells #[.pointer (some ⟨b, 0, none⟩), v] BT (0, 0)) := by
    rw [hg.block b hlt (fun e => hn e.symm)]
    exact hk
  have hf : w2.frozen? ⟨b, 1, none⟩ = false := by simp [World.frozen?, hk2]
  have c2 : w2.cell? ⟨b, 1, none⟩ = some v := by rw [cell_of_row w2 b 1 _ _ _ hk2]; rfl
  obtain ⟨ao, n2, cap, rfl⟩ : ∃ ao n2 cap, v2 = .slice ao n2 cap := by
    rcases ho2.2 with ⟨hv, _⟩ | ⟨g, cap, cur, hv, _⟩
    · exact ⟨_, _, _, hv⟩
    · exact ⟨_, _, _, hv⟩
  go_wp2_with fail
  go_ret2
  refine ⟨rfl, .inr ?_, (hb1.grown hg (by omega) (fun k hk => (ho.lt k hk).1)).setCell (p := ⟨b, 1, none⟩) hB _⟩
  rw [Lib.byteCells_append]
  refine Lib.BuilderAt.put (T := BT) (e := 5) hB hk2 (bs' := Lib.byteCells pre ++ Lib.byteCells s) ?_ (by decide)
  rw [List.length_append, Lib.byteCells_length s, hlen]
  exact ho2

theorem builder_String (B b : Nat) (l : List UInt8) (w : World) (h : Lib.IsBuilder BT 5 B b (Lib.byteCells l) w) (hw : B ≤ w.heap.size) :
    Calls Try.prog 33 #[.pointer (some ⟨b, 0, none⟩)] w fun e w' => e = .returned (.string ⟨l.toArray⟩) ∧ Below B w w' := Try.Builder_String_any B b l w h hw

end Go.Proofs.Ytijhbnkfkjfcfaa
