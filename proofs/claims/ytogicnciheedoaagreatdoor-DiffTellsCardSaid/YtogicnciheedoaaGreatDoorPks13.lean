/-
  The texts of one folder in one: ChApp.
-/
import Derived.Test.YtogicnciheedoaaGreatDoorPkbase
import Derived.Test.YtogicnciheedoaaGreatDoorPks12

/-
  Appends of a text, of a number.
-/
namespace Go.Proofs.YtogicnciheedoaaGreatDoor
set_option maxRecDepth 100000
open Go.RowKit

/-- A row of texts of a call's own. -/
abbrev OwnL (w : World) (base : Nat) (v : Value) (l : List (List UInt8)) : Prop := w.ownsRow base 9 1 v l.length (l.map SV)

theorem app_text {w : World} {ops : Array Oper} {rest : List Oper} {o : Oper} {a : Act} {Q : Exit → Act → World → Prop} (hgd : o.guard = none) (s x : Operand)
    (ho : o.op = .call { callee := .builtin .append, args := #[s, x], argTypes := #[104, 104] })
    (base : Nat) (v : Value) (l : List (List UInt8)) (hs : a.eval s = v) (hown : OwnL w base v l) (t : List UInt8) (hx : a.eval x = .slice (some ⟨w.heap.size, 0, none⟩) 1 1)
    (hn : l.length ≤ 1000000) (hbase : base ≤ w.heap.size)
    (h : ∀ v' w', OwnL w' base v' (l ++ [t]) → (∀ w0, Below base w0 w → Below base w0 w') → wpList Tryz.prog ops Q rest (a.put o.dst v') w') :
    wpList Tryz.prog ops Q (o :: rest) a (w.alloc (.cells #[.string ⟨t.toArray⟩] 9)) := by
  obtain ⟨i0, hi, hz0, hz1, hz2⟩ := info_parts info9
  refine wpList_app1 hgd s x 104 ho base 9 i0 (.string ⟨#[]⟩) 16 Tryz.underlying104 hi hz0 hz1 hz2 rfl v l.length (l.map SV) hs hown (.string ⟨t.toArray⟩) hx rfl hn (by omega) hbase ?_
  intro ao' cap' w' h2 h3
  exact h _ w' (by unfold OwnL; rw [List.length_append, List.map_append]; exact h2) h3

theorem ownL_txts {w : World} {base : Nat} {v : Value} {l : List (List UInt8)} (h : OwnL w base v l) : Txts w v l := Txts.own h
theorem ownL_nil (w : World) (base : Nat) : OwnL w base (.slice none 0 0) [] := World.ownsRow_nil _ _ _ _
end Go.Proofs.YtogicnciheedoaaGreatDoor
