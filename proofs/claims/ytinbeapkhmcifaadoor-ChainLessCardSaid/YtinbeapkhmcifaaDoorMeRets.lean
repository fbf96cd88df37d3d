/-
  A meta as a result: alone, with an error's number, with a bool and an error's number.
-/
import Derived.Test.YtinbeapkhmcifaaDoorMeIs
namespace Go.Proofs.YtinbeapkhmcifaaDoor
set_option maxRecDepth 100000
open Go.RowKit

theorem meta_agg (w : World) : (isAgg 24).run Tryd.prog w = .ok true w := by simp [isAgg, run_underlying Tryd.underlying24]
theorem meta_size : (Tryd.prog.info? 24).map (·.size) = some 3 := by kernel_rfl
theorem load_meta (w : World) (g : Nat) (v0 v1 v2 : Value) (c0 : w.cell? ⟨g, 0, none⟩ = some v0) (c1 : w.cell? ⟨g, 1, none⟩ = some v1) (c2 : w.cell? ⟨g, 2, none⟩ = some v2) :
    (loadVar 24 ⟨g, 0, none⟩).run Tryd.prog w = .ok (.agg #[v0, v1, v2]) w :=
  load_many (cs := [v0, v1, v2]) (meta_agg w) meta_size fun j u hu => by
    match j, hu with
    | 0, hu => simp at hu; subst hu; simpa using c0
    | 1, hu => simp at hu; subst hu; simpa using c1
    | 2, hu => simp at hu; subst hu; simpa using c2
theorem ret_meta {fn : Func} {p : Tmp} {R : Ending → World → Prop} {a : Act} {w : World} (h : fn.results = #[.cell p 24]) (hd : a.defers = []) (g : Nat) (v0 v1 v2 : Value) (hp : a.tmps.getD p undef = .pointer (some ⟨g, 0, none⟩))
    (c0 : w.cell? ⟨g, 0, none⟩ = some v0) (c1 : w.cell? ⟨g, 1, none⟩ = some v1) (c2 : w.cell? ⟨g, 2, none⟩ = some v2) (hR : R (.returned (.agg #[v0, v1, v2])) w) : bodyPost Tryd.prog fn R .ret a w := by
  refine bodyPost_ret (v := .agg #[v0, v1, v2]) ?_ hd hR
  have hp' : a.tmps[p]?.getD undef = .pointer (some ⟨g, 0, none⟩) := by simpa using hp
  simp [results, h, hp', asAddr, load_meta w g v0 v1 v2 c0 c1 c2]
theorem ret_meta2 {fn : Func} {p q : Tmp} {R : Ending → World → Prop} {a : Act} {w : World} (h : fn.results = #[.cell p 24, .tmp q]) (hd : a.defers = []) (g : Nat) (v0 v1 v2 v3 : Value) (hp : a.tmps.getD p undef = .pointer (some ⟨g, 0, none⟩))
    (hq : a.tmps.getD q undef = v3) (c0 : w.cell? ⟨g, 0, none⟩ = some v0) (c1 : w.cell? ⟨g, 1, none⟩ = some v1) (c2 : w.cell? ⟨g, 2, none⟩ = some v2) (hR : R (.returned (.tuple #[.agg #[v0, v1, v2], v3])) w) : bodyPost Tryd.prog fn R .ret a w := by
  refine bodyPost_ret (v := .tuple #[.agg #[v0, v1, v2], v3]) ?_ hd hR
  have hp' : a.tmps[p]?.getD undef = .pointer (some ⟨g, 0, none⟩) := by simpa using hp
  have hq' : a.tmps[q]?.getD undef = v3 := by simpa using hq
  simp [results, h, hp', hq', asAddr, load_meta w g v0 v1 v2 c0 c1 c2]
theorem ret_meta3 {fn : Func} {p q r : Tmp} {R : Ending → World → Prop} {a : Act} {w : World} (h : fn.results = #[.cell p 24, .tmp q, .tmp r]) (hd : a.defers = []) (g : Nat) (v0 v1 v2 v3 v4 : Value) (hp : a.tmps.getD p undef = .pointer (some ⟨g, 0, none⟩))
    (hq : a.tmps.getD q undef = v3) (hr : a.tmps.getD r undef = v4) (c0 : w.cell? ⟨g, 0, none⟩ = some v0) (c1 : w.cell? ⟨g, 1, none⟩ = some v1) (c2 : w.cell? ⟨g, 2, none⟩ = some v2) (hR : R (.returned (.tuple #[.agg #[v0, v1, v2], v3, v4])) w) : bodyPost Tryd.prog fn R .ret a w := by
  refine bodyPost_ret (v := .tuple #[.agg #[v0, v1, v2], v3, v4]) ?_ hd hR
  have hp' : a.tmps[p]?.getD undef = .pointer (some ⟨g, 0, none⟩) := by simpa using hp
  have hq' : a.tmps[q]?.getD undef = v3 := by simpa using hq
  have hr' : a.tmps[r]?.getD undef = v4 := by simpa using hr
  simp [results, h, hp', hq', hr', asAddr, load_meta w g v0 v1 v2 c0 c1 c2]

/-- A box of a meta, written anew. -/
theorem Cx.sets3 {w : World} {b : Nat} {t : TypeId} {v0 v1 v2 : Value} (h : Cx w b t [v0, v1, v2]) (x y z : Value) : Cx (((w.setCell ⟨b, 0, none⟩ x).setCell ⟨b, 1, none⟩ y).setCell ⟨b, 2, none⟩ z) b t [x, y, z] := ((h.set 0 x).set 1 y).set 2 z
theorem below_sets3 {B : Nat} {w w' : World} {b : Nat} (h : Below B w w') (hb : B ≤ b) (x y z : Value) : Below B w (((w'.setCell ⟨b, 0, none⟩ x).setCell ⟨b, 1, none⟩ y).setCell ⟨b, 2, none⟩ z) := ((h.setCell hb _).setCell hb _).setCell hb _

/-- A row of ints of a call's own. -/
abbrev OwnI (w : World) (base : Nat) (v : Value) (cs : List Int) : Prop := w.ownsRow base 3 1 v cs.length (cs.map (Value.int .i64))
theorem ints_own {w : World} {base : Nat} {v : Value} {cs : List Int} (h : OwnI w base v cs) : Ints w v cs := Rw.own h
theorem int_info : (Tryd.prog.info? 3).map (fun i => (i.zero, i.size, i.bytes)) = some (some (.int .i64 0), 1, 8) := by kernel_rfl
theorem news_new (w : World) (u : Value) (t : TypeId) : ∀ j x, [u][j]? = some x → (w.alloc (.cells #[u] t)).cell? ((⟨w.heap.size, 0, none⟩ : Addr).add j) = some x := by
  intro j x hx
  match j, hx with
  | 0, hx => simp at hx; subst hx; simp [Addr.add]
theorem one_int (m : Int) : ∀ u ∈ [Value.int .i64 m], u.oneCell' = true := by
  intro u hu
  simp at hu
  subst hu
  rfl
theorem own_above {W : World} {base g k n : Nat} {e : TypeId} {v : Value} {xs : List Value} (h : W.ownsRow base e k v n xs) (hb : g < base) (j : Nat) (u : Value) : (W.setCell ⟨g, j, none⟩ u).ownsRow base e k v n xs := by
  have hg : W.grownBy (W.setCell ⟨g, j, none⟩ u) (some g) := ⟨rfl, rfl, rfl, by simp [World.setCell], fun k _ hk => Below.heap_setCell _ _ _ _ (fun e => hk (by simp [e]))⟩
  refine h.kept hg (.inr fun e => ?_)
  have := (h.lt _ e).1
  omega
theorem ints_one (l : List Int) : ∀ u ∈ l.map (Value.int .i64), u.oneCell' = true := by
  intro u hu
  obtain ⟨t, _, rfl⟩ := List.mem_map.1 hu
  rfl

end Go.Proofs.YtinbeapkhmcifaaDoor
