/-
  tree: the methods of a vertex: least, size, width, depth.
-/
import Derived.Test.YtgbicdbmmjleoaaTrTop
import Derived.Test.YtgbicdbmmjleoaaKyRets
namespace Go.Proofs.Ytgbicdbmmjleoaa
open Go.RowKit

theorem ret_key {fn : Func} {p : Tmp} {R : Ending → World → Prop} {a : Act} {w : World} (h : fn.results = #[.cell p 24]) (hd : a.defers = []) (g : Nat) (v0 v1 : Value) (hp : a.tmps.getD p undef = .pointer (some ⟨g, 0, none⟩))
    (c0 : w.cell? ⟨g, 0, none⟩ = some v0) (c1 : w.cell? ⟨g, 1, none⟩ = some v1) (hR : R (.returned (.agg #[v0, v1])) w) : bodyPost Try.prog fn R .ret a w := by
  refine bodyPost_ret (v := .agg #[v0, v1]) ?_ hd hR
  have hp' : a.tmps[p]?.getD undef = .pointer (some ⟨g, 0, none⟩) := by simpa using hp
  simp [results, h, hp', asAddr, load_key w g v0 v1 c0 c1]

/-! ### Which function a method is -/

theorem mLeafSize (n : Nat) (u : Value) (W : World) : (method (n + 1) 66 u "sexton/tree.size").run Try.prog W = .ok (84, u) W := by kernel_rfl
theorem mLeafWidth (n : Nat) (u : Value) (W : World) : (method (n + 1) 66 u "sexton/tree.width").run Try.prog W = .ok (85, u) W := by kernel_rfl
theorem mLeafDepth (n : Nat) (u : Value) (W : World) : (method (n + 1) 66 u "sexton/tree.depth").run Try.prog W = .ok (82, u) W := by kernel_rfl
theorem mLeafLeast (n : Nat) (u : Value) (W : World) : (method (n + 1) 66 u "sexton/tree.least").run Try.prog W = .ok (83, u) W := by kernel_rfl
theorem mBrSize (n : Nat) (g : Addr) (W : World) : (method (n + 1) 67 (.pointer (some g)) "sexton/tree.size").run Try.prog W = .ok (88, .pointer (some g)) W := by kernel_rfl
theorem mBrWidth (n : Nat) (g : Addr) (W : World) : (method (n + 1) 67 (.pointer (some g)) "sexton/tree.width").run Try.prog W = .ok (89, .pointer (some g)) W := by kernel_rfl
theorem mBrLeast (n : Nat) (g : Addr) (W : World) : (method (n + 1) 67 (.pointer (some g)) "sexton/tree.least").run Try.prog W = .ok (87, .pointer (some g)) W := by kernel_rfl

/-! ### The methods -/

theorem leafSize_calls (v : Value) (l : List Pr) (w : World) (h : Prs w v l) :
    Calls Try.prog 84 #[v] w fun e w' => e = .returned (.int .i64 l.length) ∧ w' = w := by
  obtain ⟨ao, cap, rfl⟩ := h.form
  go_enter Try.func84, Try.ntmps84
  go_wp2_with fail
  go_ret
  exact ⟨rfl, rfl⟩
theorem leafWidth_calls (v : Value) (l : List Pr) (w : World) (h : Prs w v l) :
    Calls Try.prog 85 #[v] w fun e w' => e = .returned (.int .i64 l.length) ∧ w' = w := by
  obtain ⟨ao, cap, rfl⟩ := h.form
  go_enter Try.func85, Try.ntmps85
  go_wp2_with fail
  go_ret
  exact ⟨rfl, rfl⟩
theorem leafDepth_calls (v : Value) (w : World) :
    Calls Try.prog 82 #[v] w fun e w' => e = .returned (.int .i64 1) ∧ w' = w := by
  go_enter Try.func82, Try.ntmps82
  go_wp2_with fail
  go_ret
  exact ⟨rfl, rfl⟩
set_option maxHeartbeats 1000000 in
theorem leafLeast_calls (v : Value) (x : Pr) (r : List Pr) (w : World) (h : Prs w v (x :: r)) :
    Calls Try.prog 83 #[v] w fun e w' => e = .returned (.agg #[.string ⟨x.1.1.toArray⟩, .int .i64 x.1.2]) ∧ Below w.heap.size w w' := by
  obtain ⟨ao, cap, rfl⟩ := h.form
  obtain ⟨b, off, rfl, c0, c1, _⟩ := h.at (k := 0) (by simp)
  simp only [Nat.zero_mul, Nat.add_zero, List.getElem_cons_zero] at c0 c1
  have hl : b < w.heap.size := World.block_lt_of_cell? w _ c0
  clear h
  obtain ⟨⟨p, m⟩, s⟩ := x
  dsimp only at c0 c1 ⊢
  go_enter Try.func83, Try.ntmps83
  go_wp2_with fail
  have hC := Cx.new w 24 [.string ⟨p.toArray⟩, .int .i64 m]
  obtain ⟨d0, d1, _⟩ := hC.two
  refine ret_key (p := 2) (by kernel_rfl) rfl w.heap.size _ _ rfl d0 d1 ?_
  exact ⟨rfl, below_alloc _ _⟩
theorem brSize_calls (g : Nat) (n : Int) (w : World) (c : w.cell? ⟨g, 3, none⟩ = some (.int .i64 n)) :
    Calls Try.prog 88 #[.pointer (some ⟨g, 0, none⟩)] w fun e w' => e = .returned (.int .i64 n) ∧ w' = w := by
  go_enter Try.func88, Try.ntmps88
  go_wp2_with fail
  go_ret
  exact ⟨rfl, rfl⟩
theorem brWidth_calls (g : Nat) (ao : Option Addr) (n cap : Nat) (w : World) (c : w.cell? ⟨g, 0, none⟩ = some (.slice ao n cap)) :
    Calls Try.prog 89 #[.pointer (some ⟨g, 0, none⟩)] w fun e w' => e = .returned (.int .i64 n) ∧ w' = w := by
  go_enter Try.func89, Try.ntmps89
  go_wp2_with fail
  go_ret
  exact ⟨rfl, rfl⟩
set_option maxHeartbeats 1000000 in
theorem brLeast_calls (g : Nat) (p : List UInt8) (m : Int) (w : World) (c1 : w.cell? ⟨g, 1, none⟩ = some (.string ⟨p.toArray⟩)) (c2 : w.cell? ⟨g, 2, none⟩ = some (.int .i64 m)) :
    Calls Try.prog 87 #[.pointer (some ⟨g, 0, none⟩)] w fun e w' => e = .returned (.agg #[.string ⟨p.toArray⟩, .int .i64 m]) ∧ Below w.heap.size w w' := by
  have hl : g < w.heap.size := World.block_lt_of_cell? w _ c1
  go_enter Try.func87, Try.ntmps87
  go_wp2_with fail
  have hC := Cx.new w 24 [.string ⟨p.toArray⟩, .int .i64 m]
  obtain ⟨d0, d1, _⟩ := hC.two
  refine ret_key (p := 2) (by kernel_rfl) rfl w.heap.size _ _ rfl d0 d1 ?_
  exact ⟨rfl, below_alloc _ _⟩

/-! ### Of whatever vertex -/

/-- A call of f enters its body. -/
def Enters (f : FuncId) : Prop := ∀ xs W, (callFunc f xs).run Try.prog W = .ok (.enter f xs) W
/-- The vertex (T, u) says n of itself where the method name is called. -/
def Says (w : World) (T : TypeId) (u : Value) (name : String) (n : Nat) : Prop :=
  ∃ f, (∀ k W, (method (k + 1) T u name).run Try.prog W = .ok (f, u) W) ∧ Enters f ∧ ∀ W, Below w.heap.size w W → Calls Try.prog f #[u] W fun e w' => e = .returned (.int .i64 n) ∧ w' = W
theorem Vx.size {w : World} {d : Nat} {T : TypeId} {u : Value} {l : List Pr} {n : Nat} (h : Vx d w (.iface T u) l n) : Says w T u "sexton/tree.size" l.length := by
  cases d with
  | zero =>
    obtain ⟨_, u, he, hp⟩ := h
    cases he
    exact ⟨_, fun k W => mLeafSize k u W, fun _ _ => by kernel_rfl, fun W hB => leafSize_calls u l W (hp.below hB)⟩
  | succ d =>
    obtain ⟨g, ao, cap, S, x, he, _, _, _, _, c0, c1, c2, c3, _⟩ := h.open
    cases he
    exact ⟨_, fun k W => mBrSize k _ W, fun _ _ => by kernel_rfl, fun W hB => brSize_calls g _ W (look_below hB c3)⟩
theorem Vx.width {w : World} {d : Nat} {T : TypeId} {u : Value} {l : List Pr} {n : Nat} (h : Vx d w (.iface T u) l n) : Says w T u "sexton/tree.width" n := by
  cases d with
  | zero =>
    obtain ⟨rfl, u, he, hp⟩ := h
    cases he
    exact ⟨_, fun k W => mLeafWidth k u W, fun _ _ => by kernel_rfl, fun W hB => leafWidth_calls u l W (hp.below hB)⟩
  | succ d =>
    obtain ⟨g, ao, cap, S, x, he, rfl, _, _, _, c0, c1, c2, c3, _⟩ := h.open
    cases he
    exact ⟨_, fun k W => mBrWidth k _ W, fun _ _ => by kernel_rfl, fun W hB => brWidth_calls g _ _ _ W (look_below hB c0)⟩
theorem Vx.least {w : World} {d : Nat} {T : TypeId} {u : Value} {x : Pr} {r : List Pr} {n : Nat} (h : Vx d w (.iface T u) (x :: r) n) :
    ∃ f, (∀ k W, (method (k + 1) T u "sexton/tree.least").run Try.prog W = .ok (f, u) W) ∧ Enters f ∧ ∀ W, Below w.heap.size w W → Calls Try.prog f #[u] W fun e w' => e = .returned (.agg #[.string ⟨x.1.1.toArray⟩, .int .i64 x.1.2]) ∧ Below W.heap.size W w' := by
  cases d with
  | zero =>
    obtain ⟨_, u, he, hp⟩ := h
    cases he
    exact ⟨_, fun k W => mLeafLeast k u W, fun _ _ => by kernel_rfl, fun W hB => leafLeast_calls u x r W (hp.below hB)⟩
  | succ d =>
    obtain ⟨g, ao, cap, S, y, he, _, _, _, hy, c0, c1, c2, c3, _⟩ := h.open
    cases he
    simp at hy
    subst hy
    exact ⟨_, fun k W => mBrLeast k _ W, fun _ _ => by kernel_rfl, fun W hB => brLeast_calls g _ _ W (look_below hB c1) (look_below hB c2)⟩

set_option maxHeartbeats 1000000 in
theorem len_calls (v : Value) (l : List Pr) (w : World) (ht : TreeV w v l) :
   Calls Try.prog 14 #[v] w fun e w' => e = .returned (.int .i64 l.length) ∧ w' = w := by
  have K := Lib.hid (top_calls v l w ht)
  go_enter Try.func14, Try.ntmps14
  go_wp2_with fail
  refine K.out.mono ?_
  rintro e w1 ⟨rfl, u, d, n, rfl, hu⟩
  obtain ⟨T, u, rfl⟩ := hu.iface
  obtain ⟨f, hm, hc, hf⟩ := hu.size
  unfold Enters at hc
  have KS := Lib.hid (hf _ (Below.refl _ _))
  clear hf hu
  go_wp2_with fail
  refine KS.out.mono ?_
  rintro e w2 ⟨rfl, rfl⟩
  go_wp2_with fail
  go_ret
  exact ⟨rfl, rfl⟩

end Go.Proofs.Ytgbicdbmmjleoaa
