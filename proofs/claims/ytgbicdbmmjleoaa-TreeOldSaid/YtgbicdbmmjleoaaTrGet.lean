/-
  tree: Get; Depth of a tree without pairs.
-/
import Derived.Test.YtgbicdbmmjleoaaTrLook
namespace Go.Proofs.Ytgbicdbmmjleoaa
open Go.RowKit

set_option maxHeartbeats 4000000 in
theorem tget_calls (v : Value) (l : List Pr) (p : List UInt8) (m : Int) (w : World) (ht : TreeV w v l) (hm : l.length ≤ 100000) :
    Calls Try.prog 12 #[v, .agg #[.string ⟨p.toArray⟩, .int .i64 m]] w fun e w' => e = .returned (.tuple #[.string ⟨(getS l (p, m)).toArray⟩, .bool (hereB l (p, m))]) ∧ Below w.heap.size w w' := by
  have hB0 := below_alloc w (.cells #[.string ⟨p.toArray⟩, .int .i64 m] 24)
  obtain ⟨k0, k1, _⟩ := (kbox_new w p m).two
  have KT := Lib.hid (fun W (hB : Below w.heap.size w W) => top_calls v l W (ht.below hB))
  have KL := Lib.hid (fun d u n W (hv : Vx d W u l n) => lookup_calls p m d u l n W hv ht.1 hm)
  have HS : Hid (∀ W, Below (w.alloc (.cells #[.string ⟨p.toArray⟩, .int .i64 m] 24)).heap.size (w.alloc (.cells #[.string ⟨p.toArray⟩, .int .i64 m] 24)) W → W.cell? ⟨w.heap.size, 0, none⟩ = some (.string ⟨p.toArray⟩) ∧ W.cell? ⟨w.heap.size, 1, none⟩ = some (.int .i64 m)) :=
    Lib.hid (fun W hB => ⟨look_below hB k0, look_below hB k1⟩)
  have hbr : Below (w.alloc (.cells #[.string ⟨p.toArray⟩, .int .i64 m] 24)).heap.size (w.alloc (.cells #[.string ⟨p.toArray⟩, .int .i64 m] 24)) (w.alloc (.cells #[.string ⟨p.toArray⟩, .int .i64 m] 24)).drew := drew_below _
  clear ht k0 k1
  go_enter Try.func12, Try.ntmps12
  go_wp2_with fail
  go_region_held3 (fun w' => w'.cell? ⟨w.heap.size, 0, none⟩ = some (.string ⟨p.toArray⟩) ∧ w'.cell? ⟨w.heap.size, 1, none⟩ = some (.int .i64 m)) (first | exact HS.out _ hbr) (first
    | ((with_reducible refine (KT.out _ (below2 hB0 hbr)).mono ?_); rintro e w1 ⟨rfl, u1, d1, n1, rfl, hv1⟩; have HV := Lib.hid hv1; clear hv1; obtain ⟨T1, x1, rfl⟩ := HV.out.iface)
    | ((with_reducible refine (KL.out _ _ _ _ HV.out).mono ?_); rintro e w2 ⟨rfl, hB2⟩; have hbr := below2 hbr hB2))
  go_wp2_with fail
  go_ret2
  exact ⟨rfl, below2 hB0 hbr⟩

theorem mLeafDepth' (n : Nat) (u : Value) (W : World) : (method (n + 1) 66 u "sexton/tree.depth").run Try.prog W = .ok (82, u) W := by kernel_rfl
theorem entersDepth : Enters 82 := fun _ _ => by kernel_rfl

set_option maxHeartbeats 2000000 in
theorem depth_nil (v : Value) (w : World) (ht : TreeV w v []) : Calls Try.prog 24 #[v] w fun e w' => e = .returned (.int .i64 1) ∧ w' = w := by
  have K := Lib.hid (top_calls v [] w ht)
  go_enter Try.func24, Try.ntmps24
  go_wp2_with fail
  refine K.out.mono ?_
  rintro e w1 ⟨rfl, u, d, n, rfl, hu⟩
  obtain rfl := hu.bare
  obtain ⟨_, x, rfl, _⟩ := hu
  have hm := fun n W => mLeafDepth' n x W
  have hc := entersDepth
  unfold Enters at hc
  have KD := Lib.hid (leafDepth_calls x w1)
  go_wp2_with fail
  refine KD.out.mono ?_
  rintro e w2 ⟨rfl, rfl⟩
  go_wp2_with fail
  go_ret
  exact ⟨rfl, rfl⟩

end Go.Proofs.Ytgbicdbmmjleoaa
