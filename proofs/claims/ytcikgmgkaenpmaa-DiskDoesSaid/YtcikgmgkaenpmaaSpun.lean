/-
  The law file's spun: the document's rows.
-/
import Derived.Test.YtcikgmgkaenpmaaDNew
import Derived.Test.YtcikgmgkaenpmaaWrite
import Derived.Test.YtcikgmgkaenpmaaCrash
import Derived.Test.YtcikgmgkaenpmaaRead
namespace Go.Proofs.Ytcikgmgkaenpmaa
open Go.RowKit

theorem Bools.two (w : World) (a b : Bool) (t : TypeId) : Bools (w.alloc (.cells #[.bool a, .bool b] t)) (.slice (some ⟨w.heap.size, 0, none⟩) 2 2) [a, b] := by
  refine ⟨rfl, _, 2, rfl, Nat.le_refl _, .inr ⟨w.heap.size, 0, rfl, fun j hj => ?_⟩⟩
  have h := cell_of_row _ _ j _ _ _ (heap_alloc_new w (.cells #[.bool a, .bool b] t))
  rw [Nat.zero_add, h]
  match j, hj with
  | 0, _ => rfl
  | 1, _ => rfl

set_option maxRecDepth 100000 in
set_option maxHeartbeats 8000000 in
theorem spun_calls (w : World) : Calls Try.prog 23 #[] w fun e w' => e = .returned (.bool true) ∧ Below w.heap.size w w' := by
  have hBB := Below.refl w.heap.size w
  have B1 : newB 2 = [[], []] := rfl
  have B2 : writeBs [[], []] [] 0 [97] = [[], []] := rfl
  have W2 : writeWs [[], []] [] 0 [97] = [(0, [97])] := rfl
  have B3 : writeBs [[], []] [(0, [97])] 0 [98] = [[], []] := rfl
  have W3 : writeWs [[], []] [(0, [97])] 0 [98] = [(0, [97]), (0, [98])] := rfl
  have B5 : crashBs [[], []] [(0, [97]), (0, [98])] [true, false] = [[97], []] := rfl
  have B7 : crashBs [[], []] [(0, [97]), (0, [98])] [] = [[], []] := rfl
  have HH := Lib.hid (And.intro B1 (And.intro B2 (And.intro W2 (And.intro B3 (And.intro W3 (And.intro B5 B7))))))
  clear B1 B2 W2 B3 W3 B5 B7
  go_enter Try.func23, Try.ntmps23
  go_wp2_with fail
  refine (new_calls 2 _).mono ?_
  rintro e w1 ⟨vb1, vw1, he, ho1, hB1⟩
  rw [show newE 2 = 0 from rfl] at he
  subst he
  have hC1 := hB1
  replace hBB := below2 hBB hC1
  obtain ⟨ab1, nb1, cb1, aw1, nw1, cw1, rfl, rfl, hnb1, hnw1⟩ := ho1.forms
  have ht1 := ho1.texts
  have hv1 := ho1.wrs
  have N1 := Lib.hid (And.intro hnb1 hnw1)
  clear hnb1 hnw1
  rw [HH.out.1] at ht1
  go_wp2_with fail
  refine (write_calls _ _ _ _ 0 [97] _ (ht1.below (below_alloc _ _)) (hv1.below (below_alloc _ _))).mono ?_
  rintro e w2 ⟨vb2, vw2, he, ho2, hB2⟩
  rw [show writeE [[], []] [] 0 [97] = 0 from rfl] at he
  subst he
  have hC2 := below2 (below_alloc _ _) hB2
  have hx1 := (Bx.new w1 _ _).below hB2
  replace ht1 := ht1.below hC2
  replace hv1 := hv1.below hC2
  have c10 := hx1.cells.1
  have c11 := hx1.cells.2.1
  have l1 := hx1.cells.2.2.2.2
  replace hBB := below2 hBB hC2
  obtain ⟨ab2, nb2, cb2, aw2, nw2, cw2, rfl, rfl, hnb2, hnw2⟩ := ho2.forms
  have ht2 := ho2.texts
  have hv2 := ho2.wrs
  have N2 := Lib.hid (And.intro hnb2 hnw2)
  clear hnb2 hnw2
  rw [HH.out.2.1] at ht2
  rw [HH.out.2.2.1] at hv2
  go_wp2_with fail
  refine (write_calls _ _ _ _ 0 [98] _ (ht2.below (below_alloc _ _)) (hv2.below (below_alloc _ _))).mono ?_
  rintro e w3 ⟨vb3, vw3, he, ho3, hB3⟩
  rw [show writeE [[], []] [(0, [97])] 0 [98] = 0 from rfl] at he
  subst he
  have hC3 := below2 (below_alloc _ _) hB3
  replace hx1 := hx1.below hC3
  replace ht1 := ht1.below hC3
  replace hv1 := hv1.below hC3
  have hx2 := (Bx.new w2 _ _).below hB3
  replace ht2 := ht2.below hC3
  replace hv2 := hv2.below hC3
  replace c10 := hx1.cells.1
  replace c11 := hx1.cells.2.1
  replace l1 := hx1.cells.2.2.2.2
  have c20 := hx2.cells.1
  have c21 := hx2.cells.2.1
  have l2 := hx2.cells.2.2.2.2
  replace hBB := below2 hBB hC3
  obtain ⟨ab3, nb3, cb3, aw3, nw3, cw3, rfl, rfl, hnb3, hnw3⟩ := ho3.forms
  have ht3 := ho3.texts
  have hv3 := ho3.wrs
  have N3 := Lib.hid (And.intro hnb3 hnw3)
  clear hnb3 hnw3
  rw [HH.out.2.2.2.1] at ht3
  rw [HH.out.2.2.2.2.1] at hv3
  go_wp2_with fail
  refine (read_calls _ _ _ _ 0 _ (ht3.below (below_alloc _ _)) (hv3.below (below_alloc _ _))).mono ?_
  rintro e w4 ⟨he, hB4⟩
  rw [show readE [[], []] [(0, [97]), (0, [98])] 0 = 0 from rfl] at he
  rw [show readT [[], []] [(0, [97]), (0, [98])] 0 = [98] from rfl] at he
  subst he
  have hC4 := below2 (below_alloc _ _) hB4
  replace hx1 := hx1.below hC4
  replace ht1 := ht1.below hC4
  replace hv1 := hv1.below hC4
  replace hx2 := hx2.below hC4
  replace ht2 := ht2.below hC4
  replace hv2 := hv2.below hC4
  have hx3 := (Bx.new w3 _ _).below hB4
  replace ht3 := ht3.below hC4
  replace hv3 := hv3.below hC4
  replace c10 := hx1.cells.1
  replace c11 := hx1.cells.2.1
  replace l1 := hx1.cells.2.2.2.2
  replace c20 := hx2.cells.1
  replace c21 := hx2.cells.2.1
  replace l2 := hx2.cells.2.2.2.2
  have c30 := hx3.cells.1
  have c31 := hx3.cells.2.1
  have l3 := hx3.cells.2.2.2.2
  replace hBB := below2 hBB hC4
  go_wp2_with fail
  refine (crash_calls _ _ _ _ _ [true, false] _ (ht3.below (below_alloc _ _)) (hv3.below (below_alloc _ _)) (Bools.two _ _ _ _)).mono ?_
  rintro e w5 ⟨vb5, vw5, he, ho5, hB5⟩
  rw [show syncE [[], []] [(0, [97]), (0, [98])] = 0 from rfl] at he
  subst he
  have hC5 := below2 (below_alloc _ _) hB5
  replace hx1 := hx1.below hC5
  replace ht1 := ht1.below hC5
  replace hv1 := hv1.below hC5
  replace hx2 := hx2.below hC5
  replace ht2 := ht2.below hC5
  replace hv2 := hv2.below hC5
  replace hx3 := hx3.below hC5
  replace ht3 := ht3.below hC5
  replace hv3 := hv3.below hC5
  replace c10 := hx1.cells.1
  replace c11 := hx1.cells.2.1
  replace l1 := hx1.cells.2.2.2.2
  replace c20 := hx2.cells.1
  replace c21 := hx2.cells.2.1
  replace l2 := hx2.cells.2.2.2.2
  replace c30 := hx3.cells.1
  replace c31 := hx3.cells.2.1
  replace l3 := hx3.cells.2.2.2.2
  replace hBB := below2 hBB hC5
  obtain ⟨ab5, nb5, cb5, aw5, nw5, cw5, rfl, rfl, hnb5, hnw5⟩ := ho5.forms
  have ht5 := ho5.texts
  have hv5 := ho5.wrs
  have N5 := Lib.hid (And.intro hnb5 hnw5)
  clear hnb5 hnw5
  rw [HH.out.2.2.2.2.2.1] at ht5
  go_wp2_with fail
  refine (read_calls _ _ _ _ 0 _ (ht5.below (below_alloc _ _)) (hv5.below (below_alloc _ _))).mono ?_
  rintro e w6 ⟨he, hB6⟩
  rw [show readE [[97], []] [] 0 = 0 from rfl] at he
  rw [show readT [[97], []] [] 0 = [97] from rfl] at he
  subst he
  have hC6 := below2 (below_alloc _ _) hB6
  replace hx1 := hx1.below hC6
  replace ht1 := ht1.below hC6
  replace hv1 := hv1.below hC6
  replace hx2 := hx2.below hC6
  replace ht2 := ht2.below hC6
  replace hv2 := hv2.below hC6
  replace hx3 := hx3.below hC6
  replace ht3 := ht3.below hC6
  replace hv3 := hv3.below hC6
  have hx5 := (Bx.new w5 _ _).below hB6
  replace ht5 := ht5.below hC6
  replace hv5 := hv5.below hC6
  replace c10 := hx1.cells.1
  replace c11 := hx1.cells.2.1
  replace l1 := hx1.cells.2.2.2.2
  replace c20 := hx2.cells.1
  replace c21 := hx2.cells.2.1
  replace l2 := hx2.cells.2.2.2.2
  replace c30 := hx3.cells.1
  replace c31 := hx3.cells.2.1
  replace l3 := hx3.cells.2.2.2.2
  have c50 := hx5.cells.1
  have c51 := hx5.cells.2.1
  have l5 := hx5.cells.2.2.2.2
  replace hBB := below2 hBB hC6
  go_wp2_with fail
  refine (crash_calls _ _ _ _ _ [] _ ht3 hv3 (Bools.nil _)).mono ?_
  rintro e w7 ⟨vb7, vw7, he, ho7, hB7⟩
  rw [show syncE [[], []] [(0, [97]), (0, [98])] = 0 from rfl] at he
  subst he
  have hC7 := hB7
  replace hx1 := hx1.below hC7
  replace ht1 := ht1.below hC7
  replace hv1 := hv1.below hC7
  replace hx2 := hx2.below hC7
  replace ht2 := ht2.below hC7
  replace hv2 := hv2.below hC7
  replace hx3 := hx3.below hC7
  replace ht3 := ht3.below hC7
  replace hv3 := hv3.below hC7
  replace hx5 := hx5.below hC7
  replace ht5 := ht5.below hC7
  replace hv5 := hv5.below hC7
  replace c10 := hx1.cells.1
  replace c11 := hx1.cells.2.1
  replace l1 := hx1.cells.2.2.2.2
  replace c20 := hx2.cells.1
  replace c21 := hx2.cells.2.1
  replace l2 := hx2.cells.2.2.2.2
  replace c30 := hx3.cells.1
  replace c31 := hx3.cells.2.1
  replace l3 := hx3.cells.2.2.2.2
  replace c50 := hx5.cells.1
  replace c51 := hx5.cells.2.1
  replace l5 := hx5.cells.2.2.2.2
  replace hBB := below2 hBB hC7
  obtain ⟨ab7, nb7, cb7, aw7, nw7, cw7, rfl, rfl, hnb7, hnw7⟩ := ho7.forms
  have ht7 := ho7.texts
  have hv7 := ho7.wrs
  have N7 := Lib.hid (And.intro hnb7 hnw7)
  clear hnb7 hnw7
  rw [HH.out.2.2.2.2.2.2] at ht7
  go_wp2_with fail
  refine (read_calls _ _ _ _ 0 _ (ht7.below (below_alloc _ _)) (hv7.below (below_alloc _ _))).mono ?_
  rintro e w8 ⟨he, hB8⟩
  rw [show readE [[], []] [] 0 = 0 from rfl] at he
  rw [show readT [[], []] [] 0 = [] from rfl] at he
  subst he
  have hC8 := below2 (below_alloc _ _) hB8
  replace hx1 := hx1.below hC8
  replace ht1 := ht1.below hC8
  replace hv1 := hv1.below hC8
  replace hx2 := hx2.below hC8
  replace ht2 := ht2.below hC8
  replace hv2 := hv2.below hC8
  replace hx3 := hx3.below hC8
  replace ht3 := ht3.below hC8
  replace hv3 := hv3.below hC8
  replace hx5 := hx5.below hC8
  replace ht5 := ht5.below hC8
  replace hv5 := hv5.below hC8
  have hx7 := (Bx.new w7 _ _).below hB8
  replace ht7 := ht7.below hC8
  replace hv7 := hv7.below hC8
  replace c10 := hx1.cells.1
  replace c11 := hx1.cells.2.1
  replace l1 := hx1.cells.2.2.2.2
  replace c20 := hx2.cells.1
  replace c21 := hx2.cells.2.1
  replace l2 := hx2.cells.2.2.2.2
  replace c30 := hx3.cells.1
  replace c31 := hx3.cells.2.1
  replace l3 := hx3.cells.2.2.2.2
  replace c50 := hx5.cells.1
  replace c51 := hx5.cells.2.1
  replace l5 := hx5.cells.2.2.2.2
  have c70 := hx7.cells.1
  have c71 := hx7.cells.2.1
  have l7 := hx7.cells.2.2.2.2
  replace hBB := below2 hBB hC8
  go_wp2_with fail
  refine (write_calls _ _ _ _ 2 [97] _ ht1 hv1).mono ?_
  rintro e w9 ⟨vb9, vw9, he, ho9, hB9⟩
  rw [show writeE [[], []] [] 2 [97] = 40 from rfl] at he
  subst he
  have hC9 := hB9
  replace hx1 := hx1.below hC9
  replace ht1 := ht1.below hC9
  replace hv1 := hv1.below hC9
  replace hx2 := hx2.below hC9
  replace ht2 := ht2.below hC9
  replace hv2 := hv2.below hC9
  replace hx3 := hx3.below hC9
  replace ht3 := ht3.below hC9
  replace hv3 := hv3.below hC9
  replace hx5 := hx5.below hC9
  replace ht5 := ht5.below hC9
  replace hv5 := hv5.below hC9
  replace hx7 := hx7.below hC9
  replace ht7 := ht7.below hC9
  replace hv7 := hv7.below hC9
  replace c10 := hx1.cells.1
  replace c11 := hx1.cells.2.1
  replace l1 := hx1.cells.2.2.2.2
  replace c20 := hx2.cells.1
  replace c21 := hx2.cells.2.1
  replace l2 := hx2.cells.2.2.2.2
  replace c30 := hx3.cells.1
  replace c31 := hx3.cells.2.1
  replace l3 := hx3.cells.2.2.2.2
  replace c50 := hx5.cells.1
  replace c51 := hx5.cells.2.1
  replace l5 := hx5.cells.2.2.2.2
  replace c70 := hx7.cells.1
  replace c71 := hx7.cells.2.1
  replace l7 := hx7.cells.2.2.2.2
  replace hBB := below2 hBB hC9
  obtain ⟨ab9, nb9, cb9, aw9, nw9, cw9, rfl, rfl, hnb9, hnw9⟩ := ho9.forms
  have ht9 := ho9.texts
  have hv9 := ho9.wrs
  have N9 := Lib.hid (And.intro hnb9 hnw9)
  clear hnb9 hnw9
  go_wp2_with fail
  refine (check_calls _ _ _ _ _ (ht3.below (below_alloc _ _)) (hv3.below (below_alloc _ _))).mono ?_
  rintro e w10 ⟨he, hB10⟩
  rw [show rightB [[], []] [(0, [97]), (0, [98])] = true from rfl] at he
  subst he
  have hC10 := below2 (below_alloc _ _) hB10
  replace hx1 := hx1.below hC10
  replace ht1 := ht1.below hC10
  replace hv1 := hv1.below hC10
  replace hx2 := hx2.below hC10
  replace ht2 := ht2.below hC10
  replace hv2 := hv2.below hC10
  replace hx3 := hx3.below hC10
  replace ht3 := ht3.below hC10
  replace hv3 := hv3.below hC10
  replace hx5 := hx5.below hC10
  replace ht5 := ht5.below hC10
  replace hv5 := hv5.below hC10
  replace hx7 := hx7.below hC10
  replace ht7 := ht7.below hC10
  replace hv7 := hv7.below hC10
  have hx9 := (Bx.new w9 _ _).below hB10
  replace ht9 := ht9.below hC10
  replace hv9 := hv9.below hC10
  replace c10 := hx1.cells.1
  replace c11 := hx1.cells.2.1
  replace l1 := hx1.cells.2.2.2.2
  replace c20 := hx2.cells.1
  replace c21 := hx2.cells.2.1
  replace l2 := hx2.cells.2.2.2.2
  replace c30 := hx3.cells.1
  replace c31 := hx3.cells.2.1
  replace l3 := hx3.cells.2.2.2.2
  replace c50 := hx5.cells.1
  replace c51 := hx5.cells.2.1
  replace l5 := hx5.cells.2.2.2.2
  replace c70 := hx7.cells.1
  replace c71 := hx7.cells.2.1
  replace l7 := hx7.cells.2.2.2.2
  have c90 := hx9.cells.1
  have c91 := hx9.cells.2.1
  have l9 := hx9.cells.2.2.2.2
  replace hBB := below2 hBB hC10
  go_wp2_with fail
  go_ret
  exact ⟨rfl, hBB⟩

end Go.Proofs.Ytcikgmgkaenpmaa
