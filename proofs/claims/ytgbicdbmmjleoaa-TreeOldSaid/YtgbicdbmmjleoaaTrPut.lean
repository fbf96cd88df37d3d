/-
  tree: another, Put, Drop.
-/
import Derived.Test.YtgbicdbmmjleoaaTrEdit
import Derived.Test.YtgbicdbmmjleoaaNdPut
import Derived.Test.YtgbicdbmmjleoaaNdDrop
namespace Go.Proofs.Ytgbicdbmmjleoaa
open Go.RowKit

theorem entersPut : Enters 33 := fun _ _ => by kernel_rfl
theorem entersDrop : Enters 35 := fun _ _ => by kernel_rfl

set_option maxHeartbeats 2000000 in
theorem edits_put {w : World} {g : Nat} {p : List UInt8} {m : Int} {s : List UInt8} (h : Cx w g 31 [.string ⟨p.toArray⟩, .int .i64 m, .string ⟨s.toArray⟩]) : Edits 33 (.pointer (some ⟨g, 0, none⟩)) (some s) (p, m) w := by
  intro W u l hB hP hm
  have K := Lib.hid (put_calls u l p m s W hP hm)
  obtain ⟨c0, c1, c2, _⟩ := (h.below hB).three
  obtain ⟨ao, n, cap, rfl⟩ := hP.any
  clear hP h
  go_enter Try.func33, Try.ntmps33
  go_wp2_with fail
  refine K.out.mono ?_
  rintro e w1 ⟨a1, k1, rfl, ho, hB1⟩
  have HO := Lib.hid ho.prs
  clear ho
  obtain ⟨n1, hn1⟩ : ∃ n, (putL l ((p, m), s)).length = n := ⟨_, rfl⟩
  rw [hn1] at HO ⊢
  go_wp2_with fail
  go_ret
  exact ⟨_, rfl, HO.out, hB1⟩
set_option maxHeartbeats 2000000 in
theorem edits_drop {w : World} {g : Nat} {p : List UInt8} {m : Int} (h : KBox w g (p, m)) : Edits 35 (.pointer (some ⟨g, 0, none⟩)) none (p, m) w := by
  intro W u l hB hP hm
  have K := Lib.hid (drop_calls u l p m W hP hm)
  obtain ⟨c0, c1, _⟩ := (h.below hB).two
  obtain ⟨ao, n, cap, rfl⟩ := hP.any
  clear hP h
  go_enter Try.func35, Try.ntmps35
  go_wp2_with fail
  refine K.out.mono ?_
  rintro e w1 ⟨a1, n1, k1, rfl, ho, hB1⟩
  have HO := Lib.hid ho.prs
  clear ho
  go_wp2_with fail
  go_ret
  exact ⟨_, rfl, HO.out, hB1⟩

theorem root_calls {N : Nat} (d : Nat) (rv : Value) (Z : List Ch) (w : World) (h : VRow d w rv Z) (hN : News N Z) (hm : (allC Z).length ≤ 1000000) :
    Calls Try.prog 39 #[rv] w fun e w' => ∃ v d' n, e = .returned v ∧ Vx d' w' v (allC Z) n ∧ Below w.heap.size w w' := by
  rcases hN with ⟨c, rfl, _⟩ | ⟨a, b, rfl, h1, h2⟩
  · refine (over_one d rv c w h).mono ?_
    rintro e w' ⟨rfl, rfl⟩
    exact ⟨c.1, d, c.2.2, rfl, by rw [allC_one]; exact h.2 c (by simp), Below.refl _ _⟩
  · refine (over_calls d rv [a, b] w h (fun c hc => by
      simp only [List.mem_cons, List.not_mem_nil, or_false] at hc
      rcases hc with rfl | rfl
      · exact h1
      · exact h2) (by simp) hm).mono ?_
    rintro e w' ⟨v, rfl, hv, hB⟩
    exact ⟨v, d + 1, 2, rfl, hv, hB⟩

set_option maxHeartbeats 4000000 in
set_option maxRecDepth 100000 in
theorem another_calls (f : FuncId) (hc : Enters f) (x : Value) (s : Option (List UInt8)) (p : List UInt8) (m : Int) (v : Value) (l : List Pr) (w : World) (ht : TreeV w v l) (hm : l.length ≤ 99999) (hE : Edits f x s (p, m) w) :
    Calls Try.prog 32 #[v, .agg #[.string ⟨p.toArray⟩, .int .i64 m], .func (.func f) #[] #[x]] w fun e w' => ∃ u, e = .returned u ∧ TreeV w' u (editL s (p, m) l) ∧ Below w.heap.size w w' := by
  have hB0 := below_alloc w (.cells #[.string ⟨p.toArray⟩, .int .i64 m] 24)
  obtain ⟨k0, k1, _⟩ := (kbox_new w p m).two
  have HR := Lib.hid (edit_rises ht.1 s (p, m))
  have KT := Lib.hid (fun W (hB : Below w.heap.size w W) => top_calls v l W (ht.below hB))
  have KE := Lib.hid (fun d u n W (hB : Below w.heap.size w W) (hv : Vx d W u l n) => edited_calls f hc x s p m d u l n W hv ht.1 hm (hE.below hB))
  have KO := Lib.hid (fun (N d : Nat) (u : Value) (Z : List Ch) (W : World) (h : VRow d W u Z) (hN : News N Z) (hZ : allC Z = editL s (p, m) l) => root_calls d u Z W h hN (by
    have := edit_length s (p, m) l
    rw [hZ]
    omega))
  have HS : Hid (∀ W, Below (w.alloc (.cells #[.string ⟨p.toArray⟩, .int .i64 m] 24)).heap.size (w.alloc (.cells #[.string ⟨p.toArray⟩, .int .i64 m] 24)) W → W.cell? ⟨w.heap.size, 0, none⟩ = some (.string ⟨p.toArray⟩) ∧ W.cell? ⟨w.heap.size, 1, none⟩ = some (.int .i64 m)) :=
    Lib.hid (fun W hB => ⟨look_below hB k0, look_below hB k1⟩)
  have hbr : Below (w.alloc (.cells #[.string ⟨p.toArray⟩, .int .i64 m] 24)).heap.size (w.alloc (.cells #[.string ⟨p.toArray⟩, .int .i64 m] 24)) (w.alloc (.cells #[.string ⟨p.toArray⟩, .int .i64 m] 24)).drew := drew_below _
  unfold Enters at hc
  clear ht hE k0 k1
  go_enter Try.func32, Try.ntmps32
  go_wp2_with fail
  go_region_held3 (fun w' => w'.cell? ⟨w.heap.size, 0, none⟩ = some (.string ⟨p.toArray⟩) ∧ w'.cell? ⟨w.heap.size, 1, none⟩ = some (.int .i64 m)) (first | exact HS.out _ hbr | exact HS.out _ (hbr.alloc hbr.size _)) (first
    | ((with_reducible refine (KT.out _ (below2 hB0 hbr)).mono ?_); rintro e w1 ⟨rfl, u1, d1, n1, rfl, hv1⟩; have HV := Lib.hid hv1; clear hv1; obtain ⟨T1, x1, rfl⟩ := HV.out.iface)
    | ((with_reducible refine (KE.out _ _ _ _ (below2 hB0 hbr) HV.out).mono ?_); rintro e w2 ⟨u2, Z, d2, rfl, hv2, hZ, hN, _, hB2⟩; have hbr := below2 hbr hB2; have HZ := Lib.hid (And.intro hv2 (And.intro hN hZ)); clear hv2 hZ hN; obtain ⟨a2, n2, c2, rfl⟩ := HZ.out.1.any)
    | ((with_reducible refine (KO.out _ _ _ _ _ HZ.out.1 HZ.out.2.1 HZ.out.2.2).mono ?_); rintro e w3 ⟨u3, d3, n3, rfl, hv3, hB3⟩; have hbr := below2 hbr hB3; have HW := Lib.hid hv3; clear hv3; obtain ⟨T3, x3, rfl⟩ := HW.out.iface))
  go_wp2_with fail
  go_ret
  have e := HZ.out.2.2
  refine ⟨_, rfl, ⟨HR.out, .inr ⟨_, _, rfl, by rw [World.cell?_alloc_new]; rfl, .inr ⟨d3, n3, ?_⟩⟩⟩, below2 (below2 hB0 hbr) (below_alloc _ _)⟩
  rw [← e]
  exact HW.out.below (below_alloc _ _)

set_option maxHeartbeats 2000000 in
theorem tput_calls (v : Value) (l : List Pr) (p : List UInt8) (m : Int) (s : List UInt8) (w : World) (ht : TreeV w v l) (hm : l.length ≤ 99999) :
    Calls Try.prog 22 #[v, .agg #[.string ⟨p.toArray⟩, .int .i64 m, .string ⟨s.toArray⟩]] w fun e w' => ∃ u, e = .returned u ∧ TreeV w' u (putL l ((p, m), s)) ∧ Below w.heap.size w w' := by
  have hB0 := below_alloc w (.cells #[.string ⟨p.toArray⟩, .int .i64 m, .string ⟨s.toArray⟩] 31)
  have hX := Cx.new w 31 [.string ⟨p.toArray⟩, .int .i64 m, .string ⟨s.toArray⟩]
  have K := Lib.hid (another_calls _ entersPut _ (some s) p m v l _ (ht.below hB0) hm (edits_put hX))
  obtain ⟨c0, c1, c2, _⟩ := hX.three
  clear ht hX
  go_enter Try.func22, Try.ntmps22
  go_wp2_with fail
  refine K.out.mono ?_
  rintro e w1 ⟨u, rfl, hu, hB1⟩
  have HU := Lib.hid hu
  clear hu
  go_wp2_with fail
  go_ret
  exact ⟨_, rfl, HU.out, below2 hB0 hB1⟩
set_option maxHeartbeats 2000000 in
theorem tdrop_calls (v : Value) (l : List Pr) (p : List UInt8) (m : Int) (w : World) (ht : TreeV w v l) (hm : l.length ≤ 99999) :
    Calls Try.prog 23 #[v, .agg #[.string ⟨p.toArray⟩, .int .i64 m]] w fun e w' => ∃ u, e = .returned u ∧ TreeV w' u (dropL l (p, m)) ∧ Below w.heap.size w w' := by
  have hB0 := below_alloc w (.cells #[.string ⟨p.toArray⟩, .int .i64 m] 24)
  have hX := kbox_new w p m
  have K := Lib.hid (another_calls _ entersDrop _ none p m v l _ (ht.below hB0) hm (edits_drop hX))
  obtain ⟨c0, c1, _⟩ := hX.two
  clear ht hX
  go_enter Try.func23, Try.ntmps23
  go_wp2_with fail
  refine K.out.mono ?_
  rintro e w1 ⟨u, rfl, hu, hB1⟩
  have HU := Lib.hid hu
  clear hu
  go_wp2_with fail
  go_ret
  exact ⟨_, rfl, HU.out, below2 hB0 hB1⟩

end Go.Proofs.Ytgbicdbmmjleoaa
