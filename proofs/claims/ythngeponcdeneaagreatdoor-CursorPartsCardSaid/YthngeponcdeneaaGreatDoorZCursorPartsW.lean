/-
  The walk of CursorParts.
-/
import Derived.Test.YthngeponcdeneaaGreatDoorPks11
namespace Go.Proofs.YthngeponcdeneaaGreatDoor
set_option maxRecDepth 100000
open Go.RowKit

theorem not_ahead {a b : Ky} (h : a = b ∨ lessK a b = true) : lessK b a = false := by
  rcases h with rfl | h
  · exact lessK_irrefl a
  · exact lessK_asymm h

/-- The ways in which two keys stand to one another. -/
theorem key_ways (q p : List UInt8) (z m : Int) : (((q, z) : Ky) = (p, m) ∧ (q == p) = true ∧ (z == m) = true) ∨ ((q == p) = false ∧ lessK (q, z) (p, m) = true) ∨ ((q == p) = true ∧ (z == m) = false ∧ lessK (q, z) (p, m) = true) ∨ ((q == p) = false ∧ lessK (q, z) (p, m) = false) ∨ ((q == p) = true ∧ (z == m) = false ∧ lessK (q, z) (p, m) = false) := by
  rcases key_cases q p z m with ⟨h, e1, e2⟩ | ⟨_, e1⟩ | ⟨_, e1, e2⟩
  · exact .inl ⟨of_decide_eq_true h, e1, e2⟩
  · cases hl : lessK (q, z) (p, m) with
    | true => exact .inr (.inl ⟨e1, rfl⟩)
    | false => exact .inr (.inr (.inr (.inl ⟨e1, rfl⟩)))
  · cases hl : lessK (q, z) (p, m) with
    | true => exact .inr (.inr (.inl ⟨e1, e2, rfl⟩))
    | false => exact .inr (.inr (.inr (.inr ⟨e1, e2, rfl⟩)))

set_option maxHeartbeats 16000000 in
theorem cursorParts_walk (v : Value) (l : List Pr) (a b c : Ky) (w : World) (hs : Prs w v l) (hk : l.length ≤ maxLen) (hti : TimesK l) (ha : a.1.length ≤ reachBytes) (hb : b.1.length ≤ reachBytes) (hc : c.1.length ≤ reachBytes) (hml : Ml w) :
    Calls Tryz.prog 5 #[v, KV a, KV b, KV c] w fun e w' => e = .returned (.bool true) ∧ Below w.heap.size w w' := by
  obtain ⟨ao, cap, rfl⟩ := hs.form
  obtain ⟨p, n⟩ := a
  obtain ⟨q, m⟩ := b
  obtain ⟨r, o⟩ := c
  dsimp only [KV]
  have hk' : l.length ≤ 9223372036854775807 := by unfold maxLen at hk; exact hk
  dsimp only at ha hb hc
  obtain ⟨wb, hwb⟩ : ∃ x, x = ((w.alloc (.cells #[.string ⟨p.toArray⟩, .int .i64 n] 39)).alloc (.cells #[.string ⟨q.toArray⟩, .int .i64 m] 39)).alloc (.cells #[.string ⟨r.toArray⟩, .int .i64 o] 39) := ⟨_, rfl⟩
  have hB0 := below_alloc3 w (.cells #[.string ⟨p.toArray⟩, .int .i64 n] 39) (.cells #[.string ⟨q.toArray⟩, .int .i64 m] 39) (.cells #[.string ⟨r.toArray⟩, .int .i64 o] 39)
  have hka : KBox wb w.heap.size (p, n) := by
    rw [hwb]
    exact (kbox_new w p n).below (below_alloc2 _ _ _)
  have hkb : KBox wb (w.heap.size + 1) (q, m) := by
    have h := kbox_new (w.alloc (.cells #[.string ⟨p.toArray⟩, .int .i64 n] 39)) q m
    rw [World.size_alloc] at h
    rw [hwb]
    exact h.below (below_alloc _ _)
  have hkc : KBox wb (w.heap.size + 1 + 1) (r, o) := by
    have h := kbox_new ((w.alloc (.cells #[.string ⟨p.toArray⟩, .int .i64 n] 39)).alloc (.cells #[.string ⟨q.toArray⟩, .int .i64 m] 39)) r o
    simp only [World.size_alloc] at h
    rw [hwb]
    exact h
  rw [← hwb] at hB0
  have CB : Calls Tryz.prog 6 #[.slice ao l.length cap, .string ⟨#[]⟩] wb fun e w' => e = .returned (.bool (cuFarB l [])) ∧ wb = w' := cuFar_calls _ l [] wb (hs.below hB0) hk' (by simp)
  have hw1 := hwb.symm
  have HS := Lib.hid (And.intro (hs.below hB0) (And.intro hka (And.intro hkb (And.intro hkc (And.intro hB0 (And.intro hti (hml.below hB0)))))))
  clear hk hk' hs hka hkb hkc hB0 hti hml hwb
  cases hf : cuFarB l [] with
  | true =>
    rw [hf] at CB
    have K := Lib.hid CB
    clear CB hf
    go_enter Tryz.func5, Tryz.ntmps5
    go_wp2_with fail
    refine K.out.mono ?_
    rintro e w1 ⟨rfl, rfl⟩
    go_wp2_with fail
    go_ret
    exact ⟨rfl, HS.out.2.2.2.2.1⟩
  | false =>
    rw [hf] at CB
    have K := Lib.hid CB
    obtain ⟨hg1, hg2, hg3, hg4⟩ := puts_good hf HS.out.2.2.2.2.2.1
    have hl8 := (cuFar_not hf).1
    obtain ⟨a0, a1, _⟩ := HS.out.2.1.two
    obtain ⟨b0, b1, _⟩ := HS.out.2.2.1.two
    obtain ⟨c0, c1, _⟩ := HS.out.2.2.2.1.two
    have hpq : (p.length : Int) + (q.length : Int) ≤ 9223372036854775807 := by unfold reachBytes at ha hb; omega
    have hpqr : (p.length : Int) + (q.length : Int) + (r.length : Int) ≤ 9223372036854775807 := by unfold reachBytes at ha hb hc; omega
    clear CB
    by_cases hfar : 600 < p.length + q.length + r.length
    · have hfi : decide ((600 : Int) < (p.length : Int) + (q.length : Int) + (r.length : Int)) = true := by rw [decide_eq_true_eq]; omega
      go_enter Tryz.func5, Tryz.ntmps5
      go_wp2_with fail
      refine K.out.mono ?_
      rintro e w1 ⟨rfl, rfl⟩
      go_wp2_with fail
      go_ret
      exact ⟨rfl, HS.out.2.2.2.2.1⟩
    · have hfi : decide ((600 : Int) < (p.length : Int) + (q.length : Int) + (r.length : Int)) = false := by rw [decide_eq_false_iff_not]; omega
      have KL := Lib.hid (laidT_calls _ l wb HS.out.1 (by omega))
      have HPT := Lib.hid (fun h1 h2 => range_parts (puts_all l [] List.Pairwise.nil).1 (a := (p, n)) (b := (q, m)) (c := (r, o)) (not_ahead h1) (not_ahead h2))
      obtain ⟨L, hL⟩ : ∃ L, putsL l = L := ⟨_, rfl⟩
      have HPT : Hid (((p, n) : Ky) = (q, m) ∨ lessK (p, n) (q, m) = true → ((q, m) : Ky) = (r, o) ∨ lessK (q, m) (r, o) = true → rangeL (putsL l) (p, n) (q, m) ++ rangeL (putsL l) (q, m) (r, o) = rangeL (putsL l) (p, n) (r, o)) := HPT
      rw [hL] at KL hg1 hg2 hg3 HPT
      have KG := Lib.hid (fun (x y : Ky) v W (ht : TreeV W v L) => cRange_calls v L x y W ht hg1 hg2 hg3)
      have HLE := Lib.hid (And.intro (fun x y => rangeL_le L x y) hg2)
      have KI := Lib.hid (fun v a b W h => cuIs_calls v a b W h)
      have KS := Lib.hid (fun va vb X W (h1 : Prs W va X) (h2 : Prs W vb X) (hx : X.length ≤ 1000) => cuSame_calls va vb X W h1 h2 (by omega))
      have KW := Lib.hid (fun W (h : Ml W) => walked_calls W h)
      clear hL hg1 hg2 hg3 hg4 hf hl8
      go_enter Tryz.func5, Tryz.ntmps5
      go_wp2_with fail
      refine K.out.mono ?_
      rintro e w1 ⟨rfl, rfl⟩
      go_wp2_with fail
      refine KL.out.mono ?_
      rintro e w2 ⟨t, rfl, ht, hB2⟩
      obtain ⟨tp, rfl⟩ := ht.val
      have H2 := Lib.hid (And.intro ht (And.intro (HS.out.2.2.2.2.2.2.below hB2) (below2 HS.out.2.2.2.2.1 hB2)))
      have hka := HS.out.2.1.below hB2
      have hkb := HS.out.2.2.1.below hB2
      have hkc := HS.out.2.2.2.1.below hB2
      have HK := Lib.hid (fun W (hB : Below w2.heap.size w2 W) => And.intro (hka.below hB) (And.intro (hkb.below hB) (hkc.below hB)))
      have K3 := Lib.hid (KG.out (p, n) (q, m) _ _ ht)
      obtain ⟨x0, x1, _⟩ := hka.two
      obtain ⟨y0, y1, _⟩ := hkb.two
      clear ht hB2 hka hkb hkc a0 a1 b0 b1 c0 c1
      go_wp2_with fail
      refine K3.out.mono ?_
      rintro e w3 ⟨a3, n3, c3, rfl, ho3, hB3⟩
      have H3 := Lib.hid (And.intro ho3.prs hB3)
      have K4 := Lib.hid (KG.out (q, m) (r, o) _ _ (H2.out.1.below hB3))
      have h3 := HK.out w3 hB3
      obtain ⟨y0, y1, _⟩ := h3.2.1.two
      obtain ⟨z0, z1, _⟩ := h3.2.2.two
      clear ho3 hB3 K3 h3
      go_wp2_with fail
      refine K4.out.mono ?_
      rintro e w4 ⟨a4, n4, c4, rfl, ho4, hB4⟩
      have H4 := Lib.hid (And.intro ho4.prs (And.intro hB4 (below2 H3.out.2 hB4)))
      have K5 := Lib.hid (KG.out (p, n) (r, o) _ _ (H2.out.1.below H4.out.2.2))
      have h4 := HK.out w4 H4.out.2.2
      obtain ⟨x0, x1, _⟩ := h4.1.two
      obtain ⟨z0, z1, _⟩ := h4.2.2.two
      clear ho4 hB4 K4 h4
      go_wp2_with fail
      refine K5.out.mono ?_
      rintro e w5 ⟨a5, n5, c5, rfl, ho5, hB5⟩
      have H5 := Lib.hid (And.intro ho5.prs (And.intro hB5 (below2 H4.out.2.2 hB5)))
      have h5 := HK.out w5 H5.out.2.2
      obtain ⟨x0, x1, _⟩ := h5.1.two
      obtain ⟨y0, y1, _⟩ := h5.2.1.two
      obtain ⟨z0, z1, _⟩ := h5.2.2.two
      clear ho5 hB5 K5 h5
      go_upto_region 9 with (fail)
      have H6 := Lib.hid (And.intro (prs_lit w5 [((p, n), []), ((q, m), [])] 43) (prs_lit (w5.alloc (.cells (pcells [((p, n), []), ((q, m), [])]).toArray 43)) [((q, m), []), ((r, o), [])] 43))
      have hB6 := below_alloc2 w5 (.cells (pcells [((p, n), []), ((q, m), [])]).toArray 43) (.cells (pcells [((q, m), []), ((r, o), [])]).toArray 43)
      obtain ⟨w6, hw6⟩ : ∃ x, (w5.alloc (.cells (pcells [((p, n), []), ((q, m), [])]).toArray 43)).alloc (.cells (pcells [((q, m), []), ((r, o), [])]).toArray 43) = x := ⟨_, rfl⟩
      have hr1 : Prs w6 (.slice (some ⟨w5.heap.size, 0, none⟩) 2 2) [((p, n), []), ((q, m), [])] := hw6 ▸ H6.out.1.below (below_alloc _ _)
      have hr2 : Prs w6 (.slice (some ⟨w5.heap.size + 1, 0, none⟩) 2 2) [((q, m), []), ((r, o), [])] := by
        have h := H6.out.2
        rw [World.size_alloc, hw6] at h
        exact h
      rw [hw6] at hB6
      have h6 := HK.out w6 (below2 H5.out.2.2 hB6)
      obtain ⟨x0, x1, _⟩ := h6.1.two
      obtain ⟨y0, y1, _⟩ := h6.2.1.two
      obtain ⟨z0, z1, _⟩ := h6.2.2.two
      have HR := Lib.hid (And.intro hr1 (And.intro hr2 hB6))
      change (w5.alloc (.cells #[.string ⟨p.toArray⟩, .int .i64 n, .string ⟨#[]⟩, .string ⟨q.toArray⟩, .int .i64 m, .string ⟨#[]⟩] 43)).alloc (.cells #[.string ⟨q.toArray⟩, .int .i64 m, .string ⟨#[]⟩, .string ⟨r.toArray⟩, .int .i64 o, .string ⟨#[]⟩] 43) = w6 at hw6
      rw [hw6]
      clear hw6 H6 hr1 hr2 hB6 h6
      go_cut [73] (fun t wr => ∃ bb : Bool, t = .bool bb ∧ (bb = false → (((p, n) : Ky) = (q, m) ∨ lessK (p, n) (q, m) = true) ∧ (((q, m) : Ky) = (r, o) ∨ lessK (q, m) (r, o) = true)) ∧ Below w6.heap.size w6 wr)
      case first =>
        have KI1 := Lib.hid (KI.out _ (p, n) (q, m) w6 HR.out.1)
        have KI2 := Lib.hid (fun W (hB : Below w6.heap.size w6 W) => KI.out _ (q, m) (r, o) W (HR.out.2.1.below hB))
        have HK6 := Lib.hid (fun W (hB : Below w6.heap.size w6 W) => HK.out W (below2 H5.out.2.2 (below2 HR.out.2.2 hB)))
        rcases key_ways p q n m with ⟨h1, e1, e2⟩ | ⟨e1, h1⟩ | ⟨e1, e2, h1⟩ | ⟨e1, h1⟩ | ⟨e1, e2, h1⟩
        · have G0 := Lib.hid h1
          clear h1
          rcases key_ways q r m o with ⟨g1, f1, f2⟩ | ⟨f1, g1⟩ | ⟨f1, f2, g1⟩ | ⟨f1, g1⟩ | ⟨f1, f2, g1⟩
          · have G1 := Lib.hid g1
            clear g1
            go_wp2_with fail
            have hBq := Below.refl w6.heap.size w6
            go_meet
            case rel =>
              exact ⟨false, rfl, fun _ => ⟨.inl G0.out, .inl G1.out⟩, hBq⟩
          · have G1 := Lib.hid g1
            have KI4 := Lib.hid (fun W (hB : Below w6.heap.size w6 W) => g1 ▸ KI2.out W hB)
            clear g1
            go_wp2_with fail
            have hBq := Below.refl w6.heap.size w6
            refine (KI4.out _ hBq).mono ?_
            rintro e w8 ⟨rfl, hB8⟩
            have hBq := below2 hBq hB8
            go_wp2_with fail
            go_meet
            case rel =>
              exact ⟨false, rfl, fun _ => ⟨.inl G0.out, .inr G1.out⟩, hBq⟩
          · have G1 := Lib.hid g1
            have KI4 := Lib.hid (fun W (hB : Below w6.heap.size w6 W) => g1 ▸ KI2.out W hB)
            clear g1
            go_wp2_with fail
            have hBq := Below.refl w6.heap.size w6
            refine (KI4.out _ hBq).mono ?_
            rintro e w8 ⟨rfl, hB8⟩
            have hBq := below2 hBq hB8
            go_wp2_with fail
            go_meet
            case rel =>
              exact ⟨false, rfl, fun _ => ⟨.inl G0.out, .inr G1.out⟩, hBq⟩
          · have KI4 := Lib.hid (fun W (hB : Below w6.heap.size w6 W) => g1 ▸ KI2.out W hB)
            clear g1
            go_wp2_with fail
            have hBq := Below.refl w6.heap.size w6
            refine (KI4.out _ hBq).mono ?_
            rintro e w8 ⟨rfl, hB8⟩
            have hBq := below2 hBq hB8
            go_wp2_with fail
            go_meet
            case rel =>
              exact ⟨true, rfl, fun hb => (by cases hb), hBq⟩
          · have KI4 := Lib.hid (fun W (hB : Below w6.heap.size w6 W) => g1 ▸ KI2.out W hB)
            clear g1
            go_wp2_with fail
            have hBq := Below.refl w6.heap.size w6
            refine (KI4.out _ hBq).mono ?_
            rintro e w8 ⟨rfl, hB8⟩
            have hBq := below2 hBq hB8
            go_wp2_with fail
            go_meet
            case rel =>
              exact ⟨true, rfl, fun hb => (by cases hb), hBq⟩
        · have G0 := Lib.hid h1
          have KI3 := Lib.hid (h1 ▸ KI1.out)
          clear h1
          rcases key_ways q r m o with ⟨g1, f1, f2⟩ | ⟨f1, g1⟩ | ⟨f1, f2, g1⟩ | ⟨f1, g1⟩ | ⟨f1, f2, g1⟩
          · have G1 := Lib.hid g1
            clear g1
            go_wp2_with fail
            refine KI3.out.mono ?_
            rintro e w7 ⟨rfl, hBq⟩
            have h7 := HK6.out w7 hBq
            obtain ⟨y0, y1, _⟩ := h7.2.1.two
            obtain ⟨z0, z1, _⟩ := h7.2.2.two
            clear h7
            go_wp2_with fail
            go_meet
            case rel =>
              exact ⟨false, rfl, fun _ => ⟨.inr G0.out, .inl G1.out⟩, hBq⟩
          · have G1 := Lib.hid g1
            have KI4 := Lib.hid (fun W (hB : Below w6.heap.size w6 W) => g1 ▸ KI2.out W hB)
            clear g1
            go_wp2_with fail
            refine KI3.out.mono ?_
            rintro e w7 ⟨rfl, hBq⟩
            have h7 := HK6.out w7 hBq
            obtain ⟨y0, y1, _⟩ := h7.2.1.two
            obtain ⟨z0, z1, _⟩ := h7.2.2.two
            clear h7
            go_wp2_with fail
            refine (KI4.out _ hBq).mono ?_
            rintro e w8 ⟨rfl, hB8⟩
            have hBq := below2 hBq hB8
            go_wp2_with fail
            go_meet
            case rel =>
              exact ⟨false, rfl, fun _ => ⟨.inr G0.out, .inr G1.out⟩, hBq⟩
          · have G1 := Lib.hid g1
            have KI4 := Lib.hid (fun W (hB : Below w6.heap.size w6 W) => g1 ▸ KI2.out W hB)
            clear g1
            go_wp2_with fail
            refine KI3.out.mono ?_
            rintro e w7 ⟨rfl, hBq⟩
            have h7 := HK6.out w7 hBq
            obtain ⟨y0, y1, _⟩ := h7.2.1.two
            obtain ⟨z0, z1, _⟩ := h7.2.2.two
            clear h7
            go_wp2_with fail
            refine (KI4.out _ hBq).mono ?_
            rintro e w8 ⟨rfl, hB8⟩
            have hBq := below2 hBq hB8
            go_wp2_with fail
            go_meet
            case rel =>
              exact ⟨false, rfl, fun _ => ⟨.inr G0.out, .inr G1.out⟩, hBq⟩
          · have KI4 := Lib.hid (fun W (hB : Below w6.heap.size w6 W) => g1 ▸ KI2.out W hB)
            clear g1
            go_wp2_with fail
            refine KI3.out.mono ?_
            rintro e w7 ⟨rfl, hBq⟩
            have h7 := HK6.out w7 hBq
            obtain ⟨y0, y1, _⟩ := h7.2.1.two
            obtain ⟨z0, z1, _⟩ := h7.2.2.two
            clear h7
            go_wp2_with fail
            refine (KI4.out _ hBq).mono ?_
            rintro e w8 ⟨rfl, hB8⟩
            have hBq := below2 hBq hB8
            go_wp2_with fail
            go_meet
            case rel =>
              exact ⟨true, rfl, fun hb => (by cases hb), hBq⟩
          · have KI4 := Lib.hid (fun W (hB : Below w6.heap.size w6 W) => g1 ▸ KI2.out W hB)
            clear g1
            go_wp2_with fail
            refine KI3.out.mono ?_
            rintro e w7 ⟨rfl, hBq⟩
            have h7 := HK6.out w7 hBq
            obtain ⟨y0, y1, _⟩ := h7.2.1.two
            obtain ⟨z0, z1, _⟩ := h7.2.2.two
            clear h7
            go_wp2_with fail
            refine (KI4.out _ hBq).mono ?_
            rintro e w8 ⟨rfl, hB8⟩
            have hBq := below2 hBq hB8
            go_wp2_with fail
            go_meet
            case rel =>
              exact ⟨true, rfl, fun hb => (by cases hb), hBq⟩
        · have G0 := Lib.hid h1
          have KI3 := Lib.hid (h1 ▸ KI1.out)
          clear h1
          rcases key_ways q r m o with ⟨g1, f1, f2⟩ | ⟨f1, g1⟩ | ⟨f1, f2, g1⟩ | ⟨f1, g1⟩ | ⟨f1, f2, g1⟩
          · have G1 := Lib.hid g1
            clear g1
            go_wp2_with fail
            refine KI3.out.mono ?_
            rintro e w7 ⟨rfl, hBq⟩
            have h7 := HK6.out w7 hBq
            obtain ⟨y0, y1, _⟩ := h7.2.1.two
            obtain ⟨z0, z1, _⟩ := h7.2.2.two
            clear h7
            go_wp2_with fail
            go_meet
            case rel =>
              exact ⟨false, rfl, fun _ => ⟨.inr G0.out, .inl G1.out⟩, hBq⟩
          · have G1 := Lib.hid g1
            have KI4 := Lib.hid (fun W (hB : Below w6.heap.size w6 W) => g1 ▸ KI2.out W hB)
            clear g1
            go_wp2_with fail
            refine KI3.out.mono ?_
            rintro e w7 ⟨rfl, hBq⟩
            have h7 := HK6.out w7 hBq
            obtain ⟨y0, y1, _⟩ := h7.2.1.two
            obtain ⟨z0, z1, _⟩ := h7.2.2.two
            clear h7
            go_wp2_with fail
            refine (KI4.out _ hBq).mono ?_
            rintro e w8 ⟨rfl, hB8⟩
            have hBq := below2 hBq hB8
            go_wp2_with fail
            go_meet
            case rel =>
              exact ⟨false, rfl, fun _ => ⟨.inr G0.out, .inr G1.out⟩, hBq⟩
          · have G1 := Lib.hid g1
            have KI4 := Lib.hid (fun W (hB : Below w6.heap.size w6 W) => g1 ▸ KI2.out W hB)
            clear g1
            go_wp2_with fail
            refine KI3.out.mono ?_
            rintro e w7 ⟨rfl, hBq⟩
            have h7 := HK6.out w7 hBq
            obtain ⟨y0, y1, _⟩ := h7.2.1.two
            obtain ⟨z0, z1, _⟩ := h7.2.2.two
            clear h7
            go_wp2_with fail
            refine (KI4.out _ hBq).mono ?_
            rintro e w8 ⟨rfl, hB8⟩
            have hBq := below2 hBq hB8
            go_wp2_with fail
            go_meet
            case rel =>
              exact ⟨false, rfl, fun _ => ⟨.inr G0.out, .inr G1.out⟩, hBq⟩
          · have KI4 := Lib.hid (fun W (hB : Below w6.heap.size w6 W) => g1 ▸ KI2.out W hB)
            clear g1
            go_wp2_with fail
            refine KI3.out.mono ?_
            rintro e w7 ⟨rfl, hBq⟩
            have h7 := HK6.out w7 hBq
            obtain ⟨y0, y1, _⟩ := h7.2.1.two
            obtain ⟨z0, z1, _⟩ := h7.2.2.two
            clear h7
            go_wp2_with fail
            refine (KI4.out _ hBq).mono ?_
            rintro e w8 ⟨rfl, hB8⟩
            have hBq := below2 hBq hB8
            go_wp2_with fail
            go_meet
            case rel =>
              exact ⟨true, rfl, fun hb => (by cases hb), hBq⟩
          · have KI4 := Lib.hid (fun W (hB : Below w6.heap.size w6 W) => g1 ▸ KI2.out W hB)
            clear g1
            go_wp2_with fail
            refine KI3.out.mono ?_
            rintro e w7 ⟨rfl, hBq⟩
            have h7 := HK6.out w7 hBq
            obtain ⟨y0, y1, _⟩ := h7.2.1.two
            obtain ⟨z0, z1, _⟩ := h7.2.2.two
            clear h7
            go_wp2_with fail
            refine (KI4.out _ hBq).mono ?_
            rintro e w8 ⟨rfl, hB8⟩
            have hBq := below2 hBq hB8
            go_wp2_with fail
            go_meet
            case rel =>
              exact ⟨true, rfl, fun hb => (by cases hb), hBq⟩
        · have KI3 := Lib.hid (h1 ▸ KI1.out)
          clear h1
          go_wp2_with fail
          refine KI3.out.mono ?_
          rintro e w7 ⟨rfl, hBq⟩
          go_wp2_with fail
          go_meet
          case rel => exact ⟨true, rfl, fun hb => (by cases hb), hBq⟩
        · have KI3 := Lib.hid (h1 ▸ KI1.out)
          clear h1
          go_wp2_with fail
          refine KI3.out.mono ?_
          rintro e w7 ⟨rfl, hBq⟩
          go_wp2_with fail
          go_meet
          case rel => exact ⟨true, rfl, fun hb => (by cases hb), hBq⟩
      case rest =>
        obtain ⟨bb, rfl, hbb, hBq⟩ := hcut
        have H8 := Lib.hid (below2 H5.out.2.2 (below2 HR.out.2.2 hBq))
        have HX := Lib.hid (And.intro (H3.out.1.below (below2 H4.out.2.1 (below2 H5.out.2.1 (below2 HR.out.2.2 hBq)))) (And.intro (H4.out.1.below (below2 H5.out.2.1 (below2 HR.out.2.2 hBq))) (H5.out.1.below (below2 HR.out.2.2 hBq))))
        have HBB := Lib.hid hbb
        clear hbb hBq
        cases bb with
        | true =>
          go_wp2_with fail
          refine (KW.out _ (H2.out.2.1.below H8.out)).mono ?_
          rintro e w9 ⟨rfl, hB9⟩
          go_wp2_with fail
          go_ret
          exact ⟨rfl, below2 H2.out.2.2 (below2 H8.out hB9)⟩
        | false =>
          obtain ⟨X, hX⟩ : ∃ X, rangeL L (p, n) (q, m) = X := ⟨_, rfl⟩
          obtain ⟨Y, hY⟩ : ∃ Y, rangeL L (q, m) (r, o) = Y := ⟨_, rfl⟩
          obtain ⟨Z, hZ⟩ : ∃ Z, rangeL L (p, n) (r, o) = Z := ⟨_, rfl⟩
          have hXYZ := HPT.out (HBB.out rfl).1 (HBB.out rfl).2
          have hx1 := HLE.out.1 (p, n) (q, m)
          have hy1 := HLE.out.1 (q, m) (r, o)
          have hz1 := HLE.out.1 (p, n) (r, o)
          have hl1 := HLE.out.2
          rw [hX, hY, hZ] at hXYZ
          rw [hX] at hx1
          rw [hY] at hy1
          rw [hZ] at hz1
          rw [hX, hY, hZ] at HX
          have hXYl : (X ++ Y).length = X.length + Y.length := List.length_append
          have HXY := Lib.hid (And.intro hXYZ hXYl)
          clear hX hY hZ hXYZ hXYl
          rename World => w8
          have hB8 := Below.refl w8.heap.size w8
          go_wp2_with (at_builtin; first
            | (refine wpList_append_prs rfl _ _ rfl w8.heap.size (.slice none 0 0) [] rfl (OwnP.nil _ _) _ _ _ X rfl HX.out.1 X rfl X.length rfl (by omega) w8 hB8 (Nat.le_refl _) ?_; intro b1 d1 w9 ho9 hB9)
            | (refine wpList_append_prs rfl _ _ rfl w8.heap.size _ X rfl ho9 _ _ _ Y rfl (HX.out.2.1.below hB9) (X ++ Y) rfl (X.length + Y.length) HXY.out.2 (by omega) w8 hB9 (Nat.le_refl _) ?_; intro b2 d2 w10 ho10 hB10))
          have H10 := Lib.hid (And.intro (HXY.out.1 ▸ ho10.prs : Prs w10 (.slice b2 (X.length + Y.length) d2) Z) (And.intro (HX.out.2.2.below hB10) (below2 H8.out hB10)))
          clear ho9 hB9 ho10 hB10 hB8
          refine (KW.out _ (H2.out.2.1.below H10.out.2.2)).mono ?_
          rintro e w11 ⟨rfl, hB11⟩
          go_wp2_with fail
          refine (KS.out _ _ Z _ (H10.out.1.below hB11) (H10.out.2.1.below hB11) (by omega)).mono ?_
          rintro e w12 ⟨rfl, hB12⟩
          go_wp2_with fail
          go_ret
          exact ⟨rfl, below2 H2.out.2.2 (below2 H10.out.2.2 (below2 hB11 hB12))⟩

end Go.Proofs.YthngeponcdeneaaGreatDoor
