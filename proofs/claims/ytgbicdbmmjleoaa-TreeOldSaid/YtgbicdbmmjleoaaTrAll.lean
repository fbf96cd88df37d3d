/-
  tree: All.
-/
import Derived.Test.YtgbicdbmmjleoaaTrFrom
namespace Go.Proofs.Ytgbicdbmmjleoaa
open Go.RowKit

/-- Times are numbers of the program's. -/
def Timed (l : List Pr) : Prop := ∀ x ∈ l, x.1.2 ≤ 9223372036854775807
theorem less_first {k : Ky} (h : k.2 ≤ 9223372036854775807) : lessK k ([], 9223372036854775807) = false := by
  unfold lessK cmpK
  rw [decide_eq_false_iff_not]
  obtain ⟨p, m⟩ := k
  dsimp only at h ⊢
  split
  · unfold Lib.compareInt
    repeat' split
    all_goals omega
  · cases p with
    | nil => simp [Lib.compareBytes]
    | cons x r => simp [Lib.compareBytes]
theorem tail_first {l : List Pr} (h : Timed l) : tailL l ([], 9223372036854775807) = l := by
  unfold tailL
  rw [placeN_zero fun x hx => less_first (h x hx)]
  rfl

set_option maxHeartbeats 4000000 in
set_option maxRecDepth 100000 in
theorem all_calls (v : Value) (l : List Pr) (w : World) (ht : TreeV w v l) (hm : l.length ≤ 100000) (hti : Timed l) :
    Calls Try.prog 17 #[v] w fun e w' => ∃ u, e = .returned u ∧ OwnP w' w.heap.size u l ∧ Below w.heap.size w w' := by
  have hB0 := below_alloc w (.cells #[.string ⟨#[]⟩, .int .i64 9223372036854775807] 24)
  have hkb : KBox (w.alloc (.cells #[.string ⟨#[]⟩, .int .i64 9223372036854775807] 24)) w.heap.size ([], 9223372036854775807) := kbox_new w [] 9223372036854775807
  obtain ⟨k0, k1, _⟩ := hkb.two
  obtain ⟨T, x, d, k, hv, hT⟩ := top_fixed ht
  have KT := Lib.hid hT
  have KN := Lib.hid (fun W (hB : Below w.heap.size w W) => len_calls v l W (ht.below hB))
  obtain ⟨t, htl⟩ : ∃ t, l.length = t := ⟨_, rfl⟩
  have HF := Lib.hid (show (tailL l ([], 9223372036854775807)).take (t - 0) = l by rw [tail_first hti, Nat.sub_zero, ← htl, List.take_length])
  have KG := Lib.hid (fun W a (hB : Below w.heap.size w W) (ha : OwnP W w.heap.size a []) => gather_calls [] 9223372036854775807 t (by omega) d _ a l [] k w W hv ht.1 hB ha (Nat.zero_le _) hm)
  rw [htl] at KN hm
  have hMK := make_pairs t (by omega)
  have HM := Lib.hid (fun W => made_own W t (by omega))
  have HS : Hid (∀ W, KBox W w.heap.size ([], 9223372036854775807) → W.cell? ⟨w.heap.size, 0, none⟩ = some (.string ⟨#[]⟩) ∧ W.cell? ⟨w.heap.size, 1, none⟩ = some (.int .i64 9223372036854775807)) :=
    Lib.hid (fun W hk => ⟨hk.two.1, hk.two.2.1⟩)
  have hbr : Below w.heap.size w (w.alloc (.cells #[.string ⟨#[]⟩, .int .i64 9223372036854775807] 24)).drew := hB0.drew
  have hkr : KBox (w.alloc (.cells #[.string ⟨#[]⟩, .int .i64 9223372036854775807] 24)).drew w.heap.size ([], 9223372036854775807) := hkb.below (drew_below _)
  have hW1 : Below w.heap.size w ((w.alloc (.cells #[.string ⟨#[]⟩, .int .i64 9223372036854775807] 24)).alloc (.cells (madeCells #[.string ⟨#[]⟩, .int .i64 0, .string ⟨#[]⟩] (t * 3)) 31)).drew := (hB0.alloc hB0.size _).drew
  have hkW : KBox ((w.alloc (.cells #[.string ⟨#[]⟩, .int .i64 9223372036854775807] 24)).alloc (.cells (madeCells #[.string ⟨#[]⟩, .int .i64 0, .string ⟨#[]⟩] (t * 3)) 31)).drew w.heap.size ([], 9223372036854775807) := hkb.below ((below_alloc _ _).drew)
  have hoW : Hid (OwnP ((w.alloc (.cells #[.string ⟨#[]⟩, .int .i64 9223372036854775807] 24)).alloc (.cells (madeCells #[.string ⟨#[]⟩, .int .i64 0, .string ⟨#[]⟩] (t * 3)) 31)).drew w.heap.size (.slice (some ⟨w.heap.size + 1, 0, none⟩) 0 t) []) := by
    have h := HM.out (w.alloc (.cells #[.string ⟨#[]⟩, .int .i64 9223372036854775807] 24))
    rw [World.size_alloc] at h
    exact Lib.hid ((h.weak (by omega)).stays (drew_below _))
  clear ht hkb k0 k1 hT hv htl
  go_enter Try.func17, Try.ntmps17
  go_wp2_with fail
  go_region_held3 (fun w' => w'.cell? ⟨w.heap.size, 0, none⟩ = some (.string ⟨#[]⟩) ∧ w'.cell? ⟨w.heap.size, 1, none⟩ = some (.int .i64 9223372036854775807)) (first | exact HS.out _ hkr | exact HS.out _ hkW) (first
    | ((with_reducible refine (KT.out _ (by first | exact hbr | exact hW1)).mono ?_); rintro e w1 ⟨rfl, rfl⟩)
    | ((with_reducible refine (KN.out _ (by first | exact hbr | exact hW1)).mono ?_); rintro e w2 ⟨rfl, rfl⟩)
    | ((with_reducible refine (KG.out _ _ hW1 hoW.out).mono ?_); rintro e w3 ⟨u3, rfl, ho3, hB3, hk3⟩; have hbr := hB3; have hkr := hkW.keep hk3; have HO := Lib.hid ho3; clear ho3; obtain ⟨a3, n3, c3, rfl⟩ := HO.out.prs.any))
  all_goals
    go_wp2_with fail
    go_ret
    refine ⟨_, rfl, ?_, hbr⟩
    have h := HO.out
    rw [List.nil_append, List.length_nil, HF.out] at h
    exact h

end Go.Proofs.Ytgbicdbmmjleoaa
