/-
  The document's own numbers: all that a text's bytes are.
-/
import Derived.Test.YtijhbnkfkjfcfaaMeAllN
import Derived.Test.YtijhbnkfkjfcfaaMeRets
import Derived.Test.YtijhbnkfkjfcfaaRefGN
namespace Go.Proofs.Ytijhbnkfkjfcfaa
set_option maxRecDepth 100000
open Go.RowKit

def strLen : Value → Nat
  | .string s => s.size
  | _ => 0
/-- What numbers answers. -/
def NumsPost (w : World) (s : List UInt8) (e : Ending) (w' : World) : Prop :=
  Below w.heap.size w w' ∧ ((∃ ns v, s = numsB ns ∧ OkN ns ∧ e = .returned (.tuple #[v, .bool true]) ∧ OwnI w' w.heap.size v ns) ∨ ((∀ ns, OkN ns → s ≠ numsB ns) ∧ e = .returned (.tuple #[.slice none 0 0, .bool false])))

set_option maxHeartbeats 4000000 in
theorem rNums_calls (s : List UInt8) (hs : s.length ≤ 1000000) (w : World) :
    Calls Try.prog 27 #[.string ⟨s.toArray⟩] w (NumsPost w s) := by
  obtain ⟨i0, hi, hz0, hz1, hz2⟩ := info_parts int_info
  go_enter Try.func27, Try.ntmps27
  go_wp2_with fail
  go_loopw [0, 4] (fun x l wr => ∃ (ns : List Int) (r : List UInt8), x = .string ⟨r.toArray⟩ ∧ s = numsB ns ++ r ∧ OkN ns ∧ OwnI wr w.heap.size l ns ∧ Below w.heap.size w wr) (fun x _ _ => strLen x)
  case atStart => exact ⟨[], s, rfl, rfl, okN_nil, World.ownsRow_nil _ _ _ _, Below.refl _ _⟩
  case round =>
    obtain ⟨ns, r, rfl, hsr, hok, hown, hB⟩ := hrel
    have hc := nums_count ns
    have hlen := congrArg List.length hsr
    rw [List.length_append] at hlen
    by_cases h0 : r = []
    · subst h0
      have hd : decide ((0 : Int) < ((([] : List UInt8).length : Nat) : Int)) = false := rfl
      go_wp2_with fail
      go_ret2
      exact ⟨hB, .inl ⟨ns, _, by simpa using hsr, hok, rfl, hown⟩⟩
    · have hpos : 0 < r.length := List.length_pos_iff.2 h0
      have hd : decide ((0 : Int) < (r.length : Int)) = true := by rw [decide_eq_true_eq]; omega
      cases hg : getN r with
      | none =>
        have HG := Lib.hid hg
        have HN := Lib.hid (nums_stop hok h0 hg)
        have HS := Lib.hid hsr
        clear hg hsr
        go_wp2_with fail
        refine (refGetNumber_none r (by omega) HG.out _).mono ?_
        rintro e w1 ⟨rfl, hB1⟩
        go_wp2_with fail
        go_ret2
        exact ⟨below2 hB hB1, .inr ⟨fun l hl => by rw [HS.out]; exact HN.out l hl, rfl⟩⟩
      | some x =>
        obtain ⟨n, r'⟩ := x
        obtain ⟨e1, e2⟩ := getN_laid hg
        have hl1 := numB_length n
        have hl2 := congrArg List.length e1
        rw [List.length_append] at hl2
        have HG := Lib.hid hg
        have HS := Lib.hid (show s = numsB (ns ++ [(n : Int)]) ++ r' by rw [numsB_snoc, Int.toNat_natCast, List.append_assoc, ← e1]; exact hsr)
        have HK := Lib.hid (okN_snoc hok e2)
        have hmx : ns.length + 1 ≤ maxLen := by unfold maxLen; omega
        have hby : (ns.length + 1) * 8 ≤ 140737488355328 := by omega
        clear hg hsr e1
        go_wp2_with fail
        refine (refGetNumber_some r (by omega) HG.out _).mono ?_
        rintro e w1 ⟨rfl, hB1⟩
        have hown1 := own_stays hown hB1
        have hz := (below2 hB hB1).size
        have hzz : w.heap.size ≤ (w1.alloc (.cells #[.int .i64 n] 3)).heap.size := by rw [World.size_alloc]; omega
        go_wp2_with (at_builtin; (with_reducible show wpList _ _ _ _ _ _); refine wpList_append_own _ rfl _ _ 22 rfl w.heap.size 3 i0 (.int .i64 0) 1 8 Try.underlying22 hi hz0 hz1 hz2 rfl Nat.one_pos _ ns.length _ rfl (hown1.alloc _) ⟨w1.heap.size, 0, none⟩ 1 1 [.int .i64 n] rfl rfl (news_new w1 _ _) (one_int n) hmx hby hzz ?_)
        intro v2 w2 ho2 hg2 _
        have ho3 : OwnI w2 w.heap.size v2 (ns ++ [(n : Int)]) := by
          have e1 : (ns ++ [(n : Int)]).length = ns.length + 1 := by simp
          have e2 : (ns ++ [(n : Int)]).map (Value.int .i64) = ns.map (Value.int .i64) ++ [.int .i64 n] := by simp
          rw [OwnI, e1, e2]
          exact ho2
        have hB2 := below2 hB hB1
        have hB3 := (hB2.alloc hB2.size (.cells #[.int .i64 n] 3)).grown hg2 hzz (fun k hk => (hown1.lt k hk).1)
        go_wp2_with fail
        go_roundw
        case rel => exact ⟨ns ++ [(n : Int)], r', rfl, HS.out, HK.out, ho3, hB3⟩
        case measure => simp [strLen, size_mk]; omega

end Go.Proofs.Ytijhbnkfkjfcfaa
