/-
  The walks over delta.Diff and coffer.Diff.
-/
import Derived.Test.YtabpiaaknjcnkaaW6
namespace Go.Proofs.Ytabpiaaknjcnkaa
open Go.RowKit
set_option linter.unusedVariables false
set_option linter.unusedSimpArgs false
set_option maxRecDepth 100000

def diffF (base next : ByteArray) : List DOp := if 200 < (descF base next).length then addT next else descF base next

theorem OwnOps.slice {w : World} {b : Nat} {v : Value} {xs : List DOp} (h : OwnOps w b v xs) : ∃ ao cap, v = .slice ao xs.length cap := by
  rcases h.2 with ⟨rfl, h0⟩ | ⟨g, cap, cur, rfl, _⟩
  · rw [h0]; exact ⟨none, 0, rfl⟩
  · exact ⟨_, _, rfl⟩

set_option maxHeartbeats 1000000 in
theorem diff_ok (base next : ByteArray) (w : World) (hs : base.size ≤ 2000) (hn : next.size ≤ 2000) :
    Calls Try.prog 29 #[.string base, .string next] w fun e w' => ∃ v', e = .returned (.tuple #[v', .int .i64 0]) ∧ OwnOps w' w.heap.size v' (diffF base next) ∧ Below w.heap.size w w' := by
  have hc1 : ¬ (2000 : Int) < base.size := by omega
  have hc2 : ¬ (2000 : Int) < next.size := by omega
  by_cases hl : 200 < (descF base next).length
  · have HE : Hid (diffF base next = addT next) := by show diffF base next = _; rw [diffF, if_pos hl]
    go_enter Try.func29, Try.ntmps29
    go_wp2_with fail
    refine (describe_any base next _ hs hn).mono ?_
    rintro e w1 ⟨v1, rfl, hown, hb⟩
    obtain ⟨ao, cap, hv⟩ := hown.slice
    rw [hv]
    clear hown hv
    have hsz := hb.size
    go_wp2_with fail
    refine (addText_any (.slice none 0 0) [] next w.heap.size _ (OwnOps.nil _ _) hsz (by simp) (by omega)).mono ?_
    rintro e w2 ⟨v2, rfl, hown2, hb2⟩
    have R1 : OwnOps w2 w.heap.size v2 (diffF base next) := by rw [HE.out]; exact hown2
    have R2 : Below w.heap.size w w2 := hb.trans hb2
    clear hown2 HE hb hb2
    go_wp2
    go_ret2
    exact ⟨v2, rfl, R1, R2⟩
  · have HE : Hid (diffF base next = descF base next) := by show diffF base next = _; rw [diffF, if_neg hl]
    have hl2 : ¬ (200 : Int) < (descF base next).length := by omega
    go_enter Try.func29, Try.ntmps29
    go_wp2_with fail
    refine (describe_any base next _ hs hn).mono ?_
    rintro e w1 ⟨v1, rfl, hown, hb⟩
    have R1 : OwnOps w1 w.heap.size v1 (diffF base next) := by rw [HE.out]; exact hown
    obtain ⟨ao, cap, hv⟩ := hown.slice
    rw [hv] at R1 ⊢
    clear hown hv HE
    go_wp2
    go_ret2
    exact ⟨_, rfl, R1, hb⟩

set_option maxHeartbeats 1000000 in
theorem diff_long (base next : ByteArray) (w : World) (hs : base.size ≤ 9223372036854775807) (hn : next.size ≤ 9223372036854775807) (h : 2000 < base.size ∨ 2000 < next.size) :
    Calls Try.prog 29 #[.string base, .string next] w fun e w' => e = .returned (.tuple #[.slice none 0 0, .int .i64 1]) ∧ w' = w := by
  by_cases h1 : 2000 < base.size
  · go_enter Try.func29, Try.ntmps29
    go_wp2
    go_ret2
    exact ⟨rfl, rfl⟩
  · have h2 : 2000 < next.size := by omega
    clear h
    go_enter Try.func29, Try.ntmps29
    go_wp2
    go_ret2
    exact ⟨rfl, rfl⟩

set_option maxHeartbeats 1000000 in
theorem cdiff_ok (base next : ByteArray) (w : World) (hs : base.size ≤ 2000) (hn : next.size ≤ 2000) :
    Calls Try.prog 11 #[.string base, .string next] w fun e w' => ∃ v', e = .returned (.tuple #[v', .int .i64 0]) ∧ OwnOps w' w.heap.size v' (diffF base next) ∧ Below w.heap.size w w' := by
  go_enter Try.func11, Try.ntmps11
  go_wp2_with fail
  refine (diff_ok base next _ hs hn).mono ?_
  rintro e w1 ⟨v1, rfl, hown, hb⟩
  go_wp2
  go_ret2
  exact ⟨v1, rfl, hown, hb⟩

set_option maxHeartbeats 1000000 in
theorem cdiff_long (base next : ByteArray) (w : World) (hs : base.size ≤ 9223372036854775807) (hn : next.size ≤ 9223372036854775807) (h : 2000 < base.size ∨ 2000 < next.size) :
    Calls Try.prog 11 #[.string base, .string next] w fun e w' => e = .returned (.tuple #[.slice none 0 0, .int .i64 1]) ∧ w' = w := by
  go_enter Try.func11, Try.ntmps11
  go_wp2_with fail
  refine (diff_long base next _ hs hn h).mono ?_
  rintro e w1 ⟨rfl, rfl⟩
  go_wp2
  go_ret2
  exact ⟨rfl, rfl⟩
end Go.Proofs.Ytabpiaaknjcnkaa
