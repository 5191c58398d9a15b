/- The texts W7, W2, one behind the other. -/
import Derived.Test.YtabpiaaknjcnkaaGreatW6
import Derived.Test.YtabpiaaknjcnkaaGreatXW1W3W4
import Derived.Deep.QuietTactic
import Derived.BigQuiet
import Derived.RegionTactic
import Derived.Deep.RegionWith
import Derived.LoopTactic
/-
  The walks over delta.Diff and coffer.Diff.
-/
namespace Go.Proofs.YtabpiaaknjcnkaaGreat
open Go.RowKit
set_option linter.unusedVariables false
set_option linter.unusedSimpArgs false
set_option maxRecDepth 100000

def diffF (base next : ByteArray) : List DOp := if 200 < (descF base next).length then addT next else descF base next

theorem OwnOps.slice {w : World} {b : Nat} {v : Value} {xs : List DOp} (h : OwnOps w b v xs) : ∃ ao cap, v = .slice ao xs.length cap := by
  rcases h.2 with ⟨rfl, h0⟩ | ⟨g, cap, cur, rfl, _⟩
  · rw [h0]; exact ⟨none, 0, rfl⟩
  · exact ⟨_, _, rfl⟩

set_option maxHeartbeats 1000000 in
theorem diff_ok (base next : ByteArray) (w : World) (hs : base.size ≤ 2000) (hn : next.size ≤ 2000) :
    Calls Tryz.prog 93 #[.string base, .string next] w fun e w' => ∃ v', e = .returned (.tuple #[v', .int .i64 0]) ∧ OwnOps w' w.heap.size v' (diffF base next) ∧ Below w.heap.size w w' := by
  have hc1 : ¬ (2000 : Int) < base.size := by omega
  have hc2 : ¬ (2000 : Int) < next.size := by omega
  by_cases hl : 200 < (descF base next).length
  · have HE : Hid (diffF base next = addT next) := by show diffF base next = _; rw [diffF, if_pos hl]
    go_enter Tryz.func93, Tryz.ntmps93
    go_wp2_with fail
    refine (describe_any base next _ hs hn).mono ?_
    rintro e w1 ⟨v1, rfl, hown, hb⟩
    obtain ⟨ao, cap, hv⟩ := hown.slice
    rw [hv]
    clear hown hv
    have hsz := hb.size
    go_wp2_with fail
    refine (addText_any (.slice none 0 0) [] next w.heap.size _ (OwnOps.nil _ _) hsz (by simp) (by omega)).mono ?_
    rintro e w2 ⟨v2, rfl, hown2, hb2⟩
    have R1 : OwnOps w2 w.heap.size v2 (diffF base next) := by rw [HE.out]; exact hown2
    have R2 : Below w.heap.size w w2 := hb.trans hb2
    clear hown2 HE hb hb2
    go_wp2
    go_ret2
    exact ⟨v2, rfl, R1, R2⟩
  · have HE : Hid (diffF base next = descF base next) := by show diffF base next = _; rw [diffF, if_neg hl]
    have hl2 : ¬ (200 : Int) < (descF base next).length := by omega
    go_enter Tryz.func93, Tryz.ntmps93
    go_wp2_with fail
    refine (describe_any base next _ hs hn).mono ?_
    rintro e w1 ⟨v1, rfl, hown, hb⟩
    have R1 : OwnOps w1 w.heap.size v1 (diffF base next) := by rw [HE.out]; exact hown
    obtain ⟨ao, cap, hv⟩ := hown.slice
    rw [hv] at R1 ⊢
    clear hown hv HE
    go_wp2
    go_ret2
    exact ⟨_, rfl, R1, hb⟩

set_option maxHeartbeats 1000000 in
theorem diff_long (base next : ByteArray) (w : World) (hs : base.size ≤ 9223372036854775807) (hn : next.size ≤ 9223372036854775807) (h : 2000 < base.size ∨ 2000 < next.size) :
    Calls Tryz.prog 93 #[.string base, .string next] w fun e w' => e = .returned (.tuple #[.slice none 0 0, .int .i64 1]) ∧ w' = w := by
  by_cases h1 : 2000 < base.size
  · go_enter Tryz.func93, Tryz.ntmps93
    go_wp2
    go_ret2
    exact ⟨rfl, rfl⟩
  · have h2 : 2000 < next.size := by omega
    clear h
    go_enter Tryz.func93, Tryz.ntmps93
    go_wp2
    go_ret2
    exact ⟨rfl, rfl⟩

set_option maxHeartbeats 1000000 in
theorem cdiff_ok (base next : ByteArray) (w : World) (hs : base.size ≤ 2000) (hn : next.size ≤ 2000) :
    Calls Tryz.prog 56 #[.string base, .string next] w fun e w' => ∃ v', e = .returned (.tuple #[v', .int .i64 0]) ∧ OwnOps w' w.heap.size v' (diffF base next) ∧ Below w.heap.size w w' := by
  go_enter Tryz.func56, Tryz.ntmps56
  go_wp2_with fail
  refine (diff_ok base next _ hs hn).mono ?_
  rintro e w1 ⟨v1, rfl, hown, hb⟩
  go_wp2
  go_ret2
  exact ⟨v1, rfl, hown, hb⟩

set_option maxHeartbeats 1000000 in
theorem cdiff_long (base next : ByteArray) (w : World) (hs : base.size ≤ 9223372036854775807) (hn : next.size ≤ 9223372036854775807) (h : 2000 < base.size ∨ 2000 < next.size) :
    Calls Tryz.prog 56 #[.string base, .string next] w fun e w' => e = .returned (.tuple #[.slice none 0 0, .int .i64 1]) ∧ w' = w := by
  go_enter Tryz.func56, Tryz.ntmps56
  go_wp2_with fail
  refine (diff_long base next _ hs hn h).mono ?_
  rintro e w1 ⟨rfl, rfl⟩
  go_wp2
  go_ret2
  exact ⟨rfl, rfl⟩
end Go.Proofs.YtabpiaaknjcnkaaGreat

/-
  The walks over isOp, mayFollow, stands, sameBytes.
-/
namespace Go.Proofs.YtabpiaaknjcnkaaGreat
open Go.RowKit
set_option linter.unusedVariables false
set_option linter.unusedSimpArgs false
set_option maxRecDepth 100000

set_option maxHeartbeats 1000000 in
theorem isOp_any (f l : Int) (t : ByteArray) (b : Int) (w : World) (hb0 : 0 ≤ b) (hb : b ≤ 100000) (hl : l ≤ 9223372036854775807) :
    Calls Tryz.prog 139 #[.agg #[.int .i64 f, .int .i64 l, .string t], .int .i64 b] w fun e w' => e = .returned (.bool (isOpB f l t b)) ∧ Below w.heap.size w w' := by
  by_cases h : 0 < l
  · by_cases h1 : 0 ≤ f
    · cases h2 : t.toList.isEmpty
      · go_enter Tryz.func139, Tryz.ntmps139
        go_wp2
        go_ret
        exact ⟨ret_bool (by simp only [isOpB, if_pos h, h1, h2]; simp), ((Below.refl _ _).alloc (Nat.le_refl _) _).alloc (by simp) _⟩
      · go_enter Tryz.func139, Tryz.ntmps139
        go_wp2
        go_ret
        exact ⟨ret_bool (by simp only [isOpB, if_pos h, h1, h2]; simp), ((Below.refl _ _).alloc (Nat.le_refl _) _).alloc (by simp) _⟩
    · go_enter Tryz.func139, Tryz.ntmps139
      go_wp2
      go_ret
      exact ⟨ret_bool (by simp only [isOpB, if_pos h]; simp; omega), ((Below.refl _ _).alloc (Nat.le_refl _) _).alloc (by simp) _⟩
  · cases h2 : t.toList.isEmpty
    · cases h3 : f == 0
      · go_enter Tryz.func139, Tryz.ntmps139
        go_wp2
        go_ret
        exact ⟨ret_bool (by rw [isOpB, if_neg (by omega), h2, h3]; simp), ((Below.refl _ _).alloc (Nat.le_refl _) _).alloc (by simp) _⟩
      · go_enter Tryz.func139, Tryz.ntmps139
        go_wp2
        go_ret
        exact ⟨ret_bool (by rw [isOpB, if_neg (by omega), h2, h3]; simp), ((Below.refl _ _).alloc (Nat.le_refl _) _).alloc (by simp) _⟩
    · go_enter Tryz.func139, Tryz.ntmps139
      go_wp2
      go_ret
      exact ⟨ret_bool (by rw [isOpB, if_neg (by omega), h2]; simp), ((Below.refl _ _).alloc (Nat.le_refl _) _).alloc (by simp) _⟩

theorem below4 (w : World) (a b c d : Obj) : Below w.heap.size w ((((w.alloc a).alloc b).alloc c).alloc d) :=
  ((((Below.refl _ _).alloc (Nat.le_refl _) _).alloc (by simp) _).alloc (by simp; omega) _).alloc (by simp; omega) _
theorem below5 (w : World) (a b c d f : Obj) : Below w.heap.size w (((((w.alloc a).alloc b).alloc c).alloc d).alloc f) :=
  (below4 w a b c d).alloc (by simp; omega) _

set_option maxHeartbeats 4000000 in
theorem mayFollow_any (f1 l1 f2 l2 : Int) (t1 t2 : ByteArray) (w : World) (h3 : 0 < l1 → 0 ≤ f1) (h4 : 0 < l1 → f1 + l1 ≤ 9223372036854775807) :
    Calls Tryz.prog 140 #[.agg #[.int .i64 f1, .int .i64 l1, .string t1], .agg #[.int .i64 f2, .int .i64 l2, .string t2]] w fun e w' => e = .returned (.bool (followB f1 l1 f2 l2)) ∧ Below w.heap.size w w' := by
  by_cases h1 : 0 < l1
  · have g3 := h3 h1
    have g4 := h4 h1
    clear h3 h4
    by_cases h2 : 0 < l2
    · go_enter Tryz.func140, Tryz.ntmps140
      go_wp2
      go_region_with (go_in)
      all_goals (go_wp2; go_ret; exact ⟨ret_bool (by simp [followB, h1, h2]), (below5 _ _ _ _ _ _).drew⟩)
    · have e2 : decide (0 < l2) = false := by simp; omega
      go_enter Tryz.func140, Tryz.ntmps140
      go_wp2
      go_region_with (go_in)
      all_goals (go_wp2; go_ret; exact ⟨ret_bool (by simp [followB, h1, e2]), (below4 _ _ _ _ _).drew⟩)
  · have e1 : decide (0 < l1) = false := by simp; omega
    clear h3 h4
    by_cases h2 : 0 < l2
    · go_enter Tryz.func140, Tryz.ntmps140
      go_wp2
      go_region_with (go_in)
      all_goals (go_wp2; go_ret; exact ⟨ret_bool (by simp [followB, e1, h2]), (below4 _ _ _ _ _).drew⟩)
    · have e2 : decide (0 < l2) = false := by simp; omega
      go_enter Tryz.func140, Tryz.ntmps140
      go_wp2
      go_region_with (go_in)
      all_goals (go_wp2; go_ret; exact ⟨ret_bool (by simp [followB, e1, e2]), (below5 _ _ _ _ _ _).drew⟩)

end Go.Proofs.YtabpiaaknjcnkaaGreat
