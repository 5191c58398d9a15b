/-
  The walks over isOp, mayFollow, stands, sameBytes.
-/
import Derived.Test.YtabpiaaknjcnkaaXW1W3
import Derived.Deep.QuietTactic
import Derived.BigQuiet
import Derived.RegionTactic
import Derived.Deep.RegionWith
import Derived.LoopTactic
namespace Go.Proofs.Ytabpiaaknjcnkaa
open Go.RowKit
set_option linter.unusedVariables false
set_option linter.unusedSimpArgs false
set_option maxRecDepth 100000

set_option maxHeartbeats 1000000 in
theorem isOp_any (f l : Int) (t : ByteArray) (b : Int) (w : World) (hb0 : 0 ≤ b) (hb : b ≤ 100000) (hl : l ≤ 9223372036854775807) :
    Calls Try.prog 70 #[.agg #[.int .i64 f, .int .i64 l, .string t], .int .i64 b] w fun e w' => e = .returned (.bool (isOpB f l t b)) ∧ Below w.heap.size w w' := by
  by_cases h : 0 < l
  · by_cases h1 : 0 ≤ f
    · cases h2 : t.toList.isEmpty
      · go_enter Try.func70, Try.ntmps70
        go_wp2
        go_ret
        exact ⟨ret_bool (by simp only [isOpB, if_pos h, h1, h2]; simp), ((Below.refl _ _).alloc (Nat.le_refl _) _).alloc (by simp) _⟩
      · go_enter Try.func70, Try.ntmps70
        go_wp2
        go_ret
        exact ⟨ret_bool (by simp only [isOpB, if_pos h, h1, h2]; simp), ((Below.refl _ _).alloc (Nat.le_refl _) _).alloc (by simp) _⟩
    · go_enter Try.func70, Try.ntmps70
      go_wp2
      go_ret
      exact ⟨ret_bool (by simp only [isOpB, if_pos h]; simp; omega), ((Below.refl _ _).alloc (Nat.le_refl _) _).alloc (by simp) _⟩
  · cases h2 : t.toList.isEmpty
    · cases h3 : f == 0
      · go_enter Try.func70, Try.ntmps70
        go_wp2
        go_ret
        exact ⟨ret_bool (by rw [isOpB, if_neg (by omega), h2, h3]; simp), ((Below.refl _ _).alloc (Nat.le_refl _) _).alloc (by simp) _⟩
      · go_enter Try.func70, Try.ntmps70
        go_wp2
        go_ret
        exact ⟨ret_bool (by rw [isOpB, if_neg (by omega), h2, h3]; simp), ((Below.refl _ _).alloc (Nat.le_refl _) _).alloc (by simp) _⟩
    · go_enter Try.func70, Try.ntmps70
      go_wp2
      go_ret
      exact ⟨ret_bool (by rw [isOpB, if_neg (by omega), h2]; simp), ((Below.refl _ _).alloc (Nat.le_refl _) _).alloc (by simp) _⟩

theorem below4 (w : World) (a b c d : Obj) : Below w.heap.size w ((((w.alloc a).alloc b).alloc c).alloc d) :=
  ((((Below.refl _ _).alloc (Nat.le_refl _) _).alloc (by simp) _).alloc (by simp; omega) _).alloc (by simp; omega) _
theorem below5 (w : World) (a b c d f : Obj) : Below w.heap.size w (((((w.alloc a).alloc b).alloc c).alloc d).alloc f) :=
  (below4 w a b c d).alloc (by simp; omega) _

set_option maxHeartbeats 4000000 in
theorem mayFollow_any (f1 l1 f2 l2 : Int) (t1 t2 : ByteArray) (w : World) (h3 : 0 < l1 → 0 ≤ f1) (h4 : 0 < l1 → f1 + l1 ≤ 9223372036854775807) :
    Calls Try.prog 71 #[.agg #[.int .i64 f1, .int .i64 l1, .string t1], .agg #[.int .i64 f2, .int .i64 l2, .string t2]] w fun e w' => e = .returned (.bool (followB f1 l1 f2 l2)) ∧ Below w.heap.size w w' := by
  by_cases h1 : 0 < l1
  · have g3 := h3 h1
    have g4 := h4 h1
    clear h3 h4
    by_cases h2 : 0 < l2
    · go_enter Try.func71, Try.ntmps71
      go_wp2
      go_region_with (go_in)
      all_goals (go_wp2; go_ret; exact ⟨ret_bool (by simp [followB, h1, h2]), (below5 _ _ _ _ _ _).drew⟩)
    · have e2 : decide (0 < l2) = false := by simp; omega
      go_enter Try.func71, Try.ntmps71
      go_wp2
      go_region_with (go_in)
      all_goals (go_wp2; go_ret; exact ⟨ret_bool (by simp [followB, h1, e2]), (below4 _ _ _ _ _).drew⟩)
  · have e1 : decide (0 < l1) = false := by simp; omega
    clear h3 h4
    by_cases h2 : 0 < l2
    · go_enter Try.func71, Try.ntmps71
      go_wp2
      go_region_with (go_in)
      all_goals (go_wp2; go_ret; exact ⟨ret_bool (by simp [followB, e1, h2]), (below4 _ _ _ _ _).drew⟩)
    · have e2 : decide (0 < l2) = false := by simp; omega
      go_enter Try.func71, Try.ntmps71
      go_wp2
      go_region_with (go_in)
      all_goals (go_wp2; go_ret; exact ⟨ret_bool (by simp [followB, e1, e2]), (below5 _ _ _ _ _ _).drew⟩)

end Go.Proofs.Ytabpiaaknjcnkaa
