/-
  The walks over the small functions: short, pick, isCopy, size, stands.
-/
import Derived.Test.YtabpiaaknjcnkaaRows
import Derived.Test.YtabpiaaknjcnkaaP1
import Derived.WalkKit
import Derived.WalkSpells
import Derived.WalkLawsBesides
namespace Go.Proofs.Ytabpiaaknjcnkaa
open Go.RowKit
set_option linter.unusedVariables false
set_option linter.unusedSimpArgs false
set_option maxRecDepth 100000

theorem ret_int {k : IntKind} {a b : Int} (h : a = b) : Ending.returned (.int k a) = .returned (.int k b) := by rw [h]
theorem ret_bool {a b : Bool} (h : a = b) : Ending.returned (.bool a) = .returned (.bool b) := by rw [h]
theorem ret_str {a b : ByteArray} (h : a = b) : Ending.returned (.string a) = .returned (.string b) := by rw [h]

def shortB (s : ByteArray) (n : Nat) : ByteArray := if n < s.size then s.extract 0 n else s

set_option maxHeartbeats 400000 in
theorem short_any (s : ByteArray) (n : Nat) (w : World) (hn : n ≤ 100000) (hs : s.size ≤ 9223372036854775807) :
    Calls Try.prog 9 #[.string s, .int .i64 n] w fun e w' => e = .returned (.string (shortB s n)) ∧ w' = w := by
  by_cases h : n < s.size
  · go_enter Try.func9, Try.ntmps9
    go_wp2
    go_ret
    exact ⟨by simp [shortB, h], rfl⟩
  · go_enter Try.func9, Try.ntmps9
    go_wp2
    go_ret
    exact ⟨by simp [shortB, h], rfl⟩

def pickN (c : Int) (n : Nat) : Nat := (if c < 0 then -(c + 1) else c).toNat % n
theorem pickN_lt (c : Int) (n : Nat) (h : 0 < n) : pickN c n < n := Nat.mod_lt _ h

set_option maxHeartbeats 400000 in
theorem pick_any (c : Int) (n : Nat) (w : World) (hc : -9223372036854775808 ≤ c) (hc2 : c ≤ 9223372036854775807) (hn0 : 0 < n) (hn : n ≤ 9223372036854775807) :
    Calls Try.prog 16 #[.int .i64 c, .int .i64 n] w fun e w' => e = .returned (.int .i64 (pickN c n)) ∧ w' = w := by
  by_cases h : c < 0
  · go_enter Try.func16, Try.ntmps16
    go_wp2
    go_ret
    refine ⟨ret_int ?_, rfl⟩
    obtain ⟨m, hm⟩ : ∃ m : Nat, -(c + 1) = (m : Int) := ⟨(-(c + 1)).toNat, by omega⟩
    have e : c + 1 = -(m : Int) := by omega
    rw [pickN, if_pos h, hm, e, Int.toNat_natCast, Int.neg_tmod]
    simp
    exact Int.tmod_eq_emod_of_nonneg (by omega)
  · go_enter Try.func16, Try.ntmps16
    go_wp2
    go_ret
    refine ⟨ret_int ?_, rfl⟩
    obtain ⟨m, rfl⟩ : ∃ m : Nat, c = (m : Int) := ⟨c.toNat, by omega⟩
    rw [pickN, if_neg (by omega), Int.toNat_natCast]
    simp

theorem pick_eq (c : Int) (n : Nat) (w : World) (hc : -9223372036854775808 ≤ c) (hc2 : c ≤ 9223372036854775807) (hn0 : 0 < n) (hn : n ≤ 9223372036854775807) :
    Calls Try.prog 16 #[.int .i64 c, .int .i64 n] w fun e w' => e = .returned (.int .i64 (pickN c n)) ∧ w = w' :=
  (pick_any c n w hc hc2 hn0 hn).mono fun _ _ ⟨h1, h2⟩ => ⟨h1, h2.symm⟩
theorem short_eq (s : ByteArray) (n : Nat) (w : World) (hn : n ≤ 100000) (hs : s.size ≤ 9223372036854775807) :
    Calls Try.prog 9 #[.string s, .int .i64 n] w fun e w' => e = .returned (.string (shortB s n)) ∧ w = w' :=
  (short_any s n w hn hs).mono fun _ _ ⟨h1, h2⟩ => ⟨h1, h2.symm⟩
theorem shortB_size (s : ByteArray) (n : Nat) : (shortB s n).size ≤ n := by
  unfold shortB; split
  · rw [ByteArray.size_extract]; omega
  · omega

set_option maxHeartbeats 400000 in
theorem isCopy_any (f l : Int) (t : ByteArray) (w : World) :
    Calls Try.prog 45 #[.agg #[.int .i64 f, .int .i64 l, .string t]] w fun e w' => e = .returned (.bool (decide (0 < l))) ∧ Below w.heap.size w w' := by
  go_enter Try.func45, Try.ntmps45
  go_wp2
  go_ret
  exact ⟨rfl, (Below.refl _ _).alloc (Nat.le_refl _) _⟩

set_option maxHeartbeats 400000 in
theorem size_any (f l : Int) (t : ByteArray) (w : World) :
    Calls Try.prog 72 #[.agg #[.int .i64 f, .int .i64 l, .string t]] w fun e w' => e = .returned (.int .i64 (sizeI l t)) ∧ Below w.heap.size w w' := by
  by_cases h : 0 < l
  · go_enter Try.func72, Try.ntmps72
    go_wp2
    go_ret
    exact ⟨ret_int (by rw [sizeI, if_pos h]), ((Below.refl _ _).alloc (Nat.le_refl _) _).alloc (by simp) _⟩
  · go_enter Try.func72, Try.ntmps72
    go_wp2
    go_ret
    exact ⟨ret_int (by rw [sizeI, if_neg (by omega)]), ((Below.refl _ _).alloc (Nat.le_refl _) _).alloc (by simp) _⟩

end Go.Proofs.Ytabpiaaknjcnkaa
