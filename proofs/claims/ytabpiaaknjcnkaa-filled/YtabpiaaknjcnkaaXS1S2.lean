/- The texts S1, S2, one behind the other. -/
import Derived.Test.YtabpiaaknjcnkaaXW1W3
import Derived.Test.YtabpiaaknjcnkaaP4
import Derived.LoopTactic
import Derived.Laws.BitsAllLaws
/-
  The walks over the sums of the statements.
-/
namespace Go.Proofs.Ytabpiaaknjcnkaa
open Go.RowKit
set_option linter.unusedVariables false
set_option linter.unusedSimpArgs false
set_option maxRecDepth 100000

theorem and1 (y : Nat) (h : y < 4294967296) : bits BinOp.and IntKind.u32 (y : Int) 1 = ((y % 2 : Nat) : Int) := by
  have := u32_and_nat y 1 h (by decide)
  rw [nat_mask1] at this
  exact this
theorem xorP (y : Nat) (h : y < 4294967296) : bits BinOp.xor IntKind.u32 ((y : Int) / 2) 3988292384 = ((y / 2 ^^^ 3988292384 : Nat) : Int) := by
  have := u32_xor_nat (y / 2) 3988292384 (by omega) (by decide)
  rw [← this]; rfl
theorem odd_of {y : Nat} (h : y < 4294967296) (hb : (bits BinOp.and IntKind.u32 (y : Int) 1 == 1) = true) : y % 2 = 1 := by
  rw [and1 y h] at hb
  have : ((y % 2 : Nat) : Int) = 1 := by simpa using hb
  omega
theorem even_of {y : Nat} (h : y < 4294967296) (hb : (bits BinOp.and IntKind.u32 (y : Int) 1 == 1) = false) : ¬ y % 2 = 1 := by
  rw [and1 y h] at hb
  have : ¬ ((y % 2 : Nat) : Int) = 1 := by simpa using hb
  omega
theorem byte_at (s : ByteArray) (k : Nat) (h : k < s.size) : s.data.toList.take (k + 1) = s.data.toList.take k ++ [s[k]] := by
  rw [List.take_succ_eq_append_getElem (by simpa using h)]; rfl

/-- The walk at the k-th byte. -/
def st (s : ByteArray) (k : Nat) : Nat := run 4294967295 (s.data.toList.take k)
theorem st_zero (s : ByteArray) : st s 0 = 4294967295 := by simp [st, run]
theorem st_lt (s : ByteArray) (k : Nat) : st s k < 4294967296 := run_lt (by decide) _
theorem st_succ (s : ByteArray) (k : Nat) (h : k < s.size) : st s (k + 1) = upd (st s k) s[k].toNat := by
  rw [st, byte_at s k h, run_snoc]; rfl
theorem st_end (s : ByteArray) : sumL s.data.toList = 4294967295 - st s s.size := by
  rw [st, List.take_of_length_le (by rw [Lib.size_eq]; exact Nat.le_refl _)]; rfl

theorem ret_u32 {a b : Int} (h : a = b) : Ending.returned (.int .u32 a) = .returned (.int .u32 b) := by rw [h]

theorem val_u32 {a b : Int} (h : a = b) : Value.int .u32 a = .int .u32 b := by rw [h]

theorem bit_at (c j : Nat) (hc : c < 256) : (c : Int) / 2 ^ j % 4294967296 = ((c / 2 ^ j : Nat) : Int) := by
  have h1 : (c : Int) / 2 ^ j = ((c / 2 ^ j : Nat) : Int) := by rw [Int.natCast_ediv, Int.natCast_pow]; rfl
  have h2 : c / 2 ^ j ≤ c := Nat.div_le_self _ _
  rw [h1]
  generalize c / 2 ^ j = z at *
  omega
theorem bit_ne {y c j : Nat} (hy : y < 4294967296) (hc : c < 256) (h : (bits BinOp.and IntKind.u32 (y : Int) 1 != bits BinOp.and IntKind.u32 ((c : Int) / 2 ^ j % 4294967296) 1) = true) : y % 2 ≠ c / 2 ^ j % 2 := by
  have h2 : c / 2 ^ j ≤ c := Nat.div_le_self _ _
  rw [bit_at c j hc, and1 y hy, and1 _ (by omega), bne_iff_ne] at h
  omega
theorem bit_eq {y c j : Nat} (hy : y < 4294967296) (hc : c < 256) (h : (bits BinOp.and IntKind.u32 (y : Int) 1 != bits BinOp.and IntKind.u32 ((c : Int) / 2 ^ j % 4294967296) 1) = false) : ¬ y % 2 ≠ c / 2 ^ j % 2 := by
  have h2 : c / 2 ^ j ≤ c := Nat.div_le_self _ _
  rw [bit_at c j hc, and1 y hy, and1 _ (by omega)] at h
  have : ((y % 2 : Nat) : Int) = ((c / 2 ^ j % 2 : Nat) : Int) := by simpa using h
  omega
theorem odd2 {y : Nat} (h : ((y : Int) % 2 == 1) = true) : y % 2 = 1 := by
  have : (y : Int) % 2 = 1 := by simpa using h
  omega
theorem even2 {y : Nat} (h : ((y : Int) % 2 == 1) = false) : ¬ y % 2 = 1 := by
  have : ¬ (y : Int) % 2 = 1 := by simpa using h
  omega
theorem flip (v : Nat) (h : v < 4294967296) : bits BinOp.xor IntKind.u32 IntKind.u32.max (v : Int) = ((4294967295 - v : Nat) : Int) := by
  have := u32_xor_nat 4294967295 v (by decide) h
  rw [xor_ones h] at this
  exact this

set_option maxHeartbeats 1000000 in
theorem ksum_any (s : ByteArray) (w : World) (hs : s.size ≤ 9223372036854775806) :
    Calls Try.prog 15 #[.string s] w fun e w' => e = .returned (.int .u32 (sumL s.data.toList)) ∧ w = w' := by
  go_enter Try.func15, Try.ntmps15
  go_wp2
  go_loop [3, 4] (fun v i => ∃ k : Nat, k ≤ s.size ∧ i = .int .i64 k ∧ v = .int .u32 (st s k)) (fun _ i => s.size + 1 - (intOf i).toNat)
  case atStart => exact ⟨0, by omega, rfl, val_u32 (by rw [st_zero]; rfl)⟩
  case round =>
    obtain ⟨k, hk, rfl, rfl⟩ := hrel
    by_cases hlt : k < s.size
    · have hv := st_lt s k
      have HS : Hid (st s (k + 1) = upd (st s k) s[k].toNat) := st_succ s k hlt
      generalize hst : st s k = v at *
      clear hst
      go_wp2
      go_loop [3, 5] (fun x i => ∃ j : Nat, j ≤ 8 ∧ i = .int .i64 j ∧ x = .int .u32 (bitRun s[k].toNat j v)) (fun _ i => 9 - (intOf i).toNat)
      case atStart => exact ⟨0, by omega, rfl, rfl⟩
      case round =>
        obtain ⟨j, hj, rfl, rfl⟩ := hrel
        by_cases hj8 : j < 8
        · have hc : s[k].toNat < 256 := s[k].toNat_lt
          have hy : bitRun s[k].toNat j v < 4294967296 := bitRun_lt hv hc j
          have HN : Hid (bitRun s[k].toNat (j + 1) v = bitStep (bitRun s[k].toNat j v) (s[k].toNat / 2 ^ j % 2)) := rfl
          generalize hyy : bitRun s[k].toNat j v = y at *
          clear hyy
          go_wp2
          · go_round
            case rel => exact ⟨j + 1, by omega, by go_num, val_u32 (by rw [HN.out, bitStep, if_pos (bit_ne hy hc (by assumption)), xorP y hy])⟩
            case measure => simp [intOf]; omega
          · go_round
            case rel => exact ⟨j + 1, by omega, by go_num, val_u32 (by rw [HN.out, bitStep, if_neg (bit_eq hy hc (by assumption))]; omega)⟩
            case measure => simp [intOf]; omega
        · have HE : Hid (bitRun s[k].toNat j v = st s (k + 1)) := by
            show bitRun s[k].toNat j v = _
            rw [HS.out, show j = 8 from by omega, bitRun_upd _ _ s[k].toNat_lt]
          go_wp2
          go_round
          case rel => exact ⟨k + 1, by omega, by go_num, val_u32 (by rw [HE.out])⟩
          case measure => simp [intOf]; omega
    · go_wp2
      go_ret
      refine ⟨ret_u32 ?_, rfl⟩
      rw [flip _ (st_lt s k), st_end, show k = s.size from by omega]

end Go.Proofs.Ytabpiaaknjcnkaa

/-
  The walks over the program's own sum.
-/
namespace Go.Proofs.Ytabpiaaknjcnkaa
open Go.RowKit
set_option linter.unusedVariables false
set_option linter.unusedSimpArgs false
set_option maxRecDepth 100000

set_option maxHeartbeats 1000000 in
theorem eight_any (x : Nat) (w : World) (hx : x < 4294967296) :
    Calls Try.prog 48 #[.int .u32 x] w fun e w' => e = .returned (.int .u32 (mvs 8 x)) ∧ w = w' := by
  go_enter Try.func48, Try.ntmps48
  go_wp2
  go_loop [0, 4] (fun v i => ∃ k : Nat, k ≤ 8 ∧ i = .int .i64 k ∧ v = .int .u32 (mvs k x)) (fun _ i => 9 - (intOf i).toNat)
  case atStart => exact ⟨0, by omega, rfl, rfl⟩
  case round =>
    obtain ⟨k, hk, rfl, rfl⟩ := hrel
    have hy := mvs_lt hx k
    by_cases hlt : k < 8
    · have HN : Hid (mvs (k + 1) x = mv (mvs k x)) := rfl
      generalize hyy : mvs k x = y at *
      clear hyy
      go_wp2
      · go_round
        case rel => exact ⟨k + 1, by omega, by go_num, val_u32 (by rw [HN.out, mv, if_pos (odd_of hy (by assumption)), xorP y hy])⟩
        case measure => simp [intOf]; omega
      · go_round
        case rel => exact ⟨k + 1, by omega, by go_num, val_u32 (by rw [HN.out, mv, if_neg (even_of hy (by assumption))]; omega)⟩
        case measure => simp [intOf]; omega
    · have HE : Hid (mvs k x = mvs 8 x) := by show mvs k x = _; rw [show k = 8 from by omega]
      go_wp2
      go_ret
      exact ⟨ret_u32 (by rw [HE.out]), rfl⟩

set_option maxHeartbeats 1000000 in
theorem of_any (s : ByteArray) (w : World) (hs : s.size ≤ 9223372036854775806) :
    Calls Try.prog 31 #[.string s] w fun e w' => e = .returned (.int .u32 (sumL s.data.toList)) ∧ w = w' := by
  go_enter Try.func31, Try.ntmps31
  go_wp2
  go_loop [3, 7] (fun v i => ∃ k : Nat, k ≤ s.size ∧ i = .int .i64 k ∧ v = .int .u32 (st s k)) (fun _ i => s.size + 1 - (intOf i).toNat)
  case atStart => exact ⟨0, by omega, rfl, val_u32 (by rw [st_zero]; rfl)⟩
  case round =>
    obtain ⟨k, hk, rfl, rfl⟩ := hrel
    have hv := st_lt s k
    by_cases hlt : k < s.size
    · have hc : s[k].toNat < 256 := s[k].toNat_lt
      have HS : Hid (st s (k + 1) = mvs 8 (st s k ^^^ s[k].toNat)) := by
        show st s (k + 1) = _
        rw [st_succ s k hlt]; rfl
      generalize hst : st s k = v at *
      clear hst
      have hz : v ^^^ s[k].toNat < 4294967296 := Nat.xor_lt_two_pow (n := 32) (by omega) (by omega)
      have HX : Hid (bits BinOp.xor IntKind.u32 (v : Int) (s[k].toNat : Int) = ((v ^^^ s[k].toNat : Nat) : Int)) := u32_xor_nat v s[k].toNat (by omega) (by omega)
      go_wp2_with fail
      rw [HX.out]
      generalize hxx : v ^^^ s[k].toNat = x at *
      clear hxx HX
      refine (eight_any x _ (by omega)).mono ?_
      rintro e w' ⟨rfl, rfl⟩
      go_wp2
      go_round
      case rel => exact ⟨k + 1, by omega, by go_num, val_u32 (by rw [HS.out])⟩
      case measure => simp [intOf]; omega
    · go_wp2
      go_ret
      refine ⟨ret_u32 ?_, rfl⟩
      rw [st_end, ← show k = s.size from by omega]
      have h1 := u32_xor_nat (st s k) 4294967295 hv (by decide)
      rw [Nat.xor_comm, xor_ones hv] at h1
      exact h1

set_option maxHeartbeats 1000000 in
theorem csum_any (s : ByteArray) (w : World) (hs : s.size ≤ 9223372036854775806) :
    Calls Try.prog 14 #[.string s] w fun e w' => e = .returned (.int .u32 (sumL s.data.toList)) ∧ w = w' := by
  go_enter Try.func14, Try.ntmps14
  go_wp2_with fail
  refine (of_any s _ hs).mono ?_
  rintro e w' ⟨rfl, rfl⟩
  go_wp2
  go_ret
  exact ⟨rfl, rfl⟩
end Go.Proofs.Ytabpiaaknjcnkaa
