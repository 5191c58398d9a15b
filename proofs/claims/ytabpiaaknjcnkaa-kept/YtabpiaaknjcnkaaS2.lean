/-
  The walks over the program's own sum.
-/
import Derived.Test.YtabpiaaknjcnkaaS1
namespace Go.Proofs.Ytabpiaaknjcnkaa
open Go.RowKit
set_option linter.unusedVariables false
set_option linter.unusedSimpArgs false
set_option maxRecDepth 100000

set_option maxHeartbeats 1000000 in
theorem eight_any (x : Nat) (w : World) (hx : x < 4294967296) :
    Calls Try.prog 48 #[.int .u32 x] w fun e w' => e = .returned (.int .u32 (mvs 8 x)) ∧ w = w' := by
  go_enter Try.func48, Try.ntmps48
  go_wp2
  go_loop [0, 4] (fun v i => ∃ k : Nat, k ≤ 8 ∧ i = .int .i64 k ∧ v = .int .u32 (mvs k x)) (fun _ i => 9 - (intOf i).toNat)
  case atStart => exact ⟨0, by omega, rfl, rfl⟩
  case round =>
    obtain ⟨k, hk, rfl, rfl⟩ := hrel
    have hy := mvs_lt hx k
    by_cases hlt : k < 8
    · have HN : Hid (mvs (k + 1) x = mv (mvs k x)) := rfl
      generalize hyy : mvs k x = y at *
      clear hyy
      go_wp2
      · go_round
        case rel => exact ⟨k + 1, by omega, by go_num, val_u32 (by rw [HN.out, mv, if_pos (odd_of hy (by assumption)), xorP y hy])⟩
        case measure => simp [intOf]; omega
      · go_round
        case rel => exact ⟨k + 1, by omega, by go_num, val_u32 (by rw [HN.out, mv, if_neg (even_of hy (by assumption))]; omega)⟩
        case measure => simp [intOf]; omega
    · have HE : Hid (mvs k x = mvs 8 x) := by show mvs k x = _; rw [show k = 8 from by omega]
      go_wp2
      go_ret
      exact ⟨ret_u32 (by rw [HE.out]), rfl⟩

set_option maxHeartbeats 1000000 in
theorem of_any (s : ByteArray) (w : World) (hs : s.size ≤ 9223372036854775806) :
    Calls Try.prog 31 #[.string s] w fun e w' => e = .returned (.int .u32 (sumL s.data.toList)) ∧ w = w' := by
  go_enter Try.func31, Try.ntmps31
  go_wp2
  go_loop [3, 7] (fun v i => ∃ k : Nat, k ≤ s.size ∧ i = .int .i64 k ∧ v = .int .u32 (st s k)) (fun _ i => s.size + 1 - (intOf i).toNat)
  case atStart => exact ⟨0, by omega, rfl, val_u32 (by rw [st_zero]; rfl)⟩
  case round =>
    obtain ⟨k, hk, rfl, rfl⟩ := hrel
    have hv := st_lt s k
    by_cases hlt : k < s.size
    · have hc : s[k].toNat < 256 := s[k].toNat_lt
      have HS : Hid (st s (k + 1) = mvs 8 (st s k ^^^ s[k].toNat)) := by
        show st s (k + 1) = _
        rw [st_succ s k hlt]; rfl
      generalize hst : st s k = v at *
      clear hst
      have hz : v ^^^ s[k].toNat < 4294967296 := Nat.xor_lt_two_pow (n := 32) (by omega) (by omega)
      have HX : Hid (bits BinOp.xor IntKind.u32 (v : Int) (s[k].toNat : Int) = ((v ^^^ s[k].toNat : Nat) : Int)) := u32_xor_nat v s[k].toNat (by omega) (by omega)
      go_wp2_with fail
      rw [HX.out]
      generalize hxx : v ^^^ s[k].toNat = x at *
      clear hxx HX
      refine (eight_any x _ (by omega)).mono ?_
      rintro e w' ⟨rfl, rfl⟩
      go_wp2
      go_round
      case rel => exact ⟨k + 1, by omega, by go_num, val_u32 (by rw [HS.out])⟩
      case measure => simp [intOf]; omega
    · go_wp2
      go_ret
      refine ⟨ret_u32 ?_, rfl⟩
      rw [st_end, ← show k = s.size from by omega]
      have h1 := u32_xor_nat (st s k) 4294967295 hv (by decide)
      rw [Nat.xor_comm, xor_ones hv] at h1
      exact h1

set_option maxHeartbeats 1000000 in
theorem csum_any (s : ByteArray) (w : World) (hs : s.size ≤ 9223372036854775806) :
    Calls Try.prog 14 #[.string s] w fun e w' => e = .returned (.int .u32 (sumL s.data.toList)) ∧ w = w' := by
  go_enter Try.func14, Try.ntmps14
  go_wp2_with fail
  refine (of_any s _ hs).mono ?_
  rintro e w' ⟨rfl, rfl⟩
  go_wp2
  go_ret
  exact ⟨rfl, rfl⟩
end Go.Proofs.Ytabpiaaknjcnkaa
