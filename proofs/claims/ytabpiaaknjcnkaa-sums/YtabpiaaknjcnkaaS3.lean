/-
  The walk over Sums.
-/
import Derived.Test.YtabpiaaknjcnkaaS2
import Derived.Deep.RegionHeld3
namespace Go.Proofs.Ytabpiaaknjcnkaa
open Go.RowKit
set_option linter.unusedVariables false
set_option linter.unusedSimpArgs false
set_option maxRecDepth 100000

theorem bytes_append (a b : ByteArray) : (a ++ b).data.toList = a.data.toList ++ b.data.toList := by
  rw [ByteArray.data_append, Array.toList_append]
theorem split_at (s : ByteArray) (k : Nat) (hk : k < s.size) : s.data.toList = s.data.toList.take k ++ s[k] :: s.data.toList.drop (k + 1) := by
  have h : k < s.data.toList.length := by rw [← Lib.size_eq]; exact hk
  conv => lhs; rw [← List.take_append_drop k s.data.toList, List.drop_eq_getElem_cons h]
  rfl
theorem turned_sum (s : ByteArray) (k : Nat) (hk : k < s.size) (x : UInt8) (hx : x ≠ s[k]) : sumL ((s.extract 0 k ++ ⟨#[x]⟩ ++ s.extract (k + 1) s.size).data.toList) ≠ sumL s.data.toList := by
  have e : (s.extract 0 k ++ ⟨#[x]⟩ ++ s.extract (k + 1) s.size).data.toList = s.data.toList.take k ++ x :: s.data.toList.drop (k + 1) := by
    have h2 : (s.extract (k + 1) s.size).data.toList = s.data.toList.drop (k + 1) := by
      rw [Lib.extract_data, List.take_of_length_le (by rw [List.length_drop, ← Lib.size_eq]; omega)]
    rw [bytes_append, bytes_append, h2, Lib.extract_data]
    simp
  intro hE
  apply sumL_other (s.data.toList.take k) (s.data.toList.drop (k + 1)) x s[k] hx
  rw [← split_at s k hk, ← e]
  exact hE
theorem other_byte (c : UInt8) (p : Nat) (hp : p < 255) : ∃ x : UInt8, bits BinOp.xor IntKind.u8 (c.toNat : Int) (1 + (p : Int)) = (x.toNat : Int) ∧ x ≠ c := by
  have hlt : c.toNat ^^^ (1 + p) < 256 := Nat.xor_lt_two_pow (n := 8) c.toNat_lt (by omega)
  refine ⟨UInt8.ofNat (c.toNat ^^^ (1 + p)), ?_, ?_⟩
  · rw [UInt8.toNat_ofNat_of_lt' hlt, ← u8_xor_nat c.toNat (1 + p) c.toNat_lt (by omega)]
    rfl
  · intro e
    have e2 := congrArg UInt8.toNat e
    rw [UInt8.toNat_ofNat_of_lt' hlt] at e2
    have e3 : (1 + p) ^^^ c.toNat = 0 ^^^ c.toNat := by rw [Nat.xor_comm, e2, Nat.zero_xor]
    have := xor_cancel e3
    omega
theorem conv_byte (W : World) (x : UInt8) : (convert 39 9 (.slice (some ⟨W.heap.size, 0, none⟩) 1 1)).run Try.prog ((W.alloc (.cells #[.int .u8 (x.toNat : Int)] 5)).drew) = .ok (.string ⟨#[x]⟩) ((W.alloc (.cells #[.int .u8 (x.toNat : Int)] 5)).drew) :=
  run_convert_bytes_back (P := Try.prog) ((W.alloc (.cells #[.int .u8 (x.toNat : Int)] 5)).drew) 39 9 5 ⟨W.heap.size, 0, none⟩ 1 [x] Try.underlying39 Try.underlying5 Try.underlying9 (fun j hj => by
    have : j = 0 := by simpa using hj
    subst this
    simp [Addr.add])

set_option maxHeartbeats 2000000 in
theorem sums_any (s : ByteArray) (a b : Int) (w : World) (hs : s.size ≤ 9223372036854775800) (ha : -9223372036854775808 ≤ a) (ha2 : a ≤ 9223372036854775807) (hb : -9223372036854775808 ≤ b) (hb2 : b ≤ 9223372036854775807) :
    Calls Try.prog 4 #[.string s, .int .i64 a, .int .i64 b] w fun e w' => e = .returned (.bool true) ∧ Below w.heap.size w w' := by
  go_enter Try.func4, Try.ntmps4
  go_wp2_with fail
  refine (csum_any s _ (by omega)).mono ?_
  rintro e w' ⟨rfl, rfl⟩
  go_wp2_with fail
  refine (csum_any _ _ ?_).mono ?_
  · decide
  rintro e w' ⟨rfl, rfl⟩
  have hnine : sumL [49, 50, 51, 52, 53, 54, 55, 56, 57] = 3421780262 := by decide +kernel
  go_wp2_with fail
  refine (ksum_any s _ (by omega)).mono ?_
  rintro e w' ⟨rfl, rfl⟩
  have HV : Hid (s.toList.isEmpty = true → sumL s.data.toList = 0) := by
    intro h
    rw [Lib.toList_data, List.isEmpty_iff] at h
    rw [h]; decide
  have HD : Hid (∀ (k : Nat) (hk : k < s.size) (x : UInt8), x ≠ s[k] → sumL ((s.extract 0 k ++ ⟨#[x]⟩ ++ s.extract (k + 1) s.size).data.toList) ≠ sumL s.data.toList) := fun k hk x hx => turned_sum s k hk x hx
  generalize sumL s.data.toList = V at *
  cases he : s.toList.isEmpty
  · have hpos : 0 < s.size := by
      rcases Nat.eq_zero_or_pos s.size with h | h
      · have : s.toList.isEmpty = true := by rw [Lib.toList_data, List.isEmpty_iff]; exact List.eq_nil_of_length_eq_zero (by rw [← Lib.size_eq]; exact h)
        rw [this] at he; cases he
      · exact h
    go_wp2_with fail
    refine (pick_eq a s.size _ ha ha2 hpos (by omega)).mono ?_
    rintro e w' ⟨rfl, rfl⟩
    have hk := pickN_lt a s.size hpos
    generalize pickN a s.size = k at *
    have HP : Hid (∀ W, Calls Try.prog 16 #[.int .i64 b, .int .i64 255] W fun e w' => e = .returned (.int .i64 (pickN b 255)) ∧ W = w') := fun W => pick_eq b 255 W hb hb2 (by decide) (by decide)
    have hp := pickN_lt b 255 (by decide)
    generalize pickN b 255 = p at *
    have q1 : (k : Int) < (s.size : Int) := by omega
    have q2 : (0 : Int) ≤ (k : Int) := by omega
    have q3 : (k : Int) ≤ (s.size : Int) := by omega
    have q4 : k + 1 ≤ s.size := by omega
    have q5 : (k : Int) + 1 ≤ (s.size : Int) := by omega
    have q10 : (0 : Int) ≤ (k : Int) + 1 := by omega
    have q6 : IntKind.i64.wrap ((k : Int) + 1) = (k : Int) + 1 := by rw [IntKind.wrap_i64]; omega
    have q7 : IntKind.i64.wrap (1 + (p : Int)) = 1 + (p : Int) := by rw [IntKind.wrap_i64]; omega
    have q8 : IntKind.u8.wrap (1 + (p : Int)) = 1 + (p : Int) := by rw [IntKind.wrap_u8]; omega
    have q9 : (1 + (p : Int)) % 256 = 1 + (p : Int) := by omega
    obtain ⟨x, hx, hxn⟩ : ∃ x : UInt8, bits BinOp.xor IntKind.u8 (s[k].toNat : Int) (1 + (p : Int)) = (x.toNat : Int) ∧ x ≠ s[k] := other_byte s[k] p hp
    have hcv : ∀ W : World, (convert 39 9 (.slice (some ⟨W.heap.size, 0, none⟩) 1 1)).run Try.prog ((W.alloc (.cells #[.int .u8 (x.toNat : Int)] 5)).drew) = .ok (.string ⟨#[x]⟩) ((W.alloc (.cells #[.int .u8 (x.toNat : Int)] 5)).drew) := fun W => conv_byte W x
    have z1 : (s.extract 0 k).size = k := by rw [ByteArray.size_extract]; omega
    have z2 : (s.extract (k + 1) s.size).size = s.size - (k + 1) := by rw [ByteArray.size_extract]; omega
    have z3 : (⟨#[x]⟩ : ByteArray).size = 1 := rfl
    have hadd1 : ∀ W : World, (Op.stringOp .add (s.extract 0 k) ⟨#[x]⟩).run Try.prog W = .ok (.string (s.extract 0 k ++ ⟨#[x]⟩)) W := fun W => run_string_add_sum W _ _ (by omega)
    have hadd2 : ∀ W : World, (Op.stringOp .add (s.extract 0 k ++ ⟨#[x]⟩) (s.extract (k + 1) s.size)).run Try.prog W = .ok (.string (s.extract 0 k ++ ⟨#[x]⟩ ++ s.extract (k + 1) s.size)) W := fun W => run_string_add_sum W _ _ (by rw [ByteArray.size_append]; omega)
    have Z : Hid ((s.extract 0 k ++ ⟨#[x]⟩ ++ s.extract (k + 1) s.size).size ≤ 9223372036854775806) := by
      show _ ≤ _
      rw [ByteArray.size_append, ByteArray.size_append]; omega
    clear z1 z2 z3
    have HDD := HD.out k hk x hxn
    have HDK : Hid (sumL ((s.extract 0 k ++ ⟨#[x]⟩ ++ s.extract (k + 1) s.size).data.toList) ≠ V) := HDD
    clear HDD
    go_wp2
    go_region_with (first | (go_at_call 16; refine (HP.out _).mono ?_; rintro e w' ⟨rfl, rfl⟩))
    all_goals
      go_wp2_with fail
      refine (csum_any _ _ Z.out).mono ?_
      rintro e w' ⟨rfl, rfl⟩
      have hne := HDK.out
      generalize sumL ((s.extract 0 k ++ ⟨#[x]⟩ ++ s.extract (k + 1) s.size).data.toList) = U at *
      have hd : ((U : Int) != (V : Int)) = true := by rw [bne_iff_ne]; omega
      clear hne HDK Z
      go_wp2
      go_ret
      exact ⟨by simp [hd], ((Below.refl _ _).alloc (Nat.le_refl _) _).drew⟩
  · have hv := HV.out he
    go_wp2
    go_ret
    exact ⟨by simp [hv], Below.refl _ _⟩
end Go.Proofs.Ytabpiaaknjcnkaa
