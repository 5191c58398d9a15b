/-
  The walk over Number.
-/
import Derived.Test.YtabpiaaknjcnkaaD1
namespace Go.Proofs.Ytabpiaaknjcnkaa
open Go.RowKit
set_option linter.unusedVariables false
set_option linter.unusedSimpArgs false
set_option maxRecDepth 100000

/-- What Number does. -/
def NumPost (rb : Nat) (s : ByteArray) (start : Nat) (w : World) (e : Ending) (w' : World) : Prop :=
  ((∃ p, numF s start = .inl p ∧ e = gaveUp p) ∨ ∃ n nx : Nat, numF s start = .inr (n, nx) ∧ e = .returned (.int .i64 n) ∧ RAt w' rb s nx) ∧ Moved rb w w'

theorem or_num (k acc c : Nat) (hk : k ≤ 4) (ha : acc < 128 ^ k) (hc : c < 128) : bits BinOp.or IntKind.u64 (acc : Int) ((c * 128 ^ k : Nat) : Int) = ((acc + c * 128 ^ k : Nat) : Int) := by
  have hp : 128 ^ k ≤ 268435456 := Nat.le_trans (Nat.pow_le_pow_right (by decide) hk) (by decide)
  have hb : c * 128 ^ k < 18446744073709551616 := Nat.lt_of_le_of_lt (Nat.mul_le_mul (Nat.le_of_lt hc) hp) (by decide)
  rw [u64_or_nat acc (c * 128 ^ k) (by omega) hb]
  have e : (128 : Nat) ^ k = 2 ^ (7 * k) := by rw [Nat.pow_mul]
  rw [e] at ha ⊢
  have := Nat.two_pow_add_eq_or_of_lt (i := 7 * k) (b := acc) ha c
  rw [Nat.or_comm, Nat.mul_comm c, ← this]
  congr 1; omega

set_option maxHeartbeats 8000000 in
theorem number_any (rb : Nat) (s : ByteArray) (start : Nat) (w : World) (h : RAt w rb s start) (hst : start ≤ s.size) (hs : s.size ≤ 9223372036854775000) :
    Calls Try.prog 78 #[.pointer (some ⟨rb, 0, none⟩)] w (NumPost rb s start w) := by
  obtain ⟨c0, c1, c2⟩ := h.cells
  have HR : Hid (RAt w rb s start) := h
  clear h
  go_enter Try.func78, Try.ntmps78
  go_wp2
  go_loopw [4, 11] (fun m c wr => ∃ k acc : Nat, k ≤ 5 ∧ c = .int .i64 k ∧ m = .int .u64 acc ∧ Hid (acc < 128 ^ k) ∧ Hid (numGo s start (5 - k) k acc = numF s start) ∧ Hid (RAt wr rb s (start + k)) ∧ Hid (Moved rb w wr) ∧ start + k ≤ s.size) (fun _ c _ => 6 - (intOf c).toNat)
  case atStart => exact ⟨0, 0, by omega, rfl, rfl, by simp [Hid], rfl, HR, Moved.refl _ _, by omega⟩
  case round =>
    obtain ⟨k, acc, hk, rfl, rfl, HA, HN, HRk, HM, hle⟩ := hrel
    clear c0 c1 c2 HR
    by_cases hlt : k < 5
    · by_cases hin : start + k < s.size
      · have hc256 : (s[start + k]).toNat < 256 := (s[start + k]).toNat_lt
        have HMore : Hid (128 ≤ (s[start + k]).toNat → numF s start = numGo s start (4 - k) (k + 1) (acc + (s[start + k]).toNat % 128 * 128 ^ k)) := fun h => by
          rw [← HN.out, show 5 - k = (4 - k) + 1 by omega, numGo_more hin (by omega)]
        have HBad : Hid ((s[start + k]).toNat < 128 → (2147483647 < acc + (s[start + k]).toNat % 128 * 128 ^ k ∨ ((s[start + k]).toNat = 0 ∧ 0 < k)) → numF s start = .inl start) := fun h h' => by
          rw [← HN.out, show 5 - k = (4 - k) + 1 by omega, numGo_bad hin h h']
        have HDone : Hid ((s[start + k]).toNat < 128 → ¬ (2147483647 < acc + (s[start + k]).toNat % 128 * 128 ^ k ∨ ((s[start + k]).toNat = 0 ∧ 0 < k)) → numF s start = .inr (acc + (s[start + k]).toNat % 128 * 128 ^ k, start + k + 1)) := fun h h' => by
          rw [← HN.out, show 5 - k = (4 - k) + 1 by omega, numGo_done hin h h']
        have HO : Hid (bits BinOp.or IntKind.u64 (acc : Int) (((s[start + k]).toNat % 128 * 128 ^ k : Nat) : Int) = ((acc + (s[start + k]).toNat % 128 * 128 ^ k : Nat) : Int)) := or_num k acc _ (by omega) HA.out (by omega)
        have HLt : Hid (acc + (s[start + k]).toNat % 128 * 128 ^ k < 128 ^ (k + 1)) := by
          have h1 := HA.out
          have h2 : (s[start + k]).toNat % 128 ≤ 127 := by omega
          have h3 := Nat.mul_le_mul_right (128 ^ k) h2
          show _ < 128 ^ (k + 1)
          rw [Nat.pow_succ]; omega
        go_wp2_with fail
        refine (next_some rb s (start + k) wr HRk.out hin (by omega)).mono ?_
        rintro e w1 ⟨rfl, hr1, hm1⟩
        have HR1 : Hid (RAt w1 rb s (start + k + 1)) := hr1
        have HM1 : Hid (Moved rb w w1) := HM.out.trans hm1
        clear hr1 hm1 HRk HM HN
        generalize (s[start + k]).toNat = c at *
        generalize hAA : acc + c % 128 * 128 ^ k = A at *
        rcases (show k = 0 ∨ k = 1 ∨ k = 2 ∨ k = 3 ∨ k = 4 by omega) with rfl | rfl | rfl | rfl | rfl
        · have hB : bits BinOp.or IntKind.u64 (acc : Int) ((c : Int) % 128) = (A : Int) := by have := HO.out; simpa using this
          skip
          clear HO hAA HA
          by_cases h128 : 128 ≤ c
          · have HE := HMore.out h128
            have HN2 : Hid (numGo s start (5 - 1) 1 A = numF s start) := HE.symm
            clear HE HMore HBad HDone
            go_wp2
            go_roundw
            case rel => exact ⟨1, A, by omega, by go_num, rfl, HLt, HN2, HR1, HM1, by omega⟩
            case measure => simp [intOf]
          · have h128' : c < 128 := by omega
            by_cases hv : 2147483647 < A
            · exact absurd HLt.out (by simp; omega)
            · have hv' : (A : Int) ≤ 2147483647 := by omega
              by_cases hc0 : c = 0
              · have HE : Hid (numF s start = .inr (A, start + 0 + 1)) := HDone.out h128' (fun h => by omega)
                have hB0 : bits BinOp.or IntKind.u64 (acc : Int) 0 = (A : Int) := by rw [hc0] at hB; simpa using hB
                clear HMore HBad HDone
                go_wp2
                go_ret
                exact ⟨.inr ⟨A, _, HE.out, rfl, HR1.out⟩, HM1.out⟩
              · have HE : Hid (numF s start = .inr (A, start + 0 + 1)) := HDone.out h128' (fun h => by omega)
                clear HMore HBad HDone
                go_wp2
                go_ret
                exact ⟨.inr ⟨A, _, HE.out, rfl, HR1.out⟩, HM1.out⟩
        · have hB : bits BinOp.or IntKind.u64 (acc : Int) ((c : Int) % 128 * 128) = (A : Int) := by have := HO.out; simpa using this
          skip
          clear HO hAA HA
          by_cases h128 : 128 ≤ c
          · have HE := HMore.out h128
            have HN2 : Hid (numGo s start (5 - 2) 2 A = numF s start) := HE.symm
            clear HE HMore HBad HDone
            go_wp2
            go_roundw
            case rel => exact ⟨2, A, by omega, by go_num, rfl, HLt, HN2, HR1, HM1, by omega⟩
            case measure => simp [intOf]
          · have h128' : c < 128 := by omega
            by_cases hv : 2147483647 < A
            · have HE : Hid (numF s start = .inl start) := HBad.out h128' (.inl hv)
              have hv' : (2147483647 : Int) < (A : Int) := by omega
              clear HMore HBad HDone
              by_cases hc0 : c = 0
              all_goals
                go_wp2
                exact ⟨rfl, .inl ⟨start, HE.out, rfl⟩, HM1.out⟩
            · have hv' : (A : Int) ≤ 2147483647 := by omega
              by_cases hc0 : c = 0
              · have HE : Hid (numF s start = .inl start) := HBad.out h128' (.inr ⟨hc0, by omega⟩)
                clear HMore HBad HDone
                go_wp2
                exact ⟨rfl, .inl ⟨start, HE.out, rfl⟩, HM1.out⟩
              · have HE : Hid (numF s start = .inr (A, start + 1 + 1)) := HDone.out h128' (fun h => by omega)
                clear HMore HBad HDone
                go_wp2
                go_ret
                exact ⟨.inr ⟨A, _, HE.out, rfl, HR1.out⟩, HM1.out⟩
        · have hB : bits BinOp.or IntKind.u64 (acc : Int) ((c : Int) % 128 * 16384) = (A : Int) := by have := HO.out; simpa using this
          skip
          clear HO hAA HA
          by_cases h128 : 128 ≤ c
          · have HE := HMore.out h128
            have HN2 : Hid (numGo s start (5 - 3) 3 A = numF s start) := HE.symm
            clear HE HMore HBad HDone
            go_wp2
            go_roundw
            case rel => exact ⟨3, A, by omega, by go_num, rfl, HLt, HN2, HR1, HM1, by omega⟩
            case measure => simp [intOf]
          · have h128' : c < 128 := by omega
            by_cases hv : 2147483647 < A
            · have HE : Hid (numF s start = .inl start) := HBad.out h128' (.inl hv)
              have hv' : (2147483647 : Int) < (A : Int) := by omega
              clear HMore HBad HDone
              by_cases hc0 : c = 0
              all_goals
                go_wp2
                exact ⟨rfl, .inl ⟨start, HE.out, rfl⟩, HM1.out⟩
            · have hv' : (A : Int) ≤ 2147483647 := by omega
              by_cases hc0 : c = 0
              · have HE : Hid (numF s start = .inl start) := HBad.out h128' (.inr ⟨hc0, by omega⟩)
                clear HMore HBad HDone
                go_wp2
                exact ⟨rfl, .inl ⟨start, HE.out, rfl⟩, HM1.out⟩
              · have HE : Hid (numF s start = .inr (A, start + 2 + 1)) := HDone.out h128' (fun h => by omega)
                clear HMore HBad HDone
                go_wp2
                go_ret
                exact ⟨.inr ⟨A, _, HE.out, rfl, HR1.out⟩, HM1.out⟩
        · have hB : bits BinOp.or IntKind.u64 (acc : Int) ((c : Int) % 128 * 2097152) = (A : Int) := by have := HO.out; simpa using this
          skip
          clear HO hAA HA
          by_cases h128 : 128 ≤ c
          · have HE := HMore.out h128
            have HN2 : Hid (numGo s start (5 - 4) 4 A = numF s start) := HE.symm
            clear HE HMore HBad HDone
            go_wp2
            go_roundw
            case rel => exact ⟨4, A, by omega, by go_num, rfl, HLt, HN2, HR1, HM1, by omega⟩
            case measure => simp [intOf]
          · have h128' : c < 128 := by omega
            by_cases hv : 2147483647 < A
            · have HE : Hid (numF s start = .inl start) := HBad.out h128' (.inl hv)
              have hv' : (2147483647 : Int) < (A : Int) := by omega
              clear HMore HBad HDone
              by_cases hc0 : c = 0
              all_goals
                go_wp2
                exact ⟨rfl, .inl ⟨start, HE.out, rfl⟩, HM1.out⟩
            · have hv' : (A : Int) ≤ 2147483647 := by omega
              by_cases hc0 : c = 0
              · have HE : Hid (numF s start = .inl start) := HBad.out h128' (.inr ⟨hc0, by omega⟩)
                clear HMore HBad HDone
                go_wp2
                exact ⟨rfl, .inl ⟨start, HE.out, rfl⟩, HM1.out⟩
              · have HE : Hid (numF s start = .inr (A, start + 3 + 1)) := HDone.out h128' (fun h => by omega)
                clear HMore HBad HDone
                go_wp2
                go_ret
                exact ⟨.inr ⟨A, _, HE.out, rfl, HR1.out⟩, HM1.out⟩
        · have hB : bits BinOp.or IntKind.u64 (acc : Int) ((c : Int) % 128 * 268435456) = (A : Int) := by have := HO.out; simpa using this
          skip
          clear HO hAA HA
          by_cases h128 : 128 ≤ c
          · have HE := HMore.out h128
            have HN2 : Hid (numGo s start (5 - 5) 5 A = numF s start) := HE.symm
            clear HE HMore HBad HDone
            go_wp2
            go_roundw
            case rel => exact ⟨5, A, by omega, by go_num, rfl, HLt, HN2, HR1, HM1, by omega⟩
            case measure => simp [intOf]
          · have h128' : c < 128 := by omega
            by_cases hv : 2147483647 < A
            · have HE : Hid (numF s start = .inl start) := HBad.out h128' (.inl hv)
              have hv' : (2147483647 : Int) < (A : Int) := by omega
              clear HMore HBad HDone
              by_cases hc0 : c = 0
              all_goals
                go_wp2
                exact ⟨rfl, .inl ⟨start, HE.out, rfl⟩, HM1.out⟩
            · have hv' : (A : Int) ≤ 2147483647 := by omega
              by_cases hc0 : c = 0
              · have HE : Hid (numF s start = .inl start) := HBad.out h128' (.inr ⟨hc0, by omega⟩)
                clear HMore HBad HDone
                go_wp2
                exact ⟨rfl, .inl ⟨start, HE.out, rfl⟩, HM1.out⟩
              · have HE : Hid (numF s start = .inr (A, start + 4 + 1)) := HDone.out h128' (fun h => by omega)
                clear HMore HBad HDone
                go_wp2
                go_ret
                exact ⟨.inr ⟨A, _, HE.out, rfl, HR1.out⟩, HM1.out⟩
      · have hse : start + k = s.size := by omega
        have HE : Hid (numF s start = .inl s.size) := by
          show numF s start = _
          rw [← HN.out, show 5 - k = (4 - k) + 1 by omega, numGo_end (by omega)]
        rw [hse] at HRk
        go_wp2_with fail
        refine (next_end rb s wr HRk.out).mono ?_
        rintro e w1 ⟨rfl, hm1⟩
        have HM1 : Hid (Moved rb w w1) := HM.out.trans hm1
        clear hm1
        go_wp2
        exact ⟨rfl, .inl ⟨s.size, HE.out, rfl⟩, HM1.out⟩
    · have HE : Hid (numF s start = .inl start) := by
        show numF s start = _
        rw [← HN.out, show 5 - k = 0 by omega]; rfl
      go_wp2
      exact ⟨rfl, .inl ⟨start, HE.out, rfl⟩, HM.out⟩
end Go.Proofs.Ytabpiaaknjcnkaa
