/- The texts D2, D3, one behind the other. -/
import Derived.Test.YtabpiaaknjcnkaaGreatXLEPND1
/-
  The walk over Number.
-/
namespace Go.Proofs.YtabpiaaknjcnkaaGreat
open Go.RowKit
set_option linter.unusedVariables false
set_option linter.unusedSimpArgs false
set_option maxRecDepth 100000

/-- What Number does. -/
def NumPost (rb : Nat) (s : ByteArray) (start : Nat) (w : World) (e : Ending) (w' : World) : Prop :=
  ((∃ p, numF s start = .inl p ∧ e = gaveUp p) ∨ ∃ n nx : Nat, numF s start = .inr (n, nx) ∧ e = .returned (.int .i64 n) ∧ RAt w' rb s nx) ∧ Moved rb w w'

theorem or_num (k acc c : Nat) (hk : k ≤ 4) (ha : acc < 128 ^ k) (hc : c < 128) : bits BinOp.or IntKind.u64 (acc : Int) ((c * 128 ^ k : Nat) : Int) = ((acc + c * 128 ^ k : Nat) : Int) := by
  have hp : 128 ^ k ≤ 268435456 := Nat.le_trans (Nat.pow_le_pow_right (by decide) hk) (by decide)
  have hb : c * 128 ^ k < 18446744073709551616 := Nat.lt_of_le_of_lt (Nat.mul_le_mul (Nat.le_of_lt hc) hp) (by decide)
  rw [u64_or_nat acc (c * 128 ^ k) (by omega) hb]
  have e : (128 : Nat) ^ k = 2 ^ (7 * k) := by rw [Nat.pow_mul]
  rw [e] at ha ⊢
  have := Nat.two_pow_add_eq_or_of_lt (i := 7 * k) (b := acc) ha c
  rw [Nat.or_comm, Nat.mul_comm c, ← this]
  congr 1; omega

set_option maxHeartbeats 8000000 in
theorem number_any (rb : Nat) (s : ByteArray) (start : Nat) (w : World) (h : RAt w rb s start) (hst : start ≤ s.size) (hs : s.size ≤ 9223372036854775000) :
    Calls Tryz.prog 134 #[.pointer (some ⟨rb, 0, none⟩)] w (NumPost rb s start w) := by
  obtain ⟨c0, c1, c2⟩ := h.cells
  have HR : Hid (RAt w rb s start) := h
  clear h
  go_enter Tryz.func134, Tryz.ntmps134
  go_wp2
  go_loopw [4, 11] (fun m c wr => ∃ k acc : Nat, k ≤ 5 ∧ c = .int .i64 k ∧ m = .int .u64 acc ∧ Hid (acc < 128 ^ k) ∧ Hid (numGo s start (5 - k) k acc = numF s start) ∧ Hid (RAt wr rb s (start + k)) ∧ Hid (Moved rb w wr) ∧ start + k ≤ s.size) (fun _ c _ => 6 - (intOf c).toNat)
  case atStart => exact ⟨0, 0, by omega, rfl, rfl, by simp [Hid], rfl, HR, Moved.refl _ _, by omega⟩
  case round =>
    obtain ⟨k, acc, hk, rfl, rfl, HA, HN, HRk, HM, hle⟩ := hrel
    clear c0 c1 c2 HR
    by_cases hlt : k < 5
    · by_cases hin : start + k < s.size
      · have hc256 : (s[start + k]).toNat < 256 := (s[start + k]).toNat_lt
        have HMore : Hid (128 ≤ (s[start + k]).toNat → numF s start = numGo s start (4 - k) (k + 1) (acc + (s[start + k]).toNat % 128 * 128 ^ k)) := fun h => by
          rw [← HN.out, show 5 - k = (4 - k) + 1 by omega, numGo_more hin (by omega)]
        have HBad : Hid ((s[start + k]).toNat < 128 → (2147483647 < acc + (s[start + k]).toNat % 128 * 128 ^ k ∨ ((s[start + k]).toNat = 0 ∧ 0 < k)) → numF s start = .inl start) := fun h h' => by
          rw [← HN.out, show 5 - k = (4 - k) + 1 by omega, numGo_bad hin h h']
        have HDone : Hid ((s[start + k]).toNat < 128 → ¬ (2147483647 < acc + (s[start + k]).toNat % 128 * 128 ^ k ∨ ((s[start + k]).toNat = 0 ∧ 0 < k)) → numF s start = .inr (acc + (s[start + k]).toNat % 128 * 128 ^ k, start + k + 1)) := fun h h' => by
          rw [← HN.out, show 5 - k = (4 - k) + 1 by omega, numGo_done hin h h']
        have HO : Hid (bits BinOp.or IntKind.u64 (acc : Int) (((s[start + k]).toNat % 128 * 128 ^ k : Nat) : Int) = ((acc + (s[start + k]).toNat % 128 * 128 ^ k : Nat) : Int)) := or_num k acc _ (by omega) HA.out (by omega)
        have HLt : Hid (acc + (s[start + k]).toNat % 128 * 128 ^ k < 128 ^ (k + 1)) := by
          have h1 := HA.out
          have h2 : (s[start + k]).toNat % 128 ≤ 127 := by omega
          have h3 := Nat.mul_le_mul_right (128 ^ k) h2
          show _ < 128 ^ (k + 1)
          rw [Nat.pow_succ]; omega
        go_wp2_with fail
        refine (next_some rb s (start + k) wr HRk.out hin (by omega)).mono ?_
        rintro e w1 ⟨rfl, hr1, hm1⟩
        have HR1 : Hid (RAt w1 rb s (start + k + 1)) := hr1
        have HM1 : Hid (Moved rb w w1) := HM.out.trans hm1
        clear hr1 hm1 HRk HM HN
        generalize (s[start + k]).toNat = c at *
        generalize hAA : acc + c % 128 * 128 ^ k = A at *
        rcases (show k = 0 ∨ k = 1 ∨ k = 2 ∨ k = 3 ∨ k = 4 by omega) with rfl | rfl | rfl | rfl | rfl
        · have hB : bits BinOp.or IntKind.u64 (acc : Int) ((c : Int) % 128) = (A : Int) := by have := HO.out; simpa using this
          skip
          clear HO hAA HA
          by_cases h128 : 128 ≤ c
          · have HE := HMore.out h128
            have HN2 : Hid (numGo s start (5 - 1) 1 A = numF s start) := HE.symm
            clear HE HMore HBad HDone
            go_wp2
            go_roundw
            case rel => exact ⟨1, A, by omega, by go_num, rfl, HLt, HN2, HR1, HM1, by omega⟩
            case measure => simp [intOf]
          · have h128' : c < 128 := by omega
            by_cases hv : 2147483647 < A
            · exact absurd HLt.out (by simp; omega)
            · have hv' : (A : Int) ≤ 2147483647 := by omega
              by_cases hc0 : c = 0
              · have HE : Hid (numF s start = .inr (A, start + 0 + 1)) := HDone.out h128' (fun h => by omega)
                have hB0 : bits BinOp.or IntKind.u64 (acc : Int) 0 = (A : Int) := by rw [hc0] at hB; simpa using hB
                clear HMore HBad HDone
                go_wp2
                go_ret
                exact ⟨.inr ⟨A, _, HE.out, rfl, HR1.out⟩, HM1.out⟩
              · have HE : Hid (numF s start = .inr (A, start + 0 + 1)) := HDone.out h128' (fun h => by omega)
                clear HMore HBad HDone
                go_wp2
                go_ret
                exact ⟨.inr ⟨A, _, HE.out, rfl, HR1.out⟩, HM1.out⟩
        · have hB : bits BinOp.or IntKind.u64 (acc : Int) ((c : Int) % 128 * 128) = (A : Int) := by have := HO.out; simpa using this
          skip
          clear HO hAA HA
          by_cases h128 : 128 ≤ c
          · have HE := HMore.out h128
            have HN2 : Hid (numGo s start (5 - 2) 2 A = numF s start) := HE.symm
            clear HE HMore HBad HDone
            go_wp2
            go_roundw
            case rel => exact ⟨2, A, by omega, by go_num, rfl, HLt, HN2, HR1, HM1, by omega⟩
            case measure => simp [intOf]
          · have h128' : c < 128 := by omega
            by_cases hv : 2147483647 < A
            · have HE : Hid (numF s start = .inl start) := HBad.out h128' (.inl hv)
              have hv' : (2147483647 : Int) < (A : Int) := by omega
              clear HMore HBad HDone
              by_cases hc0 : c = 0
              all_goals
                go_wp2
                exact ⟨rfl, .inl ⟨start, HE.out, rfl⟩, HM1.out⟩
            · have hv' : (A : Int) ≤ 2147483647 := by omega
              by_cases hc0 : c = 0
              · have HE : Hid (numF s start = .inl start) := HBad.out h128' (.inr ⟨hc0, by omega⟩)
                clear HMore HBad HDone
                go_wp2
                exact ⟨rfl, .inl ⟨start, HE.out, rfl⟩, HM1.out⟩
              · have HE : Hid (numF s start = .inr (A, start + 1 + 1)) := HDone.out h128' (fun h => by omega)
                clear HMore HBad HDone
                go_wp2
                go_ret
                exact ⟨.inr ⟨A, _, HE.out, rfl, HR1.out⟩, HM1.out⟩
        · have hB : bits BinOp.or IntKind.u64 (acc : Int) ((c : Int) % 128 * 16384) = (A : Int) := by have := HO.out; simpa using this
          skip
          clear HO hAA HA
          by_cases h128 : 128 ≤ c
          · have HE := HMore.out h128
            have HN2 : Hid (numGo s start (5 - 3) 3 A = numF s start) := HE.symm
            clear HE HMore HBad HDone
            go_wp2
            go_roundw
            case rel => exact ⟨3, A, by omega, by go_num, rfl, HLt, HN2, HR1, HM1, by omega⟩
            case measure => simp [intOf]
          · have h128' : c < 128 := by omega
            by_cases hv : 2147483647 < A
            · have HE : Hid (numF s start = .inl start) := HBad.out h128' (.inl hv)
              have hv' : (2147483647 : Int) < (A : Int) := by omega
              clear HMore HBad HDone
              by_cases hc0 : c = 0
              all_goals
                go_wp2
                exact ⟨rfl, .inl ⟨start, HE.out, rfl⟩, HM1.out⟩
            · have hv' : (A : Int) ≤ 2147483647 := by omega
              by_cases hc0 : c = 0
              · have HE : Hid (numF s start = .inl start) := HBad.out h128' (.inr ⟨hc0, by omega⟩)
                clear HMore HBad HDone
                go_wp2
                exact ⟨rfl, .inl ⟨start, HE.out, rfl⟩, HM1.out⟩
              · have HE : Hid (numF s start = .inr (A, start + 2 + 1)) := HDone.out h128' (fun h => by omega)
                clear HMore HBad HDone
                go_wp2
                go_ret
                exact ⟨.inr ⟨A, _, HE.out, rfl, HR1.out⟩, HM1.out⟩
        · have hB : bits BinOp.or IntKind.u64 (acc : Int) ((c : Int) % 128 * 2097152) = (A : Int) := by have := HO.out; simpa using this
          skip
          clear HO hAA HA
          by_cases h128 : 128 ≤ c
          · have HE := HMore.out h128
            have HN2 : Hid (numGo s start (5 - 4) 4 A = numF s start) := HE.symm
            clear HE HMore HBad HDone
            go_wp2
            go_roundw
            case rel => exact ⟨4, A, by omega, by go_num, rfl, HLt, HN2, HR1, HM1, by omega⟩
            case measure => simp [intOf]
          · have h128' : c < 128 := by omega
            by_cases hv : 2147483647 < A
            · have HE : Hid (numF s start = .inl start) := HBad.out h128' (.inl hv)
              have hv' : (2147483647 : Int) < (A : Int) := by omega
              clear HMore HBad HDone
              by_cases hc0 : c = 0
              all_goals
                go_wp2
                exact ⟨rfl, .inl ⟨start, HE.out, rfl⟩, HM1.out⟩
            · have hv' : (A : Int) ≤ 2147483647 := by omega
              by_cases hc0 : c = 0
              · have HE : Hid (numF s start = .inl start) := HBad.out h128' (.inr ⟨hc0, by omega⟩)
                clear HMore HBad HDone
                go_wp2
                exact ⟨rfl, .inl ⟨start, HE.out, rfl⟩, HM1.out⟩
              · have HE : Hid (numF s start = .inr (A, start + 3 + 1)) := HDone.out h128' (fun h => by omega)
                clear HMore HBad HDone
                go_wp2
                go_ret
                exact ⟨.inr ⟨A, _, HE.out, rfl, HR1.out⟩, HM1.out⟩
        · have hB : bits BinOp.or IntKind.u64 (acc : Int) ((c : Int) % 128 * 268435456) = (A : Int) := by have := HO.out; simpa using this
          skip
          clear HO hAA HA
          by_cases h128 : 128 ≤ c
          · have HE := HMore.out h128
            have HN2 : Hid (numGo s start (5 - 5) 5 A = numF s start) := HE.symm
            clear HE HMore HBad HDone
            go_wp2
            go_roundw
            case rel => exact ⟨5, A, by omega, by go_num, rfl, HLt, HN2, HR1, HM1, by omega⟩
            case measure => simp [intOf]
          · have h128' : c < 128 := by omega
            by_cases hv : 2147483647 < A
            · have HE : Hid (numF s start = .inl start) := HBad.out h128' (.inl hv)
              have hv' : (2147483647 : Int) < (A : Int) := by omega
              clear HMore HBad HDone
              by_cases hc0 : c = 0
              all_goals
                go_wp2
                exact ⟨rfl, .inl ⟨start, HE.out, rfl⟩, HM1.out⟩
            · have hv' : (A : Int) ≤ 2147483647 := by omega
              by_cases hc0 : c = 0
              · have HE : Hid (numF s start = .inl start) := HBad.out h128' (.inr ⟨hc0, by omega⟩)
                clear HMore HBad HDone
                go_wp2
                exact ⟨rfl, .inl ⟨start, HE.out, rfl⟩, HM1.out⟩
              · have HE : Hid (numF s start = .inr (A, start + 4 + 1)) := HDone.out h128' (fun h => by omega)
                clear HMore HBad HDone
                go_wp2
                go_ret
                exact ⟨.inr ⟨A, _, HE.out, rfl, HR1.out⟩, HM1.out⟩
      · have hse : start + k = s.size := by omega
        have HE : Hid (numF s start = .inl s.size) := by
          show numF s start = _
          rw [← HN.out, show 5 - k = (4 - k) + 1 by omega, numGo_end (by omega)]
        rw [hse] at HRk
        go_wp2_with fail
        refine (next_end rb s wr HRk.out).mono ?_
        rintro e w1 ⟨rfl, hm1⟩
        have HM1 : Hid (Moved rb w w1) := HM.out.trans hm1
        clear hm1
        go_wp2
        exact ⟨rfl, .inl ⟨s.size, HE.out, rfl⟩, HM1.out⟩
    · have HE : Hid (numF s start = .inl start) := by
        show numF s start = _
        rw [← HN.out, show 5 - k = 0 by omega]; rfl
      go_wp2
      exact ⟨rfl, .inl ⟨start, HE.out, rfl⟩, HM.out⟩
end Go.Proofs.YtabpiaaknjcnkaaGreat

/-
  The walks over Text, End, readCopy and readOp.
-/
namespace Go.Proofs.YtabpiaaknjcnkaaGreat
open Go.RowKit
set_option linter.unusedVariables false
set_option linter.unusedSimpArgs false
set_option maxRecDepth 100000

set_option maxHeartbeats 1000000 in
theorem text_end (rb : Nat) (s : ByteArray) (at_ n : Nat) (w : World) (h : RAt w rb s at_) (hlt : at_ ≤ s.size) (hn : s.size < at_ + n) (hs : s.size ≤ 9223372036854775000) (hn2 : n ≤ 2000) :
    Calls Tryz.prog 135 #[.pointer (some ⟨rb, 0, none⟩), .int .i64 n] w fun e w' => e = gaveUp s.size ∧ Moved rb w w' := by
  obtain ⟨c0, c1, c2⟩ := h.cells
  have HR : Hid (RAt w rb s at_) := h
  have q1 : IntKind.i64.wrap ((s.size : Int) - (at_ : Int)) = (s.size : Int) - at_ := by rw [IntKind.wrap_i64]; omega
  have q2 : (s.size : Int) - (at_ : Int) < (n : Int) := by omega
  clear h
  go_enter Tryz.func135, Tryz.ntmps135
  go_wp2
  go_quiet (fail)
  go_wp2_with fail
  refine (toosoon_any rb s at_ (w.drewN nq) HR.out).mono ?_
  rintro e w' ⟨rfl, rfl⟩
  go_wp2
  exact ⟨rfl, rfl, .of_below (below_drewN0 _ _ _)⟩

set_option maxHeartbeats 1000000 in
theorem text_some (rb : Nat) (s : ByteArray) (at_ n : Nat) (w : World) (h : RAt w rb s at_) (hn : at_ + n ≤ s.size) (hs : s.size ≤ 9223372036854775000) (hn2 : n ≤ 2000) :
    Calls Tryz.prog 135 #[.pointer (some ⟨rb, 0, none⟩), .int .i64 n] w fun e w' => e = .returned (.string (s.extract at_ (at_ + n))) ∧ RAt w' rb s (at_ + n) ∧ Moved rb w w' := by
  obtain ⟨c0, c1, c2⟩ := h.cells
  have HR : Hid (RAt (w.setCell ⟨rb, 1, none⟩ (.int .i64 ((at_ : Int) + n))) rb s (at_ + n)) := h.set _ _ (by omega)
  have q1 : IntKind.i64.wrap ((s.size : Int) - (at_ : Int)) = (s.size : Int) - at_ := by rw [IntKind.wrap_i64]; omega
  have q2 : ¬ (s.size : Int) - (at_ : Int) < (n : Int) := by omega
  have q3 : IntKind.i64.wrap ((at_ : Int) + (n : Int)) = (at_ : Int) + n := by rw [IntKind.wrap_i64]; omega
  clear h
  go_enter Tryz.func135, Tryz.ntmps135
  go_wp2
  go_quiet (fail)
  go_wp2
  have d0 : ((w.drewN nq).setCell ⟨rb, 1, none⟩ (.int .i64 ((at_ : Int) + n))).cell? ⟨rb, 0, none⟩ = some (.string s) := (RAt.cells HR.out).1
  have d1 : ((w.drewN nq).setCell ⟨rb, 1, none⟩ (.int .i64 ((at_ : Int) + n))).cell? ⟨rb, 1, none⟩ = some (.int .i64 ((at_ : Int) + n)) := (RAt.cells HR.out).2.1
  have HC : Hid (∀ W, Calls Tryz.prog 54 #[.string (s.extract at_ (at_ + n))] W fun e w' => e = .returned (.string (s.extract at_ (at_ + n))) ∧ Below W.heap.size W w') := fun W => clone_any _ W (by rw [size_ext _ _ _ hn]; omega)
  have HR1 : Hid (RAt ((w.drewN nq).setCell ⟨rb, 1, none⟩ (.int .i64 ((at_ : Int) + n))) rb s (at_ + n)) := HR.out
  have hrb : rb < ((w.drewN nq).setCell ⟨rb, 1, none⟩ (.int .i64 ((at_ : Int) + n))).heap.size := lt_of_block HR1.out
  have HM1 : Hid (Moved rb w ((w.drewN nq).setCell ⟨rb, 1, none⟩ (.int .i64 ((at_ : Int) + n)))) := (Moved.of_below (below_drewN0 _ _ _)).trans (Moved.set _ _ _ _)
  generalize ((w.drewN nq).setCell ⟨rb, 1, none⟩ (.int .i64 ((at_ : Int) + n))) = W1 at *
  have r1 : (0 : Int) ≤ (at_ : Int) := by omega
  have r2 : (at_ : Int) ≤ (at_ : Int) + (n : Int) := by omega
  have r3 : (at_ : Int) + (n : Int) ≤ (s.size : Int) := by omega
  clear HR c0 c1 c2 q1 q2 q3
  go_region_held3 (fun w' => w'.cell? ⟨rb, 0, none⟩ = some (.string s) ∧ w'.cell? ⟨rb, 1, none⟩ = some (.int .i64 ((at_ : Int) + n))) (go_keep)
    (first | (go_at_call 54; refine (HC.out _).mono ?_; rintro e w3 ⟨rfl, hb3⟩; have e0 := (hb3.cell (p := ⟨rb, 0, none⟩) hrb).trans d0; have e1 := (hb3.cell (p := ⟨rb, 1, none⟩) hrb).trans d1))
  have HR3 : Hid (RAt w3 rb s (at_ + n)) := RAt.kept (w := W1.drew) HR1.out hb3
  have HM3 : Hid (Moved rb w w3) := (HM1.out.trans (Moved.of_below (Below.refl _ _).drew)).trans (Moved.of_below hb3)
  clear hb3 e0 e1 HC HR1 HM1 d0 d1
  go_wp2
  go_ret
  exact ⟨rfl, HR3.out, HM3.out⟩

set_option maxHeartbeats 1000000 in
theorem end_more (rb : Nat) (s : ByteArray) (at_ : Nat) (w : World) (h : RAt w rb s at_) (hlt : at_ < s.size) :
    Calls Tryz.prog 129 #[.pointer (some ⟨rb, 0, none⟩)] w fun e w' => e = gaveUp at_ ∧ Moved rb w w' := by
  have HR : Hid (RAt w rb s at_) := h
  clear h
  go_enter Tryz.func129, Tryz.ntmps129
  go_wp2_with fail
  refine (atend_any rb s at_ _ HR.out).mono ?_
  rintro e w1 ⟨rfl, k, rfl⟩
  rw [show decide (at_ = s.size) = false from by simp; omega]
  obtain ⟨c0, c1, c2⟩ := (HR.out.drewN k).cells
  go_wp2_with fail
  refine (giveup_any at_ _).mono ?_
  rintro e w' ⟨rfl, rfl⟩
  go_wp2
  exact ⟨rfl, rfl, .of_below (below_drewN0 _ _ _)⟩
set_option maxHeartbeats 1000000 in
theorem end_none (rb : Nat) (s : ByteArray) (at_ : Nat) (w : World) (h : RAt w rb s at_) (hlt : ¬ at_ < s.size) (hle : at_ ≤ s.size) :
    Calls Tryz.prog 129 #[.pointer (some ⟨rb, 0, none⟩)] w fun e w' => e = .returned (.tuple #[]) ∧ Moved rb w w' := by
  have HR : Hid (RAt w rb s at_) := h
  clear h
  go_enter Tryz.func129, Tryz.ntmps129
  go_wp2_with fail
  refine (atend_any rb s at_ _ HR.out).mono ?_
  rintro e w1 ⟨rfl, k, rfl⟩
  rw [show decide (at_ = s.size) = true from by simp; omega]
  go_wp2
  refine bodyPost_end (results_none rfl _ _ _) rfl ?_
  exact ⟨rfl, .of_below (below_drewN0 _ _ _)⟩

theorem OwnOps.moved {w w' : World} {base rb at_ : Nat} {v : Value} {xs : List DOp} {s : ByteArray} (h : OwnOps w base v xs) (hr : RAt w rb s at_) (hm : Moved rb w w') : OwnOps w' base v xs := by
  refine own_block h (fun g hg => hm.block g (row_own_lt h hg) (fun e => ?_))
  subst e
  rcases h.2 with ⟨hv, _⟩ | ⟨g', cap, cur, hv, _, hb, _⟩
  · rw [hv] at hg; cases hg
  · rw [hv] at hg; cases hg
    unfold RAt at hr
    rw [hb] at hr
    simp at hr

/-- What readCopy does. -/
def CopyPost (rb : Nat) (s : ByteArray) (out : List DOp) (n nx : Nat) (w : World) (e : Ending) (w' : World) : Prop :=
  ((∃ p, e = gaveUp p ∧ (numF s nx = .inl p ∨ ∃ f b, numF s nx = .inr (f, b) ∧ (2000 < f + n ∨ goesOn out f n = true) ∧ p = nx)) ∨
    ∃ f b : Nat, numF s nx = .inr (f, b) ∧ ¬ (2000 < f + n ∨ goesOn out f n = true) ∧ e = .returned (.agg #[.int .i64 f, .int .i64 n, .string ⟨#[]⟩]) ∧ RAt w' rb s b) ∧ Moved rb w w'

theorem isOp_num (f n : Nat) (hn : 0 < n) : isOpB f n ⟨#[]⟩ 2000 = decide (f + n ≤ 2000) := by
  unfold isOpB
  rw [if_pos (by omega), show (⟨#[]⟩ : ByteArray).toList.isEmpty = true from by rw [isEmpty_iff]; rfl]
  simp; omega

end Go.Proofs.YtabpiaaknjcnkaaGreat
