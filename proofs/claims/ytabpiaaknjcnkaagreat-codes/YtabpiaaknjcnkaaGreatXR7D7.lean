/- The texts R7, D7, one behind the other. -/
import Derived.Test.YtabpiaaknjcnkaaGreatR6
import Derived.Test.YtabpiaaknjcnkaaGreatD6
import Derived.LoopTactic
import Derived.Defers
import Derived.Recover
/-
  The walk over the document's number.
-/
namespace Go.Proofs.YtabpiaaknjcnkaaGreat
open Go.RowKit
set_option linter.unusedVariables false
set_option linter.unusedSimpArgs false
set_option maxRecDepth 100000

/-- What number tells: the number, the place behind it, the place at which it fails. -/
def numR (s : ByteArray) (at_ most : Nat) : Int × Int × Int := match numF s at_ with
  | .inl p => (0, 0, p)
  | .inr (n, nx) => if most < n then (0, 0, at_) else (n, nx, -1)
theorem numR_bad {s : ByteArray} {at_ most p : Nat} (h : numF s at_ = .inl p) : numR s at_ most = (0, 0, (p : Int)) := by unfold numR; rw [h]
theorem numR_most {s : ByteArray} {at_ most n nx : Nat} (h : numF s at_ = .inr (n, nx)) (hm : most < n) : numR s at_ most = (0, 0, (at_ : Int)) := by unfold numR; rw [h]; simp only [if_pos hm]
theorem numR_ok {s : ByteArray} {at_ most n nx : Nat} (h : numF s at_ = .inr (n, nx)) (hm : ¬ most < n) : numR s at_ most = ((n : Int), (nx : Int), -1) := by unfold numR; rw [h]; simp only [if_neg hm]
def three (r : Int × Int × Int) : Value := .tuple #[.int .i64 r.1, .int .i64 r.2.1, .int .i64 r.2.2]

theorem ret_nums {a b c d : Int} (h1 : a = c) (h2 : b = d) : Ending.returned (.tuple #[.int .i64 a, .int .i64 b, .int .i64 (-1)]) = .returned (three (c, d, -1)) := by rw [h1, h2]; rfl

set_option maxHeartbeats 4000000 in
theorem rnum_any (s : ByteArray) (at_ most : Nat) (w : World) (hst : at_ ≤ s.size) (hs : s.size ≤ 9223372036854775000) (hm : most ≤ 2147483647) :
    Calls Tryz.prog 104 #[.string s, .int .i64 at_, .int .i64 most] w fun e w' => e = .returned (three (numR s at_ most)) ∧ w = w' := by
  go_enter Tryz.func104, Tryz.ntmps104
  go_wp2
  go_loop [9, 10, 11] (fun n z i => ∃ k acc P : Nat, k ≤ 5 ∧ i = .int .i64 k ∧ n = .int .i64 acc ∧ z = .int .i64 P ∧ Hid (P = 128 ^ k) ∧ P ≤ 34359738368 ∧ Hid (acc < P) ∧ Hid (numGo s at_ (5 - k) k acc = numF s at_)) (fun _ _ i => 6 - (intOf i).toNat)
  case atStart => exact ⟨0, 0, 1, by omega, rfl, rfl, rfl, rfl, by omega, by (show 0 < 1); omega, rfl⟩
  case round =>
    obtain ⟨k, acc, P, hk, rfl, rfl, rfl, HP, hP, HA, HN⟩ := hrel
    have ha := HA.out
    by_cases hlt : k < 5
    · by_cases hin : at_ + k < s.size
      · have hc256 : (s[at_ + k]).toNat < 256 := (s[at_ + k]).toNat_lt
        have hP4 : P ≤ 268435456 := by rw [HP.out]; exact Nat.le_trans (Nat.pow_le_pow_right (by decide) (show k ≤ 4 by omega)) (by decide)
        have HMore : Hid (128 ≤ (s[at_ + k]).toNat → numF s at_ = numGo s at_ (4 - k) (k + 1) (acc + (s[at_ + k]).toNat % 128 * P)) := fun h => by
          rw [← HN.out, show 5 - k = (4 - k) + 1 by omega, numGo_more hin (by omega), HP.out]
        have HBad : Hid ((s[at_ + k]).toNat < 128 → (2147483647 < acc + (s[at_ + k]).toNat % 128 * P ∨ ((s[at_ + k]).toNat = 0 ∧ 0 < k)) → numF s at_ = .inl at_) := fun h h' => by
          rw [← HN.out, show 5 - k = (4 - k) + 1 by omega, numGo_bad hin h (by rw [← HP.out]; exact h')]
        have HDone : Hid ((s[at_ + k]).toNat < 128 → ¬ (2147483647 < acc + (s[at_ + k]).toNat % 128 * P ∨ ((s[at_ + k]).toNat = 0 ∧ 0 < k)) → numF s at_ = .inr (acc + (s[at_ + k]).toNat % 128 * P, at_ + k + 1)) := fun h h' => by
          rw [← HN.out, show 5 - k = (4 - k) + 1 by omega, numGo_done hin h (by rw [← HP.out]; exact h'), HP.out]
        have hM : (s[at_ + k]).toNat % 128 * P ≤ 34091302912 := Nat.le_trans (Nat.mul_le_mul (show (s[at_ + k]).toNat % 128 ≤ 127 by omega) hP4) (by decide)
        have HLt : Hid (acc + (s[at_ + k]).toNat % 128 * P < P * 128) := by
          have h2 : (s[at_ + k]).toNat % 128 ≤ 127 := by omega
          have h3 := Nat.mul_le_mul_right P h2
          show _ < P * 128
          omega
        have HP2 : Hid (P * 128 = 128 ^ (k + 1)) := by show _ = _; rw [HP.out, Nat.pow_succ]
        have hmul : (((s[at_ + k]).toNat : Int) % 128) * (P : Int) = (((s[at_ + k]).toNat % 128 * P : Nat) : Int) := by simp
        have q1 : (at_ : Int) + (k : Int) < (s.size : Int) := by omega
        generalize hMM : (s[at_ + k]).toNat % 128 * P = M at *
        generalize hcc : (s[at_ + k]).toNat = c at *
        clear hMM HP HN HA
        by_cases h128 : 128 ≤ c
        · have HN2 : Hid (numGo s at_ (5 - (k + 1)) (k + 1) (acc + M) = numF s at_) := by
            have := HMore.out h128
            show _ = _
            rw [this, show 5 - (k + 1) = 4 - k by omega]
          clear HMore HBad HDone
          go_wp2
          go_round
          case rel => exact ⟨k + 1, acc + M, P * 128, by omega, by go_num, by go_num, by go_num, HP2, by omega, HLt, HN2⟩
          case measure => simp [intOf]; omega
        · have h128' : c < 128 := by omega
          by_cases hv : most < acc + M
          · have HE : Hid (numR s at_ most = (0, 0, (at_ : Int))) := by
              by_cases hb : 2147483647 < acc + M ∨ (c = 0 ∧ 0 < k)
              · exact numR_bad (HBad.out h128' hb)
              · exact numR_most (HDone.out h128' hb) hv
            have hv' : (most : Int) < (acc : Int) + (M : Int) := by omega
            clear HMore HBad HDone
            go_wp2
            go_ret3
            rw [HE.out]
            exact ⟨rfl, rfl⟩
          · have hv' : ¬ (most : Int) < (acc : Int) + (M : Int) := by omega
            by_cases hc0 : c = 0 ∧ 0 < k
            · have HE : Hid (numR s at_ most = (0, 0, (at_ : Int))) := numR_bad (HBad.out h128' (.inr hc0))
              obtain ⟨hc1, hk1⟩ := hc0
              have hk2 : (0 : Int) < (k : Int) := by omega
              have hM0 : M = 0 := by rw [hc1] at hmul; simp at hmul; omega
              subst hM0
              clear HMore HBad HDone hmul
              go_wp2
              go_ret3
              rw [HE.out]
              exact ⟨rfl, rfl⟩
            · have HE : Hid (numR s at_ most = (((acc + M : Nat) : Int), ((at_ + k + 1 : Nat) : Int), -1)) := numR_ok (HDone.out h128' (fun h => by rcases h with h | h; omega; exact hc0 h)) hv
              clear HMore HBad HDone
              by_cases hc1 : c = 0
              · have hk3 : k = 0 := by omega
                have hk4 : ¬ (0 : Int) < (k : Int) := by omega
                clear hk3
                have hM0 : M = 0 := by rw [hc1] at hmul; simp at hmul; omega
                subst hM0
                clear hmul
                go_wp2
                go_ret3
                rw [HE.out]
                exact ⟨ret_nums (by omega) (by omega), rfl⟩
              · go_wp2
                go_ret3
                rw [HE.out]
                exact ⟨ret_nums (by omega) (by omega), rfl⟩
      · have HE : Hid (numR s at_ most = (0, 0, (s.size : Int))) := numR_bad (by rw [← HN.out, show 5 - k = (4 - k) + 1 by omega, numGo_end hin])
        have q1 : ¬ (at_ : Int) + (k : Int) < (s.size : Int) := by omega
        go_wp2
        go_ret3
        rw [HE.out]
        exact ⟨rfl, rfl⟩
    · have HE : Hid (numR s at_ most = (0, 0, (at_ : Int))) := numR_bad (by rw [← HN.out, show 5 - k = 0 by omega]; rfl)
      go_wp2
      go_ret3
      rw [HE.out]
      exact ⟨rfl, rfl⟩
end Go.Proofs.YtabpiaaknjcnkaaGreat

/-
  The walk over decode.
-/
namespace Go.Proofs.YtabpiaaknjcnkaaGreat
open Go.RowKit
set_option linter.unusedVariables false
set_option linter.unusedSimpArgs false
set_option maxRecDepth 100000

set_option maxHeartbeats 2000000 in
theorem catch_idle (a b c : Addr) (w : World) :
    CallsD Tryz.prog 127 #[.pointer (some a), .pointer (some b), .pointer (some c)] .returning w fun e u' w' => e = .returned (.tuple #[]) ∧ u' = .returning ∧ w' = w := by
  refine callsD_of_wpS Tryz.func127 rfl fun c₀ cs hu => ?_
  apply wpS_seq
  apply wpS_region
  simp [wpOpsS, go_sem, recoverD, hu, Tryz.ntmps127, Exit.thenS]
  refine wpS_of_wp ?_
  go_wp2
  cases c₀
  simp_all [bodyPostS, results, Tryz.results127]

theorem assert_fault (xT : TypeId) (v : Value) (w : World) : (Instr.typeAssert (.iface 128 v) xT 128 true).run Tryz.prog w = .ok (.tuple #[v, .bool true]) w := by
  simp [Instr.typeAssert, run_underlying Tryz.underlying128, go_sem, Result.andThen]

set_option maxHeartbeats 4000000 in
theorem catch_fault (q0 q1 q2 : Nat) (p : Nat) (older : List PanicEntry) (v0 v1 v2 : Value) (w : World) (h0 : w.cell? ⟨q0, 0, none⟩ = some v0) (h1 : w.cell? ⟨q1, 0, none⟩ = some v1) (h2 : w.cell? ⟨q2, 0, none⟩ = some v2)
    (f0 : w.frozen? ⟨q0, 0, none⟩ = false) (f1 : w.frozen? ⟨q1, 0, none⟩ = false) (f2 : w.frozen? ⟨q2, 0, none⟩ = false) (n01 : ¬ q0 = q1) (n02 : ¬ q0 = q2) (n12 : ¬ q1 = q2) (l0 : q0 < w.heap.size) (l1 : q1 < w.heap.size) (l2 : q2 < w.heap.size) :
    CallsD Tryz.prog 127 #[.pointer (some ⟨q0, 0, none⟩), .pointer (some ⟨q1, 0, none⟩), .pointer (some ⟨q2, 0, none⟩)] (.panicking ({ v := .iface 128 (.agg #[.int .i64 p]), recovered := false } :: older)) w fun e u' w' =>
      e = .returned (.tuple #[]) ∧ u' = .panicking ({ v := .iface 128 (.agg #[.int .i64 p]), recovered := true } :: older) ∧
      w' = ((((w.setCell ⟨q0, 0, none⟩ (.slice none 0 0)).setCell ⟨q1, 0, none⟩ (.int .i64 3)).setCell ⟨q2, 0, none⟩ (.int .i64 p)).alloc (.cells #[.int .i64 p] 128)).drew := by
  refine callsD_of_wpS Tryz.func127 rfl fun c₀ cs hu => ?_
  apply wpS_seq
  apply wpS_region
  simp [wpOpsS, go_sem, recoverD, hu, Tryz.ntmps127, Exit.thenS]
  refine wpS_of_wp ?_
  have hta := assert_fault
  go_wp2
  go_region
  all_goals
    go_wp2
    cases c₀
    simp_all [bodyPostS, results, Tryz.results127]
end Go.Proofs.YtabpiaaknjcnkaaGreat
