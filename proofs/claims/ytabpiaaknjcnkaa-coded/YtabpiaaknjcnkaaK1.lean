/-
  The walk over cofferkeep's sameOps.
-/
import Derived.Test.YtabpiaaknjcnkaaL1
import Derived.LoopTactic
namespace Go.Proofs.Ytabpiaaknjcnkaa
open Go.RowKit
set_option linter.unusedVariables false
set_option linter.unusedSimpArgs false
set_option maxRecDepth 100000

set_option maxHeartbeats 2000000 in
theorem ksame_two (b off cap b' off' cap' : Nat) (xs : List DOp) (w : World) (hx : xs.length ≤ 1000000000000000) (h1 : ReadsAt w b off xs) (h2 : ReadsAt w b' off' xs) :
    Calls Try.prog 18 #[.slice (some ⟨b, off, none⟩) xs.length cap, .slice (some ⟨b', off', none⟩) xs.length cap'] w fun e w' => e = .returned (.bool true) ∧ ∃ n, w' = w.drewN n := by
  have H1 : Hid (ReadsAt w b off xs) := h1
  have H2 : Hid (ReadsAt w b' off' xs) := h2
  clear h1 h2
  go_enter Try.func18, Try.ntmps18
  go_wp2
  go_loopw [5] (fun i wr => ∃ k n : Nat, k ≤ xs.length ∧ i = .int .i64 k ∧ wr = w.drewN n) (fun i _ => xs.length + 1 - (intOf i).toNat)
  case atStart => exact ⟨0, 0, by omega, rfl, rfl⟩
  case round =>
    obtain ⟨k, n, hk, rfl, hwr⟩ := hrel
    by_cases hlt : k < xs.length
    · obtain ⟨⟨f, l, t⟩, ho⟩ : ∃ o, xs[k]? = some o := ⟨xs[k], by simp [hlt]⟩
      obtain ⟨r0, r1, r2⟩ := H1.out k _ ho
      obtain ⟨s0, s1, s2⟩ := H2.out k _ ho
      subst hwr
      have c0 : (w.drewN n).cell? ⟨b, off + k * 3, none⟩ = some (.int .i64 f) := r0
      have c1 : (w.drewN n).cell? ⟨b, off + k * 3 + 1, none⟩ = some (.int .i64 l) := r1
      have c2 : (w.drewN n).cell? ⟨b, off + k * 3 + 2, none⟩ = some (.string t) := r2
      have d0 : (w.drewN n).cell? ⟨b', off' + k * 3, none⟩ = some (.int .i64 f) := s0
      have d1 : (w.drewN n).cell? ⟨b', off' + k * 3 + 1, none⟩ = some (.int .i64 l) := s1
      have d2 : (w.drewN n).cell? ⟨b', off' + k * 3 + 2, none⟩ = some (.string t) := s2
      clear ho
      have q1 : (k : Int) < (xs.length : Int) := by omega
      have q2 : (0 : Int) ≤ (k : Int) := by omega
      go_wp2
      go_quiet (fail)
      go_wp2
      go_roundw
      case rel => exact ⟨k + 1, n + nq, by omega, by go_num, rfl⟩
      case measure => simp [intOf]; omega
    · subst hwr
      go_wp2
      go_ret
      exact ⟨rfl, n, rfl⟩

set_option maxHeartbeats 1000000 in
theorem ksame_nil (ao ao' : Option Addr) (cap cap' : Nat) (w : World) :
    Calls Try.prog 18 #[.slice ao 0 cap, .slice ao' 0 cap'] w fun e w' => e = .returned (.bool true) ∧ ∃ n, w' = w.drewN n := by
  go_enter Try.func18, Try.ntmps18
  go_wp2
  go_loopw [5] (fun i wr => i = .int .i64 0 ∧ w = wr) (fun _ _ => 0)
  case atStart => exact ⟨rfl, rfl⟩
  case round =>
    obtain ⟨rfl, rfl⟩ := hrel
    go_wp2
    go_ret
    exact ⟨rfl, 0, rfl⟩

/-- Two lists that read the same are the same. -/
theorem ksame_any {va vb : Value} {xs : List DOp} {w : World} (hx : xs.length ≤ 1000000000000000) (h1 : View w va xs) (h2 : View w vb xs) :
    Calls Try.prog 18 #[va, vb] w fun e w' => e = .returned (.bool true) ∧ ∃ n, w' = w.drewN n := by
  rcases h1 with ⟨h0, ao, cap, rfl⟩ | ⟨b, off, cap, rfl, _, r1⟩
  · rcases h2 with ⟨_, ao', cap', rfl⟩ | ⟨b', off', cap', rfl, _, r2⟩
    · exact ksame_nil ao ao' cap cap' w
    · subst h0; exact ksame_nil ao _ cap cap' w
  · rcases h2 with ⟨h0, ao', cap', rfl⟩ | ⟨b', off', cap', rfl, _, r2⟩
    · subst h0; exact ksame_nil _ ao' cap cap' w
    · exact ksame_two b off cap b' off' cap' xs w hx r1 r2

end Go.Proofs.Ytabpiaaknjcnkaa
