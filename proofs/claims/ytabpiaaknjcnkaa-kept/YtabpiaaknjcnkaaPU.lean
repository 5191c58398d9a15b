/-
  Plain facts: a number's bytes, and a delta's code.
-/
import Derived.Test.YtabpiaaknjcnkaaPD
namespace Go.Proofs.Ytabpiaaknjcnkaa
set_option linter.unusedVariables false
set_option linter.unusedSimpArgs false

/-- A number's bytes. -/
def uGo : Nat → Nat → List UInt8
  | 0, n => [UInt8.ofNat n]
  | f + 1, n => if n < 128 then [UInt8.ofNat n] else UInt8.ofNat (n % 128 + 128) :: uGo f (n / 128)
def uN (n : Nat) : List UInt8 := uGo n n
theorem uGo_fuel : ∀ (f g n : Nat), n ≤ f → n ≤ g → uGo f n = uGo g n
  | 0, 0, n, _, _ => rfl
  | 0, g + 1, n, h, _ => by rw [uGo, uGo, if_pos (by omega)]
  | f + 1, 0, n, _, h => by rw [uGo, uGo, if_pos (by omega)]
  | f + 1, g + 1, n, h1, h2 => by
    rw [uGo, uGo]
    by_cases h : n < 128
    · rw [if_pos h, if_pos h]
    · rw [if_neg h, if_neg h, uGo_fuel f g (n / 128) (by omega) (by omega)]
theorem uN_lt {n : Nat} (h : n < 128) : uN n = [UInt8.ofNat n] := by
  unfold uN
  cases n with
  | zero => rfl
  | succ n => rw [uGo, if_pos h]
theorem uN_ge {n : Nat} (h : ¬ n < 128) : uN n = UInt8.ofNat (n % 128 + 128) :: uN (n / 128) := by
  unfold uN
  cases n with
  | zero => omega
  | succ n => rw [uGo, if_neg h, uGo_fuel n ((n + 1) / 128) ((n + 1) / 128) (by omega) (by omega)]
theorem byte_toNat {n : Nat} (h : n < 256) : (UInt8.ofNat n).toNat = n := by
  rw [UInt8.toNat_ofNat_of_lt' (by simpa using h)]
theorem uN_length {n : Nat} (h : n < 2097152) : (uN n).length ≤ 3 := by
  by_cases h1 : n < 128
  · rw [uN_lt h1]; simp
  · rw [uN_ge h1]
    by_cases h2 : n / 128 < 128
    · rw [uN_lt h2]; simp
    · rw [uN_ge h2, uN_lt (by omega)]; simp

theorem uN_length5 {n : Nat} (h : n < 34359738368) : (uN n).length ≤ 5 := by
  by_cases h1 : n < 128
  · rw [uN_lt h1]; simp
  · rw [uN_ge h1, List.length_cons]
    by_cases h2 : n / 128 < 128
    · rw [uN_lt h2]; simp
    · rw [uN_ge h2, List.length_cons]
      have := uN_length (n := n / 128 / 128) (by omega)
      omega
theorem uN_pos (n : Nat) : 0 < (uN n).length := by
  by_cases h1 : n < 128
  · rw [uN_lt h1]; simp
  · rw [uN_ge h1]; simp

/-- An op's code; a delta's. -/
def encOp (o : DOp) : List UInt8 := if 0 < o.len then uN (2 * o.len + 1).toNat ++ uN o.fr.toNat else uN (2 * o.tx.size) ++ o.tx.data.toList
def encL (xs : List DOp) : List UInt8 := uN xs.length ++ xs.flatMap encOp
end Go.Proofs.Ytabpiaaknjcnkaa
