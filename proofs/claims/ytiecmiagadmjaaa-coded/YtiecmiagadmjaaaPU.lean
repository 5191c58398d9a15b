/-
  Plain facts: a number's bytes, and a delta's code.
-/
import Derived.Test.YtiecmiagadmjaaaPD
namespace Go.Proofs.Ytiecmiagadmjaaa
set_option linter.unusedVariables false
set_option linter.unusedSimpArgs false

/-- A number's bytes. -/
def uN (n : Nat) : List UInt8 := if n < 128 then [UInt8.ofNat n] else UInt8.ofNat (n % 128 + 128) :: uN (n / 128)
termination_by n
decreasing_by omega
theorem uN_lt {n : Nat} (h : n < 128) : uN n = [UInt8.ofNat n] := by rw [uN, if_pos h]
theorem uN_ge {n : Nat} (h : ¬ n < 128) : uN n = UInt8.ofNat (n % 128 + 128) :: uN (n / 128) := by rw [uN, if_neg h]
theorem byte_toNat {n : Nat} (h : n < 256) : (UInt8.ofNat n).toNat = n := by
  rw [UInt8.toNat_ofNat_of_lt' (by simpa using h)]
theorem uN_length {n : Nat} (h : n < 2097152) : (uN n).length ≤ 3 := by
  by_cases h1 : n < 128
  · rw [uN_lt h1]; simp
  · rw [uN_ge h1]
    by_cases h2 : n / 128 < 128
    · rw [uN_lt h2]; simp
    · rw [uN_ge h2, uN_lt (by omega)]; simp

/-- An op's code; a delta's. -/
def encOp (o : DOp) : List UInt8 := if 0 < o.len then uN (2 * o.len + 1).toNat ++ uN o.fr.toNat else uN (2 * o.tx.size) ++ o.tx.data.toList
def encL (xs : List DOp) : List UInt8 := uN xs.length ++ xs.flatMap encOp
end Go.Proofs.Ytiecmiagadmjaaa
