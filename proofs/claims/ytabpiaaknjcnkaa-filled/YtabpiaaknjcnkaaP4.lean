/-
  Plain facts on the sum: a move is one to one; a byte that is another one makes another sum.
-/
import Derived.Lib.Strings
namespace Go.Proofs.Ytabpiaaknjcnkaa
set_option linter.unusedVariables false
set_option linter.unusedSimpArgs false

/-- One move to the right. -/
def mv (x : Nat) : Nat := if x % 2 = 1 then (x / 2) ^^^ 3988292384 else x / 2
def mvs : Nat → Nat → Nat
  | 0, x => x
  | k + 1, x => mv (mvs k x)

theorem mv_lt {x : Nat} (h : x < 4294967296) : mv x < 4294967296 := by
  unfold mv
  split
  · exact Nat.xor_lt_two_pow (n := 32) (by omega) (by decide)
  · omega
theorem mvs_lt {x : Nat} (h : x < 4294967296) (k : Nat) : mvs k x < 4294967296 := by
  induction k with
  | zero => exact h
  | succ k ih => exact mv_lt ih

theorem xor_mod2 (x y : Nat) : (x ^^^ y) % 2 = (x % 2 + y % 2) % 2 := by
  have h : (x ^^^ y).testBit 0 = (x.testBit 0 ^^ y.testBit 0) := Nat.testBit_xor ..
  simp only [Nat.testBit_zero] at h
  have hx : x % 2 = 0 ∨ x % 2 = 1 := by omega
  have hy : y % 2 = 0 ∨ y % 2 = 1 := by omega
  have hz : (x ^^^ y) % 2 = 0 ∨ (x ^^^ y) % 2 = 1 := by omega
  rcases hx with hx | hx <;> rcases hy with hy | hy <;> rcases hz with hz | hz <;> simp_all
theorem xor_div2 (x y : Nat) : (x ^^^ y) / 2 = (x / 2) ^^^ (y / 2) := by
  have := Nat.shiftRight_xor_distrib (a := x) (b := y) (i := 1)
  simpa [Nat.shiftRight_succ] using this
theorem xor_cancel {a b p : Nat} (h : a ^^^ p = b ^^^ p) : a = b := by
  have := congrArg (· ^^^ p) h
  simpa [Nat.xor_assoc] using this

/-- With the polynomial the highest bit is set. -/
theorem high {a : Nat} (h : a < 2147483648) : 2147483648 ≤ a ^^^ 3988292384 := by
  have hb : (a ^^^ 3988292384).testBit 31 = true := by
    rw [Nat.testBit_xor, Nat.testBit_lt_two_pow (by simpa using h)]
    decide
  exact Nat.ge_two_pow_of_testBit hb

theorem mv_inj {x y : Nat} (hx : x < 4294967296) (hy : y < 4294967296) (h : mv x = mv y) : x = y := by
  unfold mv at h
  have h1 : x / 2 < 2147483648 := by omega
  have h2 : y / 2 < 2147483648 := by omega
  have g1 := high h1
  have g2 := high h2
  split at h <;> split at h
  · have := xor_cancel h; omega
  · omega
  · omega
  · omega
theorem mvs_inj {x y : Nat} (hx : x < 4294967296) (hy : y < 4294967296) (k : Nat) (h : mvs k x = mvs k y) : x = y := by
  induction k with
  | zero => exact h
  | succ k ih => exact ih (mv_inj (mvs_lt hx k) (mvs_lt hy k) h)

/-- A byte. -/
def upd (v c : Nat) : Nat := mvs 8 (v ^^^ c)
theorem xor_lt {v c : Nat} (hv : v < 4294967296) (hc : c < 256) : v ^^^ c < 4294967296 := Nat.xor_lt_two_pow (n := 32) hv (by omega)
theorem upd_lt {v c : Nat} (hv : v < 4294967296) (hc : c < 256) : upd v c < 4294967296 := mvs_lt (xor_lt hv hc) 8
theorem upd_inj_v {v w c : Nat} (hv : v < 4294967296) (hw : w < 4294967296) (hc : c < 256) (h : upd v c = upd w c) : v = w :=
  xor_cancel (mvs_inj (xor_lt hv hc) (xor_lt hw hc) 8 h)
theorem upd_inj_c {v c d : Nat} (hv : v < 4294967296) (hc : c < 256) (hd : d < 256) (h : upd v c = upd v d) : c = d := by
  have := mvs_inj (xor_lt hv hc) (xor_lt hv hd) 8 h
  rw [Nat.xor_comm v c, Nat.xor_comm v d] at this
  exact xor_cancel this

def run (v : Nat) (l : List UInt8) : Nat := l.foldl (fun v c => upd v c.toNat) v
theorem run_lt {v : Nat} (hv : v < 4294967296) (l : List UInt8) : run v l < 4294967296 := by
  induction l generalizing v with
  | nil => exact hv
  | cons c r ih => exact ih (upd_lt hv c.toNat_lt)
theorem run_snoc (v : Nat) (l : List UInt8) (c : UInt8) : run v (l ++ [c]) = upd (run v l) c.toNat := by simp [run]
theorem run_append (v : Nat) (l m : List UInt8) : run v (l ++ m) = run (run v l) m := by simp [run]
theorem run_inj {v w : Nat} (hv : v < 4294967296) (hw : w < 4294967296) (l : List UInt8) (h : run v l = run w l) : v = w := by
  induction l generalizing v w with
  | nil => exact h
  | cons c r ih => exact upd_inj_v hv hw c.toNat_lt (ih (upd_lt hv c.toNat_lt) (upd_lt hw c.toNat_lt) h)

def sumL (l : List UInt8) : Nat := 4294967295 - run 4294967295 l
theorem sumL_lt (l : List UInt8) : sumL l < 4294967296 := by unfold sumL; omega

/-- One byte that is another one makes another sum. -/
theorem sumL_other (a b : List UInt8) (c d : UInt8) (h : c ≠ d) : sumL (a ++ c :: b) ≠ sumL (a ++ d :: b) := by
  intro e
  have hv : run 4294967295 a < 4294967296 := run_lt (by decide) a
  have h1 := run_lt (by decide : (4294967295 : Nat) < 4294967296) (a ++ c :: b)
  have h2 := run_lt (by decide : (4294967295 : Nat) < 4294967296) (a ++ d :: b)
  have e2 : run 4294967295 (a ++ c :: b) = run 4294967295 (a ++ d :: b) := by unfold sumL at e; omega
  rw [run_append, run_append] at e2
  have e3 : upd (run 4294967295 a) c.toNat = upd (run 4294967295 a) d.toNat :=
    run_inj (upd_lt hv c.toNat_lt) (upd_lt hv d.toNat_lt) b e2
  exact h (UInt8.toNat_inj.1 (upd_inj_c hv c.toNat_lt d.toNat_lt e3))

/-! Three ways to the same byte step. -/
theorem mv_xor_even (x y : Nat) : mv (x ^^^ 2 * y) = mv x ^^^ y := by
  have hm : (x ^^^ 2 * y) % 2 = x % 2 := by rw [xor_mod2]; omega
  have hd : (x ^^^ 2 * y) / 2 = x / 2 ^^^ y := by rw [xor_div2, Nat.mul_div_cancel_left _ (by decide)]
  unfold mv
  rw [hm, hd]
  split
  · rw [Nat.xor_assoc, Nat.xor_assoc, Nat.xor_comm y]
  · rfl
theorem mvs_xor (k x y : Nat) : mvs k (x ^^^ 2 ^ k * y) = mvs k x ^^^ y := by
  induction k generalizing y with
  | zero => simp [mvs]
  | succ k ih =>
    show mv (mvs k (x ^^^ 2 ^ (k + 1) * y)) = mv (mvs k x) ^^^ y
    rw [show 2 ^ (k + 1) * y = 2 ^ k * (2 * y) from by rw [Nat.pow_succ, Nat.mul_assoc], ih, mv_xor_even]

/-- By the lowest byte, and what is moved. -/
theorem upd_low {v c : Nat} (hc : c < 256) : upd v c = mvs 8 ((v % 256) ^^^ c) ^^^ (v / 256) := by
  have e : v ^^^ c = ((v % 256) ^^^ c) ^^^ 2 ^ 8 * (v / 256) := by
    have hv : v = (v % 256) ^^^ (2 ^ 8 * (v / 256)) := by
      apply Nat.eq_of_testBit_eq
      intro i
      rw [Nat.testBit_xor, show (256 : Nat) = 2 ^ 8 from rfl, Nat.testBit_mod_two_pow, Nat.testBit_two_pow_mul, Nat.testBit_div_two_pow]
      by_cases hi : i < 8
      · have : ¬ 8 ≤ i := by omega
        simp [hi, this]
      · have : 8 ≤ i := by omega
        simp [hi, this]
    have h1 : v ^^^ c = ((v % 256) ^^^ (2 ^ 8 * (v / 256))) ^^^ c := by rw [← hv]
    rw [h1, Nat.xor_assoc, Nat.xor_comm (2 ^ 8 * (v / 256)), Nat.xor_assoc]
  rw [upd, e, mvs_xor]

/-- Bit by bit, against the byte's own bits. -/
def bitStep (v b : Nat) : Nat := if v % 2 ≠ b then (v / 2) ^^^ 3988292384 else v / 2
def bitRun (c : Nat) : Nat → Nat → Nat
  | 0, v => v
  | k + 1, v => bitStep (bitRun c k v) (c / 2 ^ k % 2)
theorem bitRun_eq (v c k : Nat) : bitRun c k v = mvs k (v ^^^ c) ^^^ (c / 2 ^ k) := by
  induction k with
  | zero => simp [bitRun, mvs, Nat.xor_assoc]
  | succ k ih =>
    show bitStep (bitRun c k v) (c / 2 ^ k % 2) = mv (mvs k (v ^^^ c)) ^^^ (c / 2 ^ (k + 1))
    rw [ih]
    generalize mvs k (v ^^^ c) = u
    have hm : (u ^^^ c / 2 ^ k) % 2 = (u % 2 + c / 2 ^ k % 2) % 2 := xor_mod2 _ _
    have hd : (u ^^^ c / 2 ^ k) / 2 = u / 2 ^^^ c / 2 ^ (k + 1) := by rw [xor_div2, Nat.div_div_eq_div_mul, ← Nat.pow_succ]
    unfold bitStep mv
    rw [hd]
    by_cases hu : u % 2 = 1
    · rw [if_pos (by omega), if_pos hu, Nat.xor_assoc, Nat.xor_assoc, Nat.xor_comm (c / 2 ^ (k + 1))]
    · rw [if_neg (by omega), if_neg hu]
theorem bitRun_upd (v c : Nat) (hc : c < 256) : bitRun c 8 v = upd v c := by
  rw [bitRun_eq, show c / 2 ^ 8 = 0 from by omega, Nat.xor_zero, upd]
theorem xor_ones {v : Nat} (h : v < 4294967296) : 4294967295 ^^^ v = 4294967295 - v := by
  apply Nat.eq_of_testBit_eq
  intro i
  have h1 := Nat.testBit_two_pow_sub_succ (x := v) (n := 32) h i
  rw [show 2 ^ 32 - (v + 1) = 4294967295 - v from by omega] at h1
  rw [h1, Nat.testBit_xor, show (4294967295 : Nat) = 2 ^ 32 - 1 from rfl, Nat.testBit_two_pow_sub_one]
  by_cases hi : i < 32
  · simp [hi]
  · have : v.testBit i = false := Nat.testBit_lt_two_pow (Nat.lt_of_lt_of_le h (by
      have : (2 : Nat) ^ 32 ≤ 2 ^ i := Nat.pow_le_pow_right (by decide) (by omega)
      simpa using this))
    simp [hi, this]
theorem bitRun_lt {v c : Nat} (hv : v < 4294967296) (hc : c < 256) (k : Nat) : bitRun c k v < 4294967296 := by
  rw [bitRun_eq]
  refine Nat.xor_lt_two_pow (n := 32) (mvs_lt (xor_lt hv hc) k) ?_
  have : c / 2 ^ k ≤ c := Nat.div_le_self _ _
  omega
end Go.Proofs.Ytabpiaaknjcnkaa
