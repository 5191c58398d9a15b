/-
  Plain facts on rows that are deltas: each op is one, and all together make at most 2000 bytes.
-/
import Derived.Test.YtabpiaaknjcnkaaP2
namespace Go.Proofs.Ytabpiaaknjcnkaa
set_option linter.unusedVariables false
set_option linter.unusedSimpArgs false

theorem faultGo_le (b : Int) (xs : List DOp) (p : Option DOp) (i : Nat) (m : Int) : i ≤ faultGo b xs p i m ∧ faultGo b xs p i m ≤ i + xs.length := by
  induction xs generalizing p i m with
  | nil => simp [faultGo]
  | cons o r ih =>
    have := ih (some o) (i + 1) (m + sizeI o.len o.tx)
    rw [faultGo]
    simp only [List.length_cons]
    repeat' split
    all_goals omega
theorem faultF_le (xs : List DOp) (b : Int) : faultF xs b ≤ xs.length := by have := faultGo_le b xs none 0 0; unfold faultF; omega

def sumI : List DOp → Int
  | [] => 0
  | o :: r => sizeI o.len o.tx + sumI r

theorem fault_all {b : Int} {xs : List DOp} {p : Option DOp} {i : Nat} {m : Int} (h : faultGo b xs p i m = i + xs.length) (hm : m ≤ 2000) :
    (∀ o ∈ xs, isOpB o.fr o.len o.tx b = true) ∧ m + sumI xs ≤ 2000 := by
  induction xs generalizing p i m with
  | nil => simp [sumI]; exact hm
  | cons o r ih =>
    rw [faultGo] at h
    simp only [List.length_cons] at h
    by_cases h1 : i = 200
    · rw [if_pos h1] at h; omega
    · rw [if_neg h1] at h
      by_cases h2 : isOpB o.fr o.len o.tx b = false
      · rw [if_pos h2] at h; omega
      · rw [if_neg h2] at h
        by_cases h3 : behind p o = false
        · rw [if_pos h3] at h; omega
        · rw [if_neg h3] at h
          by_cases h4 : 2000 - m < sizeI o.len o.tx
          · rw [if_pos h4] at h; omega
          · rw [if_neg h4] at h
            obtain ⟨g1, g2⟩ := ih (p := some o) (i := i + 1) (m := m + sizeI o.len o.tx) (by omega) (by omega)
            refine ⟨fun q hq => ?_, by simp only [sumI]; omega⟩
            rcases List.mem_cons.1 hq with rfl | hq
            · simpa using h2
            · exact g1 q hq

theorem opBytes_length {B : List UInt8} {o : DOp} (h : isOpB o.fr o.len o.tx B.length = true) : ((opBytes B o).length : Int) = sizeI o.len o.tx := by
  by_cases hl : 0 < o.len
  · rw [opBytes, if_pos hl, sizeI, if_pos hl]
    rw [isOpB, if_pos hl] at h
    simp at h
    simp; omega
  · rw [opBytes, if_neg hl, sizeI, if_neg hl, Lib.size_eq]

theorem madeL_length {B : List UInt8} {xs : List DOp} (h : ∀ o ∈ xs, isOpB o.fr o.len o.tx B.length = true) : ((madeL B xs).length : Int) = sumI xs := by
  induction xs with
  | nil => rfl
  | cons o r ih =>
    have h1 := opBytes_length (h o (by simp))
    have h2 := ih (fun q hq => h q (by simp [hq]))
    simp only [madeL, List.flatMap_cons, List.length_append, sumI] at h2 ⊢
    omega

theorem madeL_take_succ (B : List UInt8) (xs : List DOp) (k : Nat) (o : DOp) (h : xs[k]? = some o) : madeL B (xs.take (k + 1)) = madeL B (xs.take k) ++ opBytes B o := by
  rw [List.take_add_one, h]; simp [madeL]

theorem madeL_take_le (B : List UInt8) (xs : List DOp) (k : Nat) : (madeL B (xs.take k)).length ≤ (madeL B xs).length := by
  conv => rhs; rw [← List.take_append_drop k xs]
  simp only [madeL, List.flatMap_append, List.length_append]
  omega
end Go.Proofs.Ytabpiaaknjcnkaa
