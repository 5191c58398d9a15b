/-
  Plain facts: what is written is read; what is read is what was written.
-/
import Derived.Test.YtabpiaaknjcnkaaD6
import Derived.Test.YtabpiaaknjcnkaaPE
namespace Go.Proofs.Ytabpiaaknjcnkaa
set_option linter.unusedVariables false
set_option linter.unusedSimpArgs false

theorem drop_byte {s : ByteArray} {i : Nat} (h : i < s.size) : s.data.toList.drop i = s[i] :: s.data.toList.drop (i + 1) := by
  rw [List.drop_eq_getElem_cons (by simpa using h)]; rfl
theorem drop_none {s : ByteArray} {i : Nat} : s.data.toList.drop i = [] ↔ s.size ≤ i := by
  rw [List.drop_eq_nil_iff, ← Lib.size_eq]
theorem at_of_drop {s : ByteArray} {i : Nat} {c : UInt8} {r : List UInt8} (h : s.data.toList.drop i = c :: r) : ∃ hi : i < s.size, s[i] = c ∧ s.data.toList.drop (i + 1) = r := by
  have hi : i < s.size := by
    rcases Nat.lt_or_ge i s.size with h' | h'
    · exact h'
    · rw [drop_none.2 h'] at h; cases h
  rw [drop_byte hi] at h
  injection h with h1 h2
  exact ⟨hi, h1, h2⟩
theorem uN_ne (n : Nat) : uN n ≠ [] := by
  by_cases h : n < 128
  · rw [uN_lt h]; simp
  · rw [uN_ge h]; simp

theorem split_more {m k acc : Nat} : acc + m % 128 * 128 ^ k + m / 128 * 128 ^ (k + 1) = acc + m * 128 ^ k := by
  rw [Nat.pow_succ, Nat.mul_comm (128 ^ k) 128, ← Nat.mul_assoc, Nat.add_assoc, ← Nat.add_mul]
  congr 2
  have := Nat.mod_add_div m 128
  omega
/-- A number that stands there is read. -/
theorem num_fwd {s : ByteArray} {start : Nat} : ∀ (f k acc m : Nat) (rest : List UInt8), (f = 0 → 0 < k) → s.data.toList.drop (start + k) = uN m ++ rest → m < 128 ^ f → (0 < k → 0 < m) → acc + m * 128 ^ k ≤ 2147483647 →
    numGo s start f k acc = .inr (acc + m * 128 ^ k, start + k + (uN m).length)
  | 0, k, acc, m, rest, hf, h, hm, h0, hb => by
    have h1 := h0 (hf rfl)
    simp at hm
    omega
  | f + 1, k, acc, m, rest, hf, h, hm, h0, hb => by
    by_cases h1 : m < 128
    · rw [uN_lt h1] at h ⊢
      obtain ⟨hi, hc, _⟩ := at_of_drop h
      have hcn : (s[start + k]).toNat = m := by rw [hc, byte_toNat (by omega)]
      have e : (s[start + k]).toNat % 128 * 128 ^ k = m * 128 ^ k := by rw [hcn, Nat.mod_eq_of_lt h1]
      rw [numGo_done hi (by omega) (by rw [e, hcn]; omega), e]
      rfl
    · rw [uN_ge h1] at h ⊢
      obtain ⟨hi, hc, hd⟩ := at_of_drop h
      have hcn : (s[start + k]).toNat = m % 128 + 128 := by rw [hc, byte_toNat (by omega)]
      have e : (s[start + k]).toNat % 128 = m % 128 := by rw [hcn]; omega
      have hmul := split_more (m := m) (k := k) (acc := acc)
      rw [numGo_more hi (by omega), e]
      have hlt : m / 128 < 128 ^ f := by rw [Nat.pow_succ] at hm; omega
      rw [num_fwd f (k + 1) (acc + m % 128 * 128 ^ k) (m / 128) rest (fun _ => by omega) hd hlt (fun _ => by omega) (by omega), hmul]
      simp only [List.length_cons]
      congr 2; omega
/-- One that is cut off is none. -/
theorem num_cut {s : ByteArray} {start : Nat} : ∀ (f k acc m : Nat) (pre suf : List UInt8), (f = 0 → 0 < k) → s.data.toList.drop (start + k) = pre → uN m = pre ++ suf → suf ≠ [] → m < 128 ^ f → (0 < k → 0 < m) →
    numGo s start f k acc = .inl s.size
  | 0, k, acc, m, pre, suf, hf, h, hu, hs, hm, h0 => by
    have h1 := h0 (hf rfl)
    simp at hm
    omega
  | f + 1, k, acc, m, pre, suf, hf, h, hu, hs, hm, h0 => by
    cases pre with
    | nil => rw [numGo_end (by have := drop_none.1 h; omega)]
    | cons c r =>
      by_cases h1 : m < 128
      · rw [uN_lt h1] at hu
        simp only [List.cons_append, List.cons.injEq] at hu
        have := hu.2.symm
        simp only [List.append_eq_nil_iff] at this
        exact absurd this.2 hs
      · rw [uN_ge h1] at hu
        simp only [List.cons_append, List.cons.injEq] at hu
        obtain ⟨hi, hc, hd⟩ := at_of_drop h
        have hcn : (s[start + k]).toNat = m % 128 + 128 := by rw [hc, ← hu.1, byte_toNat (by omega)]
        rw [numGo_more hi (by omega)]
        have hlt : m / 128 < 128 ^ f := by rw [Nat.pow_succ] at hm; omega
        exact num_cut f (k + 1) _ (m / 128) r suf (fun _ => by omega) hd hu.2 hs hlt (fun _ => by omega)
/-- What is read as a number is the number's bytes. -/
theorem num_back {s : ByteArray} {start : Nat} : ∀ (f k acc n nx : Nat), numGo s start f k acc = .inr (n, nx) → ∃ m, n = acc + m * 128 ^ k ∧ s.data.toList.drop (start + k) = uN m ++ s.data.toList.drop nx ∧ (0 < k → 0 < m) ∧ nx = start + k + (uN m).length
  | 0, k, acc, n, nx, h => by simp [numGo] at h
  | f + 1, k, acc, n, nx, h => by
    by_cases h1 : start + k < s.size
    · have hc256 : (s[start + k]).toNat < 256 := (s[start + k]).toNat_lt
      by_cases h2 : (s[start + k]).toNat < 128
      · by_cases h3 : 2147483647 < acc + (s[start + k]).toNat % 128 * 128 ^ k ∨ ((s[start + k]).toNat = 0 ∧ 0 < k)
        · rw [numGo_bad h1 h2 h3] at h; cases h
        · rw [numGo_done h1 h2 h3] at h
          simp only [Sum.inr.injEq, Prod.mk.injEq] at h
          obtain ⟨rfl, rfl⟩ := h
          refine ⟨(s[start + k]).toNat, by rw [Nat.mod_eq_of_lt h2], ?_, fun hk => by omega, ?_⟩
          · rw [drop_byte h1, uN_lt h2]; simp
          · rw [uN_lt h2]; rfl
      · rw [numGo_more h1 h2] at h
        obtain ⟨m, e1, e2, e3, e4⟩ := num_back f (k + 1) _ n nx h
        have hm := e3 (by omega)
        refine ⟨(s[start + k]).toNat % 128 + 128 * m, ?_, ?_, fun _ => by omega, ?_⟩
        · rw [e1, ← split_more (m := (s[start + k]).toNat % 128 + 128 * m)]
          congr 2
          · congr 1; omega
          · congr 1; omega
        · rw [drop_byte h1, show start + k + 1 = start + (k + 1) by omega, e2, uN_ge (n := (s[start + k]).toNat % 128 + 128 * m) (by omega)]
          rw [show ((s[start + k]).toNat % 128 + 128 * m) % 128 + 128 = (s[start + k]).toNat by omega, show ((s[start + k]).toNat % 128 + 128 * m) / 128 = m by omega]
          simp
        · rw [uN_ge (n := (s[start + k]).toNat % 128 + 128 * m) (by omega), show ((s[start + k]).toNat % 128 + 128 * m) / 128 = m by omega, List.length_cons]; omega
    · rw [numGo_end h1] at h; cases h
theorem numF_fwd {s : ByteArray} {start m : Nat} {rest : List UInt8} (h : s.data.toList.drop start = uN m ++ rest) (hm : m ≤ 2147483647) : numF s start = .inr (m, start + (uN m).length) := by
  have := num_fwd (s := s) (start := start) 5 0 0 m rest (by omega) (by simpa using h) (by omega) (by omega) (by omega)
  unfold numF; rw [this]; simp
theorem numF_cut {s : ByteArray} {start m : Nat} {pre suf : List UInt8} (h : s.data.toList.drop start = pre) (hu : uN m = pre ++ suf) (hs : suf ≠ []) (hm : m ≤ 2147483647) : numF s start = .inl s.size :=
  num_cut 5 0 0 m pre suf (by omega) (by simpa using h) hu hs (by omega) (by omega)
theorem numF_back {s : ByteArray} {start n nx : Nat} (h : numF s start = .inr (n, nx)) : s.data.toList.drop start = uN n ++ s.data.toList.drop nx ∧ nx = start + (uN n).length := by
  obtain ⟨m, e1, e2, _, e4⟩ := num_back 5 0 0 n nx h
  obtain rfl : n = m := by simpa using e1
  exact ⟨by simpa using e2, by simpa using e4⟩
/-- A row that is cut off: in its first part, or behind it. -/
theorem cut_parts {a b pre suf : List UInt8} (h : a ++ b = pre ++ suf) (hs : suf ≠ []) : (∃ suf', a = pre ++ suf' ∧ suf' ≠ []) ∨ ∃ pre', pre = a ++ pre' ∧ b = pre' ++ suf := by
  rcases List.append_eq_append_iff.1 h with ⟨c, rfl, hc⟩ | ⟨c, ha, hc⟩
  · exact .inr ⟨c, rfl, hc⟩
  · cases c with
    | nil => exact .inr ⟨[], by simpa using ha.symm, by simpa using hc.symm⟩
    | cons x r => exact .inl ⟨x :: r, ha, by simp⟩
end Go.Proofs.Ytabpiaaknjcnkaa
