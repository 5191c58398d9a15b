/- The texts PM, PQ, one behind the other. -/
import Derived.Test.YtabpiaaknjcnkabGreatD6
import Derived.Test.YtabpiaaknjcnkabGreatPE
import Derived.Test.YtabpiaaknjcnkabGreatXE2S1S2
/-
  Plain facts: what is written is read; what is read is what was written.
-/
namespace Go.Proofs.YtabpiaaknjcnkabGreat
set_option linter.unusedVariables false
set_option linter.unusedSimpArgs false

theorem drop_byte {s : ByteArray} {i : Nat} (h : i < s.size) : s.data.toList.drop i = s[i] :: s.data.toList.drop (i + 1) := by
  rw [List.drop_eq_getElem_cons (by simpa using h)]; rfl
theorem drop_none {s : ByteArray} {i : Nat} : s.data.toList.drop i = [] ↔ s.size ≤ i := by
  rw [List.drop_eq_nil_iff, ← Lib.size_eq]
theorem at_of_drop {s : ByteArray} {i : Nat} {c : UInt8} {r : List UInt8} (h : s.data.toList.drop i = c :: r) : ∃ hi : i < s.size, s[i] = c ∧ s.data.toList.drop (i + 1) = r := by
  have hi : i < s.size := by
    rcases Nat.lt_or_ge i s.size with h' | h'
    · exact h'
    · rw [drop_none.2 h'] at h; cases h
  rw [drop_byte hi] at h
  injection h with h1 h2
  exact ⟨hi, h1, h2⟩
theorem uN_ne (n : Nat) : uN n ≠ [] := by
  by_cases h : n < 128
  · rw [uN_lt h]; simp
  · rw [uN_ge h]; simp

theorem split_more {m k acc : Nat} : acc + m % 128 * 128 ^ k + m / 128 * 128 ^ (k + 1) = acc + m * 128 ^ k := by
  rw [Nat.pow_succ, Nat.mul_comm (128 ^ k) 128, ← Nat.mul_assoc, Nat.add_assoc, ← Nat.add_mul]
  congr 2
  have := Nat.mod_add_div m 128
  omega
/-- A number that stands there is read. -/
theorem num_fwd {s : ByteArray} {start : Nat} : ∀ (f k acc m : Nat) (rest : List UInt8), (f = 0 → 0 < k) → s.data.toList.drop (start + k) = uN m ++ rest → m < 128 ^ f → (0 < k → 0 < m) → acc + m * 128 ^ k ≤ 2147483647 →
    numGo s start f k acc = .inr (acc + m * 128 ^ k, start + k + (uN m).length)
  | 0, k, acc, m, rest, hf, h, hm, h0, hb => by
    have h1 := h0 (hf rfl)
    simp at hm
    omega
  | f + 1, k, acc, m, rest, hf, h, hm, h0, hb => by
    by_cases h1 : m < 128
    · rw [uN_lt h1] at h ⊢
      obtain ⟨hi, hc, _⟩ := at_of_drop h
      have hcn : (s[start + k]).toNat = m := by rw [hc, byte_toNat (by omega)]
      have e : (s[start + k]).toNat % 128 * 128 ^ k = m * 128 ^ k := by rw [hcn, Nat.mod_eq_of_lt h1]
      rw [numGo_done hi (by omega) (by rw [e, hcn]; omega), e]
      rfl
    · rw [uN_ge h1] at h ⊢
      obtain ⟨hi, hc, hd⟩ := at_of_drop h
      have hcn : (s[start + k]).toNat = m % 128 + 128 := by rw [hc, byte_toNat (by omega)]
      have e : (s[start + k]).toNat % 128 = m % 128 := by rw [hcn]; omega
      have hmul := split_more (m := m) (k := k) (acc := acc)
      rw [numGo_more hi (by omega), e]
      have hlt : m / 128 < 128 ^ f := by rw [Nat.pow_succ] at hm; omega
      rw [num_fwd f (k + 1) (acc + m % 128 * 128 ^ k) (m / 128) rest (fun _ => by omega) hd hlt (fun _ => by omega) (by omega), hmul]
      simp only [List.length_cons]
      congr 2; omega
/-- One that is cut off is none. -/
theorem num_cut {s : ByteArray} {start : Nat} : ∀ (f k acc m : Nat) (pre suf : List UInt8), (f = 0 → 0 < k) → s.data.toList.drop (start + k) = pre → uN m = pre ++ suf → suf ≠ [] → m < 128 ^ f → (0 < k → 0 < m) →
    numGo s start f k acc = .inl s.size
  | 0, k, acc, m, pre, suf, hf, h, hu, hs, hm, h0 => by
    have h1 := h0 (hf rfl)
    simp at hm
    omega
  | f + 1, k, acc, m, pre, suf, hf, h, hu, hs, hm, h0 => by
    cases pre with
    | nil => rw [numGo_end (by have := drop_none.1 h; omega)]
    | cons c r =>
      by_cases h1 : m < 128
      · rw [uN_lt h1] at hu
        simp only [List.cons_append, List.cons.injEq] at hu
        have := hu.2.symm
        simp only [List.append_eq_nil_iff] at this
        exact absurd this.2 hs
      · rw [uN_ge h1] at hu
        simp only [List.cons_append, List.cons.injEq] at hu
        obtain ⟨hi, hc, hd⟩ := at_of_drop h
        have hcn : (s[start + k]).toNat = m % 128 + 128 := by rw [hc, ← hu.1, byte_toNat (by omega)]
        rw [numGo_more hi (by omega)]
        have hlt : m / 128 < 128 ^ f := by rw [Nat.pow_succ] at hm; omega
        exact num_cut f (k + 1) _ (m / 128) r suf (fun _ => by omega) hd hu.2 hs hlt (fun _ => by omega)
/-- What is read as a number is the number's bytes. -/
theorem num_back {s : ByteArray} {start : Nat} : ∀ (f k acc n nx : Nat), numGo s start f k acc = .inr (n, nx) → ∃ m, n = acc + m * 128 ^ k ∧ s.data.toList.drop (start + k) = uN m ++ s.data.toList.drop nx ∧ (0 < k → 0 < m) ∧ nx = start + k + (uN m).length
  | 0, k, acc, n, nx, h => by simp [numGo] at h
  | f + 1, k, acc, n, nx, h => by
    by_cases h1 : start + k < s.size
    · have hc256 : (s[start + k]).toNat < 256 := (s[start + k]).toNat_lt
      by_cases h2 : (s[start + k]).toNat < 128
      · by_cases h3 : 2147483647 < acc + (s[start + k]).toNat % 128 * 128 ^ k ∨ ((s[start + k]).toNat = 0 ∧ 0 < k)
        · rw [numGo_bad h1 h2 h3] at h; cases h
        · rw [numGo_done h1 h2 h3] at h
          simp only [Sum.inr.injEq, Prod.mk.injEq] at h
          obtain ⟨rfl, rfl⟩ := h
          refine ⟨(s[start + k]).toNat, by rw [Nat.mod_eq_of_lt h2], ?_, fun hk => by omega, ?_⟩
          · rw [drop_byte h1, uN_lt h2]; simp
          · rw [uN_lt h2]; rfl
      · rw [numGo_more h1 h2] at h
        obtain ⟨m, e1, e2, e3, e4⟩ := num_back f (k + 1) _ n nx h
        have hm := e3 (by omega)
        refine ⟨(s[start + k]).toNat % 128 + 128 * m, ?_, ?_, fun _ => by omega, ?_⟩
        · rw [e1, ← split_more (m := (s[start + k]).toNat % 128 + 128 * m)]
          congr 2
          · congr 1; omega
          · congr 1; omega
        · rw [drop_byte h1, show start + k + 1 = start + (k + 1) by omega, e2, uN_ge (n := (s[start + k]).toNat % 128 + 128 * m) (by omega)]
          rw [show ((s[start + k]).toNat % 128 + 128 * m) % 128 + 128 = (s[start + k]).toNat by omega, show ((s[start + k]).toNat % 128 + 128 * m) / 128 = m by omega]
          simp
        · rw [uN_ge (n := (s[start + k]).toNat % 128 + 128 * m) (by omega), show ((s[start + k]).toNat % 128 + 128 * m) / 128 = m by omega, List.length_cons]; omega
    · rw [numGo_end h1] at h; cases h
theorem numF_fwd {s : ByteArray} {start m : Nat} {rest : List UInt8} (h : s.data.toList.drop start = uN m ++ rest) (hm : m ≤ 2147483647) : numF s start = .inr (m, start + (uN m).length) := by
  have := num_fwd (s := s) (start := start) 5 0 0 m rest (by omega) (by simpa using h) (by omega) (by omega) (by omega)
  unfold numF; rw [this]; simp
theorem numF_cut {s : ByteArray} {start m : Nat} {pre suf : List UInt8} (h : s.data.toList.drop start = pre) (hu : uN m = pre ++ suf) (hs : suf ≠ []) (hm : m ≤ 2147483647) : numF s start = .inl s.size :=
  num_cut 5 0 0 m pre suf (by omega) (by simpa using h) hu hs (by omega) (by omega)
theorem numF_back {s : ByteArray} {start n nx : Nat} (h : numF s start = .inr (n, nx)) : s.data.toList.drop start = uN n ++ s.data.toList.drop nx ∧ nx = start + (uN n).length := by
  obtain ⟨m, e1, e2, _, e4⟩ := num_back 5 0 0 n nx h
  obtain rfl : n = m := by simpa using e1
  exact ⟨by simpa using e2, by simpa using e4⟩
/-- A row that is cut off: in its first part, or behind it. -/
theorem cut_parts {a b pre suf : List UInt8} (h : a ++ b = pre ++ suf) (hs : suf ≠ []) : (∃ suf', a = pre ++ suf' ∧ suf' ≠ []) ∨ ∃ pre', pre = a ++ pre' ∧ b = pre' ++ suf := by
  rcases List.append_eq_append_iff.1 h with ⟨c, rfl, hc⟩ | ⟨c, ha, hc⟩
  · exact .inr ⟨c, rfl, hc⟩
  · cases c with
    | nil => exact .inr ⟨[], by simpa using ha.symm, by simpa using hc.symm⟩
    | cons x r => exact .inl ⟨x :: r, ha, by simp⟩
end Go.Proofs.YtabpiaaknjcnkabGreat

/-
  Plain facts: a delta's code is read as that delta, and is the only one; cut off, or longer, it is none.
-/
namespace Go.Proofs.YtabpiaaknjcnkabGreat
set_option linter.unusedVariables false
set_option linter.unusedSimpArgs false

/-- The op may stand there. -/
structure Fits (out : List DOp) (total : Nat) (o : DOp) : Prop where
  op : isOpB o.fr o.len o.tx 2000 = true
  behind : behind out.getLast? o = true
  room : total + sizeN o ≤ 2000
theorem fits_copy {out : List DOp} {total : Nat} {o : DOp} (h : Fits out total o) (hl : 0 < o.len) : 0 ≤ o.fr ∧ o.tx = ⟨#[]⟩ ∧ o.fr + o.len ≤ 2000 ∧ goesOn out o.fr o.len = false ∧ total + o.len.toNat ≤ 2000 := by
  obtain ⟨hn, hb⟩ := nice_of_isOp h.op
  have h1 : 0 ≤ o.fr ∧ o.tx.size = 0 := by rcases hn with ⟨_, a, b⟩ | ⟨a, _, _⟩ <;> first | exact ⟨a, b⟩ | omega
  refine ⟨h1.1, tx_empty h1.2, hb hl, ?_, ?_⟩
  · have := h.behind
    unfold goesOn
    cases hg : out.getLast? with
    | none => rfl
    | some l => rw [hg] at this; simp only [Go.Proofs.YtabpiaaknjcnkabGreat.behind] at this; simp [this]
  · have := h.room
    unfold sizeN sizeI at this
    rw [if_pos hl] at this
    exact this
theorem fits_text {out : List DOp} {total : Nat} {o : DOp} (h : Fits out total o) (hl : ¬ 0 < o.len) : o.len = 0 ∧ o.fr = 0 ∧ 0 < o.tx.size ∧ lastText out = false ∧ total + o.tx.size ≤ 2000 := by
  obtain ⟨hn, hb⟩ := nice_of_isOp h.op
  have h1 : o.len = 0 ∧ o.fr = 0 ∧ 0 < o.tx.size := by rcases hn with ⟨a, _, _⟩ | h'; omega; exact h'
  refine ⟨h1.1, h1.2.1, h1.2.2, ?_, ?_⟩
  · have := h.behind
    unfold lastText
    cases hg : out.getLast? with
    | none => rfl
    | some l =>
      rw [hg] at this
      simp only [Go.Proofs.YtabpiaaknjcnkabGreat.behind, followB, h1.1] at this
      by_cases hll : 0 < l.len <;> simp [hll] at this ⊢
  · have := h.room
    unfold sizeN sizeI at this
    rw [if_neg hl] at this
    omega

theorem read_fwd {s : ByteArray} {out : List DOp} {total at_ : Nat} {o : DOp} {rest : List UInt8} (h : Fits out total o) (hd : s.data.toList.drop at_ = encOp o ++ rest) : readF s out total at_ = .inr (o, at_ + (encOp o).length) := by
  by_cases hl : 0 < o.len
  · obtain ⟨h1, h2, h3, h4, h5⟩ := fits_copy h hl
    obtain ⟨f, l, t⟩ := o
    simp only at hl h1 h2 h3 h4 h5
    subst h2
    have e : encOp ⟨f, l, ⟨#[]⟩⟩ = uN (2 * l + 1).toNat ++ uN f.toNat := by unfold encOp; rw [if_pos hl]
    rw [e, List.append_assoc] at hd
    rw [e]
    have n1 := numF_fwd hd (by omega)
    have d2 : s.data.toList.drop (at_ + (uN (2 * l + 1).toNat).length) = uN f.toNat ++ rest := by
      rw [← List.drop_drop, hd, List.drop_left]
    have n2 := numF_fwd d2 (by omega)
    have hdiv : (2 * l + 1).toNat / 2 = l.toNat := by omega
    rw [readF_copy_ok n1 (by rw [hdiv]; omega) (by omega) n2 (by
      rw [hdiv]
      rintro (h | h)
      · omega
      · rw [show ((f.toNat : Nat) : Int) = f by omega, show ((l.toNat : Nat) : Int) = l by omega, h4] at h; cases h)]
    rw [hdiv, List.length_append]
    simp only [Sum.inr.injEq, Prod.mk.injEq, DOp.mk.injEq]
    refine ⟨⟨by omega, by omega, trivial⟩, by omega⟩
  · obtain ⟨h1, h2, h3, h4, h5⟩ := fits_text h hl
    obtain ⟨f, l, t⟩ := o
    simp only at hl h1 h2 h3 h4 h5
    subst h1 h2
    have e : encOp ⟨0, 0, t⟩ = uN (2 * t.size) ++ t.data.toList := by unfold encOp; simp
    rw [e, List.append_assoc] at hd
    rw [e]
    have n1 := numF_fwd hd (by omega)
    have d2 : s.data.toList.drop (at_ + (uN (2 * t.size)).length) = t.data.toList ++ rest := by
      rw [← List.drop_drop, hd, List.drop_left]
    have hle : at_ + (uN (2 * t.size)).length + t.size ≤ s.size := by
      have := congrArg List.length d2
      rw [List.length_drop, List.length_append, ← Lib.size_eq, ← Lib.size_eq] at this
      omega
    have hdiv : 2 * t.size / 2 = t.size := by omega
    rw [readF_text n1 (by rw [hdiv]; omega) (by omega), if_neg (by rw [h4]; simp), hdiv, if_neg (by omega), List.length_append, ← Lib.size_eq]
    simp only [Sum.inr.injEq, Prod.mk.injEq, DOp.mk.injEq, true_and]
    refine ⟨bytes_ext ?_, by omega⟩
    rw [ByteArray.data_extract, Array.toList_extract, List.extract_eq_take_drop, d2, show at_ + (uN (2 * t.size)).length + t.size - (at_ + (uN (2 * t.size)).length) = t.data.toList.length by rw [← Lib.size_eq]; omega, List.take_left]

theorem read_cut {s : ByteArray} {out : List DOp} {total at_ : Nat} {o : DOp} {pre suf : List UInt8} (h : Fits out total o) (hd : s.data.toList.drop at_ = pre) (he : encOp o = pre ++ suf) (hs : suf ≠ []) : readF s out total at_ = .inl s.size := by
  by_cases hl : 0 < o.len
  · obtain ⟨h1, h2, h3, h4, h5⟩ := fits_copy h hl
    obtain ⟨f, l, t⟩ := o
    simp only at hl h1 h2 h3 h4 h5
    subst h2
    have e : encOp ⟨f, l, ⟨#[]⟩⟩ = uN (2 * l + 1).toNat ++ uN f.toNat := by unfold encOp; rw [if_pos hl]
    rw [e] at he
    rcases cut_parts he hs with ⟨suf', hu, hs'⟩ | ⟨pre', hp, hu⟩
    · exact readF_num (numF_cut hd hu hs' (by omega))
    · rw [hp] at hd
      have n1 := numF_fwd hd (by omega)
      have d2 : s.data.toList.drop (at_ + (uN (2 * l + 1).toNat).length) = pre' := by
        rw [← List.drop_drop, hd, List.drop_left]
      have hdiv : (2 * l + 1).toNat / 2 = l.toNat := by omega
      exact readF_copy_num n1 (by rw [hdiv]; omega) (by omega) (numF_cut d2 hu hs (by omega))
  · obtain ⟨h1, h2, h3, h4, h5⟩ := fits_text h hl
    obtain ⟨f, l, t⟩ := o
    simp only at hl h1 h2 h3 h4 h5
    subst h1 h2
    have e : encOp ⟨0, 0, t⟩ = uN (2 * t.size) ++ t.data.toList := by unfold encOp; simp
    rw [e] at he
    rcases cut_parts he hs with ⟨suf', hu, hs'⟩ | ⟨pre', hp, hu⟩
    · exact readF_num (numF_cut hd hu hs' (by omega))
    · rw [hp] at hd
      have n1 := numF_fwd hd (by omega)
      have d2 : s.data.toList.drop (at_ + (uN (2 * t.size)).length) = pre' := by
        rw [← List.drop_drop, hd, List.drop_left]
      have hlt : s.size < at_ + (uN (2 * t.size)).length + t.size := by
        have h6 := congrArg List.length d2
        have h7 := congrArg List.length hu
        rw [List.length_drop, ← Lib.size_eq] at h6
        rw [← Lib.size_eq, List.length_append] at h7
        have h8 : 0 < suf.length := List.length_pos_iff.2 hs
        have h9 := congrArg List.length hd
        rw [List.length_drop, ← Lib.size_eq, List.length_append] at h9
        have h10 : 0 < (uN (2 * t.size)).length := List.length_pos_iff.2 (uN_ne _)
        omega
      have hdiv : 2 * t.size / 2 = t.size := by omega
      rw [readF_text n1 (by rw [hdiv]; omega) (by omega), if_neg (by rw [h4]; simp), hdiv, if_pos hlt]

theorem read_back {s : ByteArray} {out : List DOp} {total at_ nx : Nat} {o : DOp} (hst : at_ ≤ s.size) (ht : total ≤ 2000) (h : readF s out total at_ = .inr (o, nx)) : Fits out total o ∧ s.data.toList.drop at_ = encOp o ++ s.data.toList.drop nx := by
  obtain ⟨q1, q2, q3, q4, q5, q6, q7⟩ := readF_props hst ht h
  cases h1 : numF s at_ with
  | inl p => rw [readF_num h1] at h; cases h
  | inr q =>
    obtain ⟨n, n1⟩ := q
    obtain ⟨a1, a2, a3⟩ := numF_ok hst h1
    obtain ⟨b1, b2⟩ := numF_back h1
    by_cases hb : n / 2 = 0 ∨ 2000 < total + n / 2
    · rw [readF_len h1 hb] at h; cases h
    · by_cases h2 : n % 2 = 0
      · rw [readF_text h1 hb h2] at h
        split at h
        · cases h
        · rename_i hlt
          split at h
          · cases h
          · rename_i hend
            simp only [Sum.inr.injEq, Prod.mk.injEq] at h
            obtain ⟨rfl, rfl⟩ := h
            have hsz : (s.extract n1 (n1 + n / 2)).size = n / 2 := by rw [size_ext _ _ _ (by omega)]; omega
            refine ⟨⟨isOp_of q1 (fun hl => by simp at hl), ?_, q5⟩, ?_⟩
            · unfold lastText at hlt
              cases hg : out.getLast? with
              | none => rfl
              | some l => rw [hg] at hlt; simp only [Go.Proofs.YtabpiaaknjcnkabGreat.behind, followB]; simp at hlt; simp [hlt]
            · unfold encOp
              simp only [Int.lt_irrefl, if_false]
              rw [hsz, show 2 * (n / 2) = n by omega, ByteArray.data_extract, Array.toList_extract, List.extract_eq_take_drop, show n1 + n / 2 - n1 = n / 2 by omega, List.append_assoc, ← List.drop_drop, List.take_append_drop]
              exact b1
      · cases h3 : numF s n1 with
        | inl p => rw [readF_copy_num h1 hb h2 h3] at h; cases h
        | inr q =>
          obtain ⟨f, b⟩ := q
          obtain ⟨c1, c2⟩ := numF_back h3
          by_cases h4 : 2000 < f + n / 2 ∨ goesOn out f (n / 2 : Nat) = true
          · rw [readF_copy_bad h1 hb h2 h3 h4] at h; cases h
          · rw [readF_copy_ok h1 hb h2 h3 h4] at h
            simp only [Sum.inr.injEq, Prod.mk.injEq] at h
            obtain ⟨rfl, rfl⟩ := h
            have hp : (0 : Int) < ((n / 2 : Nat) : Int) := by omega
            refine ⟨⟨isOp_of q1 (fun hl => by simp only; omega), ?_, q5⟩, ?_⟩
            · have h5 : ¬ goesOn out f (n / 2 : Nat) = true := fun h => h4 (.inr h)
              unfold goesOn at h5
              cases hg : out.getLast? with
              | none => rfl
              | some l => rw [hg] at h5; simp only [Go.Proofs.YtabpiaaknjcnkabGreat.behind]; simpa using h5
            · unfold encOp
              simp only [if_pos hp]
              rw [show (2 * ((n / 2 : Nat) : Int) + 1).toNat = n by omega, show ((f : Nat) : Int).toNat = f by omega, List.append_assoc, ← c1]
              exact b1
end Go.Proofs.YtabpiaaknjcnkabGreat
