/-
  Plain facts: a delta's code is read as that delta, and is the only one; cut off, or longer, it is none.
-/
import Derived.Test.YtabpiaaknjcnkaaPM
import Derived.Test.YtabpiaaknjcnkaaE2
namespace Go.Proofs.Ytabpiaaknjcnkaa
set_option linter.unusedVariables false
set_option linter.unusedSimpArgs false

/-- The op may stand there. -/
structure Fits (out : List DOp) (total : Nat) (o : DOp) : Prop where
  op : isOpB o.fr o.len o.tx 2000 = true
  behind : behind out.getLast? o = true
  room : total + sizeN o ≤ 2000
theorem fits_copy {out : List DOp} {total : Nat} {o : DOp} (h : Fits out total o) (hl : 0 < o.len) : 0 ≤ o.fr ∧ o.tx = ⟨#[]⟩ ∧ o.fr + o.len ≤ 2000 ∧ goesOn out o.fr o.len = false ∧ total + o.len.toNat ≤ 2000 := by
  obtain ⟨hn, hb⟩ := nice_of_isOp h.op
  have h1 : 0 ≤ o.fr ∧ o.tx.size = 0 := by rcases hn with ⟨_, a, b⟩ | ⟨a, _, _⟩ <;> first | exact ⟨a, b⟩ | omega
  refine ⟨h1.1, tx_empty h1.2, hb hl, ?_, ?_⟩
  · have := h.behind
    unfold goesOn
    cases hg : out.getLast? with
    | none => rfl
    | some l => rw [hg] at this; simp only [Go.Proofs.Ytabpiaaknjcnkaa.behind] at this; simp [this]
  · have := h.room
    unfold sizeN sizeI at this
    rw [if_pos hl] at this
    exact this
theorem fits_text {out : List DOp} {total : Nat} {o : DOp} (h : Fits out total o) (hl : ¬ 0 < o.len) : o.len = 0 ∧ o.fr = 0 ∧ 0 < o.tx.size ∧ lastText out = false ∧ total + o.tx.size ≤ 2000 := by
  obtain ⟨hn, hb⟩ := nice_of_isOp h.op
  have h1 : o.len = 0 ∧ o.fr = 0 ∧ 0 < o.tx.size := by rcases hn with ⟨a, _, _⟩ | h'; omega; exact h'
  refine ⟨h1.1, h1.2.1, h1.2.2, ?_, ?_⟩
  · have := h.behind
    unfold lastText
    cases hg : out.getLast? with
    | none => rfl
    | some l =>
      rw [hg] at this
      simp only [Go.Proofs.Ytabpiaaknjcnkaa.behind, followB, h1.1] at this
      by_cases hll : 0 < l.len <;> simp [hll] at this ⊢
  · have := h.room
    unfold sizeN sizeI at this
    rw [if_neg hl] at this
    omega

theorem read_fwd {s : ByteArray} {out : List DOp} {total at_ : Nat} {o : DOp} {rest : List UInt8} (h : Fits out total o) (hd : s.data.toList.drop at_ = encOp o ++ rest) : readF s out total at_ = .inr (o, at_ + (encOp o).length) := by
  by_cases hl : 0 < o.len
  · obtain ⟨h1, h2, h3, h4, h5⟩ := fits_copy h hl
    obtain ⟨f, l, t⟩ := o
    simp only at hl h1 h2 h3 h4 h5
    subst h2
    have e : encOp ⟨f, l, ⟨#[]⟩⟩ = uN (2 * l + 1).toNat ++ uN f.toNat := by unfold encOp; rw [if_pos hl]
    rw [e, List.append_assoc] at hd
    rw [e]
    have n1 := numF_fwd hd (by omega)
    have d2 : s.data.toList.drop (at_ + (uN (2 * l + 1).toNat).length) = uN f.toNat ++ rest := by
      rw [← List.drop_drop, hd, List.drop_left]
    have n2 := numF_fwd d2 (by omega)
    have hdiv : (2 * l + 1).toNat / 2 = l.toNat := by omega
    rw [readF_copy_ok n1 (by rw [hdiv]; omega) (by omega) n2 (by
      rw [hdiv]
      rintro (h | h)
      · omega
      · rw [show ((f.toNat : Nat) : Int) = f by omega, show ((l.toNat : Nat) : Int) = l by omega, h4] at h; cases h)]
    rw [hdiv, List.length_append]
    simp only [Sum.inr.injEq, Prod.mk.injEq, DOp.mk.injEq]
    refine ⟨⟨by omega, by omega, trivial⟩, by omega⟩
  · obtain ⟨h1, h2, h3, h4, h5⟩ := fits_text h hl
    obtain ⟨f, l, t⟩ := o
    simp only at hl h1 h2 h3 h4 h5
    subst h1 h2
    have e : encOp ⟨0, 0, t⟩ = uN (2 * t.size) ++ t.data.toList := by unfold encOp; simp
    rw [e, List.append_assoc] at hd
    rw [e]
    have n1 := numF_fwd hd (by omega)
    have d2 : s.data.toList.drop (at_ + (uN (2 * t.size)).length) = t.data.toList ++ rest := by
      rw [← List.drop_drop, hd, List.drop_left]
    have hle : at_ + (uN (2 * t.size)).length + t.size ≤ s.size := by
      have := congrArg List.length d2
      rw [List.length_drop, List.length_append, ← Lib.size_eq, ← Lib.size_eq] at this
      omega
    have hdiv : 2 * t.size / 2 = t.size := by omega
    rw [readF_text n1 (by rw [hdiv]; omega) (by omega), if_neg (by rw [h4]; simp), hdiv, if_neg (by omega), List.length_append, ← Lib.size_eq]
    simp only [Sum.inr.injEq, Prod.mk.injEq, DOp.mk.injEq, true_and]
    refine ⟨bytes_ext ?_, by omega⟩
    rw [ByteArray.data_extract, Array.toList_extract, List.extract_eq_take_drop, d2, show at_ + (uN (2 * t.size)).length + t.size - (at_ + (uN (2 * t.size)).length) = t.data.toList.length by rw [← Lib.size_eq]; omega, List.take_left]

theorem read_cut {s : ByteArray} {out : List DOp} {total at_ : Nat} {o : DOp} {pre suf : List UInt8} (h : Fits out total o) (hd : s.data.toList.drop at_ = pre) (he : encOp o = pre ++ suf) (hs : suf ≠ []) : readF s out total at_ = .inl s.size := by
  by_cases hl : 0 < o.len
  · obtain ⟨h1, h2, h3, h4, h5⟩ := fits_copy h hl
    obtain ⟨f, l, t⟩ := o
    simp only at hl h1 h2 h3 h4 h5
    subst h2
    have e : encOp ⟨f, l, ⟨#[]⟩⟩ = uN (2 * l + 1).toNat ++ uN f.toNat := by unfold encOp; rw [if_pos hl]
    rw [e] at he
    rcases cut_parts he hs with ⟨suf', hu, hs'⟩ | ⟨pre', hp, hu⟩
    · exact readF_num (numF_cut hd hu hs' (by omega))
    · rw [hp] at hd
      have n1 := numF_fwd hd (by omega)
      have d2 : s.data.toList.drop (at_ + (uN (2 * l + 1).toNat).length) = pre' := by
        rw [← List.drop_drop, hd, List.drop_left]
      have hdiv : (2 * l + 1).toNat / 2 = l.toNat := by omega
      exact readF_copy_num n1 (by rw [hdiv]; omega) (by omega) (numF_cut d2 hu hs (by omega))
  · obtain ⟨h1, h2, h3, h4, h5⟩ := fits_text h hl
    obtain ⟨f, l, t⟩ := o
    simp only at hl h1 h2 h3 h4 h5
    subst h1 h2
    have e : encOp ⟨0, 0, t⟩ = uN (2 * t.size) ++ t.data.toList := by unfold encOp; simp
    rw [e] at he
    rcases cut_parts he hs with ⟨suf', hu, hs'⟩ | ⟨pre', hp, hu⟩
    · exact readF_num (numF_cut hd hu hs' (by omega))
    · rw [hp] at hd
      have n1 := numF_fwd hd (by omega)
      have d2 : s.data.toList.drop (at_ + (uN (2 * t.size)).length) = pre' := by
        rw [← List.drop_drop, hd, List.drop_left]
      have hlt : s.size < at_ + (uN (2 * t.size)).length + t.size := by
        have h6 := congrArg List.length d2
        have h7 := congrArg List.length hu
        rw [List.length_drop, ← Lib.size_eq] at h6
        rw [← Lib.size_eq, List.length_append] at h7
        have h8 : 0 < suf.length := List.length_pos_iff.2 hs
        have h9 := congrArg List.length hd
        rw [List.length_drop, ← Lib.size_eq, List.length_append] at h9
        have h10 : 0 < (uN (2 * t.size)).length := List.length_pos_iff.2 (uN_ne _)
        omega
      have hdiv : 2 * t.size / 2 = t.size := by omega
      rw [readF_text n1 (by rw [hdiv]; omega) (by omega), if_neg (by rw [h4]; simp), hdiv, if_pos hlt]

theorem read_back {s : ByteArray} {out : List DOp} {total at_ nx : Nat} {o : DOp} (hst : at_ ≤ s.size) (ht : total ≤ 2000) (h : readF s out total at_ = .inr (o, nx)) : Fits out total o ∧ s.data.toList.drop at_ = encOp o ++ s.data.toList.drop nx := by
  obtain ⟨q1, q2, q3, q4, q5, q6, q7⟩ := readF_props hst ht h
  cases h1 : numF s at_ with
  | inl p => rw [readF_num h1] at h; cases h
  | inr q =>
    obtain ⟨n, n1⟩ := q
    obtain ⟨a1, a2, a3⟩ := numF_ok hst h1
    obtain ⟨b1, b2⟩ := numF_back h1
    by_cases hb : n / 2 = 0 ∨ 2000 < total + n / 2
    · rw [readF_len h1 hb] at h; cases h
    · by_cases h2 : n % 2 = 0
      · rw [readF_text h1 hb h2] at h
        split at h
        · cases h
        · rename_i hlt
          split at h
          · cases h
          · rename_i hend
            simp only [Sum.inr.injEq, Prod.mk.injEq] at h
            obtain ⟨rfl, rfl⟩ := h
            have hsz : (s.extract n1 (n1 + n / 2)).size = n / 2 := by rw [size_ext _ _ _ (by omega)]; omega
            refine ⟨⟨isOp_of q1 (fun hl => by simp at hl), ?_, q5⟩, ?_⟩
            · unfold lastText at hlt
              cases hg : out.getLast? with
              | none => rfl
              | some l => rw [hg] at hlt; simp only [Go.Proofs.Ytabpiaaknjcnkaa.behind, followB]; simp at hlt; simp [hlt]
            · unfold encOp
              simp only [Int.lt_irrefl, if_false]
              rw [hsz, show 2 * (n / 2) = n by omega, ByteArray.data_extract, Array.toList_extract, List.extract_eq_take_drop, show n1 + n / 2 - n1 = n / 2 by omega, List.append_assoc, ← List.drop_drop, List.take_append_drop]
              exact b1
      · cases h3 : numF s n1 with
        | inl p => rw [readF_copy_num h1 hb h2 h3] at h; cases h
        | inr q =>
          obtain ⟨f, b⟩ := q
          obtain ⟨c1, c2⟩ := numF_back h3
          by_cases h4 : 2000 < f + n / 2 ∨ goesOn out f (n / 2 : Nat) = true
          · rw [readF_copy_bad h1 hb h2 h3 h4] at h; cases h
          · rw [readF_copy_ok h1 hb h2 h3 h4] at h
            simp only [Sum.inr.injEq, Prod.mk.injEq] at h
            obtain ⟨rfl, rfl⟩ := h
            have hp : (0 : Int) < ((n / 2 : Nat) : Int) := by omega
            refine ⟨⟨isOp_of q1 (fun hl => by simp only; omega), ?_, q5⟩, ?_⟩
            · have h5 : ¬ goesOn out f (n / 2 : Nat) = true := fun h => h4 (.inr h)
              unfold goesOn at h5
              cases hg : out.getLast? with
              | none => rfl
              | some l => rw [hg] at h5; simp only [Go.Proofs.Ytabpiaaknjcnkaa.behind]; simpa using h5
            · unfold encOp
              simp only [if_pos hp]
              rw [show (2 * ((n / 2 : Nat) : Int) + 1).toNat = n by omega, show ((f : Nat) : Int).toNat = f by omega, List.append_assoc, ← c1]
              exact b1
end Go.Proofs.Ytabpiaaknjcnkaa
