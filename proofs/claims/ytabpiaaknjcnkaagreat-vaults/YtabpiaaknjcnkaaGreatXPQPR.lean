/- The texts PQ, PR, one behind the other. -/
import Derived.Test.YtabpiaaknjcnkaaGreatXZKYBPM
import Derived.Test.YtabpiaaknjcnkaaGreatXE2W9R6
/-
  Plain facts: a delta's code is read as that delta, and is the only one; cut off, or longer, it is none.
-/
namespace Go.Proofs.YtabpiaaknjcnkaaGreat
set_option linter.unusedVariables false
set_option linter.unusedSimpArgs false

/-- The op may stand there. -/
structure Fits (out : List DOp) (total : Nat) (o : DOp) : Prop where
  op : isOpB o.fr o.len o.tx 2000 = true
  behind : behind out.getLast? o = true
  room : total + sizeN o ≤ 2000
theorem fits_copy {out : List DOp} {total : Nat} {o : DOp} (h : Fits out total o) (hl : 0 < o.len) : 0 ≤ o.fr ∧ o.tx = ⟨#[]⟩ ∧ o.fr + o.len ≤ 2000 ∧ goesOn out o.fr o.len = false ∧ total + o.len.toNat ≤ 2000 := by
  obtain ⟨hn, hb⟩ := nice_of_isOp h.op
  have h1 : 0 ≤ o.fr ∧ o.tx.size = 0 := by rcases hn with ⟨_, a, b⟩ | ⟨a, _, _⟩ <;> first | exact ⟨a, b⟩ | omega
  refine ⟨h1.1, tx_empty h1.2, hb hl, ?_, ?_⟩
  · have := h.behind
    unfold goesOn
    cases hg : out.getLast? with
    | none => rfl
    | some l => rw [hg] at this; simp only [Go.Proofs.YtabpiaaknjcnkaaGreat.behind] at this; simp [this]
  · have := h.room
    unfold sizeN sizeI at this
    rw [if_pos hl] at this
    exact this
theorem fits_text {out : List DOp} {total : Nat} {o : DOp} (h : Fits out total o) (hl : ¬ 0 < o.len) : o.len = 0 ∧ o.fr = 0 ∧ 0 < o.tx.size ∧ lastText out = false ∧ total + o.tx.size ≤ 2000 := by
  obtain ⟨hn, hb⟩ := nice_of_isOp h.op
  have h1 : o.len = 0 ∧ o.fr = 0 ∧ 0 < o.tx.size := by rcases hn with ⟨a, _, _⟩ | h'; omega; exact h'
  refine ⟨h1.1, h1.2.1, h1.2.2, ?_, ?_⟩
  · have := h.behind
    unfold lastText
    cases hg : out.getLast? with
    | none => rfl
    | some l =>
      rw [hg] at this
      simp only [Go.Proofs.YtabpiaaknjcnkaaGreat.behind, followB, h1.1] at this
      by_cases hll : 0 < l.len <;> simp [hll] at this ⊢
  · have := h.room
    unfold sizeN sizeI at this
    rw [if_neg hl] at this
    omega

theorem read_fwd {s : ByteArray} {out : List DOp} {total at_ : Nat} {o : DOp} {rest : List UInt8} (h : Fits out total o) (hd : s.data.toList.drop at_ = encOp o ++ rest) : readF s out total at_ = .inr (o, at_ + (encOp o).length) := by
  by_cases hl : 0 < o.len
  · obtain ⟨h1, h2, h3, h4, h5⟩ := fits_copy h hl
    obtain ⟨f, l, t⟩ := o
    simp only at hl h1 h2 h3 h4 h5
    subst h2
    have e : encOp ⟨f, l, ⟨#[]⟩⟩ = uN (2 * l + 1).toNat ++ uN f.toNat := by unfold encOp; rw [if_pos hl]
    rw [e, List.append_assoc] at hd
    rw [e]
    have n1 := numF_fwd hd (by omega)
    have d2 : s.data.toList.drop (at_ + (uN (2 * l + 1).toNat).length) = uN f.toNat ++ rest := by
      rw [← List.drop_drop, hd, List.drop_left]
    have n2 := numF_fwd d2 (by omega)
    have hdiv : (2 * l + 1).toNat / 2 = l.toNat := by omega
    rw [readF_copy_ok n1 (by rw [hdiv]; omega) (by omega) n2 (by
      rw [hdiv]
      rintro (h | h)
      · omega
      · rw [show ((f.toNat : Nat) : Int) = f by omega, show ((l.toNat : Nat) : Int) = l by omega, h4] at h; cases h)]
    rw [hdiv, List.length_append]
    simp only [Sum.inr.injEq, Prod.mk.injEq, DOp.mk.injEq]
    refine ⟨⟨by omega, by omega, trivial⟩, by omega⟩
  · obtain ⟨h1, h2, h3, h4, h5⟩ := fits_text h hl
    obtain ⟨f, l, t⟩ := o
    simp only at hl h1 h2 h3 h4 h5
    subst h1 h2
    have e : encOp ⟨0, 0, t⟩ = uN (2 * t.size) ++ t.data.toList := by unfold encOp; simp
    rw [e, List.append_assoc] at hd
    rw [e]
    have n1 := numF_fwd hd (by omega)
    have d2 : s.data.toList.drop (at_ + (uN (2 * t.size)).length) = t.data.toList ++ rest := by
      rw [← List.drop_drop, hd, List.drop_left]
    have hle : at_ + (uN (2 * t.size)).length + t.size ≤ s.size := by
      have := congrArg List.length d2
      rw [List.length_drop, List.length_append, ← Lib.size_eq, ← Lib.size_eq] at this
      omega
    have hdiv : 2 * t.size / 2 = t.size := by omega
    rw [readF_text n1 (by rw [hdiv]; omega) (by omega), if_neg (by rw [h4]; simp), hdiv, if_neg (by omega), List.length_append, ← Lib.size_eq]
    simp only [Sum.inr.injEq, Prod.mk.injEq, DOp.mk.injEq, true_and]
    refine ⟨bytes_ext ?_, by omega⟩
    rw [ByteArray.data_extract, Array.toList_extract, List.extract_eq_take_drop, d2, show at_ + (uN (2 * t.size)).length + t.size - (at_ + (uN (2 * t.size)).length) = t.data.toList.length by rw [← Lib.size_eq]; omega, List.take_left]

theorem read_cut {s : ByteArray} {out : List DOp} {total at_ : Nat} {o : DOp} {pre suf : List UInt8} (h : Fits out total o) (hd : s.data.toList.drop at_ = pre) (he : encOp o = pre ++ suf) (hs : suf ≠ []) : readF s out total at_ = .inl s.size := by
  by_cases hl : 0 < o.len
  · obtain ⟨h1, h2, h3, h4, h5⟩ := fits_copy h hl
    obtain ⟨f, l, t⟩ := o
    simp only at hl h1 h2 h3 h4 h5
    subst h2
    have e : encOp ⟨f, l, ⟨#[]⟩⟩ = uN (2 * l + 1).toNat ++ uN f.toNat := by unfold encOp; rw [if_pos hl]
    rw [e] at he
    rcases cut_parts he hs with ⟨suf', hu, hs'⟩ | ⟨pre', hp, hu⟩
    · exact readF_num (numF_cut hd hu hs' (by omega))
    · rw [hp] at hd
      have n1 := numF_fwd hd (by omega)
      have d2 : s.data.toList.drop (at_ + (uN (2 * l + 1).toNat).length) = pre' := by
        rw [← List.drop_drop, hd, List.drop_left]
      have hdiv : (2 * l + 1).toNat / 2 = l.toNat := by omega
      exact readF_copy_num n1 (by rw [hdiv]; omega) (by omega) (numF_cut d2 hu hs (by omega))
  · obtain ⟨h1, h2, h3, h4, h5⟩ := fits_text h hl
    obtain ⟨f, l, t⟩ := o
    simp only at hl h1 h2 h3 h4 h5
    subst h1 h2
    have e : encOp ⟨0, 0, t⟩ = uN (2 * t.size) ++ t.data.toList := by unfold encOp; simp
    rw [e] at he
    rcases cut_parts he hs with ⟨suf', hu, hs'⟩ | ⟨pre', hp, hu⟩
    · exact readF_num (numF_cut hd hu hs' (by omega))
    · rw [hp] at hd
      have n1 := numF_fwd hd (by omega)
      have d2 : s.data.toList.drop (at_ + (uN (2 * t.size)).length) = pre' := by
        rw [← List.drop_drop, hd, List.drop_left]
      have hlt : s.size < at_ + (uN (2 * t.size)).length + t.size := by
        have h6 := congrArg List.length d2
        have h7 := congrArg List.length hu
        rw [List.length_drop, ← Lib.size_eq] at h6
        rw [← Lib.size_eq, List.length_append] at h7
        have h8 : 0 < suf.length := List.length_pos_iff.2 hs
        have h9 := congrArg List.length hd
        rw [List.length_drop, ← Lib.size_eq, List.length_append] at h9
        have h10 : 0 < (uN (2 * t.size)).length := List.length_pos_iff.2 (uN_ne _)
        omega
      have hdiv : 2 * t.size / 2 = t.size := by omega
      rw [readF_text n1 (by rw [hdiv]; omega) (by omega), if_neg (by rw [h4]; simp), hdiv, if_pos hlt]

theorem read_back {s : ByteArray} {out : List DOp} {total at_ nx : Nat} {o : DOp} (hst : at_ ≤ s.size) (ht : total ≤ 2000) (h : readF s out total at_ = .inr (o, nx)) : Fits out total o ∧ s.data.toList.drop at_ = encOp o ++ s.data.toList.drop nx := by
  obtain ⟨q1, q2, q3, q4, q5, q6, q7⟩ := readF_props hst ht h
  cases h1 : numF s at_ with
  | inl p => rw [readF_num h1] at h; cases h
  | inr q =>
    obtain ⟨n, n1⟩ := q
    obtain ⟨a1, a2, a3⟩ := numF_ok hst h1
    obtain ⟨b1, b2⟩ := numF_back h1
    by_cases hb : n / 2 = 0 ∨ 2000 < total + n / 2
    · rw [readF_len h1 hb] at h; cases h
    · by_cases h2 : n % 2 = 0
      · rw [readF_text h1 hb h2] at h
        split at h
        · cases h
        · rename_i hlt
          split at h
          · cases h
          · rename_i hend
            simp only [Sum.inr.injEq, Prod.mk.injEq] at h
            obtain ⟨rfl, rfl⟩ := h
            have hsz : (s.extract n1 (n1 + n / 2)).size = n / 2 := by rw [size_ext _ _ _ (by omega)]; omega
            refine ⟨⟨isOp_of q1 (fun hl => by simp at hl), ?_, q5⟩, ?_⟩
            · unfold lastText at hlt
              cases hg : out.getLast? with
              | none => rfl
              | some l => rw [hg] at hlt; simp only [Go.Proofs.YtabpiaaknjcnkaaGreat.behind, followB]; simp at hlt; simp [hlt]
            · unfold encOp
              simp only [Int.lt_irrefl, if_false]
              rw [hsz, show 2 * (n / 2) = n by omega, ByteArray.data_extract, Array.toList_extract, List.extract_eq_take_drop, show n1 + n / 2 - n1 = n / 2 by omega, List.append_assoc, ← List.drop_drop, List.take_append_drop]
              exact b1
      · cases h3 : numF s n1 with
        | inl p => rw [readF_copy_num h1 hb h2 h3] at h; cases h
        | inr q =>
          obtain ⟨f, b⟩ := q
          obtain ⟨c1, c2⟩ := numF_back h3
          by_cases h4 : 2000 < f + n / 2 ∨ goesOn out f (n / 2 : Nat) = true
          · rw [readF_copy_bad h1 hb h2 h3 h4] at h; cases h
          · rw [readF_copy_ok h1 hb h2 h3 h4] at h
            simp only [Sum.inr.injEq, Prod.mk.injEq] at h
            obtain ⟨rfl, rfl⟩ := h
            have hp : (0 : Int) < ((n / 2 : Nat) : Int) := by omega
            refine ⟨⟨isOp_of q1 (fun hl => by simp only; omega), ?_, q5⟩, ?_⟩
            · have h5 : ¬ goesOn out f (n / 2 : Nat) = true := fun h => h4 (.inr h)
              unfold goesOn at h5
              cases hg : out.getLast? with
              | none => rfl
              | some l => rw [hg] at h5; simp only [Go.Proofs.YtabpiaaknjcnkaaGreat.behind]; simpa using h5
            · unfold encOp
              simp only [if_pos hp]
              rw [show (2 * ((n / 2 : Nat) : Int) + 1).toNat = n by omega, show ((f : Nat) : Int).toNat = f by omega, List.append_assoc, ← c1]
              exact b1
end Go.Proofs.YtabpiaaknjcnkaaGreat

/-
  Plain facts: codes, whole.
-/
namespace Go.Proofs.YtabpiaaknjcnkaaGreat
set_option linter.unusedVariables false
set_option linter.unusedSimpArgs false

def FitsAll : List DOp → Nat → List DOp → Prop
  | _, _, [] => True
  | out, total, o :: r => Fits out total o ∧ FitsAll (out ++ [o]) (total + sizeN o) r
theorem fits_of_fault : ∀ (xs out : List DOp) (i total : Nat), faultGo 2000 xs out.getLast? i total = i + xs.length → FitsAll out total xs
  | [], _, _, _, _ => trivial
  | o :: r, out, i, total, h => by
    rw [faultGo] at h
    simp only [List.length_cons] at h
    split at h
    · omega
    · split at h
      · omega
      · split at h
        · omega
        · split at h
          · omega
          · rename_i h1 h2 h3 h4
            have hz : sizeI o.len o.tx = (sizeN o : Nat) := by have := sizeI_nonneg o.len o.tx; unfold sizeN; omega
            refine ⟨⟨by simpa using h2, by simpa using h3, by rw [hz] at h4; omega⟩, ?_⟩
            refine fits_of_fault r (out ++ [o]) (i + 1) (total + sizeN o) ?_
            rw [List.getLast?_append, List.getLast?_singleton, Option.some_or]
            rw [hz] at h
            rw [show ((total + sizeN o : Nat) : Int) = (total : Int) + (sizeN o : Nat) by omega, h]
            omega
theorem fault_of_fits : ∀ (xs out : List DOp) (i total : Nat), FitsAll out total xs → i + xs.length ≤ 200 → faultGo 2000 xs out.getLast? i total = i + xs.length
  | [], _, _, _, _, _ => by simp [faultGo]
  | o :: r, out, i, total, h, hl => by
    simp only [List.length_cons] at hl ⊢
    have hz : sizeI o.len o.tx = (sizeN o : Nat) := by have := sizeI_nonneg o.len o.tx; unfold sizeN; omega
    have hr := h.1.room
    rw [faultGo, if_neg (by omega), if_neg (by rw [h.1.op]; simp), if_neg (by rw [h.1.behind]; simp), if_neg (by rw [hz]; omega), hz]
    have := fault_of_fits r (out ++ [o]) (i + 1) (total + sizeN o) h.2 (by omega)
    rw [List.getLast?_append, List.getLast?_singleton, Option.some_or, show ((total + sizeN o : Nat) : Int) = (total : Int) + (sizeN o : Nat) by omega] at this
    rw [this]; omega

theorem dec_fwd {s : ByteArray} : ∀ (xs out : List DOp) (total at_ : Nat) (rest : List UInt8), FitsAll out total xs → s.data.toList.drop at_ = xs.flatMap encOp ++ rest → decGo s xs.length out total at_ = .inr (out ++ xs, at_ + (xs.flatMap encOp).length)
  | [], out, total, at_, rest, _, _ => by simp [decGo]
  | o :: r, out, total, at_, rest, h, hd => by
    rw [List.flatMap_cons, List.append_assoc] at hd
    rw [List.length_cons, decGo_ok (read_fwd h.1 hd)]
    rw [dec_fwd r (out ++ [o]) (total + sizeN o) (at_ + (encOp o).length) rest h.2 (by rw [← List.drop_drop, hd, List.drop_left])]
    simp; omega
theorem dec_cut {s : ByteArray} : ∀ (xs out : List DOp) (total at_ : Nat) (pre suf : List UInt8), FitsAll out total xs → s.data.toList.drop at_ = pre → xs.flatMap encOp = pre ++ suf → suf ≠ [] → decGo s xs.length out total at_ = .inl s.size
  | [], out, total, at_, pre, suf, _, _, he, hs => by
    simp only [List.flatMap_nil] at he
    have := he.symm
    simp only [List.append_eq_nil_iff] at this
    exact absurd this.2 hs
  | o :: r, out, total, at_, pre, suf, h, hd, he, hs => by
    rw [List.flatMap_cons] at he
    rw [List.length_cons]
    rcases cut_parts he hs with ⟨suf', hu, hs'⟩ | ⟨pre', hp, hu⟩
    · exact decGo_bad (read_cut h.1 hd hu hs')
    · rw [hp] at hd
      rw [decGo_ok (read_fwd h.1 hd)]
      exact dec_cut r (out ++ [o]) (total + sizeN o) _ pre' suf h.2 (by rw [← List.drop_drop, hd, List.drop_left]) hu hs
theorem dec_back {s : ByteArray} : ∀ (r : Nat) (out : List DOp) (total at_ : Nat), at_ ≤ s.size → total ≤ 2000 →
    (∀ p, decGo s r out total at_ = .inl p → p ≤ s.size) ∧ ∀ out' at', decGo s r out total at_ = .inr (out', at') → ∃ xs, out' = out ++ xs ∧ xs.length = r ∧ FitsAll out total xs ∧ s.data.toList.drop at_ = xs.flatMap encOp ++ s.data.toList.drop at' ∧ at' ≤ s.size
  | 0, out, total, at_, hst, ht => ⟨fun p hp => by simp [decGo] at hp, fun out' at' h => by
      simp only [decGo, Sum.inr.injEq, Prod.mk.injEq] at h
      obtain ⟨rfl, rfl⟩ := h
      exact ⟨[], by simp, rfl, trivial, by simp, hst⟩⟩
  | r + 1, out, total, at_, hst, ht => by
    cases hr : readF s out total at_ with
    | inl q =>
      rw [decGo_bad hr]
      refine ⟨fun p hp => ?_, fun _ _ h => by cases h⟩
      simp only [Sum.inl.injEq] at hp
      subst hp
      -- where an op fails
      cases h1 : numF s at_ with
      | inl p => rw [readF_num h1] at hr; simp only [Sum.inl.injEq] at hr; subst hr; exact numF_bad hst h1
      | inr v =>
        obtain ⟨n, n1⟩ := v
        obtain ⟨a1, a2, a3⟩ := numF_ok hst h1
        by_cases hb : n / 2 = 0 ∨ 2000 < total + n / 2
        · rw [readF_len h1 hb] at hr; simp only [Sum.inl.injEq] at hr; omega
        · by_cases h2 : n % 2 = 0
          · rw [readF_text h1 hb h2] at hr
            split at hr
            · simp only [Sum.inl.injEq] at hr; omega
            · split at hr
              · simp only [Sum.inl.injEq] at hr; omega
              · cases hr
          · cases h3 : numF s n1 with
            | inl p => rw [readF_copy_num h1 hb h2 h3] at hr; simp only [Sum.inl.injEq] at hr; subst hr; exact numF_bad a3 h3
            | inr v =>
              obtain ⟨f, b⟩ := v
              by_cases h4 : 2000 < f + n / 2 ∨ goesOn out f (n / 2 : Nat) = true
              · rw [readF_copy_bad h1 hb h2 h3 h4] at hr; simp only [Sum.inl.injEq] at hr; omega
              · rw [readF_copy_ok h1 hb h2 h3 h4] at hr; cases hr
    | inr q =>
      obtain ⟨o, nx⟩ := q
      rw [decGo_ok hr]
      obtain ⟨q1, q2, q3, q4, q5, q6, q7⟩ := readF_props hst ht hr
      obtain ⟨f1, f2⟩ := read_back hst ht hr
      obtain ⟨i1, i2⟩ := dec_back r (out ++ [o]) (total + sizeN o) nx q6 q5
      refine ⟨i1, fun out' at' h => ?_⟩
      obtain ⟨xs, rfl, e2, e3, e4, e5⟩ := i2 out' at' h
      exact ⟨o :: xs, by simp, by simp [e2], ⟨f1, e3⟩, by rw [f2, e4]; simp, e5⟩

theorem decF_fwd {s : ByteArray} {xs : List DOp} {rest : List UInt8} (h : faultF xs 2000 = xs.length) (hd : s.data.toList = encL xs ++ rest) : decF s = if rest = [] then .inr xs else .inl (encL xs).length := by
  have hl := fault_len h
  have hf := fits_of_fault xs [] 0 0 (by unfold faultF at h; simpa using h)
  unfold encL at hd
  rw [List.append_assoc] at hd
  have n1 := numF_fwd (s := s) (start := 0) (by simpa using hd) (by omega)
  have d1 := dec_fwd xs [] 0 (0 + (uN xs.length).length) rest hf (by rw [Nat.zero_add, hd, List.drop_left])
  have hsz : s.size = (encL xs).length + rest.length := by
    rw [Lib.size_eq, hd]; unfold encL; simp; omega
  unfold decF
  rw [n1]
  simp only [if_neg (show ¬ 200 < xs.length by omega)]
  rw [d1]
  simp only [List.nil_append]
  have he : 0 + (uN xs.length).length + (xs.flatMap encOp).length = (encL xs).length := by unfold encL; rw [List.length_append]; omega
  rw [he]
  by_cases hr : rest = []
  · rw [if_pos hr, if_neg (by rw [hr] at hsz; simp at hsz; omega)]
  · rw [if_neg hr, if_pos (by have := List.length_pos_iff.2 hr; omega)]
theorem decF_cut {s : ByteArray} {xs : List DOp} {suf : List UInt8} (h : faultF xs 2000 = xs.length) (hd : encL xs = s.data.toList ++ suf) (hs : suf ≠ []) : decF s = .inl s.size := by
  have hl := fault_len h
  have hf := fits_of_fault xs [] 0 0 (by unfold faultF at h; simpa using h)
  unfold encL at hd
  unfold decF
  rcases cut_parts hd hs with ⟨suf', hu, hs'⟩ | ⟨pre', hp, hu⟩
  · rw [numF_cut (start := 0) (by simp) hu hs' (by omega)]
  · rw [numF_fwd (s := s) (start := 0) (rest := pre') (by simpa using hp) (by omega)]
    simp only [if_neg (show ¬ 200 < xs.length by omega)]
    rw [dec_cut xs [] 0 (0 + (uN xs.length).length) pre' suf hf (by rw [Nat.zero_add, hp, List.drop_left]) hu hs]
theorem decF_back {s : ByteArray} {out : List DOp} (h : decF s = .inr out) : faultF out 2000 = out.length ∧ encL out = s.data.toList := by
  unfold decF at h
  cases h1 : numF s 0 with
  | inl p => rw [h1] at h; cases h
  | inr q =>
    obtain ⟨c, a⟩ := q
    rw [h1] at h
    obtain ⟨a1, a2, a3⟩ := numF_ok (Nat.zero_le _) h1
    obtain ⟨b1, b2⟩ := numF_back h1
    simp only at h
    split at h
    · cases h
    · rename_i h200
      obtain ⟨i1, i2⟩ := dec_back (s := s) c [] 0 a a3 (by omega)
      cases h2 : decGo s c [] 0 a with
      | inl p => rw [h2] at h; cases h
      | inr q =>
        obtain ⟨o2, at'⟩ := q
        rw [h2] at h
        simp only at h
        split at h
        · cases h
        · rename_i hend
          simp only [Sum.inr.injEq] at h
          subst h
          obtain ⟨xs, e1, e2, e3, e4, e5⟩ := i2 o2 at' h2
          simp only [List.nil_append] at e1
          subst e1
          refine ⟨?_, ?_⟩
          · have := fault_of_fits o2 [] 0 0 e3 (by omega)
            unfold faultF; simpa using this
          · unfold encL
            rw [e2]
            rw [drop_none.2 (show s.size ≤ at' by omega), List.append_nil] at e4
            rw [← e4]
            simpa using b1.symm
theorem decF_bad {s : ByteArray} {p : Nat} (h : decF s = .inl p) : p ≤ s.size := by
  unfold decF at h
  cases h1 : numF s 0 with
  | inl q => rw [h1] at h; simp only [Sum.inl.injEq] at h; subst h; exact numF_bad (Nat.zero_le _) h1
  | inr q =>
    obtain ⟨c, a⟩ := q
    rw [h1] at h
    obtain ⟨a1, a2, a3⟩ := numF_ok (Nat.zero_le _) h1
    simp only at h
    split at h
    · simp only [Sum.inl.injEq] at h; omega
    · obtain ⟨i1, i2⟩ := dec_back (s := s) c [] 0 a a3 (by omega)
      cases h2 : decGo s c [] 0 a with
      | inl q => rw [h2] at h; simp only [Sum.inl.injEq] at h; subst h; exact i1 _ h2
      | inr q =>
        obtain ⟨o2, at'⟩ := q
        rw [h2] at h
        simp only at h
        split at h
        · simp only [Sum.inl.injEq] at h; omega
        · cases h
end Go.Proofs.YtabpiaaknjcnkaaGreat
