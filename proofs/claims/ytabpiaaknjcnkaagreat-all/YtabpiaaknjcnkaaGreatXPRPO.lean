/- The texts PR, PO, one behind the other. -/
import Derived.Test.YtabpiaaknjcnkaaGreatXZKYBPMPQ
import Derived.Test.YtabpiaaknjcnkaaGreatXPVV1V2
/-
  Plain facts: codes, whole.
-/
namespace Go.Proofs.YtabpiaaknjcnkaaGreat
set_option linter.unusedVariables false
set_option linter.unusedSimpArgs false

def FitsAll : List DOp → Nat → List DOp → Prop
  | _, _, [] => True
  | out, total, o :: r => Fits out total o ∧ FitsAll (out ++ [o]) (total + sizeN o) r
theorem fits_of_fault : ∀ (xs out : List DOp) (i total : Nat), faultGo 2000 xs out.getLast? i total = i + xs.length → FitsAll out total xs
  | [], _, _, _, _ => trivial
  | o :: r, out, i, total, h => by
    rw [faultGo] at h
    simp only [List.length_cons] at h
    split at h
    · omega
    · split at h
      · omega
      · split at h
        · omega
        · split at h
          · omega
          · rename_i h1 h2 h3 h4
            have hz : sizeI o.len o.tx = (sizeN o : Nat) := by have := sizeI_nonneg o.len o.tx; unfold sizeN; omega
            refine ⟨⟨by simpa using h2, by simpa using h3, by rw [hz] at h4; omega⟩, ?_⟩
            refine fits_of_fault r (out ++ [o]) (i + 1) (total + sizeN o) ?_
            rw [List.getLast?_append, List.getLast?_singleton, Option.some_or]
            rw [hz] at h
            rw [show ((total + sizeN o : Nat) : Int) = (total : Int) + (sizeN o : Nat) by omega, h]
            omega
theorem fault_of_fits : ∀ (xs out : List DOp) (i total : Nat), FitsAll out total xs → i + xs.length ≤ 200 → faultGo 2000 xs out.getLast? i total = i + xs.length
  | [], _, _, _, _, _ => by simp [faultGo]
  | o :: r, out, i, total, h, hl => by
    simp only [List.length_cons] at hl ⊢
    have hz : sizeI o.len o.tx = (sizeN o : Nat) := by have := sizeI_nonneg o.len o.tx; unfold sizeN; omega
    have hr := h.1.room
    rw [faultGo, if_neg (by omega), if_neg (by rw [h.1.op]; simp), if_neg (by rw [h.1.behind]; simp), if_neg (by rw [hz]; omega), hz]
    have := fault_of_fits r (out ++ [o]) (i + 1) (total + sizeN o) h.2 (by omega)
    rw [List.getLast?_append, List.getLast?_singleton, Option.some_or, show ((total + sizeN o : Nat) : Int) = (total : Int) + (sizeN o : Nat) by omega] at this
    rw [this]; omega

theorem dec_fwd {s : ByteArray} : ∀ (xs out : List DOp) (total at_ : Nat) (rest : List UInt8), FitsAll out total xs → s.data.toList.drop at_ = xs.flatMap encOp ++ rest → decGo s xs.length out total at_ = .inr (out ++ xs, at_ + (xs.flatMap encOp).length)
  | [], out, total, at_, rest, _, _ => by simp [decGo]
  | o :: r, out, total, at_, rest, h, hd => by
    rw [List.flatMap_cons, List.append_assoc] at hd
    rw [List.length_cons, decGo_ok (read_fwd h.1 hd)]
    rw [dec_fwd r (out ++ [o]) (total + sizeN o) (at_ + (encOp o).length) rest h.2 (by rw [← List.drop_drop, hd, List.drop_left])]
    simp; omega
theorem dec_back {s : ByteArray} : ∀ (r : Nat) (out : List DOp) (total at_ : Nat), at_ ≤ s.size → total ≤ 2000 →
    (∀ p, decGo s r out total at_ = .inl p → p ≤ s.size) ∧ ∀ out' at', decGo s r out total at_ = .inr (out', at') → ∃ xs, out' = out ++ xs ∧ xs.length = r ∧ FitsAll out total xs ∧ s.data.toList.drop at_ = xs.flatMap encOp ++ s.data.toList.drop at' ∧ at' ≤ s.size
  | 0, out, total, at_, hst, ht => ⟨fun p hp => by simp [decGo] at hp, fun out' at' h => by
      simp only [decGo, Sum.inr.injEq, Prod.mk.injEq] at h
      obtain ⟨rfl, rfl⟩ := h
      exact ⟨[], by simp, rfl, trivial, by simp, hst⟩⟩
  | r + 1, out, total, at_, hst, ht => by
    cases hr : readF s out total at_ with
    | inl q =>
      rw [decGo_bad hr]
      refine ⟨fun p hp => ?_, fun _ _ h => by cases h⟩
      simp only [Sum.inl.injEq] at hp
      subst hp
      -- where an op fails
      cases h1 : numF s at_ with
      | inl p => rw [readF_num h1] at hr; simp only [Sum.inl.injEq] at hr; subst hr; exact numF_bad hst h1
      | inr v =>
        obtain ⟨n, n1⟩ := v
        obtain ⟨a1, a2, a3⟩ := numF_ok hst h1
        by_cases hb : n / 2 = 0 ∨ 2000 < total + n / 2
        · rw [readF_len h1 hb] at hr; simp only [Sum.inl.injEq] at hr; omega
        · by_cases h2 : n % 2 = 0
          · rw [readF_text h1 hb h2] at hr
            split at hr
            · simp only [Sum.inl.injEq] at hr; omega
            · split at hr
              · simp only [Sum.inl.injEq] at hr; omega
              · cases hr
          · cases h3 : numF s n1 with
            | inl p => rw [readF_copy_num h1 hb h2 h3] at hr; simp only [Sum.inl.injEq] at hr; subst hr; exact numF_bad a3 h3
            | inr v =>
              obtain ⟨f, b⟩ := v
              by_cases h4 : 2000 < f + n / 2 ∨ goesOn out f (n / 2 : Nat) = true
              · rw [readF_copy_bad h1 hb h2 h3 h4] at hr; simp only [Sum.inl.injEq] at hr; omega
              · rw [readF_copy_ok h1 hb h2 h3 h4] at hr; cases hr
    | inr q =>
      obtain ⟨o, nx⟩ := q
      rw [decGo_ok hr]
      obtain ⟨q1, q2, q3, q4, q5, q6, q7⟩ := readF_props hst ht hr
      obtain ⟨f1, f2⟩ := read_back hst ht hr
      obtain ⟨i1, i2⟩ := dec_back r (out ++ [o]) (total + sizeN o) nx q6 q5
      refine ⟨i1, fun out' at' h => ?_⟩
      obtain ⟨xs, rfl, e2, e3, e4, e5⟩ := i2 out' at' h
      exact ⟨o :: xs, by simp, by simp [e2], ⟨f1, e3⟩, by rw [f2, e4]; simp, e5⟩

theorem decF_fwd {s : ByteArray} {xs : List DOp} {rest : List UInt8} (h : faultF xs 2000 = xs.length) (hd : s.data.toList = encL xs ++ rest) : decF s = if rest = [] then .inr xs else .inl (encL xs).length := by
  have hl := fault_len h
  have hf := fits_of_fault xs [] 0 0 (by unfold faultF at h; simpa using h)
  unfold encL at hd
  rw [List.append_assoc] at hd
  have n1 := numF_fwd (s := s) (start := 0) (by simpa using hd) (by omega)
  have d1 := dec_fwd xs [] 0 (0 + (uN xs.length).length) rest hf (by rw [Nat.zero_add, hd, List.drop_left])
  have hsz : s.size = (encL xs).length + rest.length := by
    rw [Lib.size_eq, hd]; unfold encL; simp; omega
  unfold decF
  rw [n1]
  simp only [if_neg (show ¬ 200 < xs.length by omega)]
  rw [d1]
  simp only [List.nil_append]
  have he : 0 + (uN xs.length).length + (xs.flatMap encOp).length = (encL xs).length := by unfold encL; rw [List.length_append]; omega
  rw [he]
  by_cases hr : rest = []
  · rw [if_pos hr, if_neg (by rw [hr] at hsz; simp at hsz; omega)]
  · rw [if_neg hr, if_pos (by have := List.length_pos_iff.2 hr; omega)]
theorem decF_back {s : ByteArray} {out : List DOp} (h : decF s = .inr out) : faultF out 2000 = out.length ∧ encL out = s.data.toList := by
  unfold decF at h
  cases h1 : numF s 0 with
  | inl p => rw [h1] at h; cases h
  | inr q =>
    obtain ⟨c, a⟩ := q
    rw [h1] at h
    obtain ⟨a1, a2, a3⟩ := numF_ok (Nat.zero_le _) h1
    obtain ⟨b1, b2⟩ := numF_back h1
    simp only at h
    split at h
    · cases h
    · rename_i h200
      obtain ⟨i1, i2⟩ := dec_back (s := s) c [] 0 a a3 (by omega)
      cases h2 : decGo s c [] 0 a with
      | inl p => rw [h2] at h; cases h
      | inr q =>
        obtain ⟨o2, at'⟩ := q
        rw [h2] at h
        simp only at h
        split at h
        · cases h
        · rename_i hend
          simp only [Sum.inr.injEq] at h
          subst h
          obtain ⟨xs, e1, e2, e3, e4, e5⟩ := i2 o2 at' h2
          simp only [List.nil_append] at e1
          subst e1
          refine ⟨?_, ?_⟩
          · have := fault_of_fits o2 [] 0 0 e3 (by omega)
            unfold faultF; simpa using this
          · unfold encL
            rw [e2]
            rw [drop_none.2 (show s.size ≤ at' by omega), List.append_nil] at e4
            rw [← e4]
            simpa using b1.symm
end Go.Proofs.YtabpiaaknjcnkaaGreat

/-
  Plain facts: what a record does; a log that is gone through from the front.
-/
namespace Go.Proofs.YtabpiaaknjcnkaaGreat
set_option linter.unusedVariables false
set_option linter.unusedSimpArgs false

def bodyB (c n : Nat) (t : List UInt8) : List UInt8 := 66 :: (uN c ++ (uN n ++ t))
/-- Chains, one of them another one. -/
def setCh (ch : Nat → Chn) (c : Nat) (x : Chn) : Nat → Chn := fun i => if i = c then x else ch i
def noCh : Nat → Chn := fun _ => ⟨0, []⟩

/-- A text more; a code; a first one; those ahead go. -/
def moreF (ch : Nat → Chn) (c : Nat) (t : ByteArray) : Option (Nat → Chn) :=
  if t.size ≤ 2000 ∧ (ch c).last < 2147483647 then some (setCh ch c ⟨(ch c).gone, (ch c).texts ++ [t]⟩) else none
def codeF (ch : Nat → Chn) (c : Nat) (code : ByteArray) : Option (Nat → Chn) :=
  match decF code, (ch c).texts.getLast? with
  | .inr ops, some t => if faultF ops t.size < ops.length then none else moreF ch c ⟨(madeL t.data.toList ops).toArray⟩
  | _, _ => none
def baseF (ch : Nat → Chn) (c n : Nat) (t : ByteArray) : Option (Nat → Chn) :=
  if 0 < n ∧ (ch c).last = 0 ∧ t.size ≤ 2000 then some (setCh ch c ⟨n - 1, [t]⟩) else none
def pruneF (ch : Nat → Chn) (c n : Nat) : Option (Nat → Chn) :=
  if (ch c).gone < n ∧ n ≤ (ch c).last then some (setCh ch c ⟨n - 1, (ch c).texts.drop (n - (ch c).gone - 1)⟩) else none
/-- What a body does; nothing: it is none, or can't be. -/
def doesF (ch : Nat → Chn) (b : ByteArray) : Option (Nat → Chn) :=
  match b.data.toList.head? with
  | none => none
  | some L => match numF b 1 with
    | .inl _ => none
    | .inr (c, at_) =>
      if 3 < c then none
      else if L = 70 then moreF ch c (b.extract at_ b.size)
      else if L = 68 then codeF ch c (b.extract at_ b.size)
      else match numF b at_ with
        | .inl _ => none
        | .inr (n, nx) => if L = 66 then baseF ch c n (b.extract nx b.size) else if L = 80 ∧ nx = b.size then pruneF ch c n else none

/-- A log from a place on. -/
def openGo (log : ByteArray) : Nat → Nat → (Nat → Chn) → (Nat → Chn) × Nat
  | 0, at_, ch => (ch, at_)
  | f + 1, at_, ch =>
    if at_ < log.size then
      match numF log at_ with
      | .inl _ => (ch, at_)
      | .inr (n, body) =>
        if log.size < body + n + 4 then (ch, at_)
        else if recL (log.extract body (body + n)).data.toList ≠ (log.extract at_ (body + n + 4)).data.toList then (ch, at_)
        else match doesF ch (log.extract body (body + n)) with
          | none => (ch, at_)
          | some ch' => openGo log f (body + n + 4) ch'
    else (ch, at_)
def openF (log : ByteArray) : (Nat → Chn) × Nat := openGo log log.size 0 noCh

/-- Rows of bodies, one behind the other. -/
def folds : List ByteArray → (Nat → Chn) → Option (Nat → Chn)
  | [], ch => some ch
  | b :: r, ch => match doesF ch b with
    | none => none
    | some ch' => folds r ch'
def recsL (bs : List ByteArray) : List UInt8 := bs.flatMap fun b => recL b.data.toList
/-- These bytes are records that lead from these chains to those. -/
def Leads (l : List UInt8) (ch ch' : Nat → Chn) : Prop := ∃ bs : List ByteArray, l = recsL bs ∧ folds bs ch = some ch' ∧ ∀ b ∈ bs, b.size ≤ 2147483647
theorem Leads.refl (ch : Nat → Chn) : Leads [] ch ch := ⟨[], rfl, rfl, by simp⟩
theorem folds_append {xs ys : List ByteArray} {a b : Nat → Chn} : ∀ {ch : Nat → Chn}, folds xs ch = some a → folds ys a = some b → folds (xs ++ ys) ch = some b := by
  induction xs with
  | nil => intro ch h1 h2; simp only [folds, Option.some.injEq] at h1; subst h1; exact h2
  | cons x r ih =>
    intro ch h1 h2
    rw [List.cons_append]
    unfold folds at h1 ⊢
    cases hd : doesF ch x with
    | none => rw [hd] at h1; cases h1
    | some c => rw [hd] at h1; exact ih h1 h2
theorem Leads.trans {l m : List UInt8} {a b c : Nat → Chn} (h1 : Leads l a b) (h2 : Leads m b c) : Leads (l ++ m) a c := by
  obtain ⟨xs, rfl, f1, s1⟩ := h1
  obtain ⟨ys, rfl, f2, s2⟩ := h2
  refine ⟨xs ++ ys, by simp [recsL], folds_append f1 f2, fun b hb => ?_⟩
  rcases List.mem_append.1 hb with h | h
  · exact s1 b h
  · exact s2 b h
theorem Leads.one {ch ch' : Nat → Chn} {b : ByteArray} {l : List UInt8} (hb : b.data.toList = l) (hs : l.length ≤ 2147483647) (h : doesF ch b = some ch') : Leads (recL l) ch ch' := by
  refine ⟨[b], by simp [recsL, hb], by simp [folds, h], fun x hx => ?_⟩
  obtain rfl : x = b := by simpa using hx
  rw [Lib.size_eq, hb]; exact hs
theorem bytes_of (l : List UInt8) : (⟨l.toArray⟩ : ByteArray).data.toList = l := by simp

end Go.Proofs.YtabpiaaknjcnkaaGreat
