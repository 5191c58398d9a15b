/- The texts PR, PO, one behind the other. -/
import Derived.Test.YtabpiaaknjcnkabGreatXPMPQ
import Derived.Test.YtabpiaaknjcnkabGreatXPVW2
/-
  Plain facts: codes, whole.
-/
namespace Go.Proofs.YtabpiaaknjcnkabGreat
set_option linter.unusedVariables false
set_option linter.unusedSimpArgs false

def FitsAll : List DOp → Nat → List DOp → Prop
  | _, _, [] => True
  | out, total, o :: r => Fits out total o ∧ FitsAll (out ++ [o]) (total + sizeN o) r
theorem fits_of_fault : ∀ (xs out : List DOp) (i total : Nat), faultGo 2000 xs out.getLast? i total = i + xs.length → FitsAll out total xs
  | [], _, _, _, _ => trivial
  | o :: r, out, i, total, h => by
    rw [faultGo] at h
    simp only [List.length_cons] at h
    split at h
    · omega
    · split at h
      · omega
      · split at h
        · omega
        · split at h
          · omega
          · rename_i h1 h2 h3 h4
            have hz : sizeI o.len o.tx = (sizeN o : Nat) := by have := sizeI_nonneg o.len o.tx; unfold sizeN; omega
            refine ⟨⟨by simpa using h2, by simpa using h3, by rw [hz] at h4; omega⟩, ?_⟩
            refine fits_of_fault r (out ++ [o]) (i + 1) (total + sizeN o) ?_
            rw [List.getLast?_append, List.getLast?_singleton, Option.some_or]
            rw [hz] at h
            rw [show ((total + sizeN o : Nat) : Int) = (total : Int) + (sizeN o : Nat) by omega, h]
            omega
theorem fault_of_fits : ∀ (xs out : List DOp) (i total : Nat), FitsAll out total xs → i + xs.length ≤ 200 → faultGo 2000 xs out.getLast? i total = i + xs.length
  | [], _, _, _, _, _ => by simp [faultGo]
  | o :: r, out, i, total, h, hl => by
    simp only [List.length_cons] at hl ⊢
    have hz : sizeI o.len o.tx = (sizeN o : Nat) := by have := sizeI_nonneg o.len o.tx; unfold sizeN; omega
    have hr := h.1.room
    rw [faultGo, if_neg (by omega), if_neg (by rw [h.1.op]; simp), if_neg (by rw [h.1.behind]; simp), if_neg (by rw [hz]; omega), hz]
    have := fault_of_fits r (out ++ [o]) (i + 1) (total + sizeN o) h.2 (by omega)
    rw [List.getLast?_append, List.getLast?_singleton, Option.some_or, show ((total + sizeN o : Nat) : Int) = (total : Int) + (sizeN o : Nat) by omega] at this
    rw [this]; omega

theorem dec_fwd {s : ByteArray} : ∀ (xs out : List DOp) (total at_ : Nat) (rest : List UInt8), FitsAll out total xs → s.data.toList.drop at_ = xs.flatMap encOp ++ rest → decGo s xs.length out total at_ = .inr (out ++ xs, at_ + (xs.flatMap encOp).length)
  | [], out, total, at_, rest, _, _ => by simp [decGo]
  | o :: r, out, total, at_, rest, h, hd => by
    rw [List.flatMap_cons, List.append_assoc] at hd
    rw [List.length_cons, decGo_ok (read_fwd h.1 hd)]
    rw [dec_fwd r (out ++ [o]) (total + sizeN o) (at_ + (encOp o).length) rest h.2 (by rw [← List.drop_drop, hd, List.drop_left])]
    simp; omega
theorem dec_cut {s : ByteArray} : ∀ (xs out : List DOp) (total at_ : Nat) (pre suf : List UInt8), FitsAll out total xs → s.data.toList.drop at_ = pre → xs.flatMap encOp = pre ++ suf → suf ≠ [] → decGo s xs.length out total at_ = .inl s.size
  | [], out, total, at_, pre, suf, _, _, he, hs => by
    simp only [List.flatMap_nil] at he
    have := he.symm
    simp only [List.append_eq_nil_iff] at this
    exact absurd this.2 hs
  | o :: r, out, total, at_, pre, suf, h, hd, he, hs => by
    rw [List.flatMap_cons] at he
    rw [List.length_cons]
    rcases cut_parts he hs with ⟨suf', hu, hs'⟩ | ⟨pre', hp, hu⟩
    · exact decGo_bad (read_cut h.1 hd hu hs')
    · rw [hp] at hd
      rw [decGo_ok (read_fwd h.1 hd)]
      exact dec_cut r (out ++ [o]) (total + sizeN o) _ pre' suf h.2 (by rw [← List.drop_drop, hd, List.drop_left]) hu hs
theorem dec_back {s : ByteArray} : ∀ (r : Nat) (out : List DOp) (total at_ : Nat), at_ ≤ s.size → total ≤ 2000 →
    (∀ p, decGo s r out total at_ = .inl p → p ≤ s.size) ∧ ∀ out' at', decGo s r out total at_ = .inr (out', at') → ∃ xs, out' = out ++ xs ∧ xs.length = r ∧ FitsAll out total xs ∧ s.data.toList.drop at_ = xs.flatMap encOp ++ s.data.toList.drop at' ∧ at' ≤ s.size
  | 0, out, total, at_, hst, ht => ⟨fun p hp => by simp [decGo] at hp, fun out' at' h => by
      simp only [decGo, Sum.inr.injEq, Prod.mk.injEq] at h
      obtain ⟨rfl, rfl⟩ := h
      exact ⟨[], by simp, rfl, trivial, by simp, hst⟩⟩
  | r + 1, out, total, at_, hst, ht => by
    cases hr : readF s out total at_ with
    | inl q =>
      rw [decGo_bad hr]
      refine ⟨fun p hp => ?_, fun _ _ h => by cases h⟩
      simp only [Sum.inl.injEq] at hp
      subst hp
      -- where an op fails
      cases h1 : numF s at_ with
      | inl p => rw [readF_num h1] at hr; simp only [Sum.inl.injEq] at hr; subst hr; exact numF_bad hst h1
      | inr v =>
        obtain ⟨n, n1⟩ := v
        obtain ⟨a1, a2, a3⟩ := numF_ok hst h1
        by_cases hb : n / 2 = 0 ∨ 2000 < total + n / 2
        · rw [readF_len h1 hb] at hr; simp only [Sum.inl.injEq] at hr; omega
        · by_cases h2 : n % 2 = 0
          · rw [readF_text h1 hb h2] at hr
            split at hr
            · simp only [Sum.inl.injEq] at hr; omega
            · split at hr
              · simp only [Sum.inl.injEq] at hr; omega
              · cases hr
          · cases h3 : numF s n1 with
            | inl p => rw [readF_copy_num h1 hb h2 h3] at hr; simp only [Sum.inl.injEq] at hr; subst hr; exact numF_bad a3 h3
            | inr v =>
              obtain ⟨f, b⟩ := v
              by_cases h4 : 2000 < f + n / 2 ∨ goesOn out f (n / 2 : Nat) = true
              · rw [readF_copy_bad h1 hb h2 h3 h4] at hr; simp only [Sum.inl.injEq] at hr; omega
              · rw [readF_copy_ok h1 hb h2 h3 h4] at hr; cases hr
    | inr q =>
      obtain ⟨o, nx⟩ := q
      rw [decGo_ok hr]
      obtain ⟨q1, q2, q3, q4, q5, q6, q7⟩ := readF_props hst ht hr
      obtain ⟨f1, f2⟩ := read_back hst ht hr
      obtain ⟨i1, i2⟩ := dec_back r (out ++ [o]) (total + sizeN o) nx q6 q5
      refine ⟨i1, fun out' at' h => ?_⟩
      obtain ⟨xs, rfl, e2, e3, e4, e5⟩ := i2 out' at' h
      exact ⟨o :: xs, by simp, by simp [e2], ⟨f1, e3⟩, by rw [f2, e4]; simp, e5⟩

theorem decF_fwd {s : ByteArray} {xs : List DOp} {rest : List UInt8} (h : faultF xs 2000 = xs.length) (hd : s.data.toList = encL xs ++ rest) : decF s = if rest = [] then .inr xs else .inl (encL xs).length := by
  have hl := fault_len h
  have hf := fits_of_fault xs [] 0 0 (by unfold faultF at h; simpa using h)
  unfold encL at hd
  rw [List.append_assoc] at hd
  have n1 := numF_fwd (s := s) (start := 0) (by simpa using hd) (by omega)
  have d1 := dec_fwd xs [] 0 (0 + (uN xs.length).length) rest hf (by rw [Nat.zero_add, hd, List.drop_left])
  have hsz : s.size = (encL xs).length + rest.length := by
    rw [Lib.size_eq, hd]; unfold encL; simp; omega
  unfold decF
  rw [n1]
  simp only [if_neg (show ¬ 200 < xs.length by omega)]
  rw [d1]
  simp only [List.nil_append]
  have he : 0 + (uN xs.length).length + (xs.flatMap encOp).length = (encL xs).length := by unfold encL; rw [List.length_append]; omega
  rw [he]
  by_cases hr : rest = []
  · rw [if_pos hr, if_neg (by rw [hr] at hsz; simp at hsz; omega)]
  · rw [if_neg hr, if_pos (by have := List.length_pos_iff.2 hr; omega)]
theorem decF_cut {s : ByteArray} {xs : List DOp} {suf : List UInt8} (h : faultF xs 2000 = xs.length) (hd : encL xs = s.data.toList ++ suf) (hs : suf ≠ []) : decF s = .inl s.size := by
  have hl := fault_len h
  have hf := fits_of_fault xs [] 0 0 (by unfold faultF at h; simpa using h)
  unfold encL at hd
  unfold decF
  rcases cut_parts hd hs with ⟨suf', hu, hs'⟩ | ⟨pre', hp, hu⟩
  · rw [numF_cut (start := 0) (by simp) hu hs' (by omega)]
  · rw [numF_fwd (s := s) (start := 0) (rest := pre') (by simpa using hp) (by omega)]
    simp only [if_neg (show ¬ 200 < xs.length by omega)]
    rw [dec_cut xs [] 0 (0 + (uN xs.length).length) pre' suf hf (by rw [Nat.zero_add, hp, List.drop_left]) hu hs]
theorem decF_back {s : ByteArray} {out : List DOp} (h : decF s = .inr out) : faultF out 2000 = out.length ∧ encL out = s.data.toList := by
  unfold decF at h
  cases h1 : numF s 0 with
  | inl p => rw [h1] at h; cases h
  | inr q =>
    obtain ⟨c, a⟩ := q
    rw [h1] at h
    obtain ⟨a1, a2, a3⟩ := numF_ok (Nat.zero_le _) h1
    obtain ⟨b1, b2⟩ := numF_back h1
    simp only at h
    split at h
    · cases h
    · rename_i h200
      obtain ⟨i1, i2⟩ := dec_back (s := s) c [] 0 a a3 (by omega)
      cases h2 : decGo s c [] 0 a with
      | inl p => rw [h2] at h; cases h
      | inr q =>
        obtain ⟨o2, at'⟩ := q
        rw [h2] at h
        simp only at h
        split at h
        · cases h
        · rename_i hend
          simp only [Sum.inr.injEq] at h
          subst h
          obtain ⟨xs, e1, e2, e3, e4, e5⟩ := i2 o2 at' h2
          simp only [List.nil_append] at e1
          subst e1
          refine ⟨?_, ?_⟩
          · have := fault_of_fits o2 [] 0 0 e3 (by omega)
            unfold faultF; simpa using this
          · unfold encL
            rw [e2]
            rw [drop_none.2 (show s.size ≤ at' by omega), List.append_nil] at e4
            rw [← e4]
            simpa using b1.symm
theorem decF_bad {s : ByteArray} {p : Nat} (h : decF s = .inl p) : p ≤ s.size := by
  unfold decF at h
  cases h1 : numF s 0 with
  | inl q => rw [h1] at h; simp only [Sum.inl.injEq] at h; subst h; exact numF_bad (Nat.zero_le _) h1
  | inr q =>
    obtain ⟨c, a⟩ := q
    rw [h1] at h
    obtain ⟨a1, a2, a3⟩ := numF_ok (Nat.zero_le _) h1
    simp only at h
    split at h
    · simp only [Sum.inl.injEq] at h; omega
    · obtain ⟨i1, i2⟩ := dec_back (s := s) c [] 0 a a3 (by omega)
      cases h2 : decGo s c [] 0 a with
      | inl q => rw [h2] at h; simp only [Sum.inl.injEq] at h; subst h; exact i1 _ h2
      | inr q =>
        obtain ⟨o2, at'⟩ := q
        rw [h2] at h
        simp only at h
        split at h
        · simp only [Sum.inl.injEq] at h; omega
        · cases h
end Go.Proofs.YtabpiaaknjcnkabGreat

/-
  Plain facts: what a record does; a log that is gone through from the front.
-/
namespace Go.Proofs.YtabpiaaknjcnkabGreat
set_option linter.unusedVariables false
set_option linter.unusedSimpArgs false

def bodyB (c n : Nat) (t : List UInt8) : List UInt8 := 66 :: (uN c ++ (uN n ++ t))
/-- Chains, one of them another one. -/
def setCh (ch : Nat → Chn) (c : Nat) (x : Chn) : Nat → Chn := fun i => if i = c then x else ch i
def noCh : Nat → Chn := fun _ => ⟨0, []⟩

/-- A text more; a code; a first one; those ahead go. -/
def moreF (ch : Nat → Chn) (c : Nat) (t : ByteArray) : Option (Nat → Chn) :=
  if t.size ≤ 2000 ∧ (ch c).last < 2147483647 then some (setCh ch c ⟨(ch c).gone, (ch c).texts ++ [t]⟩) else none
def codeF (ch : Nat → Chn) (c : Nat) (code : ByteArray) : Option (Nat → Chn) :=
  match decF code, (ch c).texts.getLast? with
  | .inr ops, some t => if faultF ops t.size < ops.length then none else moreF ch c ⟨(madeL t.data.toList ops).toArray⟩
  | _, _ => none
def baseF (ch : Nat → Chn) (c n : Nat) (t : ByteArray) : Option (Nat → Chn) :=
  if 0 < n ∧ (ch c).last = 0 ∧ t.size ≤ 2000 then some (setCh ch c ⟨n - 1, [t]⟩) else none
def pruneF (ch : Nat → Chn) (c n : Nat) : Option (Nat → Chn) :=
  if (ch c).gone < n ∧ n ≤ (ch c).last then some (setCh ch c ⟨n - 1, (ch c).texts.drop (n - (ch c).gone - 1)⟩) else none
/-- What a body does; nothing: it is none, or can't be. -/
def doesF (ch : Nat → Chn) (b : ByteArray) : Option (Nat → Chn) :=
  match b.data.toList.head? with
  | none => none
  | some L => match numF b 1 with
    | .inl _ => none
    | .inr (c, at_) =>
      if 3 < c then none
      else if L = 70 then moreF ch c (b.extract at_ b.size)
      else if L = 68 then codeF ch c (b.extract at_ b.size)
      else match numF b at_ with
        | .inl _ => none
        | .inr (n, nx) => if L = 66 then baseF ch c n (b.extract nx b.size) else if L = 80 ∧ nx = b.size then pruneF ch c n else none

/-- A log from a place on. -/
def openGo (log : ByteArray) : Nat → Nat → (Nat → Chn) → (Nat → Chn) × Nat
  | 0, at_, ch => (ch, at_)
  | f + 1, at_, ch =>
    if at_ < log.size then
      match numF log at_ with
      | .inl _ => (ch, at_)
      | .inr (n, body) =>
        if log.size < body + n + 4 then (ch, at_)
        else if recL (log.extract body (body + n)).data.toList ≠ (log.extract at_ (body + n + 4)).data.toList then (ch, at_)
        else match doesF ch (log.extract body (body + n)) with
          | none => (ch, at_)
          | some ch' => openGo log f (body + n + 4) ch'
    else (ch, at_)
def openF (log : ByteArray) : (Nat → Chn) × Nat := openGo log log.size 0 noCh

theorem rest_data {b : ByteArray} {x y : List UInt8} (h : b.data.toList = x ++ y) : (b.extract x.length b.size).data.toList = y := by
  rw [toEnd_data, h, List.drop_left]
theorem rest_eq {b t : ByteArray} {x : List UInt8} {k : Nat} (h : b.data.toList = x ++ t.data.toList) (hk : k = x.length) : b.extract k b.size = t :=
  bytes_ext (by rw [hk]; exact rest_data h)

theorem does_full {ch : Nat → Chn} {b t : ByteArray} {c : Nat} (hb : b.data.toList = bodyF c t.data.toList) (hc : c < 4) (ht : t.size ≤ 2000) (hl : (ch c).last < 2147483647) :
    doesF ch b = some (setCh ch c ⟨(ch c).gone, (ch c).texts ++ [t]⟩) := by
  have h1 : numF b 1 = .inr (c, 1 + (uN c).length) := numF_fwd (rest := t.data.toList) (by rw [hb]; rfl) (by omega)
  have h2 : b.extract (1 + (uN c).length) b.size = t := rest_eq (x := 70 :: uN c) (by rw [hb]; rfl) (by simp; omega)
  unfold doesF
  rw [hb]
  simp only [bodyF, List.head?_cons]
  rw [h1]
  simp only [if_neg (show ¬ 3 < c by omega), if_true, h2]
  unfold moreF
  rw [if_pos ⟨ht, hl⟩]
theorem madeF_diff {b t : ByteArray} : madeL b.data.toList (diffF b t) = t.data.toList := by
  unfold diffF
  split
  · exact madeL_addT _ _
  · exact descF_made _ _
theorem diffF_fits {b t : ByteArray} (ht : t.size ≤ 2000) : faultF (diffF b t) b.size = (diffF b t).length := by
  unfold diffF
  split
  · by_cases h0 : t.size = 0
    · rw [addT_of_zero h0]; simp [faultF, faultGo]
    · have he : t.extract 0 t.size = t := by simp
      rw [addT_of_pos (by omega)]
      have := fault_text (base := b) (next := t) (b := (b.size : Int)) (p := none) (ts := 0) (at_ := t.size) (i := 0) (m := 0) (r := []) (.inl rfl) (by omega) (Nat.le_refl _) (by omega) (by omega)
      rw [he] at this
      unfold faultF; rw [this]; simp [faultGo]
  · rename_i hl
    have := fault_go (at_start b t) none 0 0 (.inl rfl) (by have : (descGo b t (t.size + 1) 0 0).length = (descF b t).length := rfl; omega) (by omega) (by omega)
    simpa [descF, faultF] using this
/-- A row of ops that is a delta of the last text. -/
theorem does_code {ch : Nat → Chn} {b l t : ByteArray} {c : Nat} {xs : List DOp} (hb : b.data.toList = bodyD c xs) (hc : c < 4) (hx : faultF xs 2000 = xs.length) (hlast : (ch c).texts.getLast? = some l) (hf : faultF xs l.size = xs.length)
    (hm : madeL l.data.toList xs = t.data.toList) (ht : t.size ≤ 2000) (hl : (ch c).last < 2147483647) :
    doesF ch b = some (setCh ch c ⟨(ch c).gone, (ch c).texts ++ [t]⟩) := by
  have h1 : numF b 1 = .inr (c, 1 + (uN c).length) := numF_fwd (rest := encL xs) (by rw [hb]; rfl) (by omega)
  have h2 : (b.extract (1 + (uN c).length) b.size).data.toList = encL xs := by
    have := rest_data (b := b) (x := 68 :: uN c) (y := encL xs) (by rw [hb]; rfl)
    rw [show 1 + (uN c).length = (68 :: uN c).length by simp; omega]; exact this
  have h3 : decF (b.extract (1 + (uN c).length) b.size) = .inr xs := by
    rw [decF_fwd hx (rest := []) (by rw [h2, List.append_nil])]; rfl
  unfold doesF
  rw [hb]
  simp only [bodyD, List.head?_cons]
  rw [h1]
  simp only [if_neg (show ¬ 3 < c by omega), if_neg (show ¬ (68 : UInt8) = 70 by decide), if_true]
  unfold codeF
  rw [h3, hlast]
  simp only
  rw [if_neg (by rw [hf]; omega), hm]
  unfold moreF
  have e : (⟨t.data.toList.toArray⟩ : ByteArray) = t := bytes_ext (by simp)
  rw [e, if_pos ⟨ht, hl⟩]
theorem does_diff {ch : Nat → Chn} {b l t : ByteArray} {c : Nat} (hb : b.data.toList = bodyD c (diffF l t)) (hc : c < 4) (hlast : (ch c).texts.getLast? = some l) (hs : l.size ≤ 2000) (ht : t.size ≤ 2000) (hl : (ch c).last < 2147483647) :
    doesF ch b = some (setCh ch c ⟨(ch c).gone, (ch c).texts ++ [t]⟩) :=
  does_code hb hc (diffF_fault hs ht) hlast (diffF_fits ht) madeF_diff ht hl
theorem does_base {ch : Nat → Chn} {b t : ByteArray} {c n : Nat} (hb : b.data.toList = bodyB c n t.data.toList) (hc : c < 4) (hn : 0 < n) (hn2 : n ≤ 2147483647) (ht : t.size ≤ 2000) (hl : (ch c).last = 0) :
    doesF ch b = some (setCh ch c ⟨n - 1, [t]⟩) := by
  have h1 : numF b 1 = .inr (c, 1 + (uN c).length) := numF_fwd (rest := uN n ++ t.data.toList) (by rw [hb]; rfl) (by omega)
  have h2 : numF b (1 + (uN c).length) = .inr (n, 1 + (uN c).length + (uN n).length) := numF_fwd (rest := t.data.toList) (by
    rw [hb, Nat.add_comm]; simp [bodyB]) hn2
  have h3 : b.extract (1 + (uN c).length + (uN n).length) b.size = t := rest_eq (x := 66 :: (uN c ++ uN n)) (by rw [hb]; simp [bodyB]) (by simp; omega)
  unfold doesF
  rw [hb]
  simp only [bodyB, List.head?_cons]
  rw [h1]
  simp only [if_neg (show ¬ 3 < c by omega), if_neg (show ¬ (66 : UInt8) = 70 by decide), if_neg (show ¬ (66 : UInt8) = 68 by decide), if_true]
  rw [h2]
  simp only [h3, if_true]
  unfold baseF
  rw [if_pos ⟨hn, hl, ht⟩]
theorem does_prune {ch : Nat → Chn} {b : ByteArray} {c n : Nat} (hb : b.data.toList = bodyP c n) (hc : c < 4) (hn2 : n ≤ 2147483647) (h : (ch c).gone < n ∧ n ≤ (ch c).last) :
    doesF ch b = some (setCh ch c ⟨n - 1, (ch c).texts.drop (n - (ch c).gone - 1)⟩) := by
  have h1 : numF b 1 = .inr (c, 1 + (uN c).length) := numF_fwd (rest := uN n) (by rw [hb]; rfl) (by omega)
  have h2 : numF b (1 + (uN c).length) = .inr (n, 1 + (uN c).length + (uN n).length) := numF_fwd (rest := []) (by
    rw [hb, Nat.add_comm]; simp [bodyP]) hn2
  have h3 : 1 + (uN c).length + (uN n).length = b.size := by rw [Lib.size_eq, hb]; simp [bodyP]; omega
  unfold doesF
  rw [hb]
  simp only [bodyP, List.head?_cons]
  rw [h1]
  simp only [if_neg (show ¬ 3 < c by omega), if_neg (show ¬ (80 : UInt8) = 70 by decide), if_neg (show ¬ (80 : UInt8) = 68 by decide), if_true]
  rw [h2]
  simp only [if_neg (show ¬ (80 : UInt8) = 66 by decide), h3, and_self, if_true]
  unfold pruneF
  rw [if_pos h]

/-- Rows of bodies, one behind the other. -/
def folds : List ByteArray → (Nat → Chn) → Option (Nat → Chn)
  | [], ch => some ch
  | b :: r, ch => match doesF ch b with
    | none => none
    | some ch' => folds r ch'
def recsL (bs : List ByteArray) : List UInt8 := bs.flatMap fun b => recL b.data.toList
/-- These bytes are records that lead from these chains to those. -/
def Leads (l : List UInt8) (ch ch' : Nat → Chn) : Prop := ∃ bs : List ByteArray, l = recsL bs ∧ folds bs ch = some ch' ∧ ∀ b ∈ bs, b.size ≤ 2147483647
theorem Leads.refl (ch : Nat → Chn) : Leads [] ch ch := ⟨[], rfl, rfl, by simp⟩
theorem folds_append {xs ys : List ByteArray} {a b : Nat → Chn} : ∀ {ch : Nat → Chn}, folds xs ch = some a → folds ys a = some b → folds (xs ++ ys) ch = some b := by
  induction xs with
  | nil => intro ch h1 h2; simp only [folds, Option.some.injEq] at h1; subst h1; exact h2
  | cons x r ih =>
    intro ch h1 h2
    rw [List.cons_append]
    unfold folds at h1 ⊢
    cases hd : doesF ch x with
    | none => rw [hd] at h1; cases h1
    | some c => rw [hd] at h1; exact ih h1 h2
theorem Leads.trans {l m : List UInt8} {a b c : Nat → Chn} (h1 : Leads l a b) (h2 : Leads m b c) : Leads (l ++ m) a c := by
  obtain ⟨xs, rfl, f1, s1⟩ := h1
  obtain ⟨ys, rfl, f2, s2⟩ := h2
  refine ⟨xs ++ ys, by simp [recsL], folds_append f1 f2, fun b hb => ?_⟩
  rcases List.mem_append.1 hb with h | h
  · exact s1 b h
  · exact s2 b h
theorem Leads.one {ch ch' : Nat → Chn} {b : ByteArray} {l : List UInt8} (hb : b.data.toList = l) (hs : l.length ≤ 2147483647) (h : doesF ch b = some ch') : Leads (recL l) ch ch' := by
  refine ⟨[b], by simp [recsL, hb], by simp [folds, h], fun x hx => ?_⟩
  obtain rfl : x = b := by simpa using hx
  rw [Lib.size_eq, hb]; exact hs
theorem bytes_of (l : List UInt8) : (⟨l.toArray⟩ : ByteArray).data.toList = l := by simp

theorem lead_full {ch : Nat → Chn} {t : ByteArray} {c : Nat} (hc : c < 4) (ht : t.size ≤ 2000) (hl : (ch c).last < 2147483647) :
    Leads (recL (bodyF c t.data.toList)) ch (setCh ch c ⟨(ch c).gone, (ch c).texts ++ [t]⟩) := by
  have hu := uN_length (n := c) (by omega)
  have hz : t.data.toList.length = t.size := (Lib.size_eq t).symm
  exact Leads.one (bytes_of _) (by simp only [bodyF, List.length_cons, List.length_append]; omega) (does_full (bytes_of _) hc ht hl)
theorem encL_small {xs : List DOp} (h : (encL xs).length ≤ 100000) (c : Nat) (hc : c < 4) : (bodyD c xs).length ≤ 2147483647 := by
  have hu := uN_length (n := c) (by omega)
  simp only [bodyD, List.length_cons, List.length_append]; omega
theorem lead_added {ch : Nat → Chn} {t : ByteArray} {c : Nat} (hc : c < 4) (ht : t.size ≤ 2000) (hs : ∀ x ∈ (ch c).texts, x.size ≤ 2000) (hl : (ch c).last < 2147483647) :
    Leads (addedL c (ch c).texts.getLast? t) ch (setCh ch c ⟨(ch c).gone, (ch c).texts ++ [t]⟩) := by
  cases hg : (ch c).texts.getLast? with
  | none => exact lead_full hc ht hl
  | some p =>
    unfold addedL
    simp only
    split
    · rename_i hlt
      have hr := recL_length (bodyF c t.data.toList)
      have hr2 := recL_length (bodyD c (diffF p t))
      have hu := uN_length (n := c) (by omega)
      have hz : t.data.toList.length = t.size := (Lib.size_eq t).symm
      have hb : (bodyF c t.data.toList).length ≤ 2010 := by simp only [bodyF, List.length_cons, List.length_append]; omega
      have hv := uN_length (n := (bodyF c t.data.toList).length) (by omega)
      exact Leads.one (bytes_of _) (by omega) (does_diff (bytes_of _) hc hg (hs p (List.mem_of_mem_getLast? hg)) ht hl)
    · exact lead_full hc ht hl
theorem lead_prune {ch : Nat → Chn} {c n : Nat} (hc : c < 4) (hn2 : n ≤ 2147483647) (h : (ch c).gone < n ∧ n ≤ (ch c).last) :
    Leads (recL (bodyP c n)) ch (setCh ch c ⟨n - 1, (ch c).texts.drop (n - (ch c).gone - 1)⟩) := by
  have hu := uN_length (n := c) (by omega)
  have hv := uN_length5 (n := n) (by omega)
  exact Leads.one (bytes_of _) (by simp only [bodyP, List.length_cons, List.length_append]; omega) (does_prune (bytes_of _) hc hn2 h)
theorem lead_base {ch : Nat → Chn} {t : ByteArray} {c n : Nat} (hc : c < 4) (hn : 0 < n) (hn2 : n ≤ 2147483647) (ht : t.size ≤ 2000) (hl : (ch c).last = 0) :
    Leads (recL (bodyB c n t.data.toList)) ch (setCh ch c ⟨n - 1, [t]⟩) := by
  have hu := uN_length (n := c) (by omega)
  have hv := uN_length5 (n := n) (by omega)
  have hz : t.data.toList.length = t.size := (Lib.size_eq t).symm
  exact Leads.one (bytes_of _) (by simp only [bodyB, List.length_cons, List.length_append]; omega) (does_base (bytes_of _) hc hn hn2 ht hl)
theorem lead_put {s : Vlt} (h : s.Ok) {a : Nat → Chn} (hl : Leads s.log a s.ch) {c : Nat} {t : ByteArray} (hc : c < 4) (ht : t.size ≤ 2000) (hf : ¬ s.full c t) : Leads (s.put c t).log a (s.put c t).ch := by
  have h3 := h.last c
  unfold Vlt.full at hf
  exact hl.trans (lead_added hc ht (h.size c) (by omega))
theorem lead_drop {s : Vlt} (h : s.Ok) {a : Nat → Chn} (hl : Leads s.log a s.ch) {c n : Nat} (hc : c < 4) (hh : (s.ch c).has n) : Leads (s.drop c n).log a (s.drop c n).ch := by
  have h3 := h.last c
  unfold Chn.has at hh
  exact hl.trans (lead_prune hc (by omega) (by omega))
end Go.Proofs.YtabpiaaknjcnkabGreat
