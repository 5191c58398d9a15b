/- The texts PO, PP, one behind the other. -/
import Derived.Test.YtabpiaaknjcnkaaGreatXZAPVV1
import Derived.Test.YtabpiaaknjcnkaaGreatXPQPR
/-
  Plain facts: what a record does; a log that is gone through from the front.
-/
namespace Go.Proofs.YtabpiaaknjcnkaaGreat
set_option linter.unusedVariables false
set_option linter.unusedSimpArgs false

def bodyB (c n : Nat) (t : List UInt8) : List UInt8 := 66 :: (uN c ++ (uN n ++ t))
/-- Chains, one of them another one. -/
def setCh (ch : Nat → Chn) (c : Nat) (x : Chn) : Nat → Chn := fun i => if i = c then x else ch i
def noCh : Nat → Chn := fun _ => ⟨0, []⟩

/-- A text more; a code; a first one; those ahead go. -/
def moreF (ch : Nat → Chn) (c : Nat) (t : ByteArray) : Option (Nat → Chn) :=
  if t.size ≤ 2000 ∧ (ch c).last < 2147483647 then some (setCh ch c ⟨(ch c).gone, (ch c).texts ++ [t]⟩) else none
def codeF (ch : Nat → Chn) (c : Nat) (code : ByteArray) : Option (Nat → Chn) :=
  match decF code, (ch c).texts.getLast? with
  | .inr ops, some t => if faultF ops t.size < ops.length then none else moreF ch c ⟨(madeL t.data.toList ops).toArray⟩
  | _, _ => none
def baseF (ch : Nat → Chn) (c n : Nat) (t : ByteArray) : Option (Nat → Chn) :=
  if 0 < n ∧ (ch c).last = 0 ∧ t.size ≤ 2000 then some (setCh ch c ⟨n - 1, [t]⟩) else none
def pruneF (ch : Nat → Chn) (c n : Nat) : Option (Nat → Chn) :=
  if (ch c).gone < n ∧ n ≤ (ch c).last then some (setCh ch c ⟨n - 1, (ch c).texts.drop (n - (ch c).gone - 1)⟩) else none
/-- What a body does; nothing: it is none, or can't be. -/
def doesF (ch : Nat → Chn) (b : ByteArray) : Option (Nat → Chn) :=
  match b.data.toList.head? with
  | none => none
  | some L => match numF b 1 with
    | .inl _ => none
    | .inr (c, at_) =>
      if 3 < c then none
      else if L = 70 then moreF ch c (b.extract at_ b.size)
      else if L = 68 then codeF ch c (b.extract at_ b.size)
      else match numF b at_ with
        | .inl _ => none
        | .inr (n, nx) => if L = 66 then baseF ch c n (b.extract nx b.size) else if L = 80 ∧ nx = b.size then pruneF ch c n else none

/-- A log from a place on. -/
def openGo (log : ByteArray) : Nat → Nat → (Nat → Chn) → (Nat → Chn) × Nat
  | 0, at_, ch => (ch, at_)
  | f + 1, at_, ch =>
    if at_ < log.size then
      match numF log at_ with
      | .inl _ => (ch, at_)
      | .inr (n, body) =>
        if log.size < body + n + 4 then (ch, at_)
        else if recL (log.extract body (body + n)).data.toList ≠ (log.extract at_ (body + n + 4)).data.toList then (ch, at_)
        else match doesF ch (log.extract body (body + n)) with
          | none => (ch, at_)
          | some ch' => openGo log f (body + n + 4) ch'
    else (ch, at_)
def openF (log : ByteArray) : (Nat → Chn) × Nat := openGo log log.size 0 noCh

theorem rest_data {b : ByteArray} {x y : List UInt8} (h : b.data.toList = x ++ y) : (b.extract x.length b.size).data.toList = y := by
  rw [toEnd_data, h, List.drop_left]
theorem rest_eq {b t : ByteArray} {x : List UInt8} {k : Nat} (h : b.data.toList = x ++ t.data.toList) (hk : k = x.length) : b.extract k b.size = t :=
  bytes_ext (by rw [hk]; exact rest_data h)

theorem does_full {ch : Nat → Chn} {b t : ByteArray} {c : Nat} (hb : b.data.toList = bodyF c t.data.toList) (hc : c < 4) (ht : t.size ≤ 2000) (hl : (ch c).last < 2147483647) :
    doesF ch b = some (setCh ch c ⟨(ch c).gone, (ch c).texts ++ [t]⟩) := by
  have h1 : numF b 1 = .inr (c, 1 + (uN c).length) := numF_fwd (rest := t.data.toList) (by rw [hb]; rfl) (by omega)
  have h2 : b.extract (1 + (uN c).length) b.size = t := rest_eq (x := 70 :: uN c) (by rw [hb]; rfl) (by simp; omega)
  unfold doesF
  rw [hb]
  simp only [bodyF, List.head?_cons]
  rw [h1]
  simp only [if_neg (show ¬ 3 < c by omega), if_true, h2]
  unfold moreF
  rw [if_pos ⟨ht, hl⟩]
theorem madeF_diff {b t : ByteArray} : madeL b.data.toList (diffF b t) = t.data.toList := by
  unfold diffF
  split
  · exact madeL_addT _ _
  · exact descF_made _ _
theorem diffF_fits {b t : ByteArray} (ht : t.size ≤ 2000) : faultF (diffF b t) b.size = (diffF b t).length := by
  unfold diffF
  split
  · by_cases h0 : t.size = 0
    · rw [addT_of_zero h0]; simp [faultF, faultGo]
    · have he : t.extract 0 t.size = t := by simp
      rw [addT_of_pos (by omega)]
      have := fault_text (base := b) (next := t) (b := (b.size : Int)) (p := none) (ts := 0) (at_ := t.size) (i := 0) (m := 0) (r := []) (.inl rfl) (by omega) (Nat.le_refl _) (by omega) (by omega)
      rw [he] at this
      unfold faultF; rw [this]; simp [faultGo]
  · rename_i hl
    have := fault_go (at_start b t) none 0 0 (.inl rfl) (by have : (descGo b t (t.size + 1) 0 0).length = (descF b t).length := rfl; omega) (by omega) (by omega)
    simpa [descF, faultF] using this
/-- A row of ops that is a delta of the last text. -/
theorem does_code {ch : Nat → Chn} {b l t : ByteArray} {c : Nat} {xs : List DOp} (hb : b.data.toList = bodyD c xs) (hc : c < 4) (hx : faultF xs 2000 = xs.length) (hlast : (ch c).texts.getLast? = some l) (hf : faultF xs l.size = xs.length)
    (hm : madeL l.data.toList xs = t.data.toList) (ht : t.size ≤ 2000) (hl : (ch c).last < 2147483647) :
    doesF ch b = some (setCh ch c ⟨(ch c).gone, (ch c).texts ++ [t]⟩) := by
  have h1 : numF b 1 = .inr (c, 1 + (uN c).length) := numF_fwd (rest := encL xs) (by rw [hb]; rfl) (by omega)
  have h2 : (b.extract (1 + (uN c).length) b.size).data.toList = encL xs := by
    have := rest_data (b := b) (x := 68 :: uN c) (y := encL xs) (by rw [hb]; rfl)
    rw [show 1 + (uN c).length = (68 :: uN c).length by simp; omega]; exact this
  have h3 : decF (b.extract (1 + (uN c).length) b.size) = .inr xs := by
    rw [decF_fwd hx (rest := []) (by rw [h2, List.append_nil])]; rfl
  unfold doesF
  rw [hb]
  simp only [bodyD, List.head?_cons]
  rw [h1]
  simp only [if_neg (show ¬ 3 < c by omega), if_neg (show ¬ (68 : UInt8) = 70 by decide), if_true]
  unfold codeF
  rw [h3, hlast]
  simp only
  rw [if_neg (by rw [hf]; omega), hm]
  unfold moreF
  have e : (⟨t.data.toList.toArray⟩ : ByteArray) = t := bytes_ext (by simp)
  rw [e, if_pos ⟨ht, hl⟩]
theorem does_diff {ch : Nat → Chn} {b l t : ByteArray} {c : Nat} (hb : b.data.toList = bodyD c (diffF l t)) (hc : c < 4) (hlast : (ch c).texts.getLast? = some l) (hs : l.size ≤ 2000) (ht : t.size ≤ 2000) (hl : (ch c).last < 2147483647) :
    doesF ch b = some (setCh ch c ⟨(ch c).gone, (ch c).texts ++ [t]⟩) :=
  does_code hb hc (diffF_fault hs ht) hlast (diffF_fits ht) madeF_diff ht hl
theorem does_base {ch : Nat → Chn} {b t : ByteArray} {c n : Nat} (hb : b.data.toList = bodyB c n t.data.toList) (hc : c < 4) (hn : 0 < n) (hn2 : n ≤ 2147483647) (ht : t.size ≤ 2000) (hl : (ch c).last = 0) :
    doesF ch b = some (setCh ch c ⟨n - 1, [t]⟩) := by
  have h1 : numF b 1 = .inr (c, 1 + (uN c).length) := numF_fwd (rest := uN n ++ t.data.toList) (by rw [hb]; rfl) (by omega)
  have h2 : numF b (1 + (uN c).length) = .inr (n, 1 + (uN c).length + (uN n).length) := numF_fwd (rest := t.data.toList) (by
    rw [hb, Nat.add_comm]; simp [bodyB]) hn2
  have h3 : b.extract (1 + (uN c).length + (uN n).length) b.size = t := rest_eq (x := 66 :: (uN c ++ uN n)) (by rw [hb]; simp [bodyB]) (by simp; omega)
  unfold doesF
  rw [hb]
  simp only [bodyB, List.head?_cons]
  rw [h1]
  simp only [if_neg (show ¬ 3 < c by omega), if_neg (show ¬ (66 : UInt8) = 70 by decide), if_neg (show ¬ (66 : UInt8) = 68 by decide), if_true]
  rw [h2]
  simp only [h3, if_true]
  unfold baseF
  rw [if_pos ⟨hn, hl, ht⟩]
theorem does_prune {ch : Nat → Chn} {b : ByteArray} {c n : Nat} (hb : b.data.toList = bodyP c n) (hc : c < 4) (hn2 : n ≤ 2147483647) (h : (ch c).gone < n ∧ n ≤ (ch c).last) :
    doesF ch b = some (setCh ch c ⟨n - 1, (ch c).texts.drop (n - (ch c).gone - 1)⟩) := by
  have h1 : numF b 1 = .inr (c, 1 + (uN c).length) := numF_fwd (rest := uN n) (by rw [hb]; rfl) (by omega)
  have h2 : numF b (1 + (uN c).length) = .inr (n, 1 + (uN c).length + (uN n).length) := numF_fwd (rest := []) (by
    rw [hb, Nat.add_comm]; simp [bodyP]) hn2
  have h3 : 1 + (uN c).length + (uN n).length = b.size := by rw [Lib.size_eq, hb]; simp [bodyP]; omega
  unfold doesF
  rw [hb]
  simp only [bodyP, List.head?_cons]
  rw [h1]
  simp only [if_neg (show ¬ 3 < c by omega), if_neg (show ¬ (80 : UInt8) = 70 by decide), if_neg (show ¬ (80 : UInt8) = 68 by decide), if_true]
  rw [h2]
  simp only [if_neg (show ¬ (80 : UInt8) = 66 by decide), h3, and_self, if_true]
  unfold pruneF
  rw [if_pos h]

/-- Rows of bodies, one behind the other. -/
def folds : List ByteArray → (Nat → Chn) → Option (Nat → Chn)
  | [], ch => some ch
  | b :: r, ch => match doesF ch b with
    | none => none
    | some ch' => folds r ch'
def recsL (bs : List ByteArray) : List UInt8 := bs.flatMap fun b => recL b.data.toList
/-- These bytes are records that lead from these chains to those. -/
def Leads (l : List UInt8) (ch ch' : Nat → Chn) : Prop := ∃ bs : List ByteArray, l = recsL bs ∧ folds bs ch = some ch' ∧ ∀ b ∈ bs, b.size ≤ 2147483647
theorem Leads.refl (ch : Nat → Chn) : Leads [] ch ch := ⟨[], rfl, rfl, by simp⟩
theorem folds_append {xs ys : List ByteArray} {a b : Nat → Chn} : ∀ {ch : Nat → Chn}, folds xs ch = some a → folds ys a = some b → folds (xs ++ ys) ch = some b := by
  induction xs with
  | nil => intro ch h1 h2; simp only [folds, Option.some.injEq] at h1; subst h1; exact h2
  | cons x r ih =>
    intro ch h1 h2
    rw [List.cons_append]
    unfold folds at h1 ⊢
    cases hd : doesF ch x with
    | none => rw [hd] at h1; cases h1
    | some c => rw [hd] at h1; exact ih h1 h2
theorem Leads.trans {l m : List UInt8} {a b c : Nat → Chn} (h1 : Leads l a b) (h2 : Leads m b c) : Leads (l ++ m) a c := by
  obtain ⟨xs, rfl, f1, s1⟩ := h1
  obtain ⟨ys, rfl, f2, s2⟩ := h2
  refine ⟨xs ++ ys, by simp [recsL], folds_append f1 f2, fun b hb => ?_⟩
  rcases List.mem_append.1 hb with h | h
  · exact s1 b h
  · exact s2 b h
theorem Leads.one {ch ch' : Nat → Chn} {b : ByteArray} {l : List UInt8} (hb : b.data.toList = l) (hs : l.length ≤ 2147483647) (h : doesF ch b = some ch') : Leads (recL l) ch ch' := by
  refine ⟨[b], by simp [recsL, hb], by simp [folds, h], fun x hx => ?_⟩
  obtain rfl : x = b := by simpa using hx
  rw [Lib.size_eq, hb]; exact hs
theorem bytes_of (l : List UInt8) : (⟨l.toArray⟩ : ByteArray).data.toList = l := by simp

theorem lead_full {ch : Nat → Chn} {t : ByteArray} {c : Nat} (hc : c < 4) (ht : t.size ≤ 2000) (hl : (ch c).last < 2147483647) :
    Leads (recL (bodyF c t.data.toList)) ch (setCh ch c ⟨(ch c).gone, (ch c).texts ++ [t]⟩) := by
  have hu := uN_length (n := c) (by omega)
  have hz : t.data.toList.length = t.size := (Lib.size_eq t).symm
  exact Leads.one (bytes_of _) (by simp only [bodyF, List.length_cons, List.length_append]; omega) (does_full (bytes_of _) hc ht hl)
theorem encL_small {xs : List DOp} (h : (encL xs).length ≤ 100000) (c : Nat) (hc : c < 4) : (bodyD c xs).length ≤ 2147483647 := by
  have hu := uN_length (n := c) (by omega)
  simp only [bodyD, List.length_cons, List.length_append]; omega
theorem lead_added {ch : Nat → Chn} {t : ByteArray} {c : Nat} (hc : c < 4) (ht : t.size ≤ 2000) (hs : ∀ x ∈ (ch c).texts, x.size ≤ 2000) (hl : (ch c).last < 2147483647) :
    Leads (addedL c (ch c).texts.getLast? t) ch (setCh ch c ⟨(ch c).gone, (ch c).texts ++ [t]⟩) := by
  cases hg : (ch c).texts.getLast? with
  | none => exact lead_full hc ht hl
  | some p =>
    unfold addedL
    simp only
    split
    · rename_i hlt
      have hr := recL_length (bodyF c t.data.toList)
      have hr2 := recL_length (bodyD c (diffF p t))
      have hu := uN_length (n := c) (by omega)
      have hz : t.data.toList.length = t.size := (Lib.size_eq t).symm
      have hb : (bodyF c t.data.toList).length ≤ 2010 := by simp only [bodyF, List.length_cons, List.length_append]; omega
      have hv := uN_length (n := (bodyF c t.data.toList).length) (by omega)
      exact Leads.one (bytes_of _) (by omega) (does_diff (bytes_of _) hc hg (hs p (List.mem_of_mem_getLast? hg)) ht hl)
    · exact lead_full hc ht hl
theorem lead_prune {ch : Nat → Chn} {c n : Nat} (hc : c < 4) (hn2 : n ≤ 2147483647) (h : (ch c).gone < n ∧ n ≤ (ch c).last) :
    Leads (recL (bodyP c n)) ch (setCh ch c ⟨n - 1, (ch c).texts.drop (n - (ch c).gone - 1)⟩) := by
  have hu := uN_length (n := c) (by omega)
  have hv := uN_length5 (n := n) (by omega)
  exact Leads.one (bytes_of _) (by simp only [bodyP, List.length_cons, List.length_append]; omega) (does_prune (bytes_of _) hc hn2 h)
theorem lead_base {ch : Nat → Chn} {t : ByteArray} {c n : Nat} (hc : c < 4) (hn : 0 < n) (hn2 : n ≤ 2147483647) (ht : t.size ≤ 2000) (hl : (ch c).last = 0) :
    Leads (recL (bodyB c n t.data.toList)) ch (setCh ch c ⟨n - 1, [t]⟩) := by
  have hu := uN_length (n := c) (by omega)
  have hv := uN_length5 (n := n) (by omega)
  have hz : t.data.toList.length = t.size := (Lib.size_eq t).symm
  exact Leads.one (bytes_of _) (by simp only [bodyB, List.length_cons, List.length_append]; omega) (does_base (bytes_of _) hc hn hn2 ht hl)
theorem lead_put {s : Vlt} (h : s.Ok) {a : Nat → Chn} (hl : Leads s.log a s.ch) {c : Nat} {t : ByteArray} (hc : c < 4) (ht : t.size ≤ 2000) (hf : ¬ s.full c t) : Leads (s.put c t).log a (s.put c t).ch := by
  have h3 := h.last c
  unfold Vlt.full at hf
  exact hl.trans (lead_added hc ht (h.size c) (by omega))
theorem lead_drop {s : Vlt} (h : s.Ok) {a : Nat → Chn} (hl : Leads s.log a s.ch) {c n : Nat} (hc : c < 4) (hh : (s.ch c).has n) : Leads (s.drop c n).log a (s.drop c n).ch := by
  have h3 := h.last c
  unfold Chn.has at hh
  exact hl.trans (lead_prune hc (by omega) (by omega))
end Go.Proofs.YtabpiaaknjcnkaaGreat

/-
  Plain facts: which part of a log counts.
-/
namespace Go.Proofs.YtabpiaaknjcnkaaGreat
set_option linter.unusedVariables false
set_option linter.unusedSimpArgs false

theorem mid_data (s : ByteArray) (a b : Nat) : (s.extract a b).data.toList = (s.data.toList.drop a).take (b - a) := by
  rw [ByteArray.data_extract, Array.toList_extract, List.extract_eq_take_drop]
theorem le4_length (v : Nat) : (le4 v).length = 4 := rfl
theorem le4_inj {a b : Nat} (ha : a < 4294967296) (hb : b < 4294967296) (h : le4 a = le4 b) : a = b := by
  simp only [le4, List.cons.injEq, and_true] at h
  obtain ⟨h0, h1, h2, h3⟩ := h
  have g0 := congrArg UInt8.toNat h0
  have g1 := congrArg UInt8.toNat h1
  have g2 := congrArg UInt8.toNat h2
  have g3 := congrArg UInt8.toNat h3
  simp only [UInt8.toNat_ofNat'] at g0 g1 g2 g3
  omega

/-- Nothing counts from here on. -/
def Stops0 (log : ByteArray) (at_ : Nat) (ch : Nat → Chn) : Prop := ∀ f, openGo log f at_ ch = (ch, at_)
theorem stop_end {log : ByteArray} {at_ : Nat} {ch : Nat → Chn} (h : log.size ≤ at_) : Stops0 log at_ ch := by
  intro f
  cases f with
  | zero => rfl
  | succ f => rw [openGo, if_neg (by omega)]
theorem stop_num {log : ByteArray} {at_ p : Nat} {ch : Nat → Chn} (h : numF log at_ = .inl p) : Stops0 log at_ ch := by
  intro f
  cases f with
  | zero => rfl
  | succ f =>
    rw [openGo]
    split
    · rw [h]
    · rfl
theorem stop_short {log : ByteArray} {at_ n body : Nat} {ch : Nat → Chn} (h : numF log at_ = .inr (n, body)) (hs : log.size < body + n + 4) : Stops0 log at_ ch := by
  intro f
  cases f with
  | zero => rfl
  | succ f =>
    rw [openGo]
    split
    · rw [h]; simp only [if_pos hs]
    · rfl
theorem stop_sum {log : ByteArray} {at_ n body : Nat} {ch : Nat → Chn} (h : numF log at_ = .inr (n, body)) (hs : recL (log.extract body (body + n)).data.toList ≠ (log.extract at_ (body + n + 4)).data.toList) : Stops0 log at_ ch := by
  intro f
  cases f with
  | zero => rfl
  | succ f =>
    rw [openGo]
    split
    · rw [h]
      simp only
      split
      · rfl
      · simp only [if_pos hs]
    · rfl
theorem stop_does {log : ByteArray} {at_ n body : Nat} {ch : Nat → Chn} (h : numF log at_ = .inr (n, body)) (hs : doesF ch (log.extract body (body + n)) = none) : Stops0 log at_ ch := by
  intro f
  cases f with
  | zero => rfl
  | succ f =>
    rw [openGo]
    split
    · rw [h]
      simp only
      split
      · rfl
      · split
        · rfl
        · rw [hs]
    · rfl
theorem go_rec {log : ByteArray} {at_ n body f : Nat} {ch ch' : Nat → Chn} (hlt : at_ < log.size) (h : numF log at_ = .inr (n, body)) (hs : ¬ log.size < body + n + 4)
    (hr : recL (log.extract body (body + n)).data.toList = (log.extract at_ (body + n + 4)).data.toList) (hd : doesF ch (log.extract body (body + n)) = some ch') : openGo log (f + 1) at_ ch = openGo log f (body + n + 4) ch' := by
  rw [openGo, if_pos hlt, h]
  simp only
  rw [if_neg hs, if_neg (by rw [hr]; simp), hd]

/-- What stands at a place where the bytes of a record stand. -/
theorem rec_there {log : ByteArray} {at_ : Nat} {b : List UInt8} {rest : List UInt8} (h : log.data.toList.drop at_ = recL b ++ rest) (hb : b.length ≤ 2147483647) :
    numF log at_ = .inr (b.length, at_ + (uN b.length).length) ∧ at_ + (recL b).length ≤ log.size ∧ (recL b).length = (uN b.length).length + b.length + 4 ∧ (log.extract (at_ + (uN b.length).length) (at_ + (uN b.length).length + b.length)).data.toList = b ∧
    (log.extract at_ (at_ + (uN b.length).length + b.length + 4)).data.toList = recL b := by
  have hl := recL_length b
  have hd : log.data.toList.drop at_ = uN b.length ++ (b ++ (le4 (sumL b) ++ rest)) := by rw [h]; simp [recL]
  have hsz : at_ + (recL b).length ≤ log.size := by
    have := congrArg List.length h
    rw [List.length_drop, List.length_append, ← Lib.size_eq] at this
    have := uN_pos b.length
    omega
  refine ⟨numF_fwd hd hb, hsz, hl, ?_, ?_⟩
  · rw [mid_data, ← List.drop_drop, hd, List.drop_left, show at_ + (uN b.length).length + b.length - (at_ + (uN b.length).length) = b.length by omega, List.take_left]
  · rw [mid_data, h, show at_ + (uN b.length).length + b.length + 4 - at_ = (recL b).length by omega, List.take_left]
theorem go_there {log : ByteArray} {at_ f : Nat} {b : ByteArray} {rest : List UInt8} {ch ch' : Nat → Chn} (h : log.data.toList.drop at_ = recL b.data.toList ++ rest) (hb : b.size ≤ 2147483647) (hd : doesF ch b = some ch') :
    openGo log (f + 1) at_ ch = openGo log f (at_ + (recL b.data.toList).length) ch' := by
  obtain ⟨h1, h2, h3, h4, h5⟩ := rec_there h (by rw [← Lib.size_eq]; exact hb)
  have hp := uN_pos b.data.toList.length
  have e : log.extract (at_ + (uN b.data.toList.length).length) (at_ + (uN b.data.toList.length).length + b.data.toList.length) = b := bytes_ext h4
  rw [go_rec (by omega) h1 (by omega) (by rw [h4, h5]) (by rw [e]; exact hd)]
  congr 1; omega
theorem stop_there {log : ByteArray} {at_ : Nat} {b : ByteArray} {rest : List UInt8} {ch : Nat → Chn} (h : log.data.toList.drop at_ = recL b.data.toList ++ rest) (hb : b.size ≤ 2147483647) (hd : doesF ch b = none) : Stops0 log at_ ch := by
  obtain ⟨h1, h2, h3, h4, h5⟩ := rec_there h (by rw [← Lib.size_eq]; exact hb)
  have e : log.extract (at_ + (uN b.data.toList.length).length) (at_ + (uN b.data.toList.length).length + b.data.toList.length) = b := bytes_ext h4
  exact stop_does h1 (by rw [e]; exact hd)
/-- A record that is cut off. -/
theorem stop_cut {log : ByteArray} {at_ : Nat} {b pre suf : List UInt8} {ch : Nat → Chn} (h : log.data.toList.drop at_ = pre) (hr : recL b = pre ++ suf) (hs : suf ≠ []) (hb : b.length ≤ 2147483647) : Stops0 log at_ ch := by
  have hr' : uN b.length ++ (b ++ le4 (sumL b)) = pre ++ suf := by rw [← hr]; simp [recL]
  rcases cut_parts hr' hs with ⟨suf', hu, hs'⟩ | ⟨pre', hp, hu⟩
  · exact stop_num (numF_cut h hu hs' hb)
  · rw [hp] at h
    refine stop_short (numF_fwd h hb) ?_
    have h1 := congrArg List.length h
    rw [List.length_drop, List.length_append, ← Lib.size_eq] at h1
    have h2 := congrArg List.length hu
    rw [List.length_append, List.length_append, le4_length] at h2
    have := List.length_pos_iff.2 hs
    have := uN_pos b.length
    omega
/-- One whose sum is another one. -/
theorem stop_other {log : ByteArray} {at_ : Nat} {b s rest : List UInt8} {ch : Nat → Chn} (h : log.data.toList.drop at_ = uN b.length ++ (b ++ (s ++ rest))) (hs : s.length = 4) (hne : s ≠ le4 (sumL b)) (hb : b.length ≤ 2147483647) : Stops0 log at_ ch := by
  refine stop_sum (numF_fwd h hb) ?_
  have e1 : (log.extract (at_ + (uN b.length).length) (at_ + (uN b.length).length + b.length)).data.toList = b := by
    rw [mid_data, ← List.drop_drop, h, List.drop_left, show at_ + (uN b.length).length + b.length - (at_ + (uN b.length).length) = b.length by omega, List.take_left]
  have e2 : (log.extract at_ (at_ + (uN b.length).length + b.length + 4)).data.toList = uN b.length ++ (b ++ s) := by
    rw [mid_data, h, show at_ + (uN b.length).length + b.length + 4 - at_ = (uN b.length ++ (b ++ s)).length by simp; omega]
    rw [show uN b.length ++ (b ++ (s ++ rest)) = (uN b.length ++ (b ++ s)) ++ rest by simp, List.take_left]
  rw [e1, e2]
  intro he
  unfold recL at he
  rw [List.append_assoc] at he
  have := List.append_cancel_left (List.append_cancel_left he)
  exact hne this.symm

theorem recL_pos (b : List UInt8) : 5 ≤ (recL b).length := by have := recL_length b; have := uN_pos b.length; omega
theorem recsL_cons (b : ByteArray) (r : List ByteArray) : recsL (b :: r) = recL b.data.toList ++ recsL r := by simp [recsL]
theorem recsL_len (bs : List ByteArray) : bs.length ≤ (recsL bs).length := by
  induction bs with
  | nil => simp
  | cons b r ih => rw [recsL_cons, List.length_append, List.length_cons]; have := recL_pos b.data.toList; omega
theorem go_folds {log : ByteArray} : ∀ (bs : List ByteArray) (at_ f : Nat) (rest : List UInt8) (ch ch' : Nat → Chn), log.data.toList.drop at_ = recsL bs ++ rest → folds bs ch = some ch' → (∀ b ∈ bs, b.size ≤ 2147483647) → bs.length ≤ f →
    openGo log f at_ ch = openGo log (f - bs.length) (at_ + (recsL bs).length) ch'
  | [], at_, f, rest, ch, ch', h, hf, hs, hl => by
    simp only [folds, Option.some.injEq] at hf
    subst hf
    rfl
  | b :: r, at_, f, rest, ch, ch', h, hf, hs, hl => by
    unfold folds at hf
    cases hd : doesF ch b with
    | none => rw [hd] at hf; cases hf
    | some c1 =>
      rw [hd] at hf
      simp only at hf
      rw [recsL_cons, List.append_assoc] at h
      cases f with
      | zero => simp at hl
      | succ f =>
        rw [go_there h (hs b (by simp)) hd, go_folds r (at_ + (recL b.data.toList).length) f rest c1 ch' (by rw [← List.drop_drop, h, List.drop_left]) hf (fun x hx => hs x (by simp [hx])) (by simp at hl; omega)]
        rw [recsL_cons, List.length_append, List.length_cons, show f + 1 - (r.length + 1) = f - r.length by omega, Nat.add_assoc]
/-- Records that lead somewhere, and then nothing that counts. -/
theorem open_leads {log : ByteArray} {l rest : List UInt8} {ch : Nat → Chn} (h : log.data.toList = l ++ rest) (hl : Leads l noCh ch) (hst : Stops0 log l.length ch) : openF log = (ch, l.length) := by
  obtain ⟨bs, rfl, hf, hs⟩ := hl
  unfold openF
  have hlen : bs.length ≤ log.size := by
    have := recsL_len bs
    have h2 := congrArg List.length h
    rw [List.length_append, ← Lib.size_eq] at h2
    omega
  rw [go_folds bs 0 log.size rest noCh ch (by simpa using h) hf hs hlen, Nat.zero_add]
  exact hst _
theorem open_whole {log : ByteArray} {ch : Nat → Chn} (hl : Leads log.data.toList noCh ch) : openF log = (ch, log.size) := by
  rw [open_leads (rest := []) (by simp) hl (stop_end (by rw [← Lib.size_eq]; exact Nat.le_refl _)), ← Lib.size_eq]

/-- What every vault that is opened keeps to. -/
structure ChOk (ch : Nat → Chn) : Prop where
  last : ∀ i, (ch i).last ≤ 2147483647
  size : ∀ i, ∀ t ∈ (ch i).texts, t.size ≤ 2000
  none : ∀ i, (ch i).texts = [] → (ch i).gone = 0
  out : ∀ i, 4 ≤ i → ch i = ⟨0, []⟩
theorem noCh_ok : ChOk noCh := ⟨fun i => by simp [noCh, Chn.last], fun i t h => by simp [noCh] at h, fun i _ => rfl, fun i _ => rfl⟩
theorem ChOk.ok {log : List UInt8} {ch : Nat → Chn} (h : ChOk ch) (hl : log.length ≤ 20000) : Vlt.Ok ⟨log, ch⟩ := ⟨hl, h.last, h.size, h.none⟩
theorem set_ok {ch : Nat → Chn} (h : ChOk ch) {c : Nat} (hc : c < 4) {x : Chn} (h1 : x.last ≤ 2147483647) (h2 : ∀ t ∈ x.texts, t.size ≤ 2000) (h3 : x.texts = [] → x.gone = 0) : ChOk (setCh ch c x) := by
  refine ⟨fun i => ?_, fun i t ht => ?_, fun i hi => ?_, fun i hi => ?_⟩
  · unfold setCh; split
    · exact h1
    · exact h.last i
  · unfold setCh at ht; split at ht
    · exact h2 t ht
    · exact h.size i t ht
  · unfold setCh at hi ⊢
    by_cases hh : i = c
    · rw [if_pos hh] at hi ⊢; exact h3 hi
    · rw [if_neg hh] at hi ⊢; exact h.none i hi
  · unfold setCh; rw [if_neg (by omega)]; exact h.out i hi
theorem more_ok {ch ch' : Nat → Chn} (h : ChOk ch) {c : Nat} (hc : c < 4) {t : ByteArray} (hd : moreF ch c t = some ch') : ChOk ch' := by
  unfold moreF at hd
  split at hd
  · rename_i hh
    simp only [Option.some.injEq] at hd
    subst hd
    refine set_ok h hc ?_ ?_ ?_
    · unfold Chn.last at *; simp; omega
    · intro u hu
      simp only [List.mem_append, List.mem_singleton] at hu
      rcases hu with hu | rfl
      · exact h.size c u hu
      · exact hh.1
    · intro h0; simp at h0
  · cases hd
theorem does_ok {ch ch' : Nat → Chn} (h : ChOk ch) {b : ByteArray} (hb1 : 1 ≤ b.size) (hd : doesF ch b = some ch') : ChOk ch' := by
  unfold doesF at hd
  split at hd
  · cases hd
  · split at hd
    · cases hd
    · rename_i c at_ h1
      have k1 := numF_ok hb1 h1
      split at hd
      · cases hd
      · rename_i h3
        split at hd
        · exact more_ok h (by omega) hd
        · split at hd
          · unfold codeF at hd
            split at hd
            · split at hd
              · cases hd
              · exact more_ok h (by omega) hd
            · cases hd
          · split at hd
            · cases hd
            · rename_i n nx h4
              have k2 := numF_ok k1.2.2 h4
              split at hd
              · unfold baseF at hd
                split at hd
                · rename_i hh
                  simp only [Option.some.injEq] at hd
                  subst hd
                  refine set_ok h (by omega) ?_ ?_ ?_
                  · unfold Chn.last; simp; omega
                  · intro u hu
                    obtain rfl : u = _ := by simpa using hu
                    exact hh.2.2
                  · intro h0; simp at h0
                · cases hd
              · split at hd
                · unfold pruneF at hd
                  split at hd
                  · rename_i hh
                    simp only [Option.some.injEq] at hd
                    subst hd
                    have := h.last c
                    unfold Chn.last at hh this
                    refine set_ok h (by omega) ?_ ?_ ?_
                    · unfold Chn.last; simp; omega
                    · intro u hu
                      exact h.size c u (List.mem_of_mem_drop hu)
                    · intro h0; simp at h0; omega
                  · cases hd
                · cases hd
theorem does_size {ch ch' : Nat → Chn} {b : ByteArray} (hd : doesF ch b = some ch') : 1 ≤ b.size := by
  unfold doesF at hd
  split at hd
  · cases hd
  · rename_i L hh
    rw [Lib.size_eq]
    cases hl : b.data.toList with
    | nil => rw [hl] at hh; cases hh
    | cons x r => simp
theorem open_ok {log : ByteArray} : ∀ (f at_ : Nat) (ch : Nat → Chn), ChOk ch → ChOk (openGo log f at_ ch).1
  | 0, at_, ch, h => h
  | f + 1, at_, ch, h => by
    rw [openGo]
    split
    · split
      · exact h
      · split
        · exact h
        · split
          · exact h
          · split
            · exact h
            · rename_i ch' hd
              exact open_ok f _ ch' (does_ok h (does_size hd) hd)
    · exact h
theorem open_at {log : ByteArray} : ∀ (f at_ : Nat) (ch : Nat → Chn), at_ ≤ log.size → (openGo log f at_ ch).2 ≤ log.size
  | 0, at_, ch, h => h
  | f + 1, at_, ch, h => by
    rw [openGo]
    split
    · split
      · exact h
      · split
        · exact h
        · split
          · exact h
          · split
            · exact h
            · exact open_at f _ _ (by omega)
    · exact h

/-- The log that is squashed. -/
def restL (c : Nat) : ByteArray → List ByteArray → List UInt8
  | _, [] => []
  | p, t :: r => addedL c (some p) t ++ restL c t r
def chainL (c : Nat) (x : Chn) : List UInt8 :=
  match x.texts with
  | [] => []
  | t :: r => recL (bodyB c (x.gone + 1) t.data.toList) ++ restL c t r
def squashL (ch : Nat → Chn) : List UInt8 := chainL 0 (ch 0) ++ chainL 1 (ch 1) ++ chainL 2 (ch 2) ++ chainL 3 (ch 3)
def Vlt.squash (s : Vlt) : Vlt := ⟨if (squashL s.ch).length ≤ s.log.length then squashL s.ch else s.log, s.ch⟩
theorem squash_twice (s : Vlt) : s.squash.squash = s.squash := by
  unfold Vlt.squash
  simp only
  split
  · simp
  · rfl
theorem squash_le (s : Vlt) : s.squash.log.length ≤ s.log.length := by
  unfold Vlt.squash
  simp only
  split
  · assumption
  · exact Nat.le_refl _
theorem squash_ok {s : Vlt} (h : s.Ok) : s.squash.Ok := ⟨Nat.le_trans (squash_le s) h.log, h.last, h.size, h.none⟩

theorem setCh_set (ch : Nat → Chn) (c : Nat) (x y : Chn) : setCh (setCh ch c x) c y = setCh ch c y := by
  funext i; unfold setCh; split <;> rfl
theorem setCh_at (ch : Nat → Chn) (c : Nat) (x : Chn) : setCh ch c x c = x := by simp [setCh]
theorem lead_rest {c : Nat} (hc : c < 4) : ∀ (r : List ByteArray) (ch : Nat → Chn) (g : Nat) (ahead : List ByteArray) (p : ByteArray), ch c = ⟨g, ahead ++ [p]⟩ → (∀ t ∈ ahead ++ [p] ++ r, t.size ≤ 2000) → g + (ahead ++ [p] ++ r).length ≤ 2147483647 →
    Leads (restL c p r) ch (setCh ch c ⟨g, ahead ++ [p] ++ r⟩)
  | [], ch, g, ahead, p, he, hs, hn => by
    have : setCh ch c ⟨g, ahead ++ [p] ++ []⟩ = ch := by
      funext i; unfold setCh; split
      · rename_i h; rw [h, he]; simp
      · rfl
    rw [this]; exact Leads.refl _
  | t :: r, ch, g, ahead, p, he, hs, hn => by
    have hlast : (ch c).texts.getLast? = some p := by rw [he]; simp
    have h1 : Leads (addedL c (some p) t) ch (setCh ch c ⟨g, ahead ++ [p] ++ [t]⟩) := by
      have := lead_added (ch := ch) (t := t) hc (hs t (by simp)) (fun x hx => hs x (by rw [he] at hx; simp only [List.mem_append, List.mem_cons, List.not_mem_nil, or_false] at hx ⊢; exact .inl hx)) (by rw [he]; unfold Chn.last; simp at hn ⊢; omega)
      rw [hlast, he] at this; exact this
    have h2 := lead_rest hc r (setCh ch c ⟨g, ahead ++ [p] ++ [t]⟩) g (ahead ++ [p]) t (setCh_at _ _ _) (fun x hx => hs x (by simpa using hx)) (by simpa using hn)
    rw [setCh_set] at h2
    have := h1.trans h2
    simpa [restL] using this
theorem lead_chain {c : Nat} (hc : c < 4) {x : Chn} {ch : Nat → Chn} (h0 : (ch c).last = 0) (hx : ch c = ⟨0, []⟩) (hs : ∀ t ∈ x.texts, t.size ≤ 2000) (hn : x.last ≤ 2147483647) (hnone : x.texts = [] → x.gone = 0) : Leads (chainL c x) ch (setCh ch c x) := by
  obtain ⟨g, ts⟩ := x
  cases ts with
  | nil =>
    have e : setCh ch c ⟨g, []⟩ = ch := by
      funext i; unfold setCh; split
      · rename_i h; rw [h, hx]; have := hnone rfl; simp at this; rw [this]
      · rfl
    rw [e]; exact Leads.refl _
  | cons t r =>
    unfold Chn.last at hn
    simp only [List.length_cons] at hn
    have h1 := lead_base (ch := ch) (t := t) (c := c) (n := g + 1) hc (by omega) (by omega) (hs t (by simp)) h0
    have h2 := lead_rest hc r (setCh ch c ⟨g, [t]⟩) g [] t (setCh_at _ _ _) (fun u hu => hs u (by simpa using hu)) (by simp; omega)
    rw [setCh_set] at h2
    have := h1.trans h2
    simpa [chainL] using this
/-- A log that is squashed leads to the same chains. -/
theorem lead_squash {ch : Nat → Chn} (h : ChOk ch) : Leads (squashL ch) noCh ch := by
  have key : ∀ (c : Nat) (hc : c < 4) (d : Nat → Chn), d c = ⟨0, []⟩ → Leads (chainL c (ch c)) d (setCh d c (ch c)) := fun c hc d hd => lead_chain hc (by rw [hd]; rfl) hd (h.size c) (h.last c) (h.none c)
  have h0 := key 0 (by omega) noCh rfl
  have h1 := key 1 (by omega) _ (show setCh noCh 0 (ch 0) 1 = ⟨0, []⟩ from rfl)
  have h2 := key 2 (by omega) _ (show setCh (setCh noCh 0 (ch 0)) 1 (ch 1) 2 = ⟨0, []⟩ from rfl)
  have h3 := key 3 (by omega) _ (show setCh (setCh (setCh noCh 0 (ch 0)) 1 (ch 1)) 2 (ch 2) 3 = ⟨0, []⟩ from rfl)
  have := ((h0.trans h1).trans h2).trans h3
  have e : setCh (setCh (setCh (setCh noCh 0 (ch 0)) 1 (ch 1)) 2 (ch 2)) 3 (ch 3) = ch := by
    funext i
    match i with
    | 0 => rfl
    | 1 => rfl
    | 2 => rfl
    | 3 => rfl
    | i + 4 => rw [h.out (i + 4) (by omega)]; rfl
  rw [e] at this
  exact this
end Go.Proofs.YtabpiaaknjcnkaaGreat
