/-
  Plain facts: a row of vaults, each by one record more: a log that is cut off, or of which a byte is another one.
-/
import Derived.Test.YtabpiaaknjcnkaaGreatXPOPP
namespace Go.Proofs.YtabpiaaknjcnkaaGreat
set_option linter.unusedVariables false
set_option linter.unusedSimpArgs false

/-- One record, that leads from these chains to those. -/
def One (l : List UInt8) (ch ch' : Nat → Chn) : Prop := ∃ b : ByteArray, l = recL b.data.toList ∧ b.size ≤ 2147483647 ∧ doesF ch b = some ch'
theorem One.leads {l : List UInt8} {ch ch' : Nat → Chn} (h : One l ch ch') : Leads l ch ch' := by
  obtain ⟨b, rfl, hs, hd⟩ := h
  exact Leads.one rfl (by rw [← Lib.size_eq]; exact hs) hd
theorem One.of {l : List UInt8} {ch ch' : Nat → Chn} {b : List UInt8} (hl : l = recL b) (hs : b.length ≤ 2147483647) (hd : ∀ x : ByteArray, x.data.toList = b → doesF ch x = some ch') : One l ch ch' :=
  ⟨⟨b.toArray⟩, by rw [hl, bytes_of], by rw [Lib.size_eq, bytes_of]; exact hs, hd _ (bytes_of _)⟩
theorem One.pos {l : List UInt8} {ch ch' : Nat → Chn} (h : One l ch ch') : 0 < l.length := by
  obtain ⟨b, rfl, _⟩ := h
  have := recL_pos b.data.toList
  omega
theorem one_full {ch : Nat → Chn} {t : ByteArray} {c : Nat} (hc : c < 4) (ht : t.size ≤ 2000) (hl : (ch c).last < 2147483647) :
    One (recL (bodyF c t.data.toList)) ch (setCh ch c ⟨(ch c).gone, (ch c).texts ++ [t]⟩) := by
  have hu := uN_length (n := c) (by omega)
  have hz : t.data.toList.length = t.size := (Lib.size_eq t).symm
  exact One.of rfl (by simp only [bodyF, List.length_cons, List.length_append]; omega) (fun x hx => does_full hx hc ht hl)
theorem one_added {ch : Nat → Chn} {t : ByteArray} {c : Nat} (hc : c < 4) (ht : t.size ≤ 2000) (hs : ∀ x ∈ (ch c).texts, x.size ≤ 2000) (hl : (ch c).last < 2147483647) :
    One (addedL c (ch c).texts.getLast? t) ch (setCh ch c ⟨(ch c).gone, (ch c).texts ++ [t]⟩) := by
  cases hg : (ch c).texts.getLast? with
  | none => exact one_full hc ht hl
  | some p =>
    unfold addedL
    simp only
    split
    · rename_i hlt
      have hr := recL_length (bodyF c t.data.toList)
      have hr2 := recL_length (bodyD c (diffF p t))
      have hu := uN_length (n := c) (by omega)
      have hz : t.data.toList.length = t.size := (Lib.size_eq t).symm
      have hb : (bodyF c t.data.toList).length ≤ 2010 := by simp only [bodyF, List.length_cons, List.length_append]; omega
      have hv := uN_length (n := (bodyF c t.data.toList).length) (by omega)
      exact One.of rfl (by omega) (fun x hx => does_diff hx hc hg (hs p (List.mem_of_mem_getLast? hg)) ht hl)
    · exact one_full hc ht hl
theorem one_prune {ch : Nat → Chn} {c n : Nat} (hc : c < 4) (hn2 : n ≤ 2147483647) (h : (ch c).gone < n ∧ n ≤ (ch c).last) :
    One (recL (bodyP c n)) ch (setCh ch c ⟨n - 1, (ch c).texts.drop (n - (ch c).gone - 1)⟩) := by
  have hu := uN_length (n := c) (by omega)
  have hv := uN_length5 (n := n) (by omega)
  exact One.of rfl (by simp only [bodyP, List.length_cons, List.length_append]; omega) (fun x hx => does_prune hx hc hn2 h)

/-- A vault that is by one record more. -/
def Next (a b : Vlt) : Prop := ∃ l, b.log = a.log ++ l ∧ One l a.ch b.ch
theorem next_put {s : Vlt} (h : s.Ok) {c : Nat} {t : ByteArray} (hc : c < 4) (ht : t.size ≤ 2000) (hf : ¬ s.full c t) : Next s (s.put c t) := by
  have h3 := h.last c
  unfold Vlt.full at hf
  exact ⟨_, rfl, one_added hc ht (h.size c) (by omega)⟩
theorem next_drop {s : Vlt} (h : s.Ok) {c n : Nat} (hc : c < 4) (hh : (s.ch c).has n) : Next s (s.drop c n) := by
  have h3 := h.last c
  unfold Chn.has at hh
  exact ⟨_, rfl, one_prune hc (by omega) (by omega)⟩

/-- A row of vaults, from the empty one on. -/
def Told (vs : List Vlt) : Prop := vs[0]? = some noVault ∧ ∀ k a b, vs[k]? = some a → vs[k + 1]? = some b → Next a b
theorem told_first : Told [noVault] := ⟨rfl, fun k a b h1 h2 => by simp at h2⟩
theorem told_snoc {vs : List Vlt} {a b : Vlt} (h : Told vs) (ha : vs[vs.length - 1]? = some a) (hn : Next a b) : Told (vs ++ [b]) := by
  have hlt := (List.getElem?_eq_some_iff.1 ha).1
  refine ⟨?_, fun k x y hx hy => ?_⟩
  · rw [List.getElem?_append_left (by omega)]; exact h.1
  · by_cases hk : k + 1 < vs.length
    · rw [List.getElem?_append_left (by omega)] at hx hy
      exact h.2 k x y hx hy
    · have hk2 : k + 1 = vs.length := by
        have := (List.getElem?_eq_some_iff.1 hy).1
        simp at this; omega
      rw [List.getElem?_append_left (by omega)] at hx
      rw [show k = vs.length - 1 by omega, ha] at hx
      rw [hk2] at hy
      simp at hx hy
      subst hx; subst hy; exact hn
theorem told_lead {vs : List Vlt} (h : Told vs) : ∀ (k : Nat) (a : Vlt), vs[k]? = some a → Leads a.log noCh a.ch
  | 0, a, ha => by
    rw [h.1] at ha
    simp only [Option.some.injEq] at ha
    subst ha; exact Leads.refl _
  | k + 1, b, hb => by
    have hlt := (List.getElem?_eq_some_iff.1 hb).1
    obtain ⟨l, e, h1⟩ := h.2 k vs[k] b (List.getElem?_eq_getElem (by omega)) hb
    rw [e]
    exact (told_lead h k _ (List.getElem?_eq_getElem (by omega))).trans h1.leads
theorem told_pre {vs : List Vlt} (h : Told vs) {j : Nat} {a : Vlt} (ha : vs[j]? = some a) : ∀ (d : Nat) (b : Vlt), vs[j + d]? = some b → ∃ r, b.log = a.log ++ r
  | 0, b, hb => by
    rw [Nat.add_zero, ha] at hb
    simp only [Option.some.injEq] at hb
    subst hb; exact ⟨[], by simp⟩
  | d + 1, b, hb => by
    have hlt := (List.getElem?_eq_some_iff.1 hb).1
    obtain ⟨l, e, _⟩ := h.2 (j + d) vs[j + d] b (List.getElem?_eq_getElem (by omega)) hb
    obtain ⟨r, er⟩ := told_pre h ha d _ (List.getElem?_eq_getElem (by omega))
    exact ⟨r ++ l, by rw [e, er, List.append_assoc]⟩
/-- The last of them, by the record behind one of them. -/
theorem told_split {vs : List Vlt} (h : Told vs) {k : Nat} {a b z : Vlt} (ha : vs[k]? = some a) (hb : vs[k + 1]? = some b) (hz : vs[vs.length - 1]? = some z) : ∃ l r, b.log = a.log ++ l ∧ One l a.ch b.ch ∧ z.log = a.log ++ (l ++ r) := by
  obtain ⟨l, e, h1⟩ := h.2 k a b ha hb
  have hlt := (List.getElem?_eq_some_iff.1 hb).1
  obtain ⟨r, er⟩ := told_pre h hb (vs.length - 1 - (k + 1)) z (by rw [show k + 1 + (vs.length - 1 - (k + 1)) = vs.length - 1 by omega]; exact hz)
  exact ⟨l, r, e, h1, by rw [er, e, List.append_assoc]⟩

/-- A log that is cut off. -/
theorem told_cut {vs : List Vlt} (h : Told vs) {k n : Nat} {a z : Vlt} (ha : vs[k]? = some a) (hz : vs[vs.length - 1]? = some z) (hn : n ≤ z.log.length) (h1 : a.log.length ≤ n) (h2 : ∀ b, vs[k + 1]? = some b → n < b.log.length)
    {log : ByteArray} (hl : log.data.toList = z.log.take n) : openF log = (a.ch, a.log.length) := by
  have hlt := (List.getElem?_eq_some_iff.1 ha).1
  by_cases hk : k + 1 < vs.length
  · have hb := List.getElem?_eq_getElem hk
    obtain ⟨l, r, e1, ho, e2⟩ := told_split h ha hb hz
    have h3 := h2 _ hb
    rw [e1, List.length_append] at h3
    obtain ⟨b, rfl, hs, hd⟩ := ho
    have e3 : log.data.toList = a.log ++ (recL b.data.toList).take (n - a.log.length) := by
      rw [hl, e2, List.take_append, List.take_of_length_le h1, List.take_append_of_le_length (by omega)]
    refine open_leads e3 (told_lead h k a ha) ?_
    refine stop_cut (b := b.data.toList) (pre := (recL b.data.toList).take (n - a.log.length)) (suf := (recL b.data.toList).drop (n - a.log.length)) ?_ (List.take_append_drop _ _).symm ?_ (by rw [← Lib.size_eq]; exact hs)
    · rw [e3, List.drop_left]
    · intro h0
      have := congrArg List.length h0
      simp at this; omega
  · have : k = vs.length - 1 := by omega
    rw [this] at ha
    rw [hz] at ha
    simp only [Option.some.injEq] at ha
    subst ha
    have e : log.data.toList = z.log := by rw [hl, List.take_of_length_le (by omega)]
    have hs : log.size = z.log.length := by rw [Lib.size_eq, e]
    rw [← hs]
    exact open_whole (by rw [e]; exact told_lead h _ _ hz)

theorem open_ge {log : ByteArray} : ∀ (f at_ : Nat) (ch : Nat → Chn), at_ ≤ (openGo log f at_ ch).2
  | 0, at_, ch => Nat.le_refl _
  | f + 1, at_, ch => by
    rw [openGo]
    split
    · split
      · exact Nat.le_refl _
      · rename_i n body h1
        split
        · exact Nat.le_refl _
        · split
          · exact Nat.le_refl _
          · split
            · exact Nat.le_refl _
            · rename_i ch' hd
              have := open_ge (log := log) f (body + n + 4) ch'
              have := (numF_back h1).2
              omega
    · exact Nat.le_refl _
theorem open_from {log : ByteArray} {l rest : List UInt8} {ch : Nat → Chn} (h : log.data.toList = l ++ rest) (hl : Leads l noCh ch) : l.length ≤ (openF log).2 := by
  obtain ⟨bs, rfl, hf, hs⟩ := hl
  unfold openF
  have hlen : bs.length ≤ log.size := by
    have := recsL_len bs
    have h2 := congrArg List.length h
    rw [List.length_append, ← Lib.size_eq] at h2
    omega
  rw [go_folds bs 0 log.size rest noCh ch (by simpa using h) hf hs hlen, Nat.zero_add]
  exact open_ge _ _ _

/-- The bytes of a number: all but the last one say that more follow. -/
theorem uN_bytes : ∀ (f n : Nat), n ≤ f → (∀ i c, (uN n)[i]? = some c → i + 1 < (uN n).length → 128 ≤ c.toNat) ∧ ∀ c, (uN n)[(uN n).length - 1]? = some c → c.toNat < 128
  | f, n, hf => by
    by_cases h : n < 128
    · rw [uN_lt h]
      refine ⟨fun i c _ hi => by simp at hi, fun c hc => ?_⟩
      simp at hc
      subst hc
      rw [byte_toNat (by omega)]; exact h
    · match f, hf with
      | 0, hf => omega
      | f + 1, hf =>
        obtain ⟨i1, i2⟩ := uN_bytes f (n / 128) (by omega)
        have hp := uN_pos (n / 128)
        rw [uN_ge h]
        refine ⟨fun i c hc hi => ?_, fun c hc => ?_⟩
        · cases i with
          | zero =>
            simp only [List.getElem?_cons_zero, Option.some.injEq] at hc
            subst hc
            rw [byte_toNat (by omega)]; omega
          | succ i =>
            simp at hc hi
            exact i1 i c hc (by omega)
        · have e : (UInt8.ofNat (n % 128 + 128) :: uN (n / 128)).length - 1 = (uN (n / 128)).length - 1 + 1 := by simp; omega
          rw [e] at hc
          simp at hc
          exact i2 c (by simpa using hc)

/-- A byte is another one. -/
def setAt (l : List UInt8) (n : Nat) (x : UInt8) : List UInt8 := l.take n ++ x :: l.drop (n + 1)
theorem setAt_length {l : List UInt8} {n : Nat} {x : UInt8} (h : n < l.length) : (setAt l n x).length = l.length := by
  unfold setAt; simp; omega
theorem setAt_left {a b : List UInt8} {n : Nat} {x : UInt8} (h : n < a.length) : setAt (a ++ b) n x = setAt a n x ++ b := by
  unfold setAt
  rw [List.take_append_of_le_length (by omega), List.drop_append_of_le_length (by omega)]; simp
theorem setAt_right {a b : List UInt8} {n : Nat} {x : UInt8} (h : a.length ≤ n) : setAt (a ++ b) n x = a ++ setAt b (n - a.length) x := by
  unfold setAt
  rw [List.take_append, List.take_of_length_le h, List.drop_append, List.drop_of_length_le (show a.length ≤ n + 1 by omega), show n + 1 - a.length = n - a.length + 1 by omega]
  simp
theorem setAt_sum {l : List UInt8} {n : Nat} {x c : UInt8} (h : l[n]? = some c) (hx : x ≠ c) : sumL (setAt l n x) ≠ sumL l := by
  have hlt := (List.getElem?_eq_some_iff.1 h).1
  have e : l = l.take n ++ c :: l.drop (n + 1) := by
    have hc : l[n] = c := by rw [List.getElem?_eq_getElem hlt] at h; simpa using h
    rw [← hc, List.getElem_cons_drop, List.take_append_drop]
  intro he
  rw [e] at he
  have e2 : setAt (l.take n ++ c :: l.drop (n + 1)) n x = l.take n ++ x :: l.drop (n + 1) := by rw [← e]; rfl
  rw [e2] at he
  exact sumL_other _ _ _ _ hx he
theorem setAt_ne {l : List UInt8} {n : Nat} {x c : UInt8} (h : l[n]? = some c) (hx : x ≠ c) : setAt l n x ≠ l := by
  intro he; exact setAt_sum h hx (by rw [he])

/-- A log of which a byte is another one: how many of the bytes that tell a record's length there are; what counts. -/
theorem told_flip {vs : List Vlt} (h : Told vs) {k n : Nat} {a b z : Vlt} (ha : vs[k]? = some a) (hb : vs[k + 1]? = some b) (hz : vs[vs.length - 1]? = some z) (h1 : a.log.length ≤ n) (h2 : n < b.log.length) {x c : UInt8} (hc : z.log[n]? = some c) (hx : x ≠ c) :
    ∃ size : Nat, 0 < size ∧ a.log.length + size ≤ z.log.length ∧ (∀ i d, i + 1 < size → z.log[a.log.length + i]? = some d → 128 ≤ d.toNat) ∧ (∀ d, z.log[a.log.length + size - 1]? = some d → d.toNat < 128) ∧
      ∀ log : ByteArray, log.data.toList = setAt z.log n x → a.log.length ≤ (openF log).2 ∧ (a.log.length + size ≤ n → openF log = (a.ch, a.log.length)) := by
  obtain ⟨l, r, e1, ho, e2⟩ := told_split h ha hb hz
  obtain ⟨by_, rfl, hs, hd⟩ := ho
  have hl := recL_length by_.data.toList
  have hp := uN_pos by_.data.toList.length
  obtain ⟨u1, u2⟩ := uN_bytes by_.data.toList.length by_.data.toList.length (Nat.le_refl _)
  have hbl : by_.data.toList.length ≤ 2147483647 := by rw [← Lib.size_eq]; exact hs
  generalize hB : by_.data.toList = B at *
  have e3 : z.log = a.log ++ (uN B.length ++ (B ++ (le4 (sumL B) ++ r))) := by rw [e2]; simp [recL]
  have hzl := congrArg List.length e3
  simp only [List.length_append, le4_length] at hzl
  rw [e1, List.length_append, hl] at h2
  refine ⟨(uN B.length).length, hp, by omega, fun i d hi hd' => ?_, fun d hd' => ?_, fun log hlog => ?_⟩
  · rw [e3, List.getElem?_append_right (by omega), Nat.add_sub_cancel_left, List.getElem?_append_left (by omega)] at hd'
    exact u1 i d hd' hi
  · rw [e3, List.getElem?_append_right (by omega), show a.log.length + (uN B.length).length - 1 - a.log.length = (uN B.length).length - 1 by omega, List.getElem?_append_left (by omega)] at hd'
    exact u2 d hd'
  · have e4 : log.data.toList = a.log ++ setAt (uN B.length ++ (B ++ (le4 (sumL B) ++ r))) (n - a.log.length) x := by rw [hlog, e3, setAt_right h1]
    have hc' := hc
    rw [e3, List.getElem?_append_right h1] at hc'
    refine ⟨open_from e4 (told_lead h k a ha), fun hge => ?_⟩
    generalize hm : n - a.log.length = m at *
    rw [setAt_right (by omega)] at e4
    rw [List.getElem?_append_right (by omega)] at hc'
    generalize hq : m - (uN B.length).length = q at *
    refine open_leads e4 (told_lead h k a ha) ?_
    by_cases hin : q < B.length
    · rw [List.getElem?_append_left hin] at hc'
      rw [setAt_left hin] at e4
      have hlen : (setAt B q x).length = B.length := setAt_length hin
      refine stop_other (b := setAt B q x) (s := le4 (sumL B)) (rest := r) ?_ rfl ?_ (by omega)
      · rw [e4, List.drop_left, hlen]
      · intro he
        exact setAt_sum hc' hx (le4_inj (sumL_lt _) (sumL_lt _) he.symm)
    · rw [List.getElem?_append_right (by omega)] at hc'
      rw [setAt_right (by omega)] at e4
      have hq4 : q - B.length < 4 := by omega
      rw [List.getElem?_append_left (by rw [le4_length]; omega)] at hc'
      rw [setAt_left (by rw [le4_length]; omega)] at e4
      refine stop_other (b := B) (s := setAt (le4 (sumL B)) (q - B.length) x) (rest := r) ?_ ?_ ?_ hbl
      · rw [e4, List.drop_left]
      · rw [setAt_length (by rw [le4_length]; omega), le4_length]
      · exact setAt_ne hc' hx
end Go.Proofs.YtabpiaaknjcnkaaGreat
