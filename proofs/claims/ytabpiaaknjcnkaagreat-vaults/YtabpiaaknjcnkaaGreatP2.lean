/-
  Plain facts on what describe finds: it is a delta, it makes the text again, its copies have eight bytes or more, no stretch of its texts stands in the base.
-/
import Derived.Test.YtabpiaaknjcnkaaGreatXP1W1W3W4
namespace Go.Proofs.YtabpiaaknjcnkaaGreat
set_option linter.unusedVariables false
set_option linter.unusedSimpArgs false

/-- The bytes that ops make of a base. -/
def opBytes (B : List UInt8) (o : DOp) : List UInt8 := if 0 < o.len then (B.drop o.fr.toNat).take o.len.toNat else o.tx.data.toList
def madeL (B : List UInt8) (xs : List DOp) : List UInt8 := xs.flatMap (opBytes B)

theorem toEnd_data (s : ByteArray) (a : Nat) : (s.extract a s.size).data.toList = s.data.toList.drop a := by
  rw [Lib.extract_data, List.take_of_length_le (by rw [List.length_drop, ← Lib.size_eq]; omega)]
theorem same_toEnd (base next : ByteArray) (j at_ : Nat) : same (base.extract j base.size) (next.extract at_ next.size) = cpl (base.data.toList.drop j) (next.data.toList.drop at_) := by
  rw [same, toEnd_data, toEnd_data]
theorem isEmpty_iff (t : ByteArray) : t.toList.isEmpty = true ↔ t.size = 0 := by
  rw [Lib.toList_data, List.isEmpty_iff]
  exact ⟨fun h => by rw [Lib.size_eq, h]; rfl, fun h => List.eq_nil_of_length_eq_zero (by rw [← Lib.size_eq]; exact h)⟩
theorem addT_of_pos {t : ByteArray} (h : 0 < t.size) : addT t = [⟨0, 0, t⟩] := by
  have : t.toList.isEmpty = false := by
    cases e : t.toList.isEmpty
    · rfl
    · rw [isEmpty_iff] at e; omega
  simp [addT, this]
theorem addT_of_zero {t : ByteArray} (h : t.size = 0) : addT t = [] := by
  have := (isEmpty_iff t).2 h
  simp [addT, this]
theorem size_ext (s : ByteArray) (a b : Nat) (h : b ≤ s.size) : (s.extract a b).size = b - a := by
  rw [ByteArray.size_extract, Nat.min_eq_left h]

/-- What is known of a place of the walk: the places ahead of it, back to the text's start, have no stretch of the base. -/
structure At (base next : ByteArray) (f ts at_ : Nat) : Prop where
  h1 : ts ≤ at_
  h2 : at_ ≤ next.size
  h3 : next.size - at_ < f
  clean : ∀ p, ts ≤ p → p < at_ → p + 8 ≤ next.size → ∀ i, ¬ occ base.data.toList ((next.data.toList.drop p).take 8) i

theorem key_data (next : ByteArray) (at_ : Nat) : (next.extract at_ (at_ + 8)).data.toList = (next.data.toList.drop at_).take 8 := by
  rw [Lib.extract_data, show at_ + 8 - at_ = 8 from by omega]

/-- One step of the walk, with all that is known: a miss, a hit, the end. -/
theorem step {base next : ByteArray} {f ts at_ : Nat} (h : At base next f ts at_) :
    (descGo base next f ts at_ = addT (next.extract ts next.size) ∧ ¬ at_ + 8 ≤ next.size) ∨
    (∃ g, f = g + 1 ∧ descGo base next f ts at_ = descGo base next g ts (at_ + 1) ∧ At base next g ts (at_ + 1)) ∨
    (∃ g j n, f = g + 1 ∧ at_ + 8 ≤ next.size ∧ occ base.data.toList ((next.data.toList.drop at_).take 8) j ∧ n = cpl (base.data.toList.drop j) (next.data.toList.drop at_) ∧ 8 ≤ n ∧ j + n ≤ base.size ∧ at_ + n ≤ next.size ∧
      descGo base next f ts at_ = addT (next.extract ts at_) ++ ⟨j, n, ByteArray.empty⟩ :: descGo base next g (at_ + n) (at_ + n) ∧ At base next g (at_ + n) (at_ + n)) := by
  obtain ⟨h1, h2, h3, h4⟩ := h
  obtain ⟨g, rfl⟩ : ∃ g, f = g + 1 := ⟨f - 1, by omega⟩
  by_cases hlt : at_ + 8 ≤ next.size
  · cases hf : findFirst base.data.toList (next.extract at_ (at_ + 8)).data.toList with
    | none =>
      refine .inr (.inl ⟨g, rfl, ?_, by omega, by omega, by omega, ?_⟩)
      · rw [descGo, if_pos hlt, hf]
      · intro p hp hpa hp8
        by_cases e : p = at_
        · subst e
          have := findFirst_none hf
          rwa [key_data] at this
        · exact h4 p hp (by omega) hp8
    | some j =>
      have ho := (findFirst_some hf).2.1
      rw [key_data] at ho
      have hb := Lib.size_eq base
      have hn := Lib.size_eq next
      have hle := cpl_le (base.data.toList.drop j) (next.data.toList.drop at_)
      rw [List.length_drop, List.length_drop, ← hb, ← hn] at hle
      have hge : 8 ≤ cpl (base.data.toList.drop j) (next.data.toList.drop at_) :=
        cpl_ge _ _ 8 (by rw [List.length_drop]; have := ho.1; omega) (by rw [List.length_drop]; omega) ho.2
      refine .inr (.inr ⟨g, j, _, rfl, hlt, ho, rfl, hge, by have := ho.1; omega, by omega, ?_, by omega, by omega, by omega, fun p hp hpa => by omega⟩)
      rw [descGo, if_pos hlt, hf]
      simp only [same_toEnd]
  · refine .inl ⟨?_, hlt⟩
    rw [descGo, if_neg hlt]

/-- A property of every op, by the walk. -/
theorem every {base next : ByteArray} (Q : DOp → Prop) (hQt : ∀ ts at_, ts < at_ → at_ ≤ next.size → (∀ p, ts ≤ p → p + 8 ≤ at_ → ∀ i, ¬ occ base.data.toList ((next.data.toList.drop p).take 8) i) → Q ⟨0, 0, next.extract ts at_⟩)
    (hQc : ∀ j n : Nat, 8 ≤ n → j + n ≤ base.size → n ≤ next.size → Q ⟨j, n, ByteArray.empty⟩) {f ts at_ : Nat} (h : At base next f ts at_) : ∀ o ∈ descGo base next f ts at_, Q o := by
  induction f generalizing ts at_ with
  | zero => have := h.h3; omega
  | succ f ih =>
    rcases step h with ⟨e, hend⟩ | ⟨g, hg, e, h'⟩ | ⟨g, j, n, hg, h8, ho, hn, hn8, hjb, hnn, e, h'⟩
    · rw [e]
      intro o ho
      by_cases hp : 0 < (next.extract ts next.size).size
      · rw [addT_of_pos hp] at ho
        simp at ho; subst ho
        rw [size_ext _ _ _ (Nat.le_refl _)] at hp
        exact hQt ts next.size (by omega) (Nat.le_refl _) (fun p hp1 hp2 => h.clean p hp1 (by omega) hp2)
      · rw [addT_of_zero (by omega)] at ho; simp at ho
    · obtain rfl : f = g := by omega
      rw [e]; exact ih h'
    · obtain rfl : f = g := by omega
      rw [e]
      intro o ho'
      have h2 := h.h2
      rcases List.mem_append.1 ho' with ho' | ho'
      · by_cases hp : 0 < (next.extract ts at_).size
        · rw [addT_of_pos hp] at ho'
          simp at ho'; subst ho'
          rw [size_ext _ _ _ (by omega)] at hp
          exact hQt ts at_ (by omega) (by omega) (fun p hp1 hp2 => h.clean p hp1 (by omega) (by omega))
        · rw [addT_of_zero (by omega)] at ho'; simp at ho'
      · rcases List.mem_cons.1 ho' with rfl | ho'
        · exact hQc j n hn8 hjb (by omega)
        · exact ih h' o ho'

theorem madeL_addT (B : List UInt8) (t : ByteArray) : madeL B (addT t) = t.data.toList := by
  by_cases h : 0 < t.size
  · rw [addT_of_pos h]; simp [madeL, opBytes]
  · rw [addT_of_zero (by omega)]
    have : t.data.toList = [] := by
      have := Lib.size_eq t
      exact List.eq_nil_of_length_eq_zero (by omega)
    rw [this]; rfl

theorem made_go {base next : ByteArray} {f ts at_ : Nat} (h : At base next f ts at_) : madeL base.data.toList (descGo base next f ts at_) = next.data.toList.drop ts := by
  induction f generalizing ts at_ with
  | zero => have := h.h3; omega
  | succ f ih =>
    rcases step h with ⟨e, hend⟩ | ⟨g, hg, e, h'⟩ | ⟨g, j, n, hg, h8, ho, hn, hn8, hjb, hnn, e, h'⟩
    · rw [e, madeL_addT, toEnd_data]
    · obtain rfl : f = g := by omega
      rw [e]; exact ih h'
    · obtain rfl : f = g := by omega
      have hc : opBytes base.data.toList ⟨j, n, ByteArray.empty⟩ = (next.data.toList.drop at_).take n := by
        have := cpl_take (base.data.toList.drop j) (next.data.toList.drop at_)
        rw [← hn] at this
        rw [opBytes, if_pos (by show (0 : Int) < (n : Int); omega)]
        simpa using this
      have e2 : madeL base.data.toList (addT (next.extract ts at_) ++ ⟨j, n, ByteArray.empty⟩ :: descGo base next f (at_ + n) (at_ + n)) = madeL base.data.toList (addT (next.extract ts at_)) ++ (opBytes base.data.toList ⟨j, n, ByteArray.empty⟩ ++ madeL base.data.toList (descGo base next f (at_ + n) (at_ + n))) := by
        simp [madeL]
      rw [e, e2, madeL_addT, hc, ih h', Lib.extract_data, ← List.drop_drop, List.take_append_drop]
      have h1 := h.h1
      conv => rhs; rw [← List.take_append_drop (at_ - ts) (next.data.toList.drop ts)]
      rw [List.drop_drop, show ts + (at_ - ts) = at_ from by omega]

theorem length_go {base next : ByteArray} {f ts at_ : Nat} (h : At base next f ts at_) : 4 * (descGo base next f ts at_).length ≤ next.size - at_ + 4 := by
  induction f generalizing ts at_ with
  | zero => have := h.h3; omega
  | succ f ih =>
    have ha : ∀ t, (addT t).length ≤ 1 := fun t => by unfold addT; split <;> simp
    rcases step h with ⟨e, hend⟩ | ⟨g, hg, e, h'⟩ | ⟨g, j, n, hg, h8, ho, hn, hn8, hjb, hnn, e, h'⟩
    · rw [e]; have := ha (next.extract ts next.size); omega
    · obtain rfl : f = g := by omega
      rw [e]; have := ih h'; omega
    · obtain rfl : f = g := by omega
      rw [e, List.length_append, List.length_cons]
      have := ha (next.extract ts at_); have := ih h'; omega

/-- A copy that does not go on. -/
def Stops (base next : ByteArray) (p : Option DOp) (ts : Nat) : Prop :=
  p = none ∨ ∃ j n : Nat, p = some ⟨j, n, ByteArray.empty⟩ ∧ 0 < n ∧ (j + n = base.size ∨ ts = next.size ∨ base.data.toList[j + n]? ≠ next.data.toList[ts]?)

theorem behind_text {base next : ByteArray} {p : Option DOp} {ts : Nat} (h : Stops base next p ts) (t : ByteArray) : behind p ⟨0, 0, t⟩ = true := by
  rcases h with rfl | ⟨j, n, rfl, hn, _⟩
  · rfl
  · have : decide ((0 : Int) < (n : Int)) = true := by simp; omega
    simp [behind, followB, this]; omega

theorem fault_text {base next : ByteArray} {b : Int} {p : Option DOp} {ts at_ i : Nat} {m : Int} {r : List DOp} (hp : Stops base next p ts) (hlt : ts < at_) (ha : at_ ≤ next.size) (hi : i < 200) (hm : m + (at_ - ts) ≤ 2000) :
    faultGo b (⟨0, 0, next.extract ts at_⟩ :: r) p i m = faultGo b r (some ⟨0, 0, next.extract ts at_⟩) (i + 1) (m + (at_ - ts : Nat)) := by
  have hs := size_ext next ts at_ ha
  have he : (next.extract ts at_).toList.isEmpty = false := by
    cases e : (next.extract ts at_).toList.isEmpty
    · rfl
    · rw [isEmpty_iff] at e; omega
  have hop : isOpB 0 0 (next.extract ts at_) b = true := by simp [isOpB, he]
  have hsz : sizeI 0 (next.extract ts at_) = (at_ - ts : Nat) := by simp [sizeI, hs]
  rw [faultGo, if_neg (by omega)]
  dsimp only
  rw [hop, if_neg (by simp), behind_text hp, if_neg (by simp), hsz, if_neg (by omega)]

theorem fault_copy {b : Nat} {p : Option DOp} {j n i : Nat} {m : Int} {r : List DOp} (hp : behind p ⟨j, n, ByteArray.empty⟩ = true) (hn : 0 < n) (hjb : j + n ≤ b) (hi : i < 200) (hm : m + n ≤ 2000) :
    faultGo b (⟨j, n, ByteArray.empty⟩ :: r) p i m = faultGo b r (some ⟨j, n, ByteArray.empty⟩) (i + 1) (m + n) := by
  have hop : isOpB j n ByteArray.empty b = true := by
    have : (ByteArray.empty).toList.isEmpty = true := (isEmpty_iff _).2 rfl
    rw [isOpB, if_pos (by omega), this]; simp; omega
  have hsz : sizeI n ByteArray.empty = n := by rw [sizeI, if_pos (by omega)]
  rw [faultGo, if_neg (by omega)]
  dsimp only
  rw [hop, if_neg (by simp), hp, if_neg (by simp), hsz, if_neg (by omega)]

theorem fault_go {base next : ByteArray} {f ts at_ : Nat} (h : At base next f ts at_) (p : Option DOp) (i : Nat) (m : Int) (hp : Stops base next p ts)
    (hi : i + (descGo base next f ts at_).length ≤ 200) (hm0 : 0 ≤ m) (hm : m + (next.size - ts : Nat) ≤ 2000) : faultGo base.size (descGo base next f ts at_) p i m = i + (descGo base next f ts at_).length := by
  induction f generalizing ts at_ p i m with
  | zero => have := h.h3; omega
  | succ f ih =>
    have h1 := h.h1
    have h2 := h.h2
    rcases step h with ⟨e, hend⟩ | ⟨g, hg, e, h'⟩ | ⟨g, j, n, hg, h8, ho, hn, hn8, hjb, hnn, e, h'⟩
    · rw [e] at hi ⊢
      by_cases hlt : ts < next.size
      · rw [addT_of_pos (by rw [size_ext _ _ _ (Nat.le_refl _)]; omega)] at hi ⊢
        simp at hi
        rw [fault_text hp hlt (Nat.le_refl _) (by omega) (by omega)]
        simp [faultGo]
      · rw [addT_of_zero (by rw [size_ext _ _ _ (Nat.le_refl _)]; omega)] at hi ⊢
        simp [faultGo]
    · obtain rfl : f = g := by omega
      rw [e] at hi ⊢; exact ih h' p i m hp hi hm0 hm
    · obtain rfl : f = g := by omega
      have hst : Stops base next (some ⟨j, n, ByteArray.empty⟩) (at_ + n) := by
        refine .inr ⟨j, n, rfl, by omega, ?_⟩
        have hb := Lib.size_eq base
        have hnx := Lib.size_eq next
        have hoc := ho.1
        rcases cpl_stop (base.data.toList.drop j) (next.data.toList.drop at_) with hq | hq | hq
        · rw [← hn, List.length_drop] at hq; exact .inl (by omega)
        · rw [← hn, List.length_drop] at hq; exact .inr (.inl (by omega))
        · rw [← hn, List.getElem?_drop, List.getElem?_drop] at hq; exact .inr (.inr hq)
      rw [e] at hi ⊢
      rw [List.length_append, List.length_cons] at hi
      by_cases hlt : ts < at_
      · have ha : addT (next.extract ts at_) = [⟨0, 0, next.extract ts at_⟩] := addT_of_pos (by rw [size_ext _ _ _ (by omega)]; omega)
        rw [ha] at hi ⊢
        simp at hi
        have hbh : behind (some ⟨0, 0, next.extract ts at_⟩) ⟨j, n, ByteArray.empty⟩ = true := by
          have : decide ((0 : Int) < (n : Int)) = true := by simp; omega
          simp [behind, followB, this]; omega
        rw [List.singleton_append, fault_text hp hlt (by omega) (by omega) (by omega), fault_copy hbh (by omega) hjb (by omega) (by omega),
          ih h' (some ⟨j, n, ByteArray.empty⟩) (i + 1 + 1) _ hst (by omega) (by omega) (by omega)]
        simp; omega
      · obtain rfl : ts = at_ := by omega
        have ha : addT (next.extract ts ts) = [] := addT_of_zero (by rw [size_ext _ _ _ (by omega)]; omega)
        rw [ha] at hi ⊢
        simp at hi
        have hbh : behind p ⟨j, n, ByteArray.empty⟩ = true := by
          rcases hp with rfl | ⟨j0, n0, rfl, hn0, hq⟩
          · rfl
          · have d1 : decide ((0 : Int) < (n0 : Int)) = true := by simp; omega
            have d2 : decide ((0 : Int) < (n : Int)) = true := by simp; omega
            have hne : j ≠ j0 + n0 := by
              rintro rfl
              rcases hq with hq | hq | hq
              · omega
              · omega
              · apply hq
                have h0 : ((base.data.toList.drop (j0 + n0)).take 8)[0]? = ((next.data.toList.drop ts).take 8)[0]? := by rw [ho.2]
                simpa using h0
            have : ((j : Int) != (j0 : Int) + (n0 : Int)) = true := by
              rw [bne_iff_ne]; omega
            simp [behind, followB, d1, d2, this]; omega
        rw [List.nil_append, fault_copy hbh (by omega) hjb (by omega) (by omega), ih h' (some ⟨j, n, ByteArray.empty⟩) (i + 1) _ hst (by omega) (by omega) (by omega)]
        simp; omega

theorem at_start (base next : ByteArray) : At base next (next.size + 1) 0 0 := ⟨by omega, by omega, by omega, fun p _ h => by omega⟩

theorem descF_length {base next : ByteArray} : 4 * (descF base next).length ≤ next.size + 4 := by
  have := length_go (at_start base next); simpa [descF] using this
theorem descF_made (base next : ByteArray) : madeL base.data.toList (descF base next) = next.data.toList := by
  have := made_go (at_start base next); simpa [descF] using this
theorem descF_fault (base next : ByteArray) (h : next.size ≤ 700) : faultF (descF base next) base.size = (descF base next).length := by
  have hl := descF_length (base := base) (next := next)
  have := fault_go (at_start base next) none 0 0 (.inl rfl) (by have : (descGo base next (next.size + 1) 0 0).length = (descF base next).length := rfl; omega) (by omega) (by omega)
  simpa [descF, faultF] using this

/-- What a law reads off each op. -/
structure Good (base next : ByteArray) (o : DOp) : Prop where
  copy : 0 < o.len → 8 ≤ o.len ∧ 0 ≤ o.fr ∧ o.fr + o.len ≤ base.size
  size : o.tx.size ≤ next.size
  len0 : 0 ≤ o.len
  len : o.len ≤ base.size
  fr0 : 0 ≤ o.fr
  fr : o.fr ≤ base.size
  text : ∀ j, j + 8 ≤ o.tx.size → ∀ i, i + 8 ≤ base.size → base.extract i (i + 8) ≠ o.tx.extract j (j + 8)

theorem descF_good (base next : ByteArray) : ∀ o ∈ descF base next, Good base next o := by
  refine every (Good base next) ?_ ?_ (at_start base next)
  · intro ts at_ hlt ha hc
    have hs := size_ext next ts at_ ha
    refine ⟨fun h => by simp at h, by simp only [hs]; omega, by simp, by simp, by simp, by simp, ?_⟩
    intro j hj i hi e
    simp only [hs] at hj
    refine hc (ts + j) (by omega) (by omega) i ⟨by rw [← Lib.size_eq]; exact hi, ?_⟩
    have e2 := congrArg (fun x : ByteArray => x.data.toList) e
    simp only [Lib.extract_data] at e2
    rw [show i + 8 - i = 8 from by omega, show j + 8 - j = 8 from by omega] at e2
    rw [e2, List.drop_take, List.drop_drop, List.take_take, Nat.min_eq_left (by omega)]
  · intro j n hn hjb hnn
    refine ⟨fun _ => ⟨by simp; omega, by simp, by simp; omega⟩, by simp, by simp, by simp; omega, by simp, by simp; omega, ?_⟩
    intro j hj
    simp at hj

theorem descF_self (s : ByteArray) (h : 8 ≤ s.size) : descF s s = [⟨0, s.size, ByteArray.empty⟩] := by
  have hf : findFirst s.data.toList (s.extract 0 (0 + 8)).data.toList = some 0 := by
    refine findFirst_of ⟨Nat.le_refl _, ⟨by rw [← Lib.size_eq]; omega, ?_⟩, fun i h1 h2 => by omega⟩
    rw [key_data]
  rw [descF, descGo, if_pos (by omega), hf]
  dsimp only
  rw [same_toEnd, cpl_self, List.drop_zero, ← Lib.size_eq, addT_of_zero (by rw [size_ext _ _ _ (by omega)]), List.nil_append, Nat.zero_add]
  congr 1
  have : ∀ f, descGo s s f s.size s.size = [] := by
    intro f
    cases f with
    | zero => rw [descGo, addT_of_zero (by rw [size_ext _ _ _ (Nat.le_refl _)]; omega)]
    | succ f => rw [descGo, if_neg (by omega), addT_of_zero (by rw [size_ext _ _ _ (Nat.le_refl _)]; omega)]
  exact this _

end Go.Proofs.YtabpiaaknjcnkaaGreat
