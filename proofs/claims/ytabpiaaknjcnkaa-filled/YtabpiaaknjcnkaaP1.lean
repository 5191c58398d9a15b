/-
  Plain facts: ops, the length of a common prefix, the first place of a stretch, what describe finds.
-/
import Derived.Lib.Strings
namespace Go.Proofs.Ytabpiaaknjcnkaa
set_option linter.unusedVariables false
set_option linter.unusedSimpArgs false

/-- An op, as its three cells tell it. -/
structure DOp where
  fr : Int
  len : Int
  tx : ByteArray

def sizeI (l : Int) (t : ByteArray) : Int := if 0 < l then l else t.size
def isOpB (f l : Int) (t : ByteArray) (b : Int) : Bool :=
  if 0 < l then decide (0 ≤ f) && t.toList.isEmpty && decide (f ≤ b - l) else (!t.toList.isEmpty) && f == 0 && l == 0
def followB (f1 l1 f2 l2 : Int) : Bool := (decide (0 < l1) != decide (0 < l2)) || (decide (0 < l2) && f2 != f1 + l1)

/-- May the op stand behind the one ahead? -/
def behind : Option DOp → DOp → Bool
  | none, _ => true
  | some p, o => followB p.fr p.len o.fr o.len

/-- The number of the first op with which a row is no delta; how many there are, if it is one. -/
def faultGo (b : Int) : List DOp → Option DOp → Nat → Int → Nat
  | [], _, i, _ => i
  | o :: r, p, i, m =>
    if i = 200 then i else
    if isOpB o.fr o.len o.tx b = false then i else
    if behind p o = false then i else
    if 2000 - m < sizeI o.len o.tx then i else faultGo b r (some o) (i + 1) (m + sizeI o.len o.tx)
def faultF (xs : List DOp) (b : Int) : Nat := faultGo b xs none 0 0

def cpl : List UInt8 → List UInt8 → Nat
  | a :: s, b :: t => if a = b then cpl s t + 1 else 0
  | _, _ => 0

theorem cpl_of (a b : List UInt8) (k : Nat) (h1 : k ≤ a.length) (h2 : k ≤ b.length) (he : ∀ j, j < k → a[j]? = b[j]?)
    (hs : k = a.length ∨ k = b.length ∨ a[k]? ≠ b[k]?) : cpl a b = k := by
  induction a generalizing b k with
  | nil => simp at h1; subst h1; cases b <;> rfl
  | cons x s ih =>
    cases b with
    | nil => simp at h2; subst h2; rfl
    | cons y t =>
      cases k with
      | zero =>
        rcases hs with h | h | h
        · simp at h
        · simp at h
        · have : x ≠ y := by simpa using h
          simp [cpl, this]
      | succ k =>
        have h0 := he 0 (by omega)
        simp at h0
        subst h0
        have := ih t k (by simpa using h1) (by simpa using h2) (fun j hj => by simpa using he (j + 1) (by omega)) (by simpa using hs)
        simp [cpl, this]

theorem cpl_le (a b : List UInt8) : cpl a b ≤ a.length ∧ cpl a b ≤ b.length := by
  induction a generalizing b with
  | nil => cases b <;> simp [cpl]
  | cons x s ih =>
    cases b with
    | nil => simp [cpl]
    | cons y t =>
      by_cases h : x = y
      · have := ih t; simp [cpl, h]; omega
      · simp [cpl, h]

theorem cpl_take (a b : List UInt8) : a.take (cpl a b) = b.take (cpl a b) := by
  induction a generalizing b with
  | nil => cases b <;> simp [cpl]
  | cons x s ih =>
    cases b with
    | nil => simp [cpl]
    | cons y t =>
      by_cases h : x = y
      · subst h; have := ih t; simp [cpl, this]
      · simp [cpl, h]

theorem cpl_ge (a b : List UInt8) (n : Nat) (h1 : n ≤ a.length) (h2 : n ≤ b.length) (h : a.take n = b.take n) : n ≤ cpl a b := by
  induction a generalizing b n with
  | nil => simp at h1; omega
  | cons x s ih =>
    cases b with
    | nil => simp at h2; omega
    | cons y t =>
      cases n with
      | zero => omega
      | succ n =>
        simp at h
        obtain ⟨rfl, h⟩ := h
        have := ih t n (by simpa using h1) (by simpa using h2) h
        simp [cpl]; omega

theorem cpl_self (a : List UInt8) : cpl a a = a.length := by
  induction a with
  | nil => rfl
  | cons x s ih => simp [cpl, ih]

/-- Where it ends: one of the two is at its end, or the next bytes differ. -/
theorem cpl_stop (a b : List UInt8) : cpl a b = a.length ∨ cpl a b = b.length ∨ a[cpl a b]? ≠ b[cpl a b]? := by
  induction a generalizing b with
  | nil => cases b <;> simp [cpl]
  | cons x s ih =>
    cases b with
    | nil => simp [cpl]
    | cons y t =>
      by_cases h : x = y
      · subst h; have := ih t; simpa [cpl] using this
      · simp [cpl, h]

/-- Eight bytes stand at a place. -/
def occ (base key : List UInt8) (j : Nat) : Prop := j + 8 ≤ base.length ∧ (base.drop j).take 8 = key
def occDec (base key : List UInt8) (j : Nat) : Decidable (occ base key j) := inferInstanceAs (Decidable (_ ∧ _))

/-- The first place from m on. -/
def IsFirst (base : List UInt8) (m : Nat) (key : List UInt8) (j : Nat) : Prop := m ≤ j ∧ occ base key j ∧ ∀ i, m ≤ i → i < j → ¬ occ base key i

theorem IsFirst.uniq {base key : List UInt8} {m i j : Nat} (h : IsFirst base m key i) (h' : IsFirst base m key j) : i = j := by
  rcases Nat.lt_trichotomy i j with h1 | h1 | h1
  · exact absurd h.2.1 (h'.2.2 i h.1 h1)
  · exact h1
  · exact absurd h'.2.1 (h.2.2 j h'.1 h1)

def findFrom (base key : List UInt8) : Nat → Nat → Option Nat
  | 0, _ => none
  | f + 1, m => @ite _ (occ base key m) (occDec base key m) (some m) (findFrom base key f (m + 1))

theorem findFrom_some {base key : List UInt8} {f m j : Nat} (h : findFrom base key f m = some j) : IsFirst base m key j := by
  induction f generalizing m with
  | zero => simp [findFrom] at h
  | succ f ih =>
    by_cases ho : occ base key m
    · simp [findFrom, ho] at h; subst h; exact ⟨Nat.le_refl _, ho, fun i h1 h2 => by omega⟩
    · simp [findFrom, ho] at h
      obtain ⟨a, b, c⟩ := ih h
      exact ⟨by omega, b, fun i h1 h2 => by
        by_cases e : i = m
        · subst e; exact ho
        · exact c i (by omega) h2⟩

theorem findFrom_none {base key : List UInt8} {f m : Nat} (hf : base.length ≤ f + m) (h : findFrom base key f m = none) : ∀ j, m ≤ j → ¬ occ base key j := by
  induction f generalizing m with
  | zero => intro j hj ho; have := ho.1; omega
  | succ f ih =>
    by_cases ho : occ base key m
    · simp [findFrom, ho] at h
    · simp [findFrom, ho] at h
      intro j hj
      by_cases e : j = m
      · subst e; exact ho
      · exact ih (by omega) h j (by omega)

def findFirst (base key : List UInt8) : Option Nat := findFrom base key base.length 0
theorem findFirst_some {base key : List UInt8} {j : Nat} (h : findFirst base key = some j) : IsFirst base 0 key j := findFrom_some h
theorem findFirst_none {base key : List UInt8} (h : findFirst base key = none) : ∀ j, ¬ occ base key j := fun j => findFrom_none (by omega) h j (by omega)
theorem findFirst_of {base key : List UInt8} {j : Nat} (h : IsFirst base 0 key j) : findFirst base key = some j := by
  cases hf : findFirst base key with
  | none => exact absurd h.2.1 (findFirst_none hf j)
  | some i => rw [(findFirst_some hf).uniq h]
theorem findFirst_of_none {base key : List UInt8} (h : ∀ j, ¬ occ base key j) : findFirst base key = none := by
  cases hf : findFirst base key with
  | none => rfl
  | some i => exact absurd (findFirst_some hf).2.1 (h i)

def same (a b : ByteArray) : Nat := cpl a.data.toList b.data.toList

def addT (t : ByteArray) : List DOp := if t.toList.isEmpty then [] else [⟨0, 0, t⟩]

/-- What describe finds, from a place on. -/
def descGo (base next : ByteArray) : Nat → Nat → Nat → List DOp
  | 0, ts, _ => addT (next.extract ts next.size)
  | f + 1, ts, at_ =>
    if at_ + 8 ≤ next.size then
      match findFirst base.data.toList (next.extract at_ (at_ + 8)).data.toList with
      | none => descGo base next f ts (at_ + 1)
      | some j =>
        let n := same (base.extract j base.size) (next.extract at_ next.size)
        addT (next.extract ts at_) ++ ⟨j, n, ByteArray.empty⟩ :: descGo base next f (at_ + n) (at_ + n)
    else addT (next.extract ts next.size)

def descF (base next : ByteArray) : List DOp := descGo base next (next.size + 1) 0 0

end Go.Proofs.Ytabpiaaknjcnkaa
