/-
  Plain facts: reading a number, and a delta's code.
-/
import Derived.Test.YtabpiaaknjcnkaaXPDPU
namespace Go.Proofs.Ytabpiaaknjcnkaa
set_option linter.unusedVariables false
set_option linter.unusedSimpArgs false

/-- The number at a place (and the place behind it), or the place at which it fails. -/
def numGo (s : ByteArray) (start : Nat) : Nat → Nat → Nat → Nat ⊕ (Nat × Nat)
  | 0, _, _ => .inl start
  | f + 1, k, acc =>
    if h : start + k < s.size then
      if (s[start + k]).toNat < 128 then
        (if 2147483647 < acc + (s[start + k]).toNat % 128 * 128 ^ k ∨ ((s[start + k]).toNat = 0 ∧ 0 < k) then .inl start else .inr (acc + (s[start + k]).toNat % 128 * 128 ^ k, start + k + 1))
      else numGo s start f (k + 1) (acc + (s[start + k]).toNat % 128 * 128 ^ k)
    else .inl s.size
def numF (s : ByteArray) (start : Nat) : Nat ⊕ (Nat × Nat) := numGo s start 5 0 0

theorem numGo_end {s : ByteArray} {start f k acc : Nat} (h : ¬ start + k < s.size) : numGo s start (f + 1) k acc = .inl s.size := by rw [numGo, dif_neg h]
theorem numGo_more {s : ByteArray} {start f k acc : Nat} (h : start + k < s.size) (hc : ¬ (s[start + k]).toNat < 128) : numGo s start (f + 1) k acc = numGo s start f (k + 1) (acc + (s[start + k]).toNat % 128 * 128 ^ k) := by
  rw [numGo, dif_pos h, if_neg hc]
theorem numGo_bad {s : ByteArray} {start f k acc : Nat} (h : start + k < s.size) (hc : (s[start + k]).toNat < 128) (hb : 2147483647 < acc + (s[start + k]).toNat % 128 * 128 ^ k ∨ ((s[start + k]).toNat = 0 ∧ 0 < k)) : numGo s start (f + 1) k acc = .inl start := by
  rw [numGo, dif_pos h, if_pos hc, if_pos hb]
theorem numGo_done {s : ByteArray} {start f k acc : Nat} (h : start + k < s.size) (hc : (s[start + k]).toNat < 128) (hb : ¬ (2147483647 < acc + (s[start + k]).toNat % 128 * 128 ^ k ∨ ((s[start + k]).toNat = 0 ∧ 0 < k))) : numGo s start (f + 1) k acc = .inr (acc + (s[start + k]).toNat % 128 * 128 ^ k, start + k + 1) := by
  rw [numGo, dif_pos h, if_pos hc, if_neg hb]
theorem numGo_props {s : ByteArray} {start : Nat} : ∀ {f k acc : Nat}, start + k ≤ s.size → (∀ p, numGo s start f k acc = .inl p → p ≤ s.size) ∧ ∀ n nx, numGo s start f k acc = .inr (n, nx) → n ≤ 2147483647 ∧ start + k < nx ∧ nx ≤ s.size
  | 0, k, acc, h => ⟨fun p hp => by simp [numGo] at hp; omega, fun n nx hn => by simp [numGo] at hn⟩
  | f + 1, k, acc, h => by
    by_cases h1 : start + k < s.size
    · by_cases h2 : (s[start + k]).toNat < 128
      · by_cases h3 : 2147483647 < acc + (s[start + k]).toNat % 128 * 128 ^ k ∨ ((s[start + k]).toNat = 0 ∧ 0 < k)
        · rw [numGo_bad h1 h2 h3]
          exact ⟨fun p hp => by simp at hp; omega, fun n nx hn => by simp at hn⟩
        · rw [numGo_done h1 h2 h3]
          refine ⟨fun p hp => by simp at hp, fun n nx hn => ?_⟩
          simp only [Sum.inr.injEq, Prod.mk.injEq] at hn
          omega
      · rw [numGo_more h1 h2]
        obtain ⟨a, b⟩ := numGo_props (s := s) (start := start) (f := f) (k := k + 1) (acc := acc + (s[start + k]).toNat % 128 * 128 ^ k) (by omega)
        exact ⟨a, fun n nx hn => by have := b n nx hn; omega⟩
    · rw [numGo_end h1]
      exact ⟨fun p hp => by simp at hp; omega, fun n nx hn => by simp at hn⟩
theorem numF_ok {s : ByteArray} {start n nx : Nat} (hs : start ≤ s.size) (h : numF s start = .inr (n, nx)) : n ≤ 2147483647 ∧ start < nx ∧ nx ≤ s.size := by
  have := (numGo_props (s := s) (start := start) (f := 5) (k := 0) (acc := 0) (by omega)).2 n nx h
  omega
theorem numF_bad {s : ByteArray} {start p : Nat} (hs : start ≤ s.size) (h : numF s start = .inl p) : p ≤ s.size :=
  (numGo_props (s := s) (start := start) (f := 5) (k := 0) (acc := 0) (by omega)).1 p h

/-- Is the last one a TEXT? Does a COPY go on the last one? -/
def lastText (out : List DOp) : Bool := match out.getLast? with | none => false | some l => !decide (0 < l.len)
def goesOn (out : List DOp) (f n : Int) : Bool := match out.getLast? with | none => false | some l => !followB l.fr l.len f n
/-- An op that is read behind those ahead, of which so many bytes are made; or the place at which it fails. -/
def readF (s : ByteArray) (out : List DOp) (total at_ : Nat) : Nat ⊕ (DOp × Nat) :=
  match numF s at_ with
  | .inl p => .inl p
  | .inr (n, nx) =>
    if n / 2 = 0 ∨ 2000 < total + n / 2 then .inl at_
    else if n % 2 = 0 then
      (if lastText out = true then .inl at_
      else if s.size < nx + n / 2 then .inl s.size else .inr (⟨0, 0, s.extract nx (nx + n / 2)⟩, nx + n / 2))
    else match numF s nx with
      | .inl p => .inl p
      | .inr (from_, behind_) =>
        if 2000 < from_ + n / 2 ∨ goesOn out from_ (n / 2 : Nat) = true then .inl nx
        else .inr (⟨from_, (n / 2 : Nat), ⟨#[]⟩⟩, behind_)
def sizeN (o : DOp) : Nat := (sizeI o.len o.tx).toNat
def decGo (s : ByteArray) : Nat → List DOp → Nat → Nat → Nat ⊕ (List DOp × Nat)
  | 0, out, _, at_ => .inr (out, at_)
  | r + 1, out, total, at_ => match readF s out total at_ with
    | .inl p => .inl p
    | .inr (o, nx) => decGo s r (out ++ [o]) (total + sizeN o) nx
def decF (s : ByteArray) : Nat ⊕ List DOp :=
  match numF s 0 with
  | .inl p => .inl p
  | .inr (count, at_) => if 200 < count then .inl 0 else match decGo s count [] 0 at_ with
    | .inl p => .inl p
    | .inr (out, at') => if at' < s.size then .inl at' else .inr out
end Go.Proofs.Ytabpiaaknjcnkaa
