/- The texts PN, D1, one behind the other. -/
import Derived.Test.YtabpiaaknjcnkabGreatXPDPUP4
import Derived.Test.YtabpiaaknjcnkabGreatXE2S1S2
import Derived.WalkLawsBesides
/-
  Plain facts: reading a number, and a delta's code.
-/
namespace Go.Proofs.YtabpiaaknjcnkabGreat
set_option linter.unusedVariables false
set_option linter.unusedSimpArgs false

/-- The number at a place (and the place behind it), or the place at which it fails. -/
def numGo (s : ByteArray) (start : Nat) : Nat → Nat → Nat → Nat ⊕ (Nat × Nat)
  | 0, _, _ => .inl start
  | f + 1, k, acc =>
    if h : start + k < s.size then
      if (s[start + k]).toNat < 128 then
        (if 2147483647 < acc + (s[start + k]).toNat % 128 * 128 ^ k ∨ ((s[start + k]).toNat = 0 ∧ 0 < k) then .inl start else .inr (acc + (s[start + k]).toNat % 128 * 128 ^ k, start + k + 1))
      else numGo s start f (k + 1) (acc + (s[start + k]).toNat % 128 * 128 ^ k)
    else .inl s.size
def numF (s : ByteArray) (start : Nat) : Nat ⊕ (Nat × Nat) := numGo s start 5 0 0

theorem numGo_end {s : ByteArray} {start f k acc : Nat} (h : ¬ start + k < s.size) : numGo s start (f + 1) k acc = .inl s.size := by rw [numGo, dif_neg h]
theorem numGo_more {s : ByteArray} {start f k acc : Nat} (h : start + k < s.size) (hc : ¬ (s[start + k]).toNat < 128) : numGo s start (f + 1) k acc = numGo s start f (k + 1) (acc + (s[start + k]).toNat % 128 * 128 ^ k) := by
  rw [numGo, dif_pos h, if_neg hc]
theorem numGo_bad {s : ByteArray} {start f k acc : Nat} (h : start + k < s.size) (hc : (s[start + k]).toNat < 128) (hb : 2147483647 < acc + (s[start + k]).toNat % 128 * 128 ^ k ∨ ((s[start + k]).toNat = 0 ∧ 0 < k)) : numGo s start (f + 1) k acc = .inl start := by
  rw [numGo, dif_pos h, if_pos hc, if_pos hb]
theorem numGo_done {s : ByteArray} {start f k acc : Nat} (h : start + k < s.size) (hc : (s[start + k]).toNat < 128) (hb : ¬ (2147483647 < acc + (s[start + k]).toNat % 128 * 128 ^ k ∨ ((s[start + k]).toNat = 0 ∧ 0 < k))) : numGo s start (f + 1) k acc = .inr (acc + (s[start + k]).toNat % 128 * 128 ^ k, start + k + 1) := by
  rw [numGo, dif_pos h, if_pos hc, if_neg hb]
theorem numGo_props {s : ByteArray} {start : Nat} : ∀ {f k acc : Nat}, start + k ≤ s.size → (∀ p, numGo s start f k acc = .inl p → p ≤ s.size) ∧ ∀ n nx, numGo s start f k acc = .inr (n, nx) → n ≤ 2147483647 ∧ start + k < nx ∧ nx ≤ s.size
  | 0, k, acc, h => ⟨fun p hp => by simp [numGo] at hp; omega, fun n nx hn => by simp [numGo] at hn⟩
  | f + 1, k, acc, h => by
    by_cases h1 : start + k < s.size
    · by_cases h2 : (s[start + k]).toNat < 128
      · by_cases h3 : 2147483647 < acc + (s[start + k]).toNat % 128 * 128 ^ k ∨ ((s[start + k]).toNat = 0 ∧ 0 < k)
        · rw [numGo_bad h1 h2 h3]
          exact ⟨fun p hp => by simp at hp; omega, fun n nx hn => by simp at hn⟩
        · rw [numGo_done h1 h2 h3]
          refine ⟨fun p hp => by simp at hp, fun n nx hn => ?_⟩
          simp only [Sum.inr.injEq, Prod.mk.injEq] at hn
          omega
      · rw [numGo_more h1 h2]
        obtain ⟨a, b⟩ := numGo_props (s := s) (start := start) (f := f) (k := k + 1) (acc := acc + (s[start + k]).toNat % 128 * 128 ^ k) (by omega)
        exact ⟨a, fun n nx hn => by have := b n nx hn; omega⟩
    · rw [numGo_end h1]
      exact ⟨fun p hp => by simp at hp; omega, fun n nx hn => by simp at hn⟩
theorem numF_ok {s : ByteArray} {start n nx : Nat} (hs : start ≤ s.size) (h : numF s start = .inr (n, nx)) : n ≤ 2147483647 ∧ start < nx ∧ nx ≤ s.size := by
  have := (numGo_props (s := s) (start := start) (f := 5) (k := 0) (acc := 0) (by omega)).2 n nx h
  omega
theorem numF_bad {s : ByteArray} {start p : Nat} (hs : start ≤ s.size) (h : numF s start = .inl p) : p ≤ s.size :=
  (numGo_props (s := s) (start := start) (f := 5) (k := 0) (acc := 0) (by omega)).1 p h

/-- Is the last one a TEXT? Does a COPY go on the last one? -/
def lastText (out : List DOp) : Bool := match out.getLast? with | none => false | some l => !decide (0 < l.len)
def goesOn (out : List DOp) (f n : Int) : Bool := match out.getLast? with | none => false | some l => !followB l.fr l.len f n
/-- An op that is read behind those ahead, of which so many bytes are made; or the place at which it fails. -/
def readF (s : ByteArray) (out : List DOp) (total at_ : Nat) : Nat ⊕ (DOp × Nat) :=
  match numF s at_ with
  | .inl p => .inl p
  | .inr (n, nx) =>
    if n / 2 = 0 ∨ 2000 < total + n / 2 then .inl at_
    else if n % 2 = 0 then
      (if lastText out = true then .inl at_
      else if s.size < nx + n / 2 then .inl s.size else .inr (⟨0, 0, s.extract nx (nx + n / 2)⟩, nx + n / 2))
    else match numF s nx with
      | .inl p => .inl p
      | .inr (from_, behind_) =>
        if 2000 < from_ + n / 2 ∨ goesOn out from_ (n / 2 : Nat) = true then .inl nx
        else .inr (⟨from_, (n / 2 : Nat), ⟨#[]⟩⟩, behind_)
def sizeN (o : DOp) : Nat := (sizeI o.len o.tx).toNat
def decGo (s : ByteArray) : Nat → List DOp → Nat → Nat → Nat ⊕ (List DOp × Nat)
  | 0, out, _, at_ => .inr (out, at_)
  | r + 1, out, total, at_ => match readF s out total at_ with
    | .inl p => .inl p
    | .inr (o, nx) => decGo s r (out ++ [o]) (total + sizeN o) nx
def decF (s : ByteArray) : Nat ⊕ List DOp :=
  match numF s 0 with
  | .inl p => .inl p
  | .inr (count, at_) => if 200 < count then .inl 0 else match decGo s count [] 0 at_ with
    | .inl p => .inl p
    | .inr (out, at') => if at' < s.size then .inl at' else .inr out
end Go.Proofs.YtabpiaaknjcnkabGreat

/-
  The walks over the Reader.
-/
namespace Go.Proofs.YtabpiaaknjcnkabGreat
open Go.RowKit
set_option linter.unusedVariables false
set_option linter.unusedSimpArgs false
set_option maxRecDepth 100000

set_option maxHeartbeats 1000000 in
theorem giveup_any (p : Int) (w : World) :
    Calls Tryz.prog 87 #[.int .i64 p] w fun e w' => e = .panicked [{ v := .iface 109 (.agg #[.int .i64 p]), recovered := false }] ∧ w' = w := by
  go_enter Tryz.func87, Tryz.ntmps87
  go_wp2
  exact ⟨rfl, rfl, rfl⟩

/-- A panic that tells a place. -/
abbrev gaveUp (p : Nat) : Ending := .panicked [{ v := .iface 109 (.agg #[.int .i64 p]), recovered := false }]
/-- A reader stands there. -/
def RAt (w : World) (rb : Nat) (s : ByteArray) (at_ : Nat) : Prop := w.heap[rb]? = some (.cells #[.string s, .int .i64 at_] 144 (0, 0))
/-- What reading leaves: all but the reader's own block. -/
structure Moved (rb : Nat) (w w' : World) : Prop where
  os : w'.os = w.os
  tape : w'.tape = w.tape
  output : w'.output = w.output
  size : w.heap.size ≤ w'.heap.size
  block : ∀ k, k < w.heap.size → k ≠ rb → w'.heap[k]? = w.heap[k]?
theorem Moved.of_below {rb : Nat} {w w' : World} (h : Below w.heap.size w w') : Moved rb w w' := ⟨h.os, h.tape, h.output, h.size, fun k hk _ => h.block k hk⟩
theorem Moved.refl (rb : Nat) (w : World) : Moved rb w w := .of_below (Below.refl _ _)
theorem Moved.trans {rb : Nat} {a b c : World} (h1 : Moved rb a b) (h2 : Moved rb b c) : Moved rb a c :=
  ⟨h2.os.trans h1.os, h2.tape.trans h1.tape, h2.output.trans h1.output, Nat.le_trans h1.size h2.size, fun k hk hne => (h2.block k (by have := h1.size; omega) hne).trans (h1.block k hk hne)⟩
theorem Moved.below {rb B : Nat} {w w' : World} (h : Moved rb w w') (h1 : B ≤ rb) (h2 : B ≤ w.heap.size) : Below B w w' := ⟨h.os, h.tape, h.output, h.size, fun k hk => h.block k (by omega) (by omega)⟩
theorem Moved.set (rb j : Nat) (w : World) (v : Value) : Moved rb w (w.setCell ⟨rb, j, none⟩ v) := by
  have h := (Below.refl 0 w).setCell (p := ⟨rb, j, none⟩) (Nat.zero_le _) v
  exact ⟨h.os, h.tape, h.output, h.size, fun k hk hne => far1 hne⟩
theorem RAt.kept {rb : Nat} {w w' : World} {s : ByteArray} {at_ : Nat} (h : RAt w rb s at_) (hb : Below w.heap.size w w') : RAt w' rb s at_ := (hb.block rb (lt_of_block h)).trans h
theorem RAt.cells {rb : Nat} {w : World} {s : ByteArray} {at_ : Nat} (h : RAt w rb s at_) : w.cell? ⟨rb, 0, none⟩ = some (.string s) ∧ w.cell? ⟨rb, 1, none⟩ = some (.int .i64 at_) ∧ ∀ j, w.frozen? ⟨rb, j, none⟩ = false :=
  ⟨by rw [Lib.cell_of_heap h]; rfl, by rw [Lib.cell_of_heap h]; rfl, fun j => Lib.frozen_of_heap h j⟩
theorem RAt.set {rb : Nat} {w : World} {s : ByteArray} {at_ : Nat} (h : RAt w rb s at_) (z : Int) (n : Nat) (hz : z = n) : RAt (w.setCell ⟨rb, 1, none⟩ (.int .i64 z)) rb s n := by
  subst hz
  exact Lib.heap_setCell_same h _

set_option maxHeartbeats 1000000 in
theorem toosoon_any (rb : Nat) (s : ByteArray) (at_ : Nat) (w : World) (h : RAt w rb s at_) :
    Calls Tryz.prog 96 #[.pointer (some ⟨rb, 0, none⟩)] w fun e w' => e = gaveUp s.size ∧ w = w' := by
  obtain ⟨c0, c1, c2⟩ := h.cells
  clear h
  go_enter Tryz.func96, Tryz.ntmps96
  go_wp2_with fail
  refine (giveup_any s.size _).mono ?_
  rintro e w' ⟨rfl, rfl⟩
  go_wp2
  exact ⟨rfl, rfl, rfl⟩

set_option maxHeartbeats 1000000 in
theorem atend_any (rb : Nat) (s : ByteArray) (at_ : Nat) (w : World) (h : RAt w rb s at_) :
    Calls Tryz.prog 84 #[.pointer (some ⟨rb, 0, none⟩)] w fun e w' => e = .returned (.bool (decide (at_ = s.size))) ∧ ∃ k, w' = w.drewN k := by
  obtain ⟨c0, c1, c2⟩ := h.cells
  clear h
  go_enter Tryz.func84, Tryz.ntmps84
  go_wp2
  go_quiet (fail)
  go_wp2
  go_ret
  exact ⟨ret_bool (by by_cases h : at_ = s.size <;> simp [h]; omega), _, rfl⟩
theorem RAt.drewN {rb : Nat} {w : World} {s : ByteArray} {at_ : Nat} (h : RAt w rb s at_) (k : Nat) : RAt (w.drewN k) rb s at_ := h

set_option maxHeartbeats 1000000 in
theorem next_end (rb : Nat) (s : ByteArray) (w : World) (h : RAt w rb s s.size) :
    Calls Tryz.prog 95 #[.pointer (some ⟨rb, 0, none⟩)] w fun e w' => e = gaveUp s.size ∧ Moved rb w w' := by
  have HR : Hid (RAt w rb s s.size) := h
  clear h
  go_enter Tryz.func95, Tryz.ntmps95
  go_wp2_with fail
  refine (atend_any rb s s.size _ HR.out).mono ?_
  rintro e w1 ⟨rfl, k, rfl⟩
  rw [show decide (s.size = s.size) = true from by simp]
  go_wp2_with fail
  refine (toosoon_any rb s s.size (w.drewN k) HR.out).mono ?_
  rintro e w' ⟨rfl, rfl⟩
  go_wp2
  exact ⟨rfl, rfl, .of_below (below_drewN0 _ _ _)⟩

set_option maxHeartbeats 1000000 in
theorem next_some (rb : Nat) (s : ByteArray) (at_ : Nat) (w : World) (h : RAt w rb s at_) (hlt : at_ < s.size) (hs : s.size ≤ 9223372036854775806) :
    Calls Tryz.prog 95 #[.pointer (some ⟨rb, 0, none⟩)] w fun e w' => e = .returned (.int .u8 (s[at_]).toNat) ∧ RAt w' rb s (at_ + 1) ∧ Moved rb w w' := by
  have HR0 : Hid (RAt w rb s at_) := h
  have HR : Hid (RAt (w.setCell ⟨rb, 1, none⟩ (.int .i64 ((at_ : Int) + 1))) rb s (at_ + 1)) := h.set _ _ (by omega)
  clear h
  go_enter Tryz.func95, Tryz.ntmps95
  go_wp2_with fail
  refine (atend_any rb s at_ _ HR0.out).mono ?_
  rintro e w1 ⟨rfl, nk, rfl⟩
  rw [show decide (at_ = s.size) = false from by simp; omega]
  obtain ⟨c0, c1, c2⟩ := (HR0.out.drewN nk).cells
  have q1 : (at_ : Int) < (s.size : Int) := by omega
  have q2 : (0 : Int) ≤ (at_ : Int) := by omega
  have q3 : IntKind.i64.wrap ((at_ : Int) + 1 - 1) = at_ := by rw [IntKind.wrap_i64]; omega
  have d0 : ((w.drewN nk).setCell ⟨rb, 1, none⟩ (.int .i64 ((at_ : Int) + 1))).cell? ⟨rb, 0, none⟩ = some (.string s) := (RAt.cells HR.out).1
  have d1 : ((w.drewN nk).setCell ⟨rb, 1, none⟩ (.int .i64 ((at_ : Int) + 1))).cell? ⟨rb, 1, none⟩ = some (.int .i64 ((at_ : Int) + 1)) := (RAt.cells HR.out).2.1
  go_wp2
  go_quiet (fail)
  go_wp2
  go_ret
  exact ⟨rfl, HR.out, ((Moved.of_below (below_drewN0 _ _ _)).trans (Moved.set _ _ _ _)).trans (.of_below (below_drewN0 _ _ _))⟩

set_option maxHeartbeats 1000000 in
theorem at_any (rb : Nat) (s : ByteArray) (at_ : Nat) (w : World) (h : RAt w rb s at_) :
    Calls Tryz.prog 85 #[.pointer (some ⟨rb, 0, none⟩)] w fun e w' => e = .returned (.int .i64 at_) ∧ w = w' := by
  obtain ⟨c0, c1, c2⟩ := h.cells
  clear h
  go_enter Tryz.func85, Tryz.ntmps85
  go_wp2
  go_ret
  exact ⟨rfl, rfl⟩
end Go.Proofs.YtabpiaaknjcnkabGreat
