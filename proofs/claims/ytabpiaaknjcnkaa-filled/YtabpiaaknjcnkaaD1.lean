/-
  The walks over the Reader.
-/
import Derived.Test.YtabpiaaknjcnkaaE2
import Derived.Test.YtabpiaaknjcnkaaPN
import Derived.WalkLawsBesides
namespace Go.Proofs.Ytabpiaaknjcnkaa
open Go.RowKit
set_option linter.unusedVariables false
set_option linter.unusedSimpArgs false
set_option maxRecDepth 100000

set_option maxHeartbeats 1000000 in
theorem giveup_any (p : Int) (w : World) :
    Calls Try.prog 79 #[.int .i64 p] w fun e w' => e = .panicked [{ v := .iface 97 (.agg #[.int .i64 p]), recovered := false }] ∧ w' = w := by
  go_enter Try.func79, Try.ntmps79
  go_wp2
  exact ⟨rfl, rfl, rfl⟩

/-- A panic that tells a place. -/
abbrev gaveUp (p : Nat) : Ending := .panicked [{ v := .iface 97 (.agg #[.int .i64 p]), recovered := false }]
/-- A reader stands there. -/
def RAt (w : World) (rb : Nat) (s : ByteArray) (at_ : Nat) : Prop := w.heap[rb]? = some (.cells #[.string s, .int .i64 at_] 122 (0, 0))
/-- What reading leaves: all but the reader's own block. -/
structure Moved (rb : Nat) (w w' : World) : Prop where
  os : w'.os = w.os
  tape : w'.tape = w.tape
  output : w'.output = w.output
  size : w.heap.size ≤ w'.heap.size
  block : ∀ k, k < w.heap.size → k ≠ rb → w'.heap[k]? = w.heap[k]?
theorem Moved.of_below {rb : Nat} {w w' : World} (h : Below w.heap.size w w') : Moved rb w w' := ⟨h.os, h.tape, h.output, h.size, fun k hk _ => h.block k hk⟩
theorem Moved.refl (rb : Nat) (w : World) : Moved rb w w := .of_below (Below.refl _ _)
theorem Moved.trans {rb : Nat} {a b c : World} (h1 : Moved rb a b) (h2 : Moved rb b c) : Moved rb a c :=
  ⟨h2.os.trans h1.os, h2.tape.trans h1.tape, h2.output.trans h1.output, Nat.le_trans h1.size h2.size, fun k hk hne => (h2.block k (by have := h1.size; omega) hne).trans (h1.block k hk hne)⟩
theorem Moved.below {rb B : Nat} {w w' : World} (h : Moved rb w w') (h1 : B ≤ rb) (h2 : B ≤ w.heap.size) : Below B w w' := ⟨h.os, h.tape, h.output, h.size, fun k hk => h.block k (by omega) (by omega)⟩
theorem Moved.set (rb j : Nat) (w : World) (v : Value) : Moved rb w (w.setCell ⟨rb, j, none⟩ v) := by
  have h := (Below.refl 0 w).setCell (p := ⟨rb, j, none⟩) (Nat.zero_le _) v
  exact ⟨h.os, h.tape, h.output, h.size, fun k hk hne => far1 hne⟩
theorem RAt.kept {rb : Nat} {w w' : World} {s : ByteArray} {at_ : Nat} (h : RAt w rb s at_) (hb : Below w.heap.size w w') : RAt w' rb s at_ := (hb.block rb (lt_of_block h)).trans h
theorem RAt.cells {rb : Nat} {w : World} {s : ByteArray} {at_ : Nat} (h : RAt w rb s at_) : w.cell? ⟨rb, 0, none⟩ = some (.string s) ∧ w.cell? ⟨rb, 1, none⟩ = some (.int .i64 at_) ∧ ∀ j, w.frozen? ⟨rb, j, none⟩ = false :=
  ⟨by rw [Lib.cell_of_heap h]; rfl, by rw [Lib.cell_of_heap h]; rfl, fun j => Lib.frozen_of_heap h j⟩
theorem RAt.set {rb : Nat} {w : World} {s : ByteArray} {at_ : Nat} (h : RAt w rb s at_) (z : Int) (n : Nat) (hz : z = n) : RAt (w.setCell ⟨rb, 1, none⟩ (.int .i64 z)) rb s n := by
  subst hz
  exact Lib.heap_setCell_same h _

set_option maxHeartbeats 1000000 in
theorem toosoon_any (rb : Nat) (s : ByteArray) (at_ : Nat) (w : World) (h : RAt w rb s at_) :
    Calls Try.prog 98 #[.pointer (some ⟨rb, 0, none⟩)] w fun e w' => e = gaveUp s.size ∧ w = w' := by
  obtain ⟨c0, c1, c2⟩ := h.cells
  clear h
  go_enter Try.func98, Try.ntmps98
  go_wp2_with fail
  refine (giveup_any s.size _).mono ?_
  rintro e w' ⟨rfl, rfl⟩
  go_wp2
  exact ⟨rfl, rfl, rfl⟩

set_option maxHeartbeats 1000000 in
theorem atend_any (rb : Nat) (s : ByteArray) (at_ : Nat) (w : World) (h : RAt w rb s at_) :
    Calls Try.prog 81 #[.pointer (some ⟨rb, 0, none⟩)] w fun e w' => e = .returned (.bool (decide (at_ = s.size))) ∧ ∃ k, w' = w.drewN k := by
  obtain ⟨c0, c1, c2⟩ := h.cells
  clear h
  go_enter Try.func81, Try.ntmps81
  go_wp2
  go_quiet (fail)
  go_wp2
  go_ret
  exact ⟨ret_bool (by by_cases h : at_ = s.size <;> simp [h]; omega), _, rfl⟩
theorem RAt.drewN {rb : Nat} {w : World} {s : ByteArray} {at_ : Nat} (h : RAt w rb s at_) (k : Nat) : RAt (w.drewN k) rb s at_ := h

set_option maxHeartbeats 1000000 in
theorem next_end (rb : Nat) (s : ByteArray) (w : World) (h : RAt w rb s s.size) :
    Calls Try.prog 91 #[.pointer (some ⟨rb, 0, none⟩)] w fun e w' => e = gaveUp s.size ∧ Moved rb w w' := by
  have HR : Hid (RAt w rb s s.size) := h
  clear h
  go_enter Try.func91, Try.ntmps91
  go_wp2_with fail
  refine (atend_any rb s s.size _ HR.out).mono ?_
  rintro e w1 ⟨rfl, k, rfl⟩
  rw [show decide (s.size = s.size) = true from by simp]
  go_wp2_with fail
  refine (toosoon_any rb s s.size (w.drewN k) HR.out).mono ?_
  rintro e w' ⟨rfl, rfl⟩
  go_wp2
  exact ⟨rfl, rfl, .of_below (below_drewN0 _ _ _)⟩

set_option maxHeartbeats 1000000 in
theorem next_some (rb : Nat) (s : ByteArray) (at_ : Nat) (w : World) (h : RAt w rb s at_) (hlt : at_ < s.size) (hs : s.size ≤ 9223372036854775806) :
    Calls Try.prog 91 #[.pointer (some ⟨rb, 0, none⟩)] w fun e w' => e = .returned (.int .u8 (s[at_]).toNat) ∧ RAt w' rb s (at_ + 1) ∧ Moved rb w w' := by
  have HR0 : Hid (RAt w rb s at_) := h
  have HR : Hid (RAt (w.setCell ⟨rb, 1, none⟩ (.int .i64 ((at_ : Int) + 1))) rb s (at_ + 1)) := h.set _ _ (by omega)
  clear h
  go_enter Try.func91, Try.ntmps91
  go_wp2_with fail
  refine (atend_any rb s at_ _ HR0.out).mono ?_
  rintro e w1 ⟨rfl, nk, rfl⟩
  rw [show decide (at_ = s.size) = false from by simp; omega]
  obtain ⟨c0, c1, c2⟩ := (HR0.out.drewN nk).cells
  have q1 : (at_ : Int) < (s.size : Int) := by omega
  have q2 : (0 : Int) ≤ (at_ : Int) := by omega
  have q3 : IntKind.i64.wrap ((at_ : Int) + 1 - 1) = at_ := by rw [IntKind.wrap_i64]; omega
  have d0 : ((w.drewN nk).setCell ⟨rb, 1, none⟩ (.int .i64 ((at_ : Int) + 1))).cell? ⟨rb, 0, none⟩ = some (.string s) := (RAt.cells HR.out).1
  have d1 : ((w.drewN nk).setCell ⟨rb, 1, none⟩ (.int .i64 ((at_ : Int) + 1))).cell? ⟨rb, 1, none⟩ = some (.int .i64 ((at_ : Int) + 1)) := (RAt.cells HR.out).2.1
  go_wp2
  go_quiet (fail)
  go_wp2
  go_ret
  exact ⟨rfl, HR.out, ((Moved.of_below (below_drewN0 _ _ _)).trans (Moved.set _ _ _ _)).trans (.of_below (below_drewN0 _ _ _))⟩

set_option maxHeartbeats 1000000 in
theorem at_any (rb : Nat) (s : ByteArray) (at_ : Nat) (w : World) (h : RAt w rb s at_) :
    Calls Try.prog 77 #[.pointer (some ⟨rb, 0, none⟩)] w fun e w' => e = .returned (.int .i64 at_) ∧ w = w' := by
  obtain ⟨c0, c1, c2⟩ := h.cells
  clear h
  go_enter Try.func77, Try.ntmps77
  go_wp2
  go_ret
  exact ⟨rfl, rfl⟩
end Go.Proofs.Ytabpiaaknjcnkaa
