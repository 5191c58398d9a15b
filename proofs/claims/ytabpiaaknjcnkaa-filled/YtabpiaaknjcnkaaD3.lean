/-
  The walks over Text, End, readCopy and readOp.
-/
import Derived.Test.YtabpiaaknjcnkaaD2
namespace Go.Proofs.Ytabpiaaknjcnkaa
open Go.RowKit
set_option linter.unusedVariables false
set_option linter.unusedSimpArgs false
set_option maxRecDepth 100000

set_option maxHeartbeats 1000000 in
theorem text_end (rb : Nat) (s : ByteArray) (at_ n : Nat) (w : World) (h : RAt w rb s at_) (hlt : at_ ≤ s.size) (hn : s.size < at_ + n) (hs : s.size ≤ 9223372036854775000) (hn2 : n ≤ 2000) :
    Calls Try.prog 93 #[.pointer (some ⟨rb, 0, none⟩), .int .i64 n] w fun e w' => e = gaveUp s.size ∧ Moved rb w w' := by
  obtain ⟨c0, c1, c2⟩ := h.cells
  have HR : Hid (RAt w rb s at_) := h
  have q1 : IntKind.i64.wrap ((s.size : Int) - (at_ : Int)) = (s.size : Int) - at_ := by rw [IntKind.wrap_i64]; omega
  have q2 : (s.size : Int) - (at_ : Int) < (n : Int) := by omega
  clear h
  go_enter Try.func93, Try.ntmps93
  go_wp2
  go_quiet (fail)
  go_wp2_with fail
  refine (toosoon_any rb s at_ (w.drewN nq) HR.out).mono ?_
  rintro e w' ⟨rfl, rfl⟩
  go_wp2
  exact ⟨rfl, rfl, .of_below (below_drewN0 _ _ _)⟩

set_option maxHeartbeats 1000000 in
theorem text_some (rb : Nat) (s : ByteArray) (at_ n : Nat) (w : World) (h : RAt w rb s at_) (hn : at_ + n ≤ s.size) (hs : s.size ≤ 9223372036854775000) (hn2 : n ≤ 2000) :
    Calls Try.prog 93 #[.pointer (some ⟨rb, 0, none⟩), .int .i64 n] w fun e w' => e = .returned (.string (s.extract at_ (at_ + n))) ∧ RAt w' rb s (at_ + n) ∧ Moved rb w w' := by
  obtain ⟨c0, c1, c2⟩ := h.cells
  have HR : Hid (RAt (w.setCell ⟨rb, 1, none⟩ (.int .i64 ((at_ : Int) + n))) rb s (at_ + n)) := h.set _ _ (by omega)
  have q1 : IntKind.i64.wrap ((s.size : Int) - (at_ : Int)) = (s.size : Int) - at_ := by rw [IntKind.wrap_i64]; omega
  have q2 : ¬ (s.size : Int) - (at_ : Int) < (n : Int) := by omega
  have q3 : IntKind.i64.wrap ((at_ : Int) + (n : Int)) = (at_ : Int) + n := by rw [IntKind.wrap_i64]; omega
  clear h
  go_enter Try.func93, Try.ntmps93
  go_wp2
  go_quiet (fail)
  go_wp2
  have d0 : ((w.drewN nq).setCell ⟨rb, 1, none⟩ (.int .i64 ((at_ : Int) + n))).cell? ⟨rb, 0, none⟩ = some (.string s) := (RAt.cells HR.out).1
  have d1 : ((w.drewN nq).setCell ⟨rb, 1, none⟩ (.int .i64 ((at_ : Int) + n))).cell? ⟨rb, 1, none⟩ = some (.int .i64 ((at_ : Int) + n)) := (RAt.cells HR.out).2.1
  have HC : Hid (∀ W, Calls Try.prog 67 #[.string (s.extract at_ (at_ + n))] W fun e w' => e = .returned (.string (s.extract at_ (at_ + n))) ∧ Below W.heap.size W w') := fun W => clone_any _ W (by rw [size_ext _ _ _ hn]; omega)
  have HR1 : Hid (RAt ((w.drewN nq).setCell ⟨rb, 1, none⟩ (.int .i64 ((at_ : Int) + n))) rb s (at_ + n)) := HR.out
  have hrb : rb < ((w.drewN nq).setCell ⟨rb, 1, none⟩ (.int .i64 ((at_ : Int) + n))).heap.size := lt_of_block HR1.out
  have HM1 : Hid (Moved rb w ((w.drewN nq).setCell ⟨rb, 1, none⟩ (.int .i64 ((at_ : Int) + n)))) := (Moved.of_below (below_drewN0 _ _ _)).trans (Moved.set _ _ _ _)
  generalize ((w.drewN nq).setCell ⟨rb, 1, none⟩ (.int .i64 ((at_ : Int) + n))) = W1 at *
  have r1 : (0 : Int) ≤ (at_ : Int) := by omega
  have r2 : (at_ : Int) ≤ (at_ : Int) + (n : Int) := by omega
  have r3 : (at_ : Int) + (n : Int) ≤ (s.size : Int) := by omega
  clear HR c0 c1 c2 q1 q2 q3
  go_region_held3 (fun w' => w'.cell? ⟨rb, 0, none⟩ = some (.string s) ∧ w'.cell? ⟨rb, 1, none⟩ = some (.int .i64 ((at_ : Int) + n))) (go_keep)
    (first | (go_at_call 67; refine (HC.out _).mono ?_; rintro e w3 ⟨rfl, hb3⟩; have e0 := (hb3.cell (p := ⟨rb, 0, none⟩) hrb).trans d0; have e1 := (hb3.cell (p := ⟨rb, 1, none⟩) hrb).trans d1))
  have HR3 : Hid (RAt w3 rb s (at_ + n)) := RAt.kept (w := W1.drew) HR1.out hb3
  have HM3 : Hid (Moved rb w w3) := (HM1.out.trans (Moved.of_below (Below.refl _ _).drew)).trans (Moved.of_below hb3)
  clear hb3 e0 e1 HC HR1 HM1 d0 d1
  go_wp2
  go_ret
  exact ⟨rfl, HR3.out, HM3.out⟩

set_option maxHeartbeats 1000000 in
theorem end_more (rb : Nat) (s : ByteArray) (at_ : Nat) (w : World) (h : RAt w rb s at_) (hlt : at_ < s.size) :
    Calls Try.prog 56 #[.pointer (some ⟨rb, 0, none⟩)] w fun e w' => e = gaveUp at_ ∧ Moved rb w w' := by
  have HR : Hid (RAt w rb s at_) := h
  clear h
  go_enter Try.func56, Try.ntmps56
  go_wp2_with fail
  refine (atend_any rb s at_ _ HR.out).mono ?_
  rintro e w1 ⟨rfl, k, rfl⟩
  rw [show decide (at_ = s.size) = false from by simp; omega]
  obtain ⟨c0, c1, c2⟩ := (HR.out.drewN k).cells
  go_wp2_with fail
  refine (giveup_any at_ _).mono ?_
  rintro e w' ⟨rfl, rfl⟩
  go_wp2
  exact ⟨rfl, rfl, .of_below (below_drewN0 _ _ _)⟩
set_option maxHeartbeats 1000000 in
theorem end_none (rb : Nat) (s : ByteArray) (at_ : Nat) (w : World) (h : RAt w rb s at_) (hlt : ¬ at_ < s.size) (hle : at_ ≤ s.size) :
    Calls Try.prog 56 #[.pointer (some ⟨rb, 0, none⟩)] w fun e w' => e = .returned (.tuple #[]) ∧ Moved rb w w' := by
  have HR : Hid (RAt w rb s at_) := h
  clear h
  go_enter Try.func56, Try.ntmps56
  go_wp2_with fail
  refine (atend_any rb s at_ _ HR.out).mono ?_
  rintro e w1 ⟨rfl, k, rfl⟩
  rw [show decide (at_ = s.size) = true from by simp; omega]
  go_wp2
  refine bodyPost_end (results_none rfl _ _ _) rfl ?_
  exact ⟨rfl, .of_below (below_drewN0 _ _ _)⟩

theorem OwnOps.moved {w w' : World} {base rb at_ : Nat} {v : Value} {xs : List DOp} {s : ByteArray} (h : OwnOps w base v xs) (hr : RAt w rb s at_) (hm : Moved rb w w') : OwnOps w' base v xs := by
  refine own_block h (fun g hg => hm.block g (row_own_lt h hg) (fun e => ?_))
  subst e
  rcases h.2 with ⟨hv, _⟩ | ⟨g', cap, cur, hv, _, hb, _⟩
  · rw [hv] at hg; cases hg
  · rw [hv] at hg; cases hg
    unfold RAt at hr
    rw [hb] at hr
    simp at hr

/-- What readCopy does. -/
def CopyPost (rb : Nat) (s : ByteArray) (out : List DOp) (n nx : Nat) (w : World) (e : Ending) (w' : World) : Prop :=
  ((∃ p, e = gaveUp p ∧ (numF s nx = .inl p ∨ ∃ f b, numF s nx = .inr (f, b) ∧ (2000 < f + n ∨ goesOn out f n = true) ∧ p = nx)) ∨
    ∃ f b : Nat, numF s nx = .inr (f, b) ∧ ¬ (2000 < f + n ∨ goesOn out f n = true) ∧ e = .returned (.agg #[.int .i64 f, .int .i64 n, .string ⟨#[]⟩]) ∧ RAt w' rb s b) ∧ Moved rb w w'

theorem isOp_num (f n : Nat) (hn : 0 < n) : isOpB f n ⟨#[]⟩ 2000 = decide (f + n ≤ 2000) := by
  unfold isOpB
  rw [if_pos (by omega), show (⟨#[]⟩ : ByteArray).toList.isEmpty = true from by rw [isEmpty_iff]; rfl]
  simp; omega

end Go.Proofs.Ytabpiaaknjcnkaa
