/-
  The document's does: nothing is done (more).
-/
import Derived.Test.YtabpiaaknjcnkaaGreatXZYZPYLPXVN
import Derived.Deep.DeepCutAuto
namespace Go.Proofs.YtabpiaaknjcnkaaGreat
open Go.RowKit
set_option linter.unusedVariables false
set_option linter.unusedSimpArgs false
set_option maxRecDepth 100000

set_option maxHeartbeats 4000000 in
theorem ydoes_D_full (p : Nat) (b : ByteArray) (tv : Nat → Value) (s : Vlt) (w : World) (hv : YAt w p tv s) (hok : s.Ok) (hsz : b.size ≤ 20000) (h0 : 0 < b.size) (c at_ : Nat) (hnum : numF b 1 = .inr (c, at_)) (hc : c < 4) (hl : (b[0]'h0).toNat = 68) (ops : List DOp) (hd : decF (b.extract at_ b.size) = .inr ops) (hno : (s.ch c).texts ≠ []) (hlast : (s.ch c).last = 2147483647) :
    Calls Tryz.prog 105 #[.pointer (some ⟨p, 0, none⟩), .string b] w fun e w' => e = .returned (.bool false) ∧ Below w.heap.size w w' := by
  have hb0 : b.toList.isEmpty = false := by
    cases h : b.toList.isEmpty
    · rfl
    · have := (isEmpty_iff b).1 h; omega
  obtain ⟨_, hat1, hat2⟩ := numF_ok (by omega) hnum
  have HN : Hid (∀ W : World, Calls Tryz.prog 104 #[.string b, .int .i64 1, .int .i64 3] W fun e w' => e = .returned (.tuple #[.int .i64 c, .int .i64 at_, .int .i64 (-1)]) ∧ W = w') := fun W => by
    have := rnum_any b 1 3 W (by omega) (by omega) (by omega)
    rw [numR_ok hnum (by omega)] at this; exact this
  have k1 := hv.cellF c hc
  have k2 := hv.cellT c hc
  obtain ⟨ao, cap, htv, hcap, hrow⟩ := hv.row c hc
  rw [htv] at k2
  have hp := hv.lt
  have hcI : (c : Int) < 4 := by omega
  have HCAN : Hid (∀ W : World, Calls Tryz.prog 72 #[.agg #[.int .i64 (yF (s.ch c)), .slice ao (s.ch c).texts.length cap]] W fun e w' => e = .returned (.bool (decide ((s.ch c).last ≠ 2147483647))) ∧ Below W.heap.size W w') := fun W => yroom hok W
  have hxs : (b.extract at_ b.size).size ≤ 20000 := by rw [ByteArray.size_extract]; omega
  have HDC : Hid (∀ W : World, Calls Tryz.prog 69 #[.string (b.extract at_ b.size)] W (DecPost (b.extract at_ b.size) W)) := fun W => rdec_any _ W (by omega)
  have hE : decE (b.extract at_ b.size) = 0 := by unfold decE; rw [hd]
  rw [show decide ((s.ch c).last ≠ 2147483647) = false from decide_eq_false (fun h => h hlast)] at HCAN
  unfold DecPost at HDC
  rw [hE] at HDC
  generalize decL (b.extract at_ b.size) = DL at *
  generalize decP (b.extract at_ b.size) = DP at *
  have hpos : ¬ ((s.ch c).texts.length : Int) = 0 := by have := List.length_pos_iff.2 hno; omega
  generalize yF (s.ch c) = F at *
  generalize (s.ch c).texts.length = L at *
  clear hv hok htv hcap hrow hnum hd hE hno hlast
  go_enter Tryz.func105, Tryz.ntmps105
  go_wp2_with fail
  refine (HN.out _).mono ?_
  rintro e w0 ⟨rfl, rfl⟩
  go_wp2_with fail
  refine (HCAN.out _).mono ?_
  rintro e w1 ⟨rfl, b1⟩
  have B1 : Below w.heap.size w w1 := ((Below.refl w.heap.size w).alloc (Nat.le_refl _) _).trans (b1.mono (by simp))
  have ob1 := (b1.block w.heap.size (by simp)).trans (heap_alloc_new w (.cells #[.int .i64 F, .slice ao L cap] 66))
  have x0 : w1.cell? ⟨w.heap.size, 0, none⟩ = some (.int .i64 F) := by rw [Lib.cell_of_heap ob1]; rfl
  have x1 : w1.cell? ⟨w.heap.size, 1, none⟩ = some (.slice ao L cap) := by rw [Lib.cell_of_heap ob1]; rfl
  have hs1 : w.heap.size < w1.heap.size := lt_of_block ob1
  clear k1 k2 b1
  go_wp2_with fail
  refine (HDC.out _).mono ?_
  rintro e w2 ⟨⟨v2, rfl, o2⟩, b2⟩
  have B2 : Below w.heap.size w w2 := B1.trans (b2.mono B1.size)
  have ob2 := (b2.block w.heap.size hs1).trans ob1
  have y0 : w2.cell? ⟨w.heap.size, 0, none⟩ = some (.int .i64 F) := by rw [Lib.cell_of_heap ob2]; rfl
  have y1 : w2.cell? ⟨w.heap.size, 1, none⟩ = some (.slice ao L cap) := by rw [Lib.cell_of_heap ob2]; rfl
  have hs2 : w.heap.size < w2.heap.size := lt_of_block ob2
  clear B1 ob1 b2 o2 ob2
  go_wp2
  go_ret
  exact ⟨rfl, B2⟩
set_option maxHeartbeats 4000000 in
theorem ydoes_B_num (p : Nat) (b : ByteArray) (tv : Nat → Value) (s : Vlt) (w : World) (hv : YAt w p tv s) (hok : s.Ok) (hsz : b.size ≤ 20000) (h0 : 0 < b.size) (c at_ : Nat) (hnum : numF b 1 = .inr (c, at_)) (hc : c < 4) (hl : (b[0]'h0).toNat = 66) (q : Nat) (hnum2 : numF b at_ = .inl q) :
    Calls Tryz.prog 105 #[.pointer (some ⟨p, 0, none⟩), .string b] w fun e w' => e = .returned (.bool false) ∧ Below w.heap.size w w' := by
  have hb0 : b.toList.isEmpty = false := by
    cases h : b.toList.isEmpty
    · rfl
    · have := (isEmpty_iff b).1 h; omega
  obtain ⟨_, hat1, hat2⟩ := numF_ok (by omega) hnum
  have HN : Hid (∀ W : World, Calls Tryz.prog 104 #[.string b, .int .i64 1, .int .i64 3] W fun e w' => e = .returned (.tuple #[.int .i64 c, .int .i64 at_, .int .i64 (-1)]) ∧ W = w') := fun W => by
    have := rnum_any b 1 3 W (by omega) (by omega) (by omega)
    rw [numR_ok hnum (by omega)] at this; exact this
  have k1 := hv.cellF c hc
  have k2 := hv.cellT c hc
  obtain ⟨ao, cap, htv, hcap, hrow⟩ := hv.row c hc
  rw [htv] at k2
  have hp := hv.lt
  have hcI : (c : Int) < 4 := by omega
  have HCAN : Hid (∀ W : World, Calls Tryz.prog 72 #[.agg #[.int .i64 (yF (s.ch c)), .slice ao (s.ch c).texts.length cap]] W fun e w' => e = .returned (.bool (decide ((s.ch c).last ≠ 2147483647))) ∧ Below W.heap.size W w') := fun W => yroom hok W
  have HN2 : Hid (∀ W : World, Calls Tryz.prog 104 #[.string b, .int .i64 at_, .int .i64 2147483647] W fun e w' => e = .returned (.tuple #[.int .i64 0, .int .i64 0, .int .i64 q]) ∧ W = w') := fun W => by
    have := rnum_any b at_ 2147483647 W (by omega) (by omega) (by omega)
    rw [numR_bad hnum2] at this; exact this
  generalize decide ((s.ch c).last ≠ 2147483647) = cn at *
  generalize yF (s.ch c) = F at *
  generalize (s.ch c).texts.length = L at *
  clear hv hok htv hcap hrow hnum hnum2
  go_enter Tryz.func105, Tryz.ntmps105
  go_wp2_with fail
  refine (HN.out _).mono ?_
  rintro e w0 ⟨rfl, rfl⟩
  go_wp2_with fail
  refine (HCAN.out _).mono ?_
  rintro e w1 ⟨rfl, b1⟩
  have B1 : Below w.heap.size w w1 := ((Below.refl w.heap.size w).alloc (Nat.le_refl _) _).trans (b1.mono (by simp))
  have ob1 := (b1.block w.heap.size (by simp)).trans (heap_alloc_new w (.cells #[.int .i64 F, .slice ao L cap] 66))
  have x0 : w1.cell? ⟨w.heap.size, 0, none⟩ = some (.int .i64 F) := by rw [Lib.cell_of_heap ob1]; rfl
  have x1 : w1.cell? ⟨w.heap.size, 1, none⟩ = some (.slice ao L cap) := by rw [Lib.cell_of_heap ob1]; rfl
  have hs1 : w.heap.size < w1.heap.size := lt_of_block ob1
  clear k1 k2 b1
  go_wp2_with fail
  refine (HN2.out _).mono ?_
  rintro e w2 ⟨rfl, rfl⟩
  go_wp2
  go_ret
  exact ⟨rfl, B1⟩
set_option maxHeartbeats 4000000 in
theorem ydoes_P_num (p : Nat) (b : ByteArray) (tv : Nat → Value) (s : Vlt) (w : World) (hv : YAt w p tv s) (hok : s.Ok) (hsz : b.size ≤ 20000) (h0 : 0 < b.size) (c at_ : Nat) (hnum : numF b 1 = .inr (c, at_)) (hc : c < 4) (hl : (b[0]'h0).toNat = 80) (q : Nat) (hnum2 : numF b at_ = .inl q) :
    Calls Tryz.prog 105 #[.pointer (some ⟨p, 0, none⟩), .string b] w fun e w' => e = .returned (.bool false) ∧ Below w.heap.size w w' := by
  have hb0 : b.toList.isEmpty = false := by
    cases h : b.toList.isEmpty
    · rfl
    · have := (isEmpty_iff b).1 h; omega
  obtain ⟨_, hat1, hat2⟩ := numF_ok (by omega) hnum
  have HN : Hid (∀ W : World, Calls Tryz.prog 104 #[.string b, .int .i64 1, .int .i64 3] W fun e w' => e = .returned (.tuple #[.int .i64 c, .int .i64 at_, .int .i64 (-1)]) ∧ W = w') := fun W => by
    have := rnum_any b 1 3 W (by omega) (by omega) (by omega)
    rw [numR_ok hnum (by omega)] at this; exact this
  have k1 := hv.cellF c hc
  have k2 := hv.cellT c hc
  obtain ⟨ao, cap, htv, hcap, hrow⟩ := hv.row c hc
  rw [htv] at k2
  have hp := hv.lt
  have hcI : (c : Int) < 4 := by omega
  have HCAN : Hid (∀ W : World, Calls Tryz.prog 72 #[.agg #[.int .i64 (yF (s.ch c)), .slice ao (s.ch c).texts.length cap]] W fun e w' => e = .returned (.bool (decide ((s.ch c).last ≠ 2147483647))) ∧ Below W.heap.size W w') := fun W => yroom hok W
  have HN2 : Hid (∀ W : World, Calls Tryz.prog 104 #[.string b, .int .i64 at_, .int .i64 2147483647] W fun e w' => e = .returned (.tuple #[.int .i64 0, .int .i64 0, .int .i64 q]) ∧ W = w') := fun W => by
    have := rnum_any b at_ 2147483647 W (by omega) (by omega) (by omega)
    rw [numR_bad hnum2] at this; exact this
  generalize decide ((s.ch c).last ≠ 2147483647) = cn at *
  generalize yF (s.ch c) = F at *
  generalize (s.ch c).texts.length = L at *
  clear hv hok htv hcap hrow hnum hnum2
  go_enter Tryz.func105, Tryz.ntmps105
  go_wp2_with fail
  refine (HN.out _).mono ?_
  rintro e w0 ⟨rfl, rfl⟩
  go_wp2_with fail
  refine (HCAN.out _).mono ?_
  rintro e w1 ⟨rfl, b1⟩
  have B1 : Below w.heap.size w w1 := ((Below.refl w.heap.size w).alloc (Nat.le_refl _) _).trans (b1.mono (by simp))
  have ob1 := (b1.block w.heap.size (by simp)).trans (heap_alloc_new w (.cells #[.int .i64 F, .slice ao L cap] 66))
  have x0 : w1.cell? ⟨w.heap.size, 0, none⟩ = some (.int .i64 F) := by rw [Lib.cell_of_heap ob1]; rfl
  have x1 : w1.cell? ⟨w.heap.size, 1, none⟩ = some (.slice ao L cap) := by rw [Lib.cell_of_heap ob1]; rfl
  have hs1 : w.heap.size < w1.heap.size := lt_of_block ob1
  clear k1 k2 b1
  go_wp2_with fail
  refine (HN2.out _).mono ?_
  rintro e w2 ⟨rfl, rfl⟩
  go_wp2
  go_ret
  exact ⟨rfl, B1⟩
set_option maxHeartbeats 4000000 in
theorem ydoes_B_zero (p : Nat) (b : ByteArray) (tv : Nat → Value) (s : Vlt) (w : World) (hv : YAt w p tv s) (hok : s.Ok) (hsz : b.size ≤ 20000) (h0 : 0 < b.size) (c at_ : Nat) (hnum : numF b 1 = .inr (c, at_)) (hc : c < 4) (n nx : Nat) (hnum2 : numF b at_ = .inr (n, nx)) (hl : (b[0]'h0).toNat = 66) (hz : n = 0) :
    Calls Tryz.prog 105 #[.pointer (some ⟨p, 0, none⟩), .string b] w fun e w' => e = .returned (.bool false) ∧ Below w.heap.size w w' := by
  have hb0 : b.toList.isEmpty = false := by
    cases h : b.toList.isEmpty
    · rfl
    · have := (isEmpty_iff b).1 h; omega
  obtain ⟨_, hat1, hat2⟩ := numF_ok (by omega) hnum
  have HN : Hid (∀ W : World, Calls Tryz.prog 104 #[.string b, .int .i64 1, .int .i64 3] W fun e w' => e = .returned (.tuple #[.int .i64 c, .int .i64 at_, .int .i64 (-1)]) ∧ W = w') := fun W => by
    have := rnum_any b 1 3 W (by omega) (by omega) (by omega)
    rw [numR_ok hnum (by omega)] at this; exact this
  have k1 := hv.cellF c hc
  have k2 := hv.cellT c hc
  obtain ⟨ao, cap, htv, hcap, hrow⟩ := hv.row c hc
  rw [htv] at k2
  have hp := hv.lt
  have hcI : (c : Int) < 4 := by omega
  have HCAN : Hid (∀ W : World, Calls Tryz.prog 72 #[.agg #[.int .i64 (yF (s.ch c)), .slice ao (s.ch c).texts.length cap]] W fun e w' => e = .returned (.bool (decide ((s.ch c).last ≠ 2147483647))) ∧ Below W.heap.size W w') := fun W => yroom hok W
  have HN2 : Hid (∀ W : World, Calls Tryz.prog 104 #[.string b, .int .i64 at_, .int .i64 2147483647] W fun e w' => e = .returned (.tuple #[.int .i64 n, .int .i64 nx, .int .i64 (-1)]) ∧ W = w') := fun W => by
    have := rnum_any b at_ 2147483647 W (by omega) (by omega) (by omega)
    rw [numR_ok hnum2 (by have := (numF_ok (by omega) hnum2).1; omega)] at this; exact this
  obtain ⟨hn2, hnx1, hnx2⟩ := numF_ok (by omega) hnum2
  have HHAS : Hid (∀ W : World, Calls Tryz.prog 77 #[.agg #[.int .i64 (yF (s.ch c)), .slice ao (s.ch c).texts.length cap], .int .i64 n] W fun e w' => e = .returned (.bool (hasB (s.ch c) n)) ∧ Below W.heap.size W w') := fun W => yhas_chain hok n W
  have u1 : IntKind.i64.wrap ((b.size : Int) - (nx : Int)) = (b.size : Int) - (nx : Int) := by rw [IntKind.wrap_i64]; omega
  have hzI : ¬ (0 : Int) < (n : Int) := by omega
  generalize decide ((s.ch c).last ≠ 2147483647) = cn at *
  generalize hasB (s.ch c) n = hs at *
  generalize yF (s.ch c) = F at *
  generalize (s.ch c).texts.length = L at *
  clear hv hok htv hcap hrow hnum hnum2 hz
  go_enter Tryz.func105, Tryz.ntmps105
  go_wp2_with fail
  refine (HN.out _).mono ?_
  rintro e w0 ⟨rfl, rfl⟩
  go_wp2_with fail
  refine (HCAN.out _).mono ?_
  rintro e w1 ⟨rfl, b1⟩
  have B1 : Below w.heap.size w w1 := ((Below.refl w.heap.size w).alloc (Nat.le_refl _) _).trans (b1.mono (by simp))
  have ob1 := (b1.block w.heap.size (by simp)).trans (heap_alloc_new w (.cells #[.int .i64 F, .slice ao L cap] 66))
  have x0 : w1.cell? ⟨w.heap.size, 0, none⟩ = some (.int .i64 F) := by rw [Lib.cell_of_heap ob1]; rfl
  have x1 : w1.cell? ⟨w.heap.size, 1, none⟩ = some (.slice ao L cap) := by rw [Lib.cell_of_heap ob1]; rfl
  have hs1 : w.heap.size < w1.heap.size := lt_of_block ob1
  clear k1 k2 b1
  go_wp2_with fail
  refine (HN2.out _).mono ?_
  rintro e w0 ⟨rfl, rfl⟩
  go_wp2_with fail
  refine (HHAS.out _).mono ?_
  rintro e w2 ⟨rfl, b2⟩
  have B2 : Below w.heap.size w w2 := B1.trans (b2.mono B1.size)
  have ob2 := (b2.block w.heap.size hs1).trans ob1
  have y0 : w2.cell? ⟨w.heap.size, 0, none⟩ = some (.int .i64 F) := by rw [Lib.cell_of_heap ob2]; rfl
  have y1 : w2.cell? ⟨w.heap.size, 1, none⟩ = some (.slice ao L cap) := by rw [Lib.cell_of_heap ob2]; rfl
  have hs2 : w.heap.size < w2.heap.size := lt_of_block ob2
  clear x0 x1 b2 B1 ob1
  go_wp2
  go_ret
  exact ⟨rfl, B2⟩
set_option maxHeartbeats 4000000 in
theorem ydoes_B_had (p : Nat) (b : ByteArray) (tv : Nat → Value) (s : Vlt) (w : World) (hv : YAt w p tv s) (hok : s.Ok) (hsz : b.size ≤ 20000) (h0 : 0 < b.size) (c at_ : Nat) (hnum : numF b 1 = .inr (c, at_)) (hc : c < 4) (n nx : Nat) (hnum2 : numF b at_ = .inr (n, nx)) (hl : (b[0]'h0).toNat = 66) (hz : 0 < n) (hno : (s.ch c).texts ≠ []) :
    Calls Tryz.prog 105 #[.pointer (some ⟨p, 0, none⟩), .string b] w fun e w' => e = .returned (.bool false) ∧ Below w.heap.size w w' := by
  have hb0 : b.toList.isEmpty = false := by
    cases h : b.toList.isEmpty
    · rfl
    · have := (isEmpty_iff b).1 h; omega
  obtain ⟨_, hat1, hat2⟩ := numF_ok (by omega) hnum
  have HN : Hid (∀ W : World, Calls Tryz.prog 104 #[.string b, .int .i64 1, .int .i64 3] W fun e w' => e = .returned (.tuple #[.int .i64 c, .int .i64 at_, .int .i64 (-1)]) ∧ W = w') := fun W => by
    have := rnum_any b 1 3 W (by omega) (by omega) (by omega)
    rw [numR_ok hnum (by omega)] at this; exact this
  have k1 := hv.cellF c hc
  have k2 := hv.cellT c hc
  obtain ⟨ao, cap, htv, hcap, hrow⟩ := hv.row c hc
  rw [htv] at k2
  have hp := hv.lt
  have hcI : (c : Int) < 4 := by omega
  have HCAN : Hid (∀ W : World, Calls Tryz.prog 72 #[.agg #[.int .i64 (yF (s.ch c)), .slice ao (s.ch c).texts.length cap]] W fun e w' => e = .returned (.bool (decide ((s.ch c).last ≠ 2147483647))) ∧ Below W.heap.size W w') := fun W => yroom hok W
  have HN2 : Hid (∀ W : World, Calls Tryz.prog 104 #[.string b, .int .i64 at_, .int .i64 2147483647] W fun e w' => e = .returned (.tuple #[.int .i64 n, .int .i64 nx, .int .i64 (-1)]) ∧ W = w') := fun W => by
    have := rnum_any b at_ 2147483647 W (by omega) (by omega) (by omega)
    rw [numR_ok hnum2 (by have := (numF_ok (by omega) hnum2).1; omega)] at this; exact this
  obtain ⟨hn2, hnx1, hnx2⟩ := numF_ok (by omega) hnum2
  have HHAS : Hid (∀ W : World, Calls Tryz.prog 77 #[.agg #[.int .i64 (yF (s.ch c)), .slice ao (s.ch c).texts.length cap], .int .i64 n] W fun e w' => e = .returned (.bool (hasB (s.ch c) n)) ∧ Below W.heap.size W w') := fun W => yhas_chain hok n W
  have u1 : IntKind.i64.wrap ((b.size : Int) - (nx : Int)) = (b.size : Int) - (nx : Int) := by rw [IntKind.wrap_i64]; omega
  have hzI : (0 : Int) < (n : Int) := by omega
  have hFn : ¬ ((yF (s.ch c) : Nat) : Int) = 0 := by unfold yF; rw [if_neg hno]; omega
  generalize decide ((s.ch c).last ≠ 2147483647) = cn at *
  generalize hasB (s.ch c) n = hs at *
  generalize yF (s.ch c) = F at *
  generalize (s.ch c).texts.length = L at *
  clear hv hok htv hcap hrow hnum hnum2 hz hno
  go_enter Tryz.func105, Tryz.ntmps105
  go_wp2_with fail
  refine (HN.out _).mono ?_
  rintro e w0 ⟨rfl, rfl⟩
  go_wp2_with fail
  refine (HCAN.out _).mono ?_
  rintro e w1 ⟨rfl, b1⟩
  have B1 : Below w.heap.size w w1 := ((Below.refl w.heap.size w).alloc (Nat.le_refl _) _).trans (b1.mono (by simp))
  have ob1 := (b1.block w.heap.size (by simp)).trans (heap_alloc_new w (.cells #[.int .i64 F, .slice ao L cap] 66))
  have x0 : w1.cell? ⟨w.heap.size, 0, none⟩ = some (.int .i64 F) := by rw [Lib.cell_of_heap ob1]; rfl
  have x1 : w1.cell? ⟨w.heap.size, 1, none⟩ = some (.slice ao L cap) := by rw [Lib.cell_of_heap ob1]; rfl
  have hs1 : w.heap.size < w1.heap.size := lt_of_block ob1
  clear k1 k2 b1
  go_wp2_with fail
  refine (HN2.out _).mono ?_
  rintro e w0 ⟨rfl, rfl⟩
  go_wp2_with fail
  refine (HHAS.out _).mono ?_
  rintro e w2 ⟨rfl, b2⟩
  have B2 : Below w.heap.size w w2 := B1.trans (b2.mono B1.size)
  have ob2 := (b2.block w.heap.size hs1).trans ob1
  have y0 : w2.cell? ⟨w.heap.size, 0, none⟩ = some (.int .i64 F) := by rw [Lib.cell_of_heap ob2]; rfl
  have y1 : w2.cell? ⟨w.heap.size, 1, none⟩ = some (.slice ao L cap) := by rw [Lib.cell_of_heap ob2]; rfl
  have hs2 : w.heap.size < w2.heap.size := lt_of_block ob2
  clear x0 x1 b2 B1 ob1
  go_wp2
  go_ret
  exact ⟨rfl, B2⟩
set_option maxHeartbeats 4000000 in
theorem ydoes_B_long (p : Nat) (b : ByteArray) (tv : Nat → Value) (s : Vlt) (w : World) (hv : YAt w p tv s) (hok : s.Ok) (hsz : b.size ≤ 20000) (h0 : 0 < b.size) (c at_ : Nat) (hnum : numF b 1 = .inr (c, at_)) (hc : c < 4) (n nx : Nat) (hnum2 : numF b at_ = .inr (n, nx)) (hl : (b[0]'h0).toNat = 66) (hz : 0 < n) (hno : (s.ch c).texts = []) (ht : 2000 < b.size - nx) :
    Calls Tryz.prog 105 #[.pointer (some ⟨p, 0, none⟩), .string b] w fun e w' => e = .returned (.bool false) ∧ Below w.heap.size w w' := by
  have hb0 : b.toList.isEmpty = false := by
    cases h : b.toList.isEmpty
    · rfl
    · have := (isEmpty_iff b).1 h; omega
  obtain ⟨_, hat1, hat2⟩ := numF_ok (by omega) hnum
  have HN : Hid (∀ W : World, Calls Tryz.prog 104 #[.string b, .int .i64 1, .int .i64 3] W fun e w' => e = .returned (.tuple #[.int .i64 c, .int .i64 at_, .int .i64 (-1)]) ∧ W = w') := fun W => by
    have := rnum_any b 1 3 W (by omega) (by omega) (by omega)
    rw [numR_ok hnum (by omega)] at this; exact this
  have k1 := hv.cellF c hc
  have k2 := hv.cellT c hc
  obtain ⟨ao, cap, htv, hcap, hrow⟩ := hv.row c hc
  rw [htv] at k2
  have hp := hv.lt
  have hcI : (c : Int) < 4 := by omega
  have HCAN : Hid (∀ W : World, Calls Tryz.prog 72 #[.agg #[.int .i64 (yF (s.ch c)), .slice ao (s.ch c).texts.length cap]] W fun e w' => e = .returned (.bool (decide ((s.ch c).last ≠ 2147483647))) ∧ Below W.heap.size W w') := fun W => yroom hok W
  have HN2 : Hid (∀ W : World, Calls Tryz.prog 104 #[.string b, .int .i64 at_, .int .i64 2147483647] W fun e w' => e = .returned (.tuple #[.int .i64 n, .int .i64 nx, .int .i64 (-1)]) ∧ W = w') := fun W => by
    have := rnum_any b at_ 2147483647 W (by omega) (by omega) (by omega)
    rw [numR_ok hnum2 (by have := (numF_ok (by omega) hnum2).1; omega)] at this; exact this
  obtain ⟨hn2, hnx1, hnx2⟩ := numF_ok (by omega) hnum2
  have HHAS : Hid (∀ W : World, Calls Tryz.prog 77 #[.agg #[.int .i64 (yF (s.ch c)), .slice ao (s.ch c).texts.length cap], .int .i64 n] W fun e w' => e = .returned (.bool (hasB (s.ch c) n)) ∧ Below W.heap.size W w') := fun W => yhas_chain hok n W
  have u1 : IntKind.i64.wrap ((b.size : Int) - (nx : Int)) = (b.size : Int) - (nx : Int) := by rw [IntKind.wrap_i64]; omega
  have hzI : (0 : Int) < (n : Int) := by omega
  have htI : ¬ (b.size : Int) - (nx : Int) ≤ 2000 := by omega
  have hF0 : yF (s.ch c) = 0 := by unfold yF; rw [if_pos hno]
  rw [hF0] at k1 HCAN HHAS
  generalize decide ((s.ch c).last ≠ 2147483647) = cn at *
  generalize hasB (s.ch c) n = hs at *
  generalize (s.ch c).texts.length = L at *
  clear hv hok htv hcap hrow hnum hnum2 hz hno ht hF0
  go_enter Tryz.func105, Tryz.ntmps105
  go_wp2_with fail
  refine (HN.out _).mono ?_
  rintro e w0 ⟨rfl, rfl⟩
  go_wp2_with fail
  refine (HCAN.out _).mono ?_
  rintro e w1 ⟨rfl, b1⟩
  have B1 : Below w.heap.size w w1 := ((Below.refl w.heap.size w).alloc (Nat.le_refl _) _).trans (b1.mono (by simp))
  have ob1 := (b1.block w.heap.size (by simp)).trans (heap_alloc_new w (.cells #[.int .i64 0, .slice ao L cap] 66))
  have x0 : w1.cell? ⟨w.heap.size, 0, none⟩ = some (.int .i64 0) := by rw [Lib.cell_of_heap ob1]; rfl
  have x1 : w1.cell? ⟨w.heap.size, 1, none⟩ = some (.slice ao L cap) := by rw [Lib.cell_of_heap ob1]; rfl
  have hs1 : w.heap.size < w1.heap.size := lt_of_block ob1
  clear k1 k2 b1
  go_wp2_with fail
  refine (HN2.out _).mono ?_
  rintro e w0 ⟨rfl, rfl⟩
  go_wp2_with fail
  refine (HHAS.out _).mono ?_
  rintro e w2 ⟨rfl, b2⟩
  have B2 : Below w.heap.size w w2 := B1.trans (b2.mono B1.size)
  have ob2 := (b2.block w.heap.size hs1).trans ob1
  have y0 : w2.cell? ⟨w.heap.size, 0, none⟩ = some (.int .i64 0) := by rw [Lib.cell_of_heap ob2]; rfl
  have y1 : w2.cell? ⟨w.heap.size, 1, none⟩ = some (.slice ao L cap) := by rw [Lib.cell_of_heap ob2]; rfl
  have hs2 : w.heap.size < w2.heap.size := lt_of_block ob2
  clear x0 x1 b2 B1 ob1
  go_wp2
  go_ret
  exact ⟨rfl, B2⟩
set_option maxHeartbeats 4000000 in
theorem ydoes_P_none (p : Nat) (b : ByteArray) (tv : Nat → Value) (s : Vlt) (w : World) (hv : YAt w p tv s) (hok : s.Ok) (hsz : b.size ≤ 20000) (h0 : 0 < b.size) (c at_ : Nat) (hnum : numF b 1 = .inr (c, at_)) (hc : c < 4) (n nx : Nat) (hnum2 : numF b at_ = .inr (n, nx)) (hl : (b[0]'h0).toNat = 80) (hh : hasB (s.ch c) n = false) :
    Calls Tryz.prog 105 #[.pointer (some ⟨p, 0, none⟩), .string b] w fun e w' => e = .returned (.bool false) ∧ Below w.heap.size w w' := by
  have hb0 : b.toList.isEmpty = false := by
    cases h : b.toList.isEmpty
    · rfl
    · have := (isEmpty_iff b).1 h; omega
  obtain ⟨_, hat1, hat2⟩ := numF_ok (by omega) hnum
  have HN : Hid (∀ W : World, Calls Tryz.prog 104 #[.string b, .int .i64 1, .int .i64 3] W fun e w' => e = .returned (.tuple #[.int .i64 c, .int .i64 at_, .int .i64 (-1)]) ∧ W = w') := fun W => by
    have := rnum_any b 1 3 W (by omega) (by omega) (by omega)
    rw [numR_ok hnum (by omega)] at this; exact this
  have k1 := hv.cellF c hc
  have k2 := hv.cellT c hc
  obtain ⟨ao, cap, htv, hcap, hrow⟩ := hv.row c hc
  rw [htv] at k2
  have hp := hv.lt
  have hcI : (c : Int) < 4 := by omega
  have HCAN : Hid (∀ W : World, Calls Tryz.prog 72 #[.agg #[.int .i64 (yF (s.ch c)), .slice ao (s.ch c).texts.length cap]] W fun e w' => e = .returned (.bool (decide ((s.ch c).last ≠ 2147483647))) ∧ Below W.heap.size W w') := fun W => yroom hok W
  have HN2 : Hid (∀ W : World, Calls Tryz.prog 104 #[.string b, .int .i64 at_, .int .i64 2147483647] W fun e w' => e = .returned (.tuple #[.int .i64 n, .int .i64 nx, .int .i64 (-1)]) ∧ W = w') := fun W => by
    have := rnum_any b at_ 2147483647 W (by omega) (by omega) (by omega)
    rw [numR_ok hnum2 (by have := (numF_ok (by omega) hnum2).1; omega)] at this; exact this
  obtain ⟨hn2, hnx1, hnx2⟩ := numF_ok (by omega) hnum2
  have HHAS : Hid (∀ W : World, Calls Tryz.prog 77 #[.agg #[.int .i64 (yF (s.ch c)), .slice ao (s.ch c).texts.length cap], .int .i64 n] W fun e w' => e = .returned (.bool (hasB (s.ch c) n)) ∧ Below W.heap.size W w') := fun W => yhas_chain hok n W
  rw [hh] at HHAS
  generalize decide ((s.ch c).last ≠ 2147483647) = cn at *
  generalize yF (s.ch c) = F at *
  generalize (s.ch c).texts.length = L at *
  clear hv hok htv hcap hrow hnum hnum2 hh
  go_enter Tryz.func105, Tryz.ntmps105
  go_wp2_with fail
  refine (HN.out _).mono ?_
  rintro e w0 ⟨rfl, rfl⟩
  go_wp2_with fail
  refine (HCAN.out _).mono ?_
  rintro e w1 ⟨rfl, b1⟩
  have B1 : Below w.heap.size w w1 := ((Below.refl w.heap.size w).alloc (Nat.le_refl _) _).trans (b1.mono (by simp))
  have ob1 := (b1.block w.heap.size (by simp)).trans (heap_alloc_new w (.cells #[.int .i64 F, .slice ao L cap] 66))
  have x0 : w1.cell? ⟨w.heap.size, 0, none⟩ = some (.int .i64 F) := by rw [Lib.cell_of_heap ob1]; rfl
  have x1 : w1.cell? ⟨w.heap.size, 1, none⟩ = some (.slice ao L cap) := by rw [Lib.cell_of_heap ob1]; rfl
  have hs1 : w.heap.size < w1.heap.size := lt_of_block ob1
  clear k1 k2 b1
  go_wp2_with fail
  refine (HN2.out _).mono ?_
  rintro e w0 ⟨rfl, rfl⟩
  go_wp2_with fail
  refine (HHAS.out _).mono ?_
  rintro e w2 ⟨rfl, b2⟩
  have B2 : Below w.heap.size w w2 := B1.trans (b2.mono B1.size)
  have ob2 := (b2.block w.heap.size hs1).trans ob1
  have y0 : w2.cell? ⟨w.heap.size, 0, none⟩ = some (.int .i64 F) := by rw [Lib.cell_of_heap ob2]; rfl
  have y1 : w2.cell? ⟨w.heap.size, 1, none⟩ = some (.slice ao L cap) := by rw [Lib.cell_of_heap ob2]; rfl
  have hs2 : w.heap.size < w2.heap.size := lt_of_block ob2
  clear x0 x1 b2 B1 ob1
  go_wp2
  go_ret
  exact ⟨rfl, B2⟩
set_option maxHeartbeats 4000000 in
theorem ydoes_P_more (p : Nat) (b : ByteArray) (tv : Nat → Value) (s : Vlt) (w : World) (hv : YAt w p tv s) (hok : s.Ok) (hsz : b.size ≤ 20000) (h0 : 0 < b.size) (c at_ : Nat) (hnum : numF b 1 = .inr (c, at_)) (hc : c < 4) (n nx : Nat) (hnum2 : numF b at_ = .inr (n, nx)) (hl : (b[0]'h0).toNat = 80) (hne : ¬ nx = b.size) :
    Calls Tryz.prog 105 #[.pointer (some ⟨p, 0, none⟩), .string b] w fun e w' => e = .returned (.bool false) ∧ Below w.heap.size w w' := by
  have hb0 : b.toList.isEmpty = false := by
    cases h : b.toList.isEmpty
    · rfl
    · have := (isEmpty_iff b).1 h; omega
  obtain ⟨_, hat1, hat2⟩ := numF_ok (by omega) hnum
  have HN : Hid (∀ W : World, Calls Tryz.prog 104 #[.string b, .int .i64 1, .int .i64 3] W fun e w' => e = .returned (.tuple #[.int .i64 c, .int .i64 at_, .int .i64 (-1)]) ∧ W = w') := fun W => by
    have := rnum_any b 1 3 W (by omega) (by omega) (by omega)
    rw [numR_ok hnum (by omega)] at this; exact this
  have k1 := hv.cellF c hc
  have k2 := hv.cellT c hc
  obtain ⟨ao, cap, htv, hcap, hrow⟩ := hv.row c hc
  rw [htv] at k2
  have hp := hv.lt
  have hcI : (c : Int) < 4 := by omega
  have HCAN : Hid (∀ W : World, Calls Tryz.prog 72 #[.agg #[.int .i64 (yF (s.ch c)), .slice ao (s.ch c).texts.length cap]] W fun e w' => e = .returned (.bool (decide ((s.ch c).last ≠ 2147483647))) ∧ Below W.heap.size W w') := fun W => yroom hok W
  have HN2 : Hid (∀ W : World, Calls Tryz.prog 104 #[.string b, .int .i64 at_, .int .i64 2147483647] W fun e w' => e = .returned (.tuple #[.int .i64 n, .int .i64 nx, .int .i64 (-1)]) ∧ W = w') := fun W => by
    have := rnum_any b at_ 2147483647 W (by omega) (by omega) (by omega)
    rw [numR_ok hnum2 (by have := (numF_ok (by omega) hnum2).1; omega)] at this; exact this
  obtain ⟨hn2, hnx1, hnx2⟩ := numF_ok (by omega) hnum2
  have HHAS : Hid (∀ W : World, Calls Tryz.prog 77 #[.agg #[.int .i64 (yF (s.ch c)), .slice ao (s.ch c).texts.length cap], .int .i64 n] W fun e w' => e = .returned (.bool (hasB (s.ch c) n)) ∧ Below W.heap.size W w') := fun W => yhas_chain hok n W
  have hneI : ¬ (nx : Int) = (b.size : Int) := by omega
  generalize decide ((s.ch c).last ≠ 2147483647) = cn at *
  generalize hasB (s.ch c) n = hs at *
  generalize yF (s.ch c) = F at *
  generalize (s.ch c).texts.length = L at *
  clear hv hok htv hcap hrow hnum hnum2 hne
  go_enter Tryz.func105, Tryz.ntmps105
  go_wp2_with fail
  refine (HN.out _).mono ?_
  rintro e w0 ⟨rfl, rfl⟩
  go_wp2_with fail
  refine (HCAN.out _).mono ?_
  rintro e w1 ⟨rfl, b1⟩
  have B1 : Below w.heap.size w w1 := ((Below.refl w.heap.size w).alloc (Nat.le_refl _) _).trans (b1.mono (by simp))
  have ob1 := (b1.block w.heap.size (by simp)).trans (heap_alloc_new w (.cells #[.int .i64 F, .slice ao L cap] 66))
  have x0 : w1.cell? ⟨w.heap.size, 0, none⟩ = some (.int .i64 F) := by rw [Lib.cell_of_heap ob1]; rfl
  have x1 : w1.cell? ⟨w.heap.size, 1, none⟩ = some (.slice ao L cap) := by rw [Lib.cell_of_heap ob1]; rfl
  have hs1 : w.heap.size < w1.heap.size := lt_of_block ob1
  clear k1 k2 b1
  go_wp2_with fail
  refine (HN2.out _).mono ?_
  rintro e w0 ⟨rfl, rfl⟩
  go_wp2_with fail
  refine (HHAS.out _).mono ?_
  rintro e w2 ⟨rfl, b2⟩
  have B2 : Below w.heap.size w w2 := B1.trans (b2.mono B1.size)
  have ob2 := (b2.block w.heap.size hs1).trans ob1
  have y0 : w2.cell? ⟨w.heap.size, 0, none⟩ = some (.int .i64 F) := by rw [Lib.cell_of_heap ob2]; rfl
  have y1 : w2.cell? ⟨w.heap.size, 1, none⟩ = some (.slice ao L cap) := by rw [Lib.cell_of_heap ob2]; rfl
  have hs2 : w.heap.size < w2.heap.size := lt_of_block ob2
  clear x0 x1 b2 B1 ob1
  cases hs
  · go_wp2
    go_ret
    exact ⟨rfl, B2⟩
  · go_wp2
    go_ret
    exact ⟨rfl, B2⟩
end Go.Proofs.YtabpiaaknjcnkaaGreat
