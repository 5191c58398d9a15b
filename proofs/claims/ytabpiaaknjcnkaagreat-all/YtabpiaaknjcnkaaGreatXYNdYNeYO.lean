/- The texts YNd, YNe, YO, one behind the other. -/
import Derived.Test.YtabpiaaknjcnkaaGreatXZYZPYLPXVN
import Derived.Deep.DeepCutAuto
import Derived.Test.YtabpiaaknjcnkaaGreatXYQZQbYM
import Derived.Test.YtabpiaaknjcnkaaGreatYMb
import Derived.Test.YtabpiaaknjcnkaaGreatXYNaVD
import Derived.Test.YtabpiaaknjcnkaaGreatXVIVJYNbYNc
/-
  The document's does: done (3).
-/
namespace Go.Proofs.YtabpiaaknjcnkaaGreat
open Go.RowKit
set_option linter.unusedVariables false
set_option linter.unusedSimpArgs false
set_option maxRecDepth 100000

set_option maxHeartbeats 4000000 in
theorem ydoes_P_yes (p : Nat) (b : ByteArray) (tv : Nat → Value) (s : Vlt) (w : World) (hv : YAt w p tv s) (hok : s.Ok) (hsz : b.size ≤ 20000) (h0 : 0 < b.size) (c at_ : Nat) (hnum : numF b 1 = .inr (c, at_)) (hc : c < 4) (n nx : Nat) (hnum2 : numF b at_ = .inr (n, nx)) (hl : (b[0]'h0).toNat = 80) (hh : hasB (s.ch c) n = true) (hne : nx = b.size) :
    Calls Tryz.prog 105 #[.pointer (some ⟨p, 0, none⟩), .string b] w fun e w' => e = .returned (.bool true) ∧ YMoves p tv ⟨s.log, setCh s.ch c ⟨n - 1, (s.ch c).texts.drop (n - (s.ch c).gone - 1)⟩⟩ w w' := by
  have hb0 : b.toList.isEmpty = false := by
    cases h : b.toList.isEmpty
    · rfl
    · have := (isEmpty_iff b).1 h; omega
  obtain ⟨_, hat1, hat2⟩ := numF_ok (by omega) hnum
  have HN : Hid (∀ W : World, Calls Tryz.prog 104 #[.string b, .int .i64 1, .int .i64 3] W fun e w' => e = .returned (.tuple #[.int .i64 c, .int .i64 at_, .int .i64 (-1)]) ∧ W = w') := fun W => by
    have := rnum_any b 1 3 W (by omega) (by omega) (by omega)
    rw [numR_ok hnum (by omega)] at this; exact this
  have k1 := hv.cellF c hc
  have k2 := hv.cellT c hc
  obtain ⟨ao, cap, htv, hcap, hrow⟩ := hv.row c hc
  rw [htv] at k2
  have hp := hv.lt
  have hcI : (c : Int) < 4 := by omega
  have HCAN : Hid (∀ W : World, Calls Tryz.prog 72 #[.agg #[.int .i64 (yF (s.ch c)), .slice ao (s.ch c).texts.length cap]] W fun e w' => e = .returned (.bool (decide ((s.ch c).last ≠ 2147483647))) ∧ Below W.heap.size W w') := fun W => yroom hok W
  have HN2 : Hid (∀ W : World, Calls Tryz.prog 104 #[.string b, .int .i64 at_, .int .i64 2147483647] W fun e w' => e = .returned (.tuple #[.int .i64 n, .int .i64 nx, .int .i64 (-1)]) ∧ W = w') := fun W => by
    have := rnum_any b at_ 2147483647 W (by omega) (by omega) (by omega)
    rw [numR_ok hnum2 (by have := (numF_ok (by omega) hnum2).1; omega)] at this; exact this
  obtain ⟨hn2, hnx1, hnx2⟩ := numF_ok (by omega) hnum2
  have HHAS : Hid (∀ W : World, Calls Tryz.prog 77 #[.agg #[.int .i64 (yF (s.ch c)), .slice ao (s.ch c).texts.length cap], .int .i64 n] W fun e w' => e = .returned (.bool (hasB (s.ch c) n)) ∧ Below W.heap.size W w') := fun W => yhas_chain hok n W
  rw [hh] at HHAS
  have hneI : (nx : Int) = (b.size : Int) := by omega
  have hh' := hasB_iff.1 hh
  unfold Chn.has Chn.last at hh'
  have hne0 : (s.ch c).texts ≠ [] := fun e => by rw [e] at hh'; simp at hh'; omega
  have hF : yF (s.ch c) = (s.ch c).gone + 1 := by unfold yF; rw [if_neg hne0]
  obtain ⟨i, hi⟩ : ∃ i : Nat, n = (s.ch c).gone + 1 + i := ⟨n - (s.ch c).gone - 1, by omega⟩
  have hdi : n - (s.ch c).gone - 1 = i := by omega
  have hlast : (s.ch c).gone + (s.ch c).texts.length ≤ 2147483647 := hok.last c
  have hil : i < (s.ch c).texts.length := by omega
  rw [hdi]
  have HM : Hid (∀ (w3 : World) (v' : Value), Below w.heap.size w w3 → YView w3 v' ((s.ch c).texts.drop i) → rowBlock v' = rowBlock (tv c) → YMoves p tv ⟨s.log, setCh s.ch c ⟨n - 1, (s.ch c).texts.drop i⟩⟩ w ((w3.setCell ⟨p, c * 2, none⟩ (.int .i64 (n : Int))).setCell ⟨p, c * 2 + 1, none⟩ v')) := fun w3 v' h1 h2 h3 => ych_moves hv hc h1 (by rw [Nat.sub_add_cancel (by omega)]) h2 (by intro e; rw [List.drop_eq_nil_iff] at e; omega) (fun b hb => .inl (by rw [← h3]; exact hb))
  have HWC : Hid (∀ W, Below w.heap.size w W → Calls Tryz.prog 80 #[.agg #[.int .i64 (yF (s.ch c)), .slice ao (s.ch c).texts.length cap], .int .i64 (n : Int)] W fun e w' => ∃ v', e = .returned (.agg #[.int .i64 (n : Int), v']) ∧ YView w' v' ((s.ch c).texts.drop i) ∧ rowBlock v' = rowBlock (tv c) ∧ Below W.heap.size W w') := fun W hW => by
    have := yfrom_any ((s.ch c).gone + 1) i (tv c) (s.ch c).texts W ((hv.row c hc).below hW) hil (by omega)
    rw [htv] at this ⊢
    rw [hF]
    have em : (((s.ch c).gone + 1 : Nat) : Int) + (i : Int) = (n : Int) := by omega
    rw [em] at this
    exact this
  have fz0 := hv.frozen (c * 2)
  have fz1 := hv.frozen (c * 2 + 1)
  obtain ⟨K, hK⟩ : ∃ K, ((s.ch c).texts.drop i).length = K := ⟨_, rfl⟩
  have HKL : Hid (((s.ch c).texts.drop i).length = K) := hK
  clear hF hK
  generalize decide ((s.ch c).last ≠ 2147483647) = cn at *
  generalize yF (s.ch c) = F at *
  generalize (s.ch c).texts.length = L at *
  clear hv hok htv hcap hrow hnum hnum2 hh hne hh' hne0 hi hdi hlast hil
  have k1b := k1
  have k2b := k2
  go_enter Tryz.func105, Tryz.ntmps105
  go_wp2_with fail
  refine (HN.out _).mono ?_
  rintro e w0 ⟨rfl, rfl⟩
  go_wp2_with fail
  refine (HCAN.out _).mono ?_
  rintro e w1 ⟨rfl, b1⟩
  have B1 : Below w.heap.size w w1 := ((Below.refl w.heap.size w).alloc (Nat.le_refl _) _).trans (b1.mono (by simp))
  have ob1 := (b1.block w.heap.size (by simp)).trans (heap_alloc_new w (.cells #[.int .i64 F, .slice ao L cap] 66))
  have x0 : w1.cell? ⟨w.heap.size, 0, none⟩ = some (.int .i64 F) := by rw [Lib.cell_of_heap ob1]; rfl
  have x1 : w1.cell? ⟨w.heap.size, 1, none⟩ = some (.slice ao L cap) := by rw [Lib.cell_of_heap ob1]; rfl
  have hs1 : w.heap.size < w1.heap.size := lt_of_block ob1
  clear k1 k2 b1
  go_wp2_with fail
  refine (HN2.out _).mono ?_
  rintro e w0 ⟨rfl, rfl⟩
  go_wp2_with fail
  refine (HHAS.out _).mono ?_
  rintro e w2 ⟨rfl, b2⟩
  have B2 : Below w.heap.size w w2 := B1.trans (b2.mono B1.size)
  have ob2 := (b2.block w.heap.size hs1).trans ob1
  have y0 : w2.cell? ⟨w.heap.size, 0, none⟩ = some (.int .i64 F) := by rw [Lib.cell_of_heap ob2]; rfl
  have y1 : w2.cell? ⟨w.heap.size, 1, none⟩ = some (.slice ao L cap) := by rw [Lib.cell_of_heap ob2]; rfl
  have hs2 : w.heap.size < w2.heap.size := lt_of_block ob2
  clear x0 x1 b2 B1 ob1
  have z0 := (B2.cell (p := ⟨p, c * 2, none⟩) hp).trans k1b
  have z1 := (B2.cell (p := ⟨p, c * 2 + 1, none⟩) hp).trans k2b
  have g0 := (B2.frozen (p := ⟨p, c * 2, none⟩) hp).trans fz0
  have g1 := (B2.frozen (p := ⟨p, c * 2 + 1, none⟩) hp).trans fz1
  have hpw : p < w2.heap.size := Nat.lt_of_lt_of_le hp B2.size
  have HBW : Hid (Below w.heap.size w w2) := B2
  clear fz0 fz1 k1b k2b B2 ob2
  go_wp2_with fail
  go_region_with (first | (go_at_call 80; refine (HWC.out _ (by first | exact HBW.out.drew | exact HBW.out)).mono ?_; rintro e w5 ⟨v5, rfl, hv5, hr5, b5⟩; obtain ⟨vo, vc, hv5e, hv5l⟩ : ∃ vo vc, v5 = .slice vo K vc ∧ Hid (YView w5 v5 ((s.ch c).texts.drop i)) := (by obtain ⟨x, y, z, _⟩ := id hv5; rw [HKL.out] at z; exact ⟨x, y, z, hv5⟩); subst hv5e; have HR5 : Hid (rowBlock (.slice vo K vc) = rowBlock (tv c)) := hr5; clear hv5 hr5; have c05 := (b5.cell (p := ⟨p, c * 2, none⟩) hpw).trans z0; have c15 := (b5.cell (p := ⟨p, c * 2 + 1, none⟩) hpw).trans z1; have f05 := (b5.frozen (p := ⟨p, c * 2, none⟩) hpw).trans g0; have f15 := (b5.frozen (p := ⟨p, c * 2 + 1, none⟩) hpw).trans g1))
  all_goals go_wp2
  all_goals go_ret
  all_goals exact ⟨rfl, HM.out w5 _ (HBW.out.drew.trans (b5.mono HBW.out.size)) hv5l.out HR5.out⟩
end Go.Proofs.YtabpiaaknjcnkaaGreat

/-
  The document's does: done (4).
-/
namespace Go.Proofs.YtabpiaaknjcnkaaGreat
open Go.RowKit
set_option linter.unusedVariables false
set_option linter.unusedSimpArgs false
set_option maxRecDepth 100000

set_option maxHeartbeats 4000000 in
theorem ydoes_B_yes (p : Nat) (b : ByteArray) (tv : Nat → Value) (s : Vlt) (w : World) (hv : YAt w p tv s) (hok : s.Ok) (hsz : b.size ≤ 20000) (h0 : 0 < b.size) (c at_ : Nat) (hnum : numF b 1 = .inr (c, at_)) (hc : c < 4) (n nx : Nat) (hnum2 : numF b at_ = .inr (n, nx)) (hl : (b[0]'h0).toNat = 66) (hz : 0 < n) (hno : (s.ch c).texts = []) (ht : b.size - nx ≤ 2000) :
    Calls Tryz.prog 105 #[.pointer (some ⟨p, 0, none⟩), .string b] w fun e w' => e = .returned (.bool true) ∧ YMoves p tv ⟨s.log, setCh s.ch c ⟨n - 1, [b.extract nx b.size]⟩⟩ w w' := by
  have hb0 : b.toList.isEmpty = false := by
    cases h : b.toList.isEmpty
    · rfl
    · have := (isEmpty_iff b).1 h; omega
  obtain ⟨_, hat1, hat2⟩ := numF_ok (by omega) hnum
  have HN : Hid (∀ W : World, Calls Tryz.prog 104 #[.string b, .int .i64 1, .int .i64 3] W fun e w' => e = .returned (.tuple #[.int .i64 c, .int .i64 at_, .int .i64 (-1)]) ∧ W = w') := fun W => by
    have := rnum_any b 1 3 W (by omega) (by omega) (by omega)
    rw [numR_ok hnum (by omega)] at this; exact this
  have k1 := hv.cellF c hc
  have k2 := hv.cellT c hc
  obtain ⟨ao, cap, htv, hcap, hrow⟩ := hv.row c hc
  rw [htv] at k2
  have hp := hv.lt
  have hcI : (c : Int) < 4 := by omega
  have HCAN : Hid (∀ W : World, Calls Tryz.prog 72 #[.agg #[.int .i64 (yF (s.ch c)), .slice ao (s.ch c).texts.length cap]] W fun e w' => e = .returned (.bool (decide ((s.ch c).last ≠ 2147483647))) ∧ Below W.heap.size W w') := fun W => yroom hok W
  have HN2 : Hid (∀ W : World, Calls Tryz.prog 104 #[.string b, .int .i64 at_, .int .i64 2147483647] W fun e w' => e = .returned (.tuple #[.int .i64 n, .int .i64 nx, .int .i64 (-1)]) ∧ W = w') := fun W => by
    have := rnum_any b at_ 2147483647 W (by omega) (by omega) (by omega)
    rw [numR_ok hnum2 (by have := (numF_ok (by omega) hnum2).1; omega)] at this; exact this
  obtain ⟨hn2, hnx1, hnx2⟩ := numF_ok (by omega) hnum2
  have HHAS : Hid (∀ W : World, Calls Tryz.prog 77 #[.agg #[.int .i64 (yF (s.ch c)), .slice ao (s.ch c).texts.length cap], .int .i64 n] W fun e w' => e = .returned (.bool (hasB (s.ch c) n)) ∧ Below W.heap.size W w') := fun W => yhas_chain hok n W
  have u1 : IntKind.i64.wrap ((b.size : Int) - (nx : Int)) = (b.size : Int) - (nx : Int) := by rw [IntKind.wrap_i64]; omega
  have hzI : (0 : Int) < (n : Int) := by omega
  have htI : (b.size : Int) - (nx : Int) ≤ 2000 := by omega
  have hF0 : yF (s.ch c) = 0 := by unfold yF; rw [if_pos hno]
  rw [hF0] at k1 HCAN HHAS
  have HM : Hid (∀ (w3 : World) (v' : Value), Below w.heap.size w w3 → YView w3 v' [b.extract nx b.size] → (∀ b, rowBlock v' = some b → w.heap.size ≤ b) → YMoves p tv ⟨s.log, setCh s.ch c ⟨n - 1, [b.extract nx b.size]⟩⟩ w ((w3.setCell ⟨p, c * 2, none⟩ (.int .i64 (n : Int))).setCell ⟨p, c * 2 + 1, none⟩ v')) := fun w3 v' h1 h2 h3 => ych_moves hv hc h1 (by rw [Nat.sub_add_cancel (by omega)]) h2 (by simp) (fun b hb => .inr (h3 b hb))
  have fz0 := hv.frozen (c * 2)
  have fz1 := hv.frozen (c * 2 + 1)
  generalize decide ((s.ch c).last ≠ 2147483647) = cn at *
  generalize hasB (s.ch c) n = hs at *
  generalize (s.ch c).texts.length = L at *
  clear hv hok htv hcap hrow hnum hnum2 hz hno ht hF0
  have k1b := k1
  have k2b := k2
  go_enter Tryz.func105, Tryz.ntmps105
  go_wp2_with fail
  refine (HN.out _).mono ?_
  rintro e w0 ⟨rfl, rfl⟩
  go_wp2_with fail
  refine (HCAN.out _).mono ?_
  rintro e w1 ⟨rfl, b1⟩
  have B1 : Below w.heap.size w w1 := ((Below.refl w.heap.size w).alloc (Nat.le_refl _) _).trans (b1.mono (by simp))
  have ob1 := (b1.block w.heap.size (by simp)).trans (heap_alloc_new w (.cells #[.int .i64 0, .slice ao L cap] 66))
  have x0 : w1.cell? ⟨w.heap.size, 0, none⟩ = some (.int .i64 0) := by rw [Lib.cell_of_heap ob1]; rfl
  have x1 : w1.cell? ⟨w.heap.size, 1, none⟩ = some (.slice ao L cap) := by rw [Lib.cell_of_heap ob1]; rfl
  have hs1 : w.heap.size < w1.heap.size := lt_of_block ob1
  clear k1 k2 b1
  go_wp2_with fail
  refine (HN2.out _).mono ?_
  rintro e w0 ⟨rfl, rfl⟩
  go_wp2_with fail
  refine (HHAS.out _).mono ?_
  rintro e w2 ⟨rfl, b2⟩
  have B2 : Below w.heap.size w w2 := B1.trans (b2.mono B1.size)
  have ob2 := (b2.block w.heap.size hs1).trans ob1
  have y0 : w2.cell? ⟨w.heap.size, 0, none⟩ = some (.int .i64 0) := by rw [Lib.cell_of_heap ob2]; rfl
  have y1 : w2.cell? ⟨w.heap.size, 1, none⟩ = some (.slice ao L cap) := by rw [Lib.cell_of_heap ob2]; rfl
  have hs2 : w.heap.size < w2.heap.size := lt_of_block ob2
  clear x0 x1 b2 B1 ob1
  have z0 := (B2.cell (p := ⟨p, c * 2, none⟩) hp).trans k1b
  have z1 := (B2.cell (p := ⟨p, c * 2 + 1, none⟩) hp).trans k2b
  have g0 := (B2.frozen (p := ⟨p, c * 2, none⟩) hp).trans fz0
  have g1 := (B2.frozen (p := ⟨p, c * 2 + 1, none⟩) hp).trans fz1
  have hpw : p < w2.heap.size := Nat.lt_of_lt_of_le hp B2.size
  have HBW : Hid (Below w.heap.size w w2) := B2
  clear fz0 fz1 k1b k2b B2 ob2
  have HVV : Hid (∀ W : World, W.heap.size = w2.heap.size → YView (W.alloc (.cells #[.string (b.extract nx b.size)] 9)) (.slice (some ⟨w2.heap.size, 0, none⟩) 1 1) [b.extract nx b.size]) := fun W hW => by
    refine ⟨_, _, rfl, Nat.le_refl _, fun i t ht => ?_⟩
    have hi : i = 0 := by have := (List.getElem?_eq_some_iff.1 ht).1; simp at this; exact this
    subst hi
    simp only [List.getElem?_cons_zero, Option.some.injEq] at ht
    subst ht
    refine ⟨w2.heap.size, 0, rfl, by simp; omega, ?_⟩
    rw [Lib.cell_of_heap (alloc_at hW)]; rfl
  go_wp2
  go_region_with (first | fail)
  all_goals
    have HFIN : Hid (YMoves p tv ⟨s.log, setCh s.ch c ⟨n - 1, [b.extract nx b.size]⟩⟩ w (((w2.setCell ⟨p, c * 2, none⟩ (.int .i64 (n : Int))).setCell ⟨p, c * 2 + 1, none⟩ (.slice (some ⟨w2.heap.size, 0, none⟩) 1 1)).alloc (.cells #[.string (b.extract nx b.size)] 9)).drew) := by
      have hb : Below w.heap.size w (w2.alloc (.cells #[.string (b.extract nx b.size)] 9)) := HBW.out.alloc HBW.out.size _
      have h := HM.out _ _ hb (HVV.out w2 rfl) (fun b hb => by
        obtain rfl : w2.heap.size = b := by simpa [rowBlock] using hb
        exact HBW.out.size)
      have e : ((w2.alloc (.cells #[.string (b.extract nx b.size)] 9)).setCell ⟨p, c * 2, none⟩ (.int .i64 (n : Int))).setCell ⟨p, c * 2 + 1, none⟩ (.slice (some ⟨w2.heap.size, 0, none⟩) 1 1) = ((w2.setCell ⟨p, c * 2, none⟩ (.int .i64 (n : Int))).setCell ⟨p, c * 2 + 1, none⟩ (.slice (some ⟨w2.heap.size, 0, none⟩) 1 1)).alloc (.cells #[.string (b.extract nx b.size)] 9) := by
        simp [go_sem, hpw]
      rw [e] at h
      obtain ⟨tv', h1, h2, h3⟩ := h
      exact ⟨tv', h1.kept (fun b _ => rfl) (Nat.le_refl _), ⟨h2.os, h2.tape, h2.output, h2.size, h2.block⟩, h3⟩
    clear HM HVV
    go_wp2
    go_ret
    exact ⟨rfl, HFIN.out⟩
end Go.Proofs.YtabpiaaknjcnkaaGreat

/-
  The document's does.
-/
namespace Go.Proofs.YtabpiaaknjcnkaaGreat
open Go.RowKit
set_option linter.unusedVariables false
set_option linter.unusedSimpArgs false
set_option maxRecDepth 100000

def YDoes (p : Nat) (tv : Nat → Value) (s : Vlt) (r : Option (Nat → Chn)) (w : World) (e : Ending) (w' : World) : Prop :=
  (r = none ∧ e = .returned (.bool false) ∧ Below w.heap.size w w') ∨ ∃ ch', r = some ch' ∧ e = .returned (.bool true) ∧ YMoves p tv ⟨s.log, ch'⟩ w w'
theorem ydo_no {p : Nat} {tv : Nat → Value} {s : Vlt} {r : Option (Nat → Chn)} {w w' : World} {e : Ending} (hr : r = none) (h : e = .returned (.bool false) ∧ Below w.heap.size w w') : YDoes p tv s r w e w' := .inl ⟨hr, h.1, h.2⟩
theorem ydo_yes {p : Nat} {tv : Nat → Value} {s : Vlt} {r : Option (Nat → Chn)} {w w' : World} {e : Ending} {ch' : Nat → Chn} (hr : r = some ch') (h : e = .returned (.bool true) ∧ YMoves p tv ⟨s.log, ch'⟩ w w') : YDoes p tv s r w e w' := .inr ⟨ch', hr, h.1, h.2⟩
theorem byte_is {x : UInt8} {n : Nat} (hn : n < 256) : x = UInt8.ofNat n ↔ x.toNat = n := by
  constructor
  · rintro rfl; simp; omega
  · intro h; apply UInt8.toNat_inj.1; simp [h]; omega

theorem ydoes_any (p : Nat) (b : ByteArray) (tv : Nat → Value) (s : Vlt) (w : World) (hv : YAt w p tv s) (hok : s.Ok) (hsz : b.size ≤ 20000) :
    Calls Tryz.prog 105 #[.pointer (some ⟨p, 0, none⟩), .string b] w (YDoes p tv s (doesF s.ch b) w) := by
  by_cases h0 : 0 < b.size
  · have hh : b.data.toList.head? = some (b[0]'h0) := by
      rw [List.head?_eq_getElem?, Array.getElem?_toList, Array.getElem?_eq_getElem (show 0 < b.data.size from h0)]; rfl
    have hl := hok.last
    have key : ∀ c at_, numF b 1 = .inr (c, at_) → ¬ 3 < c → doesF s.ch b = (if (b[0]'h0) = 70 then moreF s.ch c (b.extract at_ b.size) else if (b[0]'h0) = 68 then codeF s.ch c (b.extract at_ b.size) else match numF b at_ with | .inl _ => none | .inr (n, nx) => if (b[0]'h0) = 66 then baseF s.ch c n (b.extract nx b.size) else if (b[0]'h0) = 80 ∧ nx = b.size then pruneF s.ch c n else none) := fun c at_ hn hc => by
      unfold doesF; rw [hh]; simp only; rw [hn]; simp only [if_neg hc]
      rfl
    cases hn : numF b 1 with
    | inl q =>
      have hr : doesF s.ch b = none := by unfold doesF; rw [hh]; simp only; rw [hn]
      exact (ydoes_num p b tv s w hv hok hsz h0 (fun c a h => by rw [hn] at h; cases h)).mono fun e w' h => ydo_no hr h
    | inr x =>
      obtain ⟨c, at_⟩ := x
      by_cases hc : 3 < c
      · have hr : doesF s.ch b = none := by unfold doesF; rw [hh]; simp only; rw [hn]; simp only [if_pos hc]
        exact (ydoes_num p b tv s w hv hok hsz h0 (fun c' a h => by rw [hn] at h; cases h; exact hc)).mono fun e w' h => ydo_no hr h
      · have hk := key c at_ hn hc
        obtain ⟨_, ha1, ha2⟩ := numF_ok (by omega) hn
        have hc4 : c < 4 := by omega
        have e70 : (b[0]'h0) = 70 ↔ (b[0]'h0).toNat = 70 := byte_is (n := _) (by decide)
        have e68 : (b[0]'h0) = 68 ↔ (b[0]'h0).toNat = 68 := byte_is (n := _) (by decide)
        have e66 : (b[0]'h0) = 66 ↔ (b[0]'h0).toNat = 66 := byte_is (n := _) (by decide)
        have e80 : (b[0]'h0) = 80 ↔ (b[0]'h0).toNat = 80 := byte_is (n := _) (by decide)
        by_cases hF : (b[0]'h0).toNat = 70
        · rw [if_pos (e70.2 hF)] at hk
          have hs : (b.extract at_ b.size).size = b.size - at_ := by rw [ByteArray.size_extract]; omega
          unfold moreF at hk
          rw [hs] at hk
          by_cases ht : b.size - at_ ≤ 2000
          · by_cases hla : (s.ch c).last = 2147483647
            · rw [if_neg (fun h => by omega)] at hk
              exact (ydoes_F_full p b tv s w hv hok hsz h0 c at_ hn hc4 hF ht hla).mono fun e w' h => ydo_no hk h
            · rw [if_pos ⟨ht, by have := hl c; omega⟩] at hk
              exact (ydoes_F_yes p b tv s w hv hok hsz h0 c at_ hn hc4 hF ht hla).mono fun e w' h => ydo_yes hk h
          · rw [if_neg (fun h => ht h.1)] at hk
            exact (ydoes_F_long p b tv s w hv hok hsz h0 c at_ hn hc4 hF (by omega)).mono fun e w' h => ydo_no hk h
        · rw [if_neg (fun h => hF (e70.1 h))] at hk
          by_cases hD : (b[0]'h0).toNat = 68
          · rw [if_pos (e68.2 hD)] at hk
            unfold codeF at hk
            cases hd : decF (b.extract at_ b.size) with
            | inl q =>
              rw [hd] at hk
              exact (ydoes_D_code p b tv s w hv hok hsz h0 c at_ hn hc4 hD q hd).mono fun e w' h => ydo_no hk h
            | inr ops =>
              rw [hd] at hk
              cases hlt : (s.ch c).texts.getLast? with
              | none =>
                rw [hlt] at hk
                exact (ydoes_D_none p b tv s w hv hok hsz h0 c at_ hn hc4 hD ops hd (List.getLast?_eq_none_iff.1 hlt)).mono fun e w' h => ydo_no hk h
              | some t =>
                rw [hlt] at hk
                simp only at hk
                by_cases hla : (s.ch c).last = 2147483647
                · have hr : doesF s.ch b = none := by
                    rw [hk]; split
                    · rfl
                    · unfold moreF; rw [if_neg (fun h => by omega)]
                  exact (ydoes_D_full p b tv s w hv hok hsz h0 c at_ hn hc4 hD ops hd (fun e => by rw [e] at hlt; cases hlt) hla).mono fun e w' h => ydo_no hr h
                · by_cases hf : faultF ops t.size < ops.length
                  · rw [if_pos hf] at hk
                    exact (ydoes_D_apply p b tv s w hv hok hsz h0 c at_ hn hc4 hD ops hd t hlt hla hf).mono fun e w' h => ydo_no hk h
                  · rw [if_neg hf] at hk
                    unfold moreF at hk
                    rw [if_pos ⟨made_small hf, by have := hl c; omega⟩] at hk
                    exact (ydoes_D_yes p b tv s w hv hok hsz h0 c at_ hn hc4 hD ops hd t hlt hla hf).mono fun e w' h => ydo_yes hk h
          · rw [if_neg (fun h => hD (e68.1 h))] at hk
            by_cases hB : (b[0]'h0).toNat = 66
            · cases hn2 : numF b at_ with
              | inl q =>
                rw [hn2] at hk
                exact (ydoes_B_num p b tv s w hv hok hsz h0 c at_ hn hc4 hB q hn2).mono fun e w' h => ydo_no hk h
              | inr x =>
                obtain ⟨n, nx⟩ := x
                rw [hn2] at hk
                simp only [if_pos (e66.2 hB)] at hk
                obtain ⟨_, hx1, hx2⟩ := numF_ok (by omega) hn2
                have hs : (b.extract nx b.size).size = b.size - nx := by rw [ByteArray.size_extract]; omega
                unfold baseF at hk
                rw [hs] at hk
                by_cases hz : n = 0
                · rw [if_neg (fun h => by omega)] at hk
                  exact (ydoes_B_zero p b tv s w hv hok hsz h0 c at_ hn hc4 n nx hn2 hB hz).mono fun e w' h => ydo_no hk h
                · by_cases hno : (s.ch c).texts = []
                  · have hl0 : (s.ch c).last = 0 := by unfold Chn.last; rw [hok.none c hno, hno]; rfl
                    by_cases ht : b.size - nx ≤ 2000
                    · rw [if_pos ⟨by omega, hl0, ht⟩] at hk
                      exact (ydoes_B_yes p b tv s w hv hok hsz h0 c at_ hn hc4 n nx hn2 hB (by omega) hno ht).mono fun e w' h => ydo_yes hk h
                    · rw [if_neg (fun h => ht h.2.2)] at hk
                      exact (ydoes_B_long p b tv s w hv hok hsz h0 c at_ hn hc4 n nx hn2 hB (by omega) hno (by omega)).mono fun e w' h => ydo_no hk h
                  · have hl0 : ¬ (s.ch c).last = 0 := by unfold Chn.last; have := List.length_pos_iff.2 hno; omega
                    rw [if_neg (fun h => hl0 h.2.1)] at hk
                    exact (ydoes_B_had p b tv s w hv hok hsz h0 c at_ hn hc4 n nx hn2 hB (by omega) hno).mono fun e w' h => ydo_no hk h
            · by_cases hP : (b[0]'h0).toNat = 80
              · cases hn2 : numF b at_ with
                | inl q =>
                  rw [hn2] at hk
                  exact (ydoes_P_num p b tv s w hv hok hsz h0 c at_ hn hc4 hP q hn2).mono fun e w' h => ydo_no hk h
                | inr x =>
                  obtain ⟨n, nx⟩ := x
                  rw [hn2] at hk
                  simp only [if_neg (fun h => hB (e66.1 h))] at hk
                  by_cases hne : nx = b.size
                  · rw [if_pos ⟨e80.2 hP, hne⟩] at hk
                    unfold pruneF at hk
                    cases hh2 : hasB (s.ch c) n with
                    | false =>
                      have : ¬ ((s.ch c).gone < n ∧ n ≤ (s.ch c).last) := fun h => by
                        have : hasB (s.ch c) n = true := hasB_iff.2 (by unfold Chn.has; omega)
                        rw [hh2] at this; cases this
                      rw [if_neg this] at hk
                      exact (ydoes_P_none p b tv s w hv hok hsz h0 c at_ hn hc4 n nx hn2 hP hh2).mono fun e w' h => ydo_no hk h
                    | true =>
                      have := hasB_iff.1 hh2
                      unfold Chn.has at this
                      rw [if_pos (by omega)] at hk
                      exact (ydoes_P_yes p b tv s w hv hok hsz h0 c at_ hn hc4 n nx hn2 hP hh2 hne).mono fun e w' h => ydo_yes hk h
                  · rw [if_neg (fun h => hne h.2)] at hk
                    exact (ydoes_P_more p b tv s w hv hok hsz h0 c at_ hn hc4 n nx hn2 hP hne).mono fun e w' h => ydo_no hk h
              · have hr : doesF s.ch b = none := by
                  rw [hk]
                  split
                  · rfl
                  · rw [if_neg (fun h => hB (e66.1 h)), if_neg (fun h => hP (e80.1 h.1))]
                exact (ydoes_other p b tv s w hv hok hsz h0 c at_ hn hc4 hF hD hB hP).mono fun e w' h => ydo_no hr h
  · have hb : b = ⟨#[]⟩ := bytes_ext (by
      have := Lib.size_eq b
      have : b.data.toList.length = 0 := by omega
      rw [List.eq_nil_of_length_eq_zero this])
    have hr : doesF s.ch b = none := by rw [hb]; rfl
    exact (ydoes_empty p b tv s w hv hok hsz hb).mono fun e w' h => ydo_no hr h
end Go.Proofs.YtabpiaaknjcnkaaGreat
