/- The texts ZT, ZS, ZTa, ZTb, ZTc, YA, one behind the other. -/
import Derived.Test.YtabpiaaknjcnkaaGreatZW
import Derived.Test.YtabpiaaknjcnkaaGreatXP1W1W3W4
import Derived.LoopTactic
import Derived.BigQuiet
import Derived.Deep.QuietTactic
import Derived.Test.YtabpiaaknjcnkaaGreatXRALKLSLQZA
import Derived.Test.YtabpiaaknjcnkaaGreatXV5ZLZC
import Derived.Test.YtabpiaaknjcnkaaGreatXZKYBPMPQ
import Derived.Test.YtabpiaaknjcnkaaGreatXE2W9R6
import Derived.Test.YtabpiaaknjcnkaaGreatXR4L7L8P4S1S2L9LBLP
import Derived.Test.YtabpiaaknjcnkaaGreatXPRPO
/-
  The steps that only read: Restore, Versions, Log.
-/
namespace Go.Proofs.YtabpiaaknjcnkaaGreat
open Go.RowKit
set_option linter.unusedVariables false
set_option linter.unusedSimpArgs false
set_option maxRecDepth 100000

set_option maxHeartbeats 400000 in
theorem lpick_eq (c : Int) (n : Nat) (w : World) (hc : -9223372036854775808 ≤ c) (hc2 : c ≤ 9223372036854775807) (hn0 : 0 < n) (hn : n ≤ 9223372036854775807) :
    Calls Tryz.prog 32 #[.int .i64 c, .int .i64 n] w fun e w' => e = .returned (.int .i64 (pickN c n)) ∧ w = w' := by
  by_cases h : c < 0
  · go_enter Tryz.func32, Tryz.ntmps32
    go_wp2
    go_ret
    refine ⟨ret_int ?_, rfl⟩
    obtain ⟨m, hm⟩ : ∃ m : Nat, -(c + 1) = (m : Int) := ⟨(-(c + 1)).toNat, by omega⟩
    have e : c + 1 = -(m : Int) := by omega
    rw [pickN, if_pos h, hm, e, Int.toNat_natCast, Int.neg_tmod]
    simp
    exact Int.tmod_eq_emod_of_nonneg (by omega)
  · go_enter Tryz.func32, Tryz.ntmps32
    go_wp2
    go_ret
    refine ⟨ret_int ?_, rfl⟩
    obtain ⟨m, rfl⟩ : ∃ m : Nat, c = (m : Int) := ⟨c.toNat, by omega⟩
    rw [pickN, if_neg (by omega), Int.toNat_natCast]
    simp

set_option maxHeartbeats 4000000 in
theorem step_restore {w : World} {B0 Wb : Nat} {xv yv bv : Value} {es : List Entry} {xs : List XV} {ys : List YV} {κ : Nat → Col} (h : WorldAt w B0 Wb xv yv bv es xs ys κ) (hsame : xs.map (·.s) = ys.map (·.s)) (h0 : 0 < xs.length) (h4 : xs.length ≤ 4) (a b c : Int) (ha : -9223372036854775808 ≤ a ∧ a ≤ 9223372036854775807) (s t : ByteArray) (lo mo : Option Addr) (ln lc mn mc : Nat) :
    Calls Tryz.prog 17 #[.pointer (some ⟨Wb, 0, none⟩), .agg #[.int .i64 9, .int .i64 a, .int .i64 b, .int .i64 c, .string s, .string t, .slice lo ln lc, .slice mo mn mc]] w fun e w' => e = .returned (.bool true) ∧ Below w.heap.size w w' := by
  have hi := pickN_lt a xs.length h0
  have HPK : Hid (∀ W, Calls Tryz.prog 32 #[.int .i64 a, .int .i64 xs.length] W fun e w' => e = .returned (.int .i64 (pickN a xs.length)) ∧ W = w') := fun W => lpick_eq a xs.length W ha.1 ha.2 h0 (by omega)
  generalize pickN a xs.length = i at *
  obtain ⟨gx, cx, gy, cy, x, y, ex, ey, lx, ly, c1, c2, hx, hy, hxy⟩ := h.picks hsame hi
  obtain ⟨hX, hXc, hok⟩ := h.xat i x hx
  obtain ⟨hY, hYc, hok2⟩ := h.yat i y hy
  rw [← hxy] at hY
  have HX : Hid (∀ W, Below w.heap.size w W → Calls Tryz.prog 16 #[.pointer (some ⟨x.p, 0, none⟩), .int .i64 b, .int .i64 c] W fun e w' => e = .returned (.tuple #[.string (getT x.s b c), .int .i64 (getE x.s b c)]) ∧ Below W.heap.size W w') := fun W hW => crestore_any x.p b c x.lv x.tv x.s W (hX.below hW) hok
  have HY : Hid (∀ W, Below w.heap.size w W → Calls Tryz.prog 34 #[.pointer (some ⟨y.q, 0, none⟩), .int .i64 b, .int .i64 c] W fun e w' => e = .returned (.tuple #[.string (getT x.s b c), .int .i64 (getE x.s b c)]) ∧ Below W.heap.size W w') := fun W hW => yrestore_any y.q b c y.tv x.s W (hY.below hW) hok
  have kX := h.cellX
  have kY := h.cellY
  rw [ex] at kX
  rw [ey] at kY
  have hWb := h.lt
  have hN0 : ¬ (xs.length : Int) = 0 := by omega
  have hiI : (i : Int) < (xs.length : Int) := by omega
  generalize getT x.s b c = T at *
  generalize getE x.s b c = E at *
  generalize x.p = p at *
  generalize y.q = q at *
  generalize xs.length = N at *
  clear hx hy hxy hX hY hok h hsame ex ey ha hXc hYc hok2 h0 h4 hi
  go_enter Tryz.func17, Tryz.ntmps17
  go_wp2
  go_region_with (first | (go_at_call 32; refine (HPK.out _).mono ?_; rintro e w' ⟨rfl, rfl⟩))
  all_goals
    go_wp2_with fail
    refine (HX.out _ (((Below.refl w.heap.size w).alloc (Nat.le_refl _) _).drew)).mono ?_
    rintro e w1 ⟨rfl, b1⟩
    have ob1 := (b1.block w.heap.size (by simp)).trans (heap_alloc_new w _)
    have B1 : Below w.heap.size w w1 := (((Below.refl w.heap.size w).alloc (Nat.le_refl _) _).drew).trans (b1.mono (by simp))
    have j2 : w1.cell? ⟨w.heap.size, 2, none⟩ = some (.int .i64 b) := by rw [Lib.cell_of_heap ob1]; rfl
    have j3 : w1.cell? ⟨w.heap.size, 3, none⟩ = some (.int .i64 c) := by rw [Lib.cell_of_heap ob1]; rfl
    have hs1 : w.heap.size < w1.heap.size := lt_of_block ob1
    clear ob1 b1 c1 c2 kX kY
    go_wp2_with fail
    refine (HY.out _ B1).mono ?_
    rintro e w2 ⟨rfl, b2⟩
    have B2 : Below w.heap.size w w2 := B1.trans (b2.mono B1.size)
    clear b2 B1 j2 j3
    go_wp2
    go_ret
    exact ⟨rfl, B2⟩
set_option maxHeartbeats 4000000 in
/-- There is no vault. -/
theorem step_empty {w : World} {B0 Wb : Nat} {xv yv bv : Value} {es : List Entry} {ys : List YV} {κ : Nat → Col} (h : WorldAt w B0 Wb xv yv bv es [] ys κ) (k a b c : Int) (hk1 : ¬ (1 ≤ k ∧ k ≤ 6)) (hk7 : ¬ k = 7) (hk13 : ¬ k = 13) (s t : ByteArray) (lo mo : Option Addr) (ln lc mn mc : Nat) :
    Calls Tryz.prog 17 #[.pointer (some ⟨Wb, 0, none⟩), .agg #[.int .i64 k, .int .i64 a, .int .i64 b, .int .i64 c, .string s, .string t, .slice lo ln lc, .slice mo mn mc]] w fun e w' => e = .returned (.bool true) ∧ Below w.heap.size w w' := by
  have kX := h.cellX
  have hWb := h.lt
  obtain ⟨ao, cap, hv⟩ : ∃ ao cap, xv = .slice ao 0 cap := by
    rcases h.xrow.2 with ⟨e, _⟩ | ⟨g, cap, cur, e, _⟩
    · exact ⟨none, 0, e⟩
    · exact ⟨_, _, e⟩
  rw [hv] at kX
  clear h hv
  by_cases h1 : 1 ≤ k
  · have h6 : ¬ k ≤ 6 := by omega
    clear hk1
    go_enter Tryz.func17, Tryz.ntmps17
    go_wp2
    go_ret
    exact ⟨rfl, (Below.refl w.heap.size w).alloc (Nat.le_refl _) _⟩
  · clear hk1
    go_enter Tryz.func17, Tryz.ntmps17
    go_wp2
    go_ret
    exact ⟨rfl, (Below.refl w.heap.size w).alloc (Nat.le_refl _) _⟩
end Go.Proofs.YtabpiaaknjcnkaaGreat

/-
  A step of the kinds up to 6: the book moves, and nothing else. Which vault a step means.
-/
namespace Go.Proofs.YtabpiaaknjcnkaaGreat
open Go.RowKit
set_option linter.unusedVariables false
set_option linter.unusedSimpArgs false
set_option maxRecDepth 100000

theorem LView.up {B0 B1 : Nat} {w : World} {v : Value} {xs : List DOp} (h : LView B0 w v xs) (hB : B0 ≤ B1) : LView B1 w v xs := by
  rcases h with h | ⟨b, off, cap, rfl, hlt, hr⟩
  · exact .inl h
  · exact .inr ⟨b, off, cap, rfl, by omega, hr⟩
theorem Raw.up {B0 B1 : Nat} {w : World} {s t : ByteArray} {vl vm : Value} {xs ys : List DOp} (h : Raw B0 w s t vl vm xs ys) (hB : B0 ≤ B1) : Raw B1 w s t vl vm xs ys :=
  ⟨h.hs, h.ht, h.hx, h.hy, h.hl.up hB, h.hm.up hB, h.len, h.tx⟩
/-- What a step of the kinds up to 6 leaves. -/
def AfterS (B0 Wb : Nat) (xv yv : Value) (n : Nat) (S : Nat → Prop) (w : World) (e : Ending) (w' : World) : Prop :=
  e = .returned (.bool true) ∧ (∃ bv' es', es'.length ≤ n + 1 ∧ BookAt w' B0 Wb xv yv bv' es' (fun q => S q ∨ (w.heap.size ≤ q ∧ q < w'.heap.size))) ∧ Below B0 w w' ∧ Out S w w'
theorem afterS_below {B0 Wb : Nat} {xv yv bv : Value} {es : List Entry} {S : Nat → Prop} {w w' : World} {e : Ending} (hS : ∀ q, S q → q < w.heap.size) (hbook : BookAt w B0 Wb xv yv bv es S) (hB0 : B0 ≤ w.heap.size) (he : e = .returned (.bool true)) (hb : Below w.heap.size w w') : AfterS B0 Wb xv yv es.length S w e w' :=
  ⟨he, ⟨bv, es, by omega, hbook.kept (fun q hq => hb.block q (hS q hq)) (fun q hq => .inl hq)⟩, hb.mono hB0, Out.of_below hb⟩

theorem wdeltas_sixS (w : World) (B0 Wb : Nat) (xv yv bv : Value) (es : List Entry) (S : Nat → Prop) (hS : ∀ q, S q → q < w.heap.size) (hbook : BookAt w B0 Wb xv yv bv es S) (hes : es.length ≤ 1300000000000) (hB0 : B0 ≤ w.heap.size) (k a b c : Int) (s t : ByteArray) (vl vm : Value) (xs ys : List DOp)
    (hr : Raw B0 w s t vl vm xs ys) (hi2 : Ints ys) (hk1 : 1 ≤ k) (hk6 : k ≤ 6) :
    Calls Tryz.prog 30 #[.pointer (some ⟨Wb, 0, none⟩), .agg #[.int .i64 k, .int .i64 a, .int .i64 b, .int .i64 c, .string s, .string t, vl, vm]] w (AfterS B0 Wb xv yv es.length S w) := by
  have h1 := hr.hs
  have h2 := hr.ht
  have hbk : BookAt w B0 Wb xv yv bv es (· < w.heap.size) := hbook.kept (fun q _ => rfl) hS
  have hu := hr.up hB0
  rcases (show k = 1 ∨ k = 2 ∨ k = 3 ∨ k = 4 ∨ k = 5 ∨ k = 6 by omega) with rfl | rfl | rfl | rfl | rfl | rfl
  · refine (wdeltas_diffS w B0 Wb xv yv bv es S hS hbook hes hB0 a b c s t vl vm xs ys (by omega) (by omega) hr.hx hr.hy hr.hl hr.hm).mono ?_
    rintro e w' ⟨he, ⟨bv', es', hl, hb⟩, hB, hO⟩
    exact ⟨he, ⟨bv', es', by omega, hb⟩, hB, hO⟩
  · refine (wdeltas_applyS w B0 w.heap.size Wb xv yv bv es hbk hB0 hB0 (Nat.le_refl _) a b c s t vl vm xs ys (by omega) hr.hx hr.hy hu.hl hu.hm hr.len hr.tx).mono ?_
    rintro e w' ⟨he, hb, hB⟩
    exact afterS_below hS hbook hB0 he hB
  · refine (wdeltas_sumS w B0 w.heap.size Wb xv yv bv es hbk hB0 hB0 (Nat.le_refl _) a b c s t vl vm xs ys (by omega) hr.hx hr.hy hu.hl hu.hm).mono ?_
    rintro e w' ⟨he, hb, hB⟩
    exact afterS_below hS hbook hB0 he hB
  · refine (wdeltas_compS w B0 Wb xv yv bv es S hS hbook hes hB0 a b c s t vl vm xs ys hr.hx hr.hy hr.hl hr.hm hr.ints hi2).mono ?_
    rintro e w' ⟨he, ⟨bv', es', hl, hb⟩, hB, hO⟩
    exact ⟨he, ⟨bv', es', by omega, hb⟩, hB, hO⟩
  · refine (wdeltas_enc w B0 w.heap.size Wb xv yv bv es hbk hB0 hB0 (Nat.le_refl _) a b c s t vl vm xs ys hr.hx hr.hy hu.hl hu.hm hr.ints).mono ?_
    rintro e w' ⟨he, hb, hB⟩
    exact afterS_below hS hbook hB0 he hB
  · refine (wdeltas_decS w B0 Wb xv yv bv es S hS hbook hes hB0 a b c s t vl vm xs ys hr.hs hr.hx hr.hy hr.hl hr.hm).mono ?_
    rintro e w' ⟨he, ⟨bv', es', hl, hb⟩, hB, hO⟩
    exact ⟨he, ⟨bv', es', by omega, hb⟩, hB, hO⟩

set_option maxHeartbeats 4000000 in
theorem step_codesS (w : World) (B0 Wb : Nat) (xv yv bv : Value) (es : List Entry) (S : Nat → Prop) (hS : ∀ q, S q → q < w.heap.size) (hbook : BookAt w B0 Wb xv yv bv es S) (hes : es.length ≤ 1300000000000) (hB0 : B0 ≤ w.heap.size) (k a b c : Int) (s t : ByteArray) (vl vm : Value) (xs ys : List DOp)
    (hr : Raw B0 w s t vl vm xs ys) (hi2 : Ints ys) (hk1 : 1 ≤ k) (hk6 : k ≤ 6) :
    Calls Tryz.prog 17 #[.pointer (some ⟨Wb, 0, none⟩), .agg #[.int .i64 k, .int .i64 a, .int .i64 b, .int .i64 c, .string s, .string t, vl, vm]] w (AfterS B0 Wb xv yv es.length S w) := by
  have HR : Hid (Raw B0 w s t vl vm xs ys) := hr
  obtain ⟨lo, lc, hvl⟩ := hr.hl.slice
  obtain ⟨mo, mc, hvm⟩ := hr.hm.slice
  rw [hvl, hvm] at HR ⊢
  have b1 : Below w.heap.size w (w.alloc (.cells #[.int .i64 k, .int .i64 a, .int .i64 b, .int .i64 c, .string s, .string t, .slice lo xs.length lc, .slice mo ys.length mc] 61)) := (Below.refl _ _).alloc (Nat.le_refl _) _
  have HC : Hid (Calls Tryz.prog 30 #[.pointer (some ⟨Wb, 0, none⟩), .agg #[.int .i64 k, .int .i64 a, .int .i64 b, .int .i64 c, .string s, .string t, .slice lo xs.length lc, .slice mo ys.length mc]] (w.alloc (.cells #[.int .i64 k, .int .i64 a, .int .i64 b, .int .i64 c, .string s, .string t, .slice lo xs.length lc, .slice mo ys.length mc] 61)) (fun e w1 => e = .returned (.bool true) ∧ Hid (AfterS B0 Wb xv yv es.length S w e w1))) := by
    refine (wdeltas_sixS _ B0 Wb xv yv bv es S (fun q hq => by have := hS q hq; simp; omega) (hbook.kept (fun q hq => heap_alloc_old _ _ (hS q hq)) (fun q hq => hq)) hes (by simp; omega) k a b c s t _ _ xs ys (HR.out.kept (b1.mono hB0)) hi2 hk1 hk6).mono ?_
    rintro e w1 ⟨he, ⟨bv', es', hl, hb⟩, hB, hO⟩
    refine ⟨he, he, ⟨bv', es', hl, hb.kept (fun q _ => rfl) (fun q hq => ?_)⟩, (b1.mono hB0).trans hB, (Out.of_below b1).trans hO (fun q hq => .inl hq)⟩
    rcases hq with h | h
    · exact .inl h
    · exact .inr ⟨by have := h.1; simp at this; omega, h.2⟩
  clear hbook hr hvl hvm HR b1 hS hi2
  go_enter Tryz.func17, Tryz.ntmps17
  go_wp2_with fail
  refine HC.out.mono ?_
  rintro e w1 ⟨rfl, HA⟩
  clear HC
  go_wp2
  go_ret
  exact HA.out
end Go.Proofs.YtabpiaaknjcnkaaGreat

/-
  The steps that only read: Versions.
-/
namespace Go.Proofs.YtabpiaaknjcnkaaGreat
open Go.RowKit
set_option linter.unusedVariables false
set_option linter.unusedSimpArgs false
set_option maxRecDepth 100000

set_option maxHeartbeats 4000000 in
theorem step_versions {w : World} {B0 Wb : Nat} {xv yv bv : Value} {es : List Entry} {xs : List XV} {ys : List YV} {κ : Nat → Col} (h : WorldAt w B0 Wb xv yv bv es xs ys κ) (hsame : xs.map (·.s) = ys.map (·.s)) (h0 : 0 < xs.length) (h4 : xs.length ≤ 4) (a b c : Int) (ha : -9223372036854775808 ≤ a ∧ a ≤ 9223372036854775807) (s t : ByteArray) (lo mo : Option Addr) (ln lc mn mc : Nat) :
    Calls Tryz.prog 17 #[.pointer (some ⟨Wb, 0, none⟩), .agg #[.int .i64 10, .int .i64 a, .int .i64 b, .int .i64 c, .string s, .string t, .slice lo ln lc, .slice mo mn mc]] w fun e w' => e = .returned (.bool true) ∧ Below w.heap.size w w' := by
  have hi := pickN_lt a xs.length h0
  have HPK : Hid (∀ W, Calls Tryz.prog 32 #[.int .i64 a, .int .i64 xs.length] W fun e w' => e = .returned (.int .i64 (pickN a xs.length)) ∧ W = w') := fun W => lpick_eq a xs.length W ha.1 ha.2 h0 (by omega)
  generalize pickN a xs.length = i at *
  obtain ⟨gx, cx, gy, cy, x, y, ex, ey, lx, ly, c1, c2, hx, hy, hxy⟩ := h.picks hsame hi
  obtain ⟨hX, hXc, hok⟩ := h.xat i x hx
  obtain ⟨hY, hYc, hok2⟩ := h.yat i y hy
  rw [← hxy] at hY
  have HX : Hid (∀ W, Below w.heap.size w W → Calls Tryz.prog 35 #[.pointer (some ⟨x.p, 0, none⟩), .int .i64 b] W fun e w' => e = .returned (.tuple #[.int .i64 (verA x.s b), .int .i64 (verB x.s b), .int .i64 (verE b)]) ∧ Below W.heap.size W w') := fun W hW => (cversions_any x.p b x.lv x.tv x.s W (hX.below hW) hok).mono fun e w' h => ⟨h.1, h.2.below _⟩
  have HY : Hid (∀ W, Below w.heap.size w W → Calls Tryz.prog 36 #[.pointer (some ⟨y.q, 0, none⟩), .int .i64 b] W fun e w' => e = .returned (.tuple #[.int .i64 (verA x.s b), .int .i64 (verB x.s b), .int .i64 (verE b)]) ∧ Below W.heap.size W w') := fun W hW => yversions_any y.q b y.tv x.s W (hY.below hW) hok
  have kX := h.cellX
  have kY := h.cellY
  rw [ex] at kX
  rw [ey] at kY
  have hWb := h.lt
  have hN0 : ¬ (xs.length : Int) = 0 := by omega
  have hiI : (i : Int) < (xs.length : Int) := by omega
  generalize verA x.s b = V1 at *
  generalize verB x.s b = V2 at *
  generalize verE b = V3 at *
  generalize x.p = p at *
  generalize y.q = q at *
  generalize xs.length = N at *
  clear hx hy hxy hX hY hok h hsame ex ey ha hXc hYc hok2 h0 h4 hi
  go_enter Tryz.func17, Tryz.ntmps17
  go_wp2
  go_region_with (first | (go_at_call 32; refine (HPK.out _).mono ?_; rintro e w' ⟨rfl, rfl⟩))
  all_goals
    go_wp2_with fail
    refine (HX.out _ (((Below.refl w.heap.size w).alloc (Nat.le_refl _) _).drew)).mono ?_
    rintro e w1 ⟨rfl, b1⟩
    have ob1 := (b1.block w.heap.size (by simp)).trans (heap_alloc_new w _)
    have B1 : Below w.heap.size w w1 := (((Below.refl w.heap.size w).alloc (Nat.le_refl _) _).drew).trans (b1.mono (by simp))
    have j2 : w1.cell? ⟨w.heap.size, 2, none⟩ = some (.int .i64 b) := by rw [Lib.cell_of_heap ob1]; rfl
    have j3 : w1.cell? ⟨w.heap.size, 3, none⟩ = some (.int .i64 c) := by rw [Lib.cell_of_heap ob1]; rfl
    have hs1 : w.heap.size < w1.heap.size := lt_of_block ob1
    clear ob1 b1 c1 c2 kX kY
    go_wp2_with fail
    refine (HY.out _ B1).mono ?_
    rintro e w2 ⟨rfl, b2⟩
    have B2 : Below w.heap.size w w2 := B1.trans (b2.mono B1.size)
    clear b2 B1 j2 j3
    go_wp2
    go_ret
    exact ⟨rfl, B2⟩
end Go.Proofs.YtabpiaaknjcnkaaGreat

/-
  The steps that only read: Log.
-/
namespace Go.Proofs.YtabpiaaknjcnkaaGreat
open Go.RowKit
set_option linter.unusedVariables false
set_option linter.unusedSimpArgs false
set_option maxRecDepth 100000

set_option maxHeartbeats 4000000 in
theorem step_log {w : World} {B0 Wb : Nat} {xv yv bv : Value} {es : List Entry} {xs : List XV} {ys : List YV} {κ : Nat → Col} (h : WorldAt w B0 Wb xv yv bv es xs ys κ) (hsame : xs.map (·.s) = ys.map (·.s)) (h0 : 0 < xs.length) (h4 : xs.length ≤ 4) (a b c : Int) (ha : -9223372036854775808 ≤ a ∧ a ≤ 9223372036854775807) (s t : ByteArray) (lo mo : Option Addr) (ln lc mn mc : Nat) :
    Calls Tryz.prog 17 #[.pointer (some ⟨Wb, 0, none⟩), .agg #[.int .i64 12, .int .i64 a, .int .i64 b, .int .i64 c, .string s, .string t, .slice lo ln lc, .slice mo mn mc]] w fun e w' => e = .returned (.bool true) ∧ Below w.heap.size w w' := by
  have hi := pickN_lt a xs.length h0
  have HPK : Hid (∀ W, Calls Tryz.prog 32 #[.int .i64 a, .int .i64 xs.length] W fun e w' => e = .returned (.int .i64 (pickN a xs.length)) ∧ W = w') := fun W => lpick_eq a xs.length W ha.1 ha.2 h0 (by omega)
  generalize pickN a xs.length = i at *
  obtain ⟨gx, cx, gy, cy, x, y, ex, ey, lx, ly, c1, c2, hx, hy, hxy⟩ := h.picks hsame hi
  obtain ⟨hX, hXc, hok⟩ := h.xat i x hx
  obtain ⟨hY, hYc, hok2⟩ := h.yat i y hy
  rw [← hxy] at hY
  have HX : Hid (∀ W, Below w.heap.size w W → Calls Tryz.prog 13 #[.pointer (some ⟨x.p, 0, none⟩)] W fun e w' => e = .returned (.string ⟨x.s.log.toArray⟩) ∧ W = w') := fun W hW => clog_any x.p x.lv x.tv x.s W (hX.below hW)
  have k8 : w.cell? ⟨y.q, 8, none⟩ = some (.string ⟨x.s.log.toArray⟩) := hY.cellL
  have hq : y.q < w.heap.size := hY.lt
  have kX := h.cellX
  have kY := h.cellY
  rw [ex] at kX
  rw [ey] at kY
  have hWb := h.lt
  have hN0 : ¬ (xs.length : Int) = 0 := by omega
  have hiI : (i : Int) < (xs.length : Int) := by omega
  generalize (⟨x.s.log.toArray⟩ : ByteArray) = T at *
  generalize x.p = p at *
  generalize y.q = q at *
  generalize xs.length = N at *
  clear hx hy hxy hX hY hok h hsame ex ey ha hXc hYc hok2 h0 h4 hi
  go_enter Tryz.func17, Tryz.ntmps17
  go_wp2
  go_region_with (first | (go_at_call 32; refine (HPK.out _).mono ?_; rintro e w' ⟨rfl, rfl⟩))
  all_goals
    go_wp2
    go_region_with (first | (go_at_call 13; refine (HX.out _ (by first | exact (((Below.refl w.heap.size w).alloc (Nat.le_refl _) _).drew) | exact (((Below.refl w.heap.size w).alloc (Nat.le_refl _) _).drew).drew)).mono ?_; rintro e w' ⟨rfl, rfl⟩))
    all_goals go_wp2
    all_goals go_ret
    all_goals refine ⟨rfl, ?_⟩
    all_goals first
      | exact (((Below.refl w.heap.size w).alloc (Nat.le_refl _) _).drew).drew
      | exact (((Below.refl w.heap.size w).alloc (Nat.le_refl _) _).drew)
end Go.Proofs.YtabpiaaknjcnkaaGreat

/-
  The steps that only read: none of the kinds.
-/
namespace Go.Proofs.YtabpiaaknjcnkaaGreat
open Go.RowKit
set_option linter.unusedVariables false
set_option linter.unusedSimpArgs false
set_option maxRecDepth 100000

set_option maxHeartbeats 4000000 in
theorem step_low {w : World} {B0 Wb : Nat} {xv yv bv : Value} {es : List Entry} {xs : List XV} {ys : List YV} {κ : Nat → Col} (h : WorldAt w B0 Wb xv yv bv es xs ys κ) (hsame : xs.map (·.s) = ys.map (·.s)) (h0 : 0 < xs.length) (h4 : xs.length ≤ 4) (k a b c : Int) (hk : k < 1) (ha : -9223372036854775808 ≤ a ∧ a ≤ 9223372036854775807) (s t : ByteArray) (lo mo : Option Addr) (ln lc mn mc : Nat) :
    Calls Tryz.prog 17 #[.pointer (some ⟨Wb, 0, none⟩), .agg #[.int .i64 k, .int .i64 a, .int .i64 b, .int .i64 c, .string s, .string t, .slice lo ln lc, .slice mo mn mc]] w fun e w' => e = .returned (.bool true) ∧ Below w.heap.size w w' := by
  have hi := pickN_lt a xs.length h0
  have HPK : Hid (∀ W, Calls Tryz.prog 32 #[.int .i64 a, .int .i64 xs.length] W fun e w' => e = .returned (.int .i64 (pickN a xs.length)) ∧ W = w') := fun W => lpick_eq a xs.length W ha.1 ha.2 h0 (by omega)
  generalize pickN a xs.length = i at *
  obtain ⟨gx, cx, gy, cy, x, y, ex, ey, lx, ly, c1, c2, hx, hy, hxy⟩ := h.picks hsame hi
  obtain ⟨hX, hXc, hok⟩ := h.xat i x hx
  obtain ⟨hY, hYc, hok2⟩ := h.yat i y hy
  rw [← hxy] at hY
  have kX := h.cellX
  have kY := h.cellY
  rw [ex] at kX
  rw [ey] at kY
  have hWb := h.lt
  have hN0 : ¬ (xs.length : Int) = 0 := by omega
  have hiI : (i : Int) < (xs.length : Int) := by omega
  have n1 : ¬ (1 : Int) ≤ k := by omega
  have n2 : ¬ k = 7 := by omega
  have n3 : ¬ k = 13 := by omega
  have n4 : ¬ k = 8 := by omega
  have n5 : ¬ k = 9 := by omega
  have n6 : ¬ k = 10 := by omega
  have n7 : ¬ k = 11 := by omega
  have n8 : ¬ k = 12 := by omega
  have n9 : ¬ k = 14 := by omega
  have n10 : ¬ k = 15 := by omega
  clear hk
  generalize x.p = p at *
  generalize y.q = q at *
  generalize xs.length = N at *
  clear hx hy hxy hX hY hok h hsame ex ey ha hXc hYc hok2 h0 h4 hi
  go_enter Tryz.func17, Tryz.ntmps17
  go_wp2
  go_region_with (first | (go_at_call 32; refine (HPK.out _).mono ?_; rintro e w' ⟨rfl, rfl⟩))
  all_goals
    go_wp2
    go_ret
    exact ⟨rfl, ((Below.refl w.heap.size w).alloc (Nat.le_refl _) _).drew⟩
end Go.Proofs.YtabpiaaknjcnkaaGreat

/-
  The document's vault: numbers, records, bodies; what a chain may and has.
-/
namespace Go.Proofs.YtabpiaaknjcnkaaGreat
open Go.RowKit
set_option linter.unusedVariables false
set_option linter.unusedSimpArgs false
set_option maxRecDepth 100000

set_option maxHeartbeats 2000000 in
theorem ru_wide (n : Nat) (w : World) (hn : n < 34359738368) :
    Calls Tryz.prog 102 #[.int .i64 n] w fun e w' => e = .returned (.string ⟨(uN n).toArray⟩) ∧ Below w.heap.size w w' := by
  go_enter Tryz.func102, Tryz.ntmps102
  go_wp2
  go_loopw [0, 3] (fun c v wr => ∃ (m : Nat) (out : ByteArray) (pre : List UInt8), c = .int .i64 m ∧ v = .string out ∧ m ≤ n ∧ Hid (out.data.toList = pre) ∧ Hid (uN n = pre ++ uN m) ∧ out.size + m ≤ n ∧ Below w.heap.size w wr) (fun c _ _ => (intOf c).toNat)
  case atStart => exact ⟨n, ⟨#[]⟩, [], rfl, rfl, by omega, rfl, rfl, (show 0 + n ≤ n by omega), Below.refl _ _⟩
  case round =>
    obtain ⟨m, out, pre, rfl, rfl, hm, HO, HU, hsz, hb⟩ := hrel
    have hs := hb.size
    by_cases hge : 127 < m
    · have hcv := conv_byte wr ((m : Int) % 128 + 128) (m % 128 + 128) (by omega) (by omega)
      have HO2 : Hid ((out ++ ⟨#[UInt8.ofNat (m % 128 + 128)]⟩).data.toList = pre ++ [UInt8.ofNat (m % 128 + 128)]) := by
        show _ = _
        rw [app_bytes, HO.out]
      have HU2 : Hid (uN n = (pre ++ [UInt8.ofNat (m % 128 + 128)]) ++ uN (m / 128)) := by
        show uN n = _
        rw [HU.out, uN_ge (by omega)]; simp
      have hs2 : (out ++ ⟨#[UInt8.ofNat (m % 128 + 128)]⟩ : ByteArray).size = out.size + 1 := by rw [ByteArray.size_append]; rfl
      generalize UInt8.ofNat (m % 128 + 128) = c at *
      go_wp2
      go_roundw
      case rel => exact ⟨m / 128, out ++ ⟨#[c]⟩, pre ++ [c], by go_num, rfl, by omega, HO2, HU2, by omega, hb.alloc (by omega) _⟩
      case measure => simp [intOf]; omega
    · have hcv := conv_byte wr (m : Int) m (by omega) (by omega)
      have HE : Hid ((⟨(uN n).toArray⟩ : ByteArray) = out ++ ⟨#[UInt8.ofNat m]⟩) := by
        apply bytes_ext
        rw [app_bytes, HO.out, HU.out, uN_lt (by omega)]
      go_wp2
      go_ret
      rw [HE.out]
      exact ⟨rfl, hb.alloc (by omega) _⟩

theorem yconv4 (W : World) (g : Nat) (a b c d : UInt8) (h0 : W.cell? ⟨g, 0, none⟩ = some (.int .u8 a.toNat)) (h1 : W.cell? ⟨g, 1, none⟩ = some (.int .u8 b.toNat)) (h2 : W.cell? ⟨g, 2, none⟩ = some (.int .u8 c.toNat)) (h3 : W.cell? ⟨g, 3, none⟩ = some (.int .u8 d.toNat)) :
    (convert 48 9 (.slice (some ⟨g, 0, none⟩) 4 4)).run Tryz.prog W = .ok (.string ⟨#[a, b, c, d]⟩) W := by
  have := run_convert_bytes_back (P := Tryz.prog) W 48 9 5 ⟨g, 0, none⟩ 4 [a, b, c, d] Tryz.underlying48 Tryz.underlying5 Tryz.underlying9 (fun j hj => by
    have e : (⟨g, 0, none⟩ : Addr).add j = ⟨g, j, none⟩ := by
      simp only [Addr.add, Nat.zero_add]
      by_cases hj0 : j = 0
      · rw [if_pos hj0, hj0]
      · rw [if_neg hj0]
    rw [e]
    simp only [List.length_cons, List.length_nil] at hj
    match j, hj with
    | 0, _ => exact h0
    | 1, _ => exact h1
    | 2, _ => exact h2
    | 3, _ => exact h3)
  exact this


set_option maxHeartbeats 4000000 in
theorem yrecord_any (b : ByteArray) (w : World) (hb : b.size ≤ 100000) :
    Calls Tryz.prog 74 #[.string b] w fun e w' => e = .returned (.string ⟨(recL b.data.toList).toArray⟩) ∧ Below w.heap.size w w' := by
  have hx := sumL_lt b.data.toList
  have HE : Hid ((⟨(recL b.data.toList).toArray⟩ : ByteArray) = ⟨(uN b.size).toArray⟩ ++ b ++ ⟨#[UInt8.ofNat (sumL b.data.toList), UInt8.ofNat (sumL b.data.toList / 256), UInt8.ofNat (sumL b.data.toList / 65536), UInt8.ofNat (sumL b.data.toList / 16777216)]⟩) := by
    apply bytes_ext; rw [app_bytes, app_bytes, Lib.size_eq]; simp [recL, le4]
  have HU : Hid (∀ W : World, Calls Tryz.prog 102 #[.int .i64 b.size] W fun e w' => e = .returned (.string ⟨(uN b.size).toArray⟩) ∧ Below W.heap.size W w') := fun W => ru_wide b.size W (by omega)
  have hul : (⟨(uN b.size).toArray⟩ : ByteArray).size ≤ 5 := by rw [Lib.size_eq]; exact uN_length5 (by omega)
  go_enter Tryz.func74, Tryz.ntmps74
  go_wp2_with fail
  refine (rsum_any b _ (by omega)).mono ?_
  rintro e w1 ⟨rfl, rfl⟩
  generalize (⟨(uN b.size).toArray⟩ : ByteArray) = U at *
  generalize sumL b.data.toList = x at *
  have q : ∀ n : Nat, IntKind.u8.wrap (n : Int) = ((UInt8.ofNat n).toNat : Int) := fun n => by rw [UInt8.toNat_ofNat', IntKind.wrap_u8]; omega
  have e0 : IntKind.u8.wrap (x : Int) = ((UInt8.ofNat x).toNat : Int) := q x
  have e1 : IntKind.u8.wrap ((x : Int) / 256) = ((UInt8.ofNat (x / 256)).toNat : Int) := q (x / 256)
  have e2 : IntKind.u8.wrap ((x : Int) / 65536) = ((UInt8.ofNat (x / 65536)).toNat : Int) := q (x / 65536)
  have e3 : IntKind.u8.wrap ((x : Int) / 16777216) = ((UInt8.ofNat (x / 16777216)).toNat : Int) := q (x / 16777216)
  clear q
  have g1 : IntKind.u32.wrap ((x : Int) / 256) = (x : Int) / 256 := by rw [IntKind.wrap_u32]; omega
  have g2 : IntKind.u32.wrap ((x : Int) / 65536) = (x : Int) / 65536 := by rw [IntKind.wrap_u32]; omega
  have g3 : IntKind.u32.wrap ((x : Int) / 16777216) = (x : Int) / 16777216 := by rw [IntKind.wrap_u32]; omega
  generalize UInt8.ofNat x = c0 at *
  generalize UInt8.ofNat (x / 256) = c1 at *
  generalize UInt8.ofNat (x / 65536) = c2 at *
  generalize UInt8.ofNat (x / 16777216) = c3 at *
  have hcv := fun (W : World) (g : Nat) => yconv4 W g c0 c1 c2 c3
  have hz1 : ¬ 9223372036854775807 < U.size + b.size := by omega
  have hz2 : ¬ 9223372036854775807 < U.size + b.size + 4 := by omega
  go_wp2
  go_region_with (first | (go_at_call 102; refine (HU.out _).mono ?_; rintro e w3 ⟨rfl, hb3⟩; have k3 := fun (q j : Nat) (hq : q < _) => hb3.cell (p := ⟨q, j, none⟩) hq))
  all_goals go_wp2
  all_goals go_ret
  all_goals rw [HE.out]
  all_goals refine ⟨rfl, ?_⟩
  all_goals first
    | exact (((Below.refl w.heap.size w).alloc (Nat.le_refl _) _).drew).trans (hb3.mono (by simp))
    | exact ((Below.refl w.heap.size w).drew.trans (hb3.mono (by simp))).alloc (by have := hb3.size; simpa using this) _

set_option maxHeartbeats 2000000 in
theorem yfull_any (c : Nat) (t : ByteArray) (w : World) (hc : c < 128) (ht : t.size ≤ 2000) :
    Calls Tryz.prog 73 #[.int .i64 c, .string t] w fun e w' => e = .returned (.string ⟨(bodyF c t.data.toList).toArray⟩) ∧ Below w.heap.size w w' := by
  have HU : Hid (∀ W : World, Calls Tryz.prog 102 #[.int .i64 c] W fun e w' => e = .returned (.string ⟨(uN c).toArray⟩) ∧ Below W.heap.size W w') := fun W => ru_wide c W (by omega)
  have hul : (⟨(uN c).toArray⟩ : ByteArray).size ≤ 5 := by rw [Lib.size_eq]; exact uN_length5 (by omega)
  have HE : Hid ((⟨(bodyF c t.data.toList).toArray⟩ : ByteArray) = ⟨#[70]⟩ ++ ⟨(uN c).toArray⟩ ++ t) := by
    apply bytes_ext; rw [app_bytes, app_bytes]; simp [bodyF]
  generalize (⟨(uN c).toArray⟩ : ByteArray) = U at *
  have a1 : ∀ W : World, (Op.stringOp .add ⟨#[70]⟩ U).run Tryz.prog W = .ok (.string (⟨#[70]⟩ ++ U)) W := fun W => run_string_add_sum W _ _ (by have : (⟨#[70]⟩ : ByteArray).size = 1 := rfl; omega)
  have a2 : ∀ W : World, (Op.stringOp .add (⟨#[70]⟩ ++ U) t).run Tryz.prog W = .ok (.string (⟨#[70]⟩ ++ U ++ t)) W := fun W => run_string_add_sum W _ _ (by have : (⟨#[70]⟩ : ByteArray).size = 1 := rfl; rw [ByteArray.size_append]; omega)
  rw [HE.out]
  go_enter Tryz.func73, Tryz.ntmps73
  go_wp2_with fail
  refine (HU.out _).mono ?_
  rintro e w1 ⟨rfl, b1⟩
  go_wp2
  go_ret
  exact ⟨rfl, b1⟩
set_option maxHeartbeats 2000000 in
theorem yprunes_any (c n : Nat) (w : World) (hc : c < 128) (hn : n < 34359738368) :
    Calls Tryz.prog 79 #[.int .i64 c, .int .i64 n] w fun e w' => e = .returned (.string ⟨(bodyP c n).toArray⟩) ∧ Below w.heap.size w w' := by
  have HU : Hid (∀ W : World, Calls Tryz.prog 102 #[.int .i64 c] W fun e w' => e = .returned (.string ⟨(uN c).toArray⟩) ∧ Below W.heap.size W w') := fun W => ru_wide c W (by omega)
  have HU2 : Hid (∀ W : World, Calls Tryz.prog 102 #[.int .i64 n] W fun e w' => e = .returned (.string ⟨(uN n).toArray⟩) ∧ Below W.heap.size W w') := fun W => ru_wide n W hn
  have hul : (⟨(uN c).toArray⟩ : ByteArray).size ≤ 5 := by rw [Lib.size_eq]; exact uN_length5 (by omega)
  have hul2 : (⟨(uN n).toArray⟩ : ByteArray).size ≤ 5 := by rw [Lib.size_eq]; exact uN_length5 hn
  have HE : Hid ((⟨(bodyP c n).toArray⟩ : ByteArray) = ⟨#[80]⟩ ++ ⟨(uN c).toArray⟩ ++ ⟨(uN n).toArray⟩) := by
    apply bytes_ext; rw [app_bytes, app_bytes]; simp [bodyP]
  generalize (⟨(uN c).toArray⟩ : ByteArray) = U at *
  generalize (⟨(uN n).toArray⟩ : ByteArray) = V at *
  have a1 : ∀ W : World, (Op.stringOp .add ⟨#[80]⟩ U).run Tryz.prog W = .ok (.string (⟨#[80]⟩ ++ U)) W := fun W => run_string_add_sum W _ _ (by have : (⟨#[80]⟩ : ByteArray).size = 1 := rfl; omega)
  have a2 : ∀ W : World, (Op.stringOp .add (⟨#[80]⟩ ++ U) V).run Tryz.prog W = .ok (.string (⟨#[80]⟩ ++ U ++ V)) W := fun W => run_string_add_sum W _ _ (by have : (⟨#[80]⟩ : ByteArray).size = 1 := rfl; rw [ByteArray.size_append]; omega)
  rw [HE.out]
  go_enter Tryz.func79, Tryz.ntmps79
  go_wp2_with fail
  refine (HU.out _).mono ?_
  rintro e w1 ⟨rfl, b1⟩
  go_wp2_with fail
  refine (HU2.out _).mono ?_
  rintro e w2 ⟨rfl, b2⟩
  go_wp2
  go_ret
  exact ⟨rfl, b1.trans (b2.mono b1.size)⟩
end Go.Proofs.YtabpiaaknjcnkaaGreat
