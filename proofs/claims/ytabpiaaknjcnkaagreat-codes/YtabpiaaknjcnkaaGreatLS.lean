/-
  A step of the script, of the kinds up to 6.
-/
import Derived.Test.YtabpiaaknjcnkaaGreatLB
import Derived.Test.YtabpiaaknjcnkaaGreatLE
import Derived.Test.YtabpiaaknjcnkaaGreatXRALK
import Derived.LoopTactic
namespace Go.Proofs.YtabpiaaknjcnkaaGreat
open Go.RowKit
set_option linter.unusedVariables false
set_option linter.unusedSimpArgs false
set_option maxRecDepth 100000

theorem Raw.ints {B0 : Nat} {w : World} {s t : ByteArray} {vl vm : Value} {xs ys : List DOp} (h : Raw B0 w s t vl vm xs ys) : Ints xs := ⟨by have := h.hx; omega, h.len, h.tx⟩

theorem wdeltas_six (w : World) (B0 Wb : Nat) (xv yv bv : Value) (es : List Entry) (hbook : BookAt w B0 Wb xv yv bv es (· < w.heap.size)) (hes : es.length ≤ 1300000000000) (hB0 : B0 ≤ w.heap.size) (k a b c : Int) (s t : ByteArray) (vl vm : Value) (xs ys : List DOp)
    (hr : Raw B0 w s t vl vm xs ys) (hi2 : Ints ys) (hk1 : 1 ≤ k) (hk6 : k ≤ 6) :
    Calls Tryz.prog 30 #[.pointer (some ⟨Wb, 0, none⟩), .agg #[.int .i64 k, .int .i64 a, .int .i64 b, .int .i64 c, .string s, .string t, vl, vm]] w (After B0 Wb xv yv es.length w) := by
  have h1 := hr.hs
  have h2 := hr.ht
  by_cases hk3 : k ≤ 3
  · exact wdeltas_any w B0 Wb xv yv bv es hbook hes hB0 k a b c s t vl vm xs ys hr hk1 hk3
  rcases (show k = 4 ∨ k = 5 ∨ k = 6 by omega) with rfl | rfl | rfl
  · refine (wdeltas_comp w B0 Wb xv yv bv es hbook hes hB0 a b c s t vl vm xs ys hr.hx hr.hy hr.hl hr.hm hr.ints hi2).mono ?_
    rintro e w' ⟨he, ⟨bv', es', hl, hb⟩, hB⟩
    exact ⟨he, ⟨bv', es', by omega, hb⟩, hB⟩
  · refine (wdeltas_enc w B0 B0 Wb xv yv bv es hbook hB0 (Nat.le_refl _) hB0 a b c s t vl vm xs ys hr.hx hr.hy hr.hl hr.hm hr.ints).mono ?_
    rintro e w' ⟨he, hb, hB⟩
    exact ⟨he, ⟨bv, es, by omega, hb⟩, hB⟩
  · refine (wdeltas_dec w B0 Wb xv yv bv es hbook hes hB0 a b c s t vl vm xs ys hr.hs hr.hx hr.hy hr.hl hr.hm).mono ?_
    rintro e w' ⟨he, ⟨bv', es', hl, hb⟩, hB⟩
    exact ⟨he, ⟨bv', es', by omega, hb⟩, hB⟩

set_option maxHeartbeats 4000000 in
theorem step_codes (w : World) (B0 Wb : Nat) (xv yv bv : Value) (es : List Entry) (hbook : BookAt w B0 Wb xv yv bv es (· < w.heap.size)) (hes : es.length ≤ 1300000000000) (hB0 : B0 ≤ w.heap.size) (k a b c : Int) (s t : ByteArray) (vl vm : Value) (xs ys : List DOp)
    (hr : Raw B0 w s t vl vm xs ys) (hi2 : Ints ys) (hk1 : 1 ≤ k) (hk6 : k ≤ 6) :
    Calls Tryz.prog 17 #[.pointer (some ⟨Wb, 0, none⟩), .agg #[.int .i64 k, .int .i64 a, .int .i64 b, .int .i64 c, .string s, .string t, vl, vm]] w (After B0 Wb xv yv es.length w) := by
  have HBK : Hid (BookAt w B0 Wb xv yv bv es (· < w.heap.size)) := hbook
  have HR : Hid (Raw B0 w s t vl vm xs ys) := hr
  obtain ⟨lo, lc, hvl⟩ := hr.hl.slice
  obtain ⟨mo, mc, hvm⟩ := hr.hm.slice
  rw [hvl, hvm] at HR ⊢
  clear hbook hr hvl hvm
  have HI : Hid (Ints ys) := hi2
  clear hi2
  have b1 : Below B0 w (w.alloc (.cells #[.int .i64 k, .int .i64 a, .int .i64 b, .int .i64 c, .string s, .string t, .slice lo xs.length lc, .slice mo ys.length mc] 61)) := (Below.refl _ _).alloc hB0 _
  have HC : Hid (Calls Tryz.prog 30 #[.pointer (some ⟨Wb, 0, none⟩), .agg #[.int .i64 k, .int .i64 a, .int .i64 b, .int .i64 c, .string s, .string t, .slice lo xs.length lc, .slice mo ys.length mc]] (w.alloc (.cells #[.int .i64 k, .int .i64 a, .int .i64 b, .int .i64 c, .string s, .string t, .slice lo xs.length lc, .slice mo ys.length mc] 61)) (After B0 Wb xv yv es.length (w.alloc (.cells #[.int .i64 k, .int .i64 a, .int .i64 b, .int .i64 c, .string s, .string t, .slice lo xs.length lc, .slice mo ys.length mc] 61)))) :=
    wdeltas_six _ B0 Wb xv yv bv es (HBK.out.kept (fun q hq => heap_alloc_old _ _ hq) (fun q hq => by have : q < w.heap.size := hq; show q < _; simp; omega)) hes (by simp; omega) k a b c s t _ _ xs ys (HR.out.kept b1) HI.out hk1 hk6
  go_enter Tryz.func17, Tryz.ntmps17
  go_wp2_with fail
  refine HC.out.mono ?_
  rintro e w1 ⟨rfl, hbk, hB⟩
  have R : Below B0 w w1 := b1.trans hB
  clear hB b1 HC
  go_wp2
  go_ret
  exact ⟨rfl, hbk, R⟩

/-- What a step leaves whose list lies higher up. -/
def AfterE (B0 B1 Wb : Nat) (xv yv : Value) (n : Nat) (w : World) (e : Ending) (w' : World) : Prop :=
  e = .returned (.bool true) ∧ (∃ bv' es', es'.length ≤ n + 1 ∧ BookAt w' B0 Wb xv yv bv' es' (· < w'.heap.size)) ∧ Below B1 w w'

set_option maxHeartbeats 4000000 in
theorem step_enc (w : World) (B0 B1 Wb : Nat) (xv yv bv : Value) (es : List Entry) (hbook : BookAt w B0 Wb xv yv bv es (· < w.heap.size)) (hes : es.length ≤ 1300000000000) (hB0 : B0 ≤ w.heap.size) (hB01 : B0 ≤ B1) (hB1 : B1 ≤ w.heap.size) (a b c : Int) (s t : ByteArray) (vl vm : Value) (xs ys : List DOp)
    (hr : Raw B1 w s t vl vm xs ys) (hi2 : Ints ys)  :
    Calls Tryz.prog 17 #[.pointer (some ⟨Wb, 0, none⟩), .agg #[.int .i64 5, .int .i64 a, .int .i64 b, .int .i64 c, .string s, .string t, vl, vm]] w (AfterE B0 B1 Wb xv yv es.length w) := by
  have HBK : Hid (BookAt w B0 Wb xv yv bv es (· < w.heap.size)) := hbook
  have HR : Hid (Raw B1 w s t vl vm xs ys) := hr
  obtain ⟨lo, lc, hvl⟩ := hr.hl.slice
  obtain ⟨mo, mc, hvm⟩ := hr.hm.slice
  rw [hvl, hvm] at HR ⊢
  clear hbook hr hvl hvm
  have HI : Hid (Ints ys) := hi2
  clear hi2
  have b1 : Below B1 w (w.alloc (.cells #[.int .i64 5, .int .i64 a, .int .i64 b, .int .i64 c, .string s, .string t, .slice lo xs.length lc, .slice mo ys.length mc] 61)) := (Below.refl _ _).alloc hB1 _
  have HC : Hid (Calls Tryz.prog 30 #[.pointer (some ⟨Wb, 0, none⟩), .agg #[.int .i64 5, .int .i64 a, .int .i64 b, .int .i64 c, .string s, .string t, .slice lo xs.length lc, .slice mo ys.length mc]] (w.alloc (.cells #[.int .i64 5, .int .i64 a, .int .i64 b, .int .i64 c, .string s, .string t, .slice lo xs.length lc, .slice mo ys.length mc] 61)) (AfterE B0 B1 Wb xv yv es.length (w.alloc (.cells #[.int .i64 5, .int .i64 a, .int .i64 b, .int .i64 c, .string s, .string t, .slice lo xs.length lc, .slice mo ys.length mc] 61)))) :=
    (wdeltas_enc _ B0 B1 Wb xv yv bv es (HBK.out.kept (fun q hq => heap_alloc_old _ _ hq) (fun q hq => by have : q < w.heap.size := hq; show q < _; simp; omega)) (by simp; omega) hB01 (by simp; omega) a b c s t _ _ xs ys HR.out.hx HR.out.hy (HR.out.hl.kept b1) (HR.out.hm.kept b1) HR.out.ints).mono fun e w' h => ⟨h.1, ⟨bv, es, by omega, h.2.1⟩, h.2.2⟩
  go_enter Tryz.func17, Tryz.ntmps17
  go_wp2_with fail
  refine HC.out.mono ?_
  rintro e w1 ⟨rfl, hbk, hB⟩
  have R : Below B1 w w1 := b1.trans hB
  clear hB b1 HC
  go_wp2
  go_ret
  exact ⟨rfl, hbk, R⟩
end Go.Proofs.YtabpiaaknjcnkaaGreat
