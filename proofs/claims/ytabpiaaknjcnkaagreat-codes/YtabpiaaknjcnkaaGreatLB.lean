/-
  A step of the script, of the kinds up to 3.
-/
import Derived.Test.YtabpiaaknjcnkaaGreatL9
import Derived.LoopTactic
namespace Go.Proofs.YtabpiaaknjcnkaaGreat
open Go.RowKit
set_option linter.unusedVariables false
set_option linter.unusedSimpArgs false
set_option maxRecDepth 100000

/-- The raw arguments of a step. -/
structure Raw (B0 : Nat) (w : World) (s t : ByteArray) (vl vm : Value) (xs ys : List DOp) : Prop where
  hs : s.size ≤ 9223372036854770000
  ht : t.size ≤ 9223372036854770000
  hx : xs.length ≤ 4398046511000
  hy : ys.length ≤ 4398046511000
  hl : LView B0 w vl xs
  hm : LView B0 w vm ys
  len : ∀ o ∈ xs, o.len ≤ 9223372036854775807
  tx : ∀ o ∈ xs, o.tx.size ≤ 9223372036854770000
theorem Raw.kept {B0 : Nat} {w w' : World} {s t : ByteArray} {vl vm : Value} {xs ys : List DOp} (h : Raw B0 w s t vl vm xs ys) (hb : Below B0 w w') : Raw B0 w' s t vl vm xs ys :=
  ⟨h.hs, h.ht, h.hx, h.hy, h.hl.kept hb, h.hm.kept hb, h.len, h.tx⟩

/-- What every step leaves. -/
def After (B0 Wb : Nat) (xv yv : Value) (n : Nat) (w : World) (e : Ending) (w' : World) : Prop :=
  e = .returned (.bool true) ∧ (∃ bv' es', es'.length ≤ n + 1 ∧ BookAt w' B0 Wb xv yv bv' es' (· < w'.heap.size)) ∧ Below B0 w w'

theorem wdeltas_any (w : World) (B0 Wb : Nat) (xv yv bv : Value) (es : List Entry) (hbook : BookAt w B0 Wb xv yv bv es (· < w.heap.size)) (hes : es.length ≤ 1300000000000) (hB0 : B0 ≤ w.heap.size) (k a b c : Int) (s t : ByteArray) (vl vm : Value) (xs ys : List DOp)
    (hr : Raw B0 w s t vl vm xs ys) (hk1 : 1 ≤ k) (hk3 : k ≤ 3) :
    Calls Tryz.prog 30 #[.pointer (some ⟨Wb, 0, none⟩), .agg #[.int .i64 k, .int .i64 a, .int .i64 b, .int .i64 c, .string s, .string t, vl, vm]] w (After B0 Wb xv yv es.length w) := by
  have h1 := hr.hs
  have h2 := hr.ht
  rcases (show k = 1 ∨ k = 2 ∨ k = 3 by omega) with rfl | rfl | rfl
  · refine (wdeltas_diff w B0 Wb xv yv bv es hbook hes hB0 a b c s t vl vm xs ys (by omega) (by omega) hr.hx hr.hy hr.hl hr.hm).mono ?_
    rintro e w' ⟨he, ⟨bv', es', hl, hb⟩, hB⟩
    exact ⟨he, ⟨bv', es', by omega, hb⟩, hB⟩
  · refine (wdeltas_apply w B0 Wb xv yv bv es hbook hB0 a b c s t vl vm xs ys (by omega) hr.hx hr.hy hr.hl hr.hm hr.len hr.tx).mono ?_
    rintro e w' ⟨he, hb, hB⟩
    exact ⟨he, ⟨bv, es, by omega, hb⟩, hB⟩
  · refine (wdeltas_sum w B0 Wb xv yv bv es hbook hB0 a b c s t vl vm xs ys (by omega) hr.hx hr.hy hr.hl hr.hm).mono ?_
    rintro e w' ⟨he, hb, hB⟩
    exact ⟨he, ⟨bv, es, by omega, hb⟩, hB⟩

set_option maxHeartbeats 4000000 in
theorem step_deltas (w : World) (B0 Wb : Nat) (xv yv bv : Value) (es : List Entry) (hbook : BookAt w B0 Wb xv yv bv es (· < w.heap.size)) (hes : es.length ≤ 1300000000000) (hB0 : B0 ≤ w.heap.size) (k a b c : Int) (s t : ByteArray) (vl vm : Value) (xs ys : List DOp)
    (hr : Raw B0 w s t vl vm xs ys) (hk1 : 1 ≤ k) (hk3 : k ≤ 3) :
    Calls Tryz.prog 17 #[.pointer (some ⟨Wb, 0, none⟩), .agg #[.int .i64 k, .int .i64 a, .int .i64 b, .int .i64 c, .string s, .string t, vl, vm]] w (After B0 Wb xv yv es.length w) := by
  have HBK : Hid (BookAt w B0 Wb xv yv bv es (· < w.heap.size)) := hbook
  have HR : Hid (Raw B0 w s t vl vm xs ys) := hr
  obtain ⟨lo, lc, hvl⟩ := hr.hl.slice
  obtain ⟨mo, mc, hvm⟩ := hr.hm.slice
  rw [hvl, hvm] at HR ⊢
  clear hbook hr hvl hvm
  have hk6 : k ≤ 6 := by omega
  have b1 : Below B0 w (w.alloc (.cells #[.int .i64 k, .int .i64 a, .int .i64 b, .int .i64 c, .string s, .string t, .slice lo xs.length lc, .slice mo ys.length mc] 61)) := (Below.refl _ _).alloc hB0 _
  have HC : Hid (Calls Tryz.prog 30 #[.pointer (some ⟨Wb, 0, none⟩), .agg #[.int .i64 k, .int .i64 a, .int .i64 b, .int .i64 c, .string s, .string t, .slice lo xs.length lc, .slice mo ys.length mc]] (w.alloc (.cells #[.int .i64 k, .int .i64 a, .int .i64 b, .int .i64 c, .string s, .string t, .slice lo xs.length lc, .slice mo ys.length mc] 61)) (After B0 Wb xv yv es.length (w.alloc (.cells #[.int .i64 k, .int .i64 a, .int .i64 b, .int .i64 c, .string s, .string t, .slice lo xs.length lc, .slice mo ys.length mc] 61)))) :=
    wdeltas_any _ B0 Wb xv yv bv es (HBK.out.kept (fun q hq => heap_alloc_old _ _ hq) (fun q hq => by have : q < w.heap.size := hq; show q < _; simp; omega)) hes (by simp; omega) k a b c s t _ _ xs ys (HR.out.kept b1) hk1 hk3
  go_enter Tryz.func17, Tryz.ntmps17
  go_wp2_with fail
  refine HC.out.mono ?_
  rintro e w1 ⟨rfl, hbk, hB⟩
  have R : Below B0 w w1 := b1.trans hB
  clear hB b1 HC
  go_wp2
  go_ret
  exact ⟨rfl, hbk, R⟩

set_option maxHeartbeats 4000000 in
theorem step_none (w : World) (B0 Wb : Nat) (yv bv : Value) (es : List Entry) (hbook : BookAt w B0 Wb (.slice none 0 0) yv bv es (· < w.heap.size)) (hB0 : B0 ≤ w.heap.size) (k a b c : Int) (s t : ByteArray) (vl vm : Value) (xs ys : List DOp)
    (hr : Raw B0 w s t vl vm xs ys) (hk1 : k < 1) :
    Calls Tryz.prog 17 #[.pointer (some ⟨Wb, 0, none⟩), .agg #[.int .i64 k, .int .i64 a, .int .i64 b, .int .i64 c, .string s, .string t, vl, vm]] w (After B0 Wb (.slice none 0 0) yv es.length w) := by
  obtain ⟨lo, lc, hvl⟩ := hr.hl.slice
  obtain ⟨mo, mc, hvm⟩ := hr.hm.slice
  rw [hvl, hvm]
  have hWb : Wb < w.heap.size := hbook.wbB
  have hc : w.cell? ⟨Wb, 0, none⟩ = some (.slice none 0 0) := by rw [Lib.cell_of_heap hbook.blk]; rfl
  have bk : BookAt (w.alloc (.cells #[.int .i64 k, .int .i64 a, .int .i64 b, .int .i64 c, .string s, .string t, .slice lo xs.length lc, .slice mo ys.length mc] 61)) B0 Wb (.slice none 0 0) yv bv es (· < (w.alloc (.cells #[.int .i64 k, .int .i64 a, .int .i64 b, .int .i64 c, .string s, .string t, .slice lo xs.length lc, .slice mo ys.length mc] 61)).heap.size) :=
    hbook.kept (fun q hq => heap_alloc_old _ _ hq) (fun q hq => by have : q < w.heap.size := hq; show q < _; simp; omega)
  have HB : Hid (BookAt (w.alloc (.cells #[.int .i64 k, .int .i64 a, .int .i64 b, .int .i64 c, .string s, .string t, .slice lo xs.length lc, .slice mo ys.length mc] 61)) B0 Wb (.slice none 0 0) yv bv es (· < (w.alloc (.cells #[.int .i64 k, .int .i64 a, .int .i64 b, .int .i64 c, .string s, .string t, .slice lo xs.length lc, .slice mo ys.length mc] 61)).heap.size)) := bk
  clear bk hbook hr hvl hvm
  have n1 : ¬ (1 : Int) ≤ k := by omega
  have n2 : ¬ k = 7 := by omega
  have n3 : ¬ k = 13 := by omega
  go_enter Tryz.func17, Tryz.ntmps17
  go_wp2
  go_ret
  exact ⟨rfl, ⟨bv, es, by omega, HB.out⟩, (Below.refl _ _).alloc hB0 _⟩
end Go.Proofs.YtabpiaaknjcnkaaGreat
