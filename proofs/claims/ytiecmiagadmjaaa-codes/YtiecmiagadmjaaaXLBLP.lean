/- The texts LB, LP, one behind the other. -/
import Derived.Test.YtiecmiagadmjaaaL9
import Derived.LoopTactic
/-
  A step of the script, of the kinds up to 3.
-/
namespace Go.Proofs.Ytiecmiagadmjaaa
open Go.RowKit
set_option linter.unusedVariables false
set_option linter.unusedSimpArgs false
set_option maxRecDepth 100000

/-- The raw arguments of a step. -/
structure Raw (B0 : Nat) (w : World) (s t : ByteArray) (vl vm : Value) (xs ys : List DOp) : Prop where
  hs : s.size ≤ 9223372036854770000
  ht : t.size ≤ 9223372036854770000
  hx : xs.length ≤ 4398046511000
  hy : ys.length ≤ 4398046511000
  hl : LView B0 w vl xs
  hm : LView B0 w vm ys
  len : ∀ o ∈ xs, o.len ≤ 9223372036854775807
  tx : ∀ o ∈ xs, o.tx.size ≤ 9223372036854770000
theorem Raw.kept {B0 : Nat} {w w' : World} {s t : ByteArray} {vl vm : Value} {xs ys : List DOp} (h : Raw B0 w s t vl vm xs ys) (hb : Below B0 w w') : Raw B0 w' s t vl vm xs ys :=
  ⟨h.hs, h.ht, h.hx, h.hy, h.hl.kept hb, h.hm.kept hb, h.len, h.tx⟩

/-- What every step leaves. -/
def After (B0 Wb : Nat) (xv yv : Value) (n : Nat) (w : World) (e : Ending) (w' : World) : Prop :=
  e = .returned (.bool true) ∧ (∃ bv' es', es'.length ≤ n + 1 ∧ BookAt w' B0 Wb xv yv bv' es' (· < w'.heap.size)) ∧ Below B0 w w'

theorem wdeltas_any (w : World) (B0 Wb : Nat) (xv yv bv : Value) (es : List Entry) (hbook : BookAt w B0 Wb xv yv bv es (· < w.heap.size)) (hes : es.length ≤ 1300000000000) (hB0 : B0 ≤ w.heap.size) (k a b c : Int) (s t : ByteArray) (vl vm : Value) (xs ys : List DOp)
    (hr : Raw B0 w s t vl vm xs ys) (hk1 : 1 ≤ k) (hk3 : k ≤ 3) :
    Calls Try.prog 30 #[.pointer (some ⟨Wb, 0, none⟩), .agg #[.int .i64 k, .int .i64 a, .int .i64 b, .int .i64 c, .string s, .string t, vl, vm]] w (After B0 Wb xv yv es.length w) := by
  have h1 := hr.hs
  have h2 := hr.ht
  rcases (show k = 1 ∨ k = 2 ∨ k = 3 by omega) with rfl | rfl | rfl
  · refine (wdeltas_diff w B0 Wb xv yv bv es hbook hes hB0 a b c s t vl vm xs ys (by omega) (by omega) hr.hx hr.hy hr.hl hr.hm).mono ?_
    rintro e w' ⟨he, ⟨bv', es', hl, hb⟩, hB⟩
    exact ⟨he, ⟨bv', es', by omega, hb⟩, hB⟩
  · refine (wdeltas_apply w B0 Wb xv yv bv es hbook hB0 a b c s t vl vm xs ys (by omega) hr.hx hr.hy hr.hl hr.hm hr.len hr.tx).mono ?_
    rintro e w' ⟨he, hb, hB⟩
    exact ⟨he, ⟨bv, es, by omega, hb⟩, hB⟩
  · refine (wdeltas_sum w B0 Wb xv yv bv es hbook hB0 a b c s t vl vm xs ys (by omega) hr.hx hr.hy hr.hl hr.hm).mono ?_
    rintro e w' ⟨he, hb, hB⟩
    exact ⟨he, ⟨bv, es, by omega, hb⟩, hB⟩

set_option maxHeartbeats 4000000 in
theorem step_deltas (w : World) (B0 Wb : Nat) (xv yv bv : Value) (es : List Entry) (hbook : BookAt w B0 Wb xv yv bv es (· < w.heap.size)) (hes : es.length ≤ 1300000000000) (hB0 : B0 ≤ w.heap.size) (k a b c : Int) (s t : ByteArray) (vl vm : Value) (xs ys : List DOp)
    (hr : Raw B0 w s t vl vm xs ys) (hk1 : 1 ≤ k) (hk3 : k ≤ 3) :
    Calls Try.prog 22 #[.pointer (some ⟨Wb, 0, none⟩), .agg #[.int .i64 k, .int .i64 a, .int .i64 b, .int .i64 c, .string s, .string t, vl, vm]] w (After B0 Wb xv yv es.length w) := by
  have HBK : Hid (BookAt w B0 Wb xv yv bv es (· < w.heap.size)) := hbook
  have HR : Hid (Raw B0 w s t vl vm xs ys) := hr
  obtain ⟨lo, lc, hvl⟩ := hr.hl.slice
  obtain ⟨mo, mc, hvm⟩ := hr.hm.slice
  rw [hvl, hvm] at HR ⊢
  clear hbook hr hvl hvm
  have hk6 : k ≤ 6 := by omega
  have b1 : Below B0 w (w.alloc (.cells #[.int .i64 k, .int .i64 a, .int .i64 b, .int .i64 c, .string s, .string t, .slice lo xs.length lc, .slice mo ys.length mc] 61)) := (Below.refl _ _).alloc hB0 _
  have HC : Hid (Calls Try.prog 30 #[.pointer (some ⟨Wb, 0, none⟩), .agg #[.int .i64 k, .int .i64 a, .int .i64 b, .int .i64 c, .string s, .string t, .slice lo xs.length lc, .slice mo ys.length mc]] (w.alloc (.cells #[.int .i64 k, .int .i64 a, .int .i64 b, .int .i64 c, .string s, .string t, .slice lo xs.length lc, .slice mo ys.length mc] 61)) (After B0 Wb xv yv es.length (w.alloc (.cells #[.int .i64 k, .int .i64 a, .int .i64 b, .int .i64 c, .string s, .string t, .slice lo xs.length lc, .slice mo ys.length mc] 61)))) :=
    wdeltas_any _ B0 Wb xv yv bv es (HBK.out.kept (fun q hq => heap_alloc_old _ _ hq) (fun q hq => by have : q < w.heap.size := hq; show q < _; simp; omega)) hes (by simp; omega) k a b c s t _ _ xs ys (HR.out.kept b1) hk1 hk3
  go_enter Try.func22, Try.ntmps22
  go_wp2_with fail
  refine HC.out.mono ?_
  rintro e w1 ⟨rfl, hbk, hB⟩
  have R : Below B0 w w1 := b1.trans hB
  clear hB b1 HC
  go_wp2
  go_ret
  exact ⟨rfl, hbk, R⟩

set_option maxHeartbeats 4000000 in
theorem step_none (w : World) (B0 Wb : Nat) (yv bv : Value) (es : List Entry) (hbook : BookAt w B0 Wb (.slice none 0 0) yv bv es (· < w.heap.size)) (hB0 : B0 ≤ w.heap.size) (k a b c : Int) (s t : ByteArray) (vl vm : Value) (xs ys : List DOp)
    (hr : Raw B0 w s t vl vm xs ys) (hk1 : k < 1) :
    Calls Try.prog 22 #[.pointer (some ⟨Wb, 0, none⟩), .agg #[.int .i64 k, .int .i64 a, .int .i64 b, .int .i64 c, .string s, .string t, vl, vm]] w (After B0 Wb (.slice none 0 0) yv es.length w) := by
  obtain ⟨lo, lc, hvl⟩ := hr.hl.slice
  obtain ⟨mo, mc, hvm⟩ := hr.hm.slice
  rw [hvl, hvm]
  have hWb : Wb < w.heap.size := hbook.wbB
  have hc : w.cell? ⟨Wb, 0, none⟩ = some (.slice none 0 0) := by rw [Lib.cell_of_heap hbook.blk]; rfl
  have bk : BookAt (w.alloc (.cells #[.int .i64 k, .int .i64 a, .int .i64 b, .int .i64 c, .string s, .string t, .slice lo xs.length lc, .slice mo ys.length mc] 61)) B0 Wb (.slice none 0 0) yv bv es (· < (w.alloc (.cells #[.int .i64 k, .int .i64 a, .int .i64 b, .int .i64 c, .string s, .string t, .slice lo xs.length lc, .slice mo ys.length mc] 61)).heap.size) :=
    hbook.kept (fun q hq => heap_alloc_old _ _ hq) (fun q hq => by have : q < w.heap.size := hq; show q < _; simp; omega)
  have HB : Hid (BookAt (w.alloc (.cells #[.int .i64 k, .int .i64 a, .int .i64 b, .int .i64 c, .string s, .string t, .slice lo xs.length lc, .slice mo ys.length mc] 61)) B0 Wb (.slice none 0 0) yv bv es (· < (w.alloc (.cells #[.int .i64 k, .int .i64 a, .int .i64 b, .int .i64 c, .string s, .string t, .slice lo xs.length lc, .slice mo ys.length mc] 61)).heap.size)) := bk
  clear bk hbook hr hvl hvm
  have n1 : ¬ (1 : Int) ≤ k := by omega
  have n2 : ¬ k = 7 := by omega
  have n3 : ¬ k = 13 := by omega
  go_enter Try.func22, Try.ntmps22
  go_wp2
  go_ret
  exact ⟨rfl, ⟨bv, es, by omega, HB.out⟩, (Below.refl _ _).alloc hB0 _⟩
end Go.Proofs.Ytiecmiagadmjaaa

/-
  A whole script, of the kinds up to 3.
-/
namespace Go.Proofs.Ytiecmiagadmjaaa
open Go.RowKit
set_option linter.unusedVariables false
set_option linter.unusedSimpArgs false
set_option maxRecDepth 100000

/-- A step of a script, as its data say it. -/
structure SOp where
  k : Int
  a : Int
  b : Int
  c : Int
  s : ByteArray
  t : ByteArray
  vl : Value
  vm : Value
  xs : List DOp
  ys : List DOp

/-- The script lies there. -/
def ScriptAt (w : World) (b off : Nat) (L : List SOp) : Prop := ∀ i o, L[i]? = some o →
  w.cell? ⟨b, off + i * 8, none⟩ = some (.int .i64 o.k) ∧ w.cell? ⟨b, off + i * 8 + 1, none⟩ = some (.int .i64 o.a) ∧ w.cell? ⟨b, off + i * 8 + 2, none⟩ = some (.int .i64 o.b) ∧ w.cell? ⟨b, off + i * 8 + 3, none⟩ = some (.int .i64 o.c) ∧
  w.cell? ⟨b, off + i * 8 + 4, none⟩ = some (.string o.s) ∧ w.cell? ⟨b, off + i * 8 + 5, none⟩ = some (.string o.t) ∧ w.cell? ⟨b, off + i * 8 + 6, none⟩ = some o.vl ∧ w.cell? ⟨b, off + i * 8 + 7, none⟩ = some o.vm ∧
  Raw w.heap.size w o.s o.t o.vl o.vm o.xs o.ys

/-- A script that may be empty. -/
def Script (w : World) (ao : Option Addr) (L : List SOp) : Prop := L = [] ∨ ∃ b off, ao = some ⟨b, off, none⟩ ∧ b < w.heap.size ∧ ScriptAt w b off L

theorem raw_hello (B0 : Nat) (w : World) : Raw B0 w ⟨#[104, 101, 108, 108, 111, 32, 119, 111, 114, 108, 100]⟩ ⟨#[104, 101, 108, 108, 111, 32, 119, 111, 114, 116, 104, 121]⟩ (.slice none 0 0) (.slice none 0 0) [] [] :=
  ⟨by decide, by decide, by simp, by simp, .inl ⟨rfl, none, 0, rfl⟩, .inl ⟨rfl, none, 0, rfl⟩, by simp, by simp⟩

theorem book_new (w : World) : BookAt (w.alloc (.cells #[.slice none 0 0, .slice none 0 0, .slice none 0 0] 58)) w.heap.size w.heap.size (.slice none 0 0) (.slice none 0 0) (.slice none 0 0) [] (· < (w.alloc (.cells #[.slice none 0 0, .slice none 0 0, .slice none 0 0] 58)).heap.size) :=
  ⟨heap_alloc_new _ _, Nat.le_refl _, by simp, World.ownsRow_nil _ _ _ _, (fun g hg => by cases hg), (fun e he => by cases he)⟩

set_option maxHeartbeats 8000000 in
theorem plays_deltas (w : World) (ao : Option Addr) (cap : Nat) (L : List SOp) (hL : L.length ≤ 1256600000000) (hsc : Script w ao L) :
    Calls Try.prog 9 #[.slice ao L.length cap, .int .i64 3] w fun e w' => e = .returned (.bool true) ∧ Below w.heap.size w w' := by
  have HS : Hid (Script w ao L) := hsc
  clear hsc
  have b0 : Below w.heap.size w (w.alloc (.cells #[.slice none 0 0, .slice none 0 0, .slice none 0 0] 58)) := (Below.refl _ _).alloc (Nat.le_refl _) _
  have HF : Hid (Calls Try.prog 22 #[.pointer (some ⟨w.heap.size, 0, none⟩), .agg #[.int .i64 1, .int .i64 0, .int .i64 0, .int .i64 0, .string ⟨#[104, 101, 108, 108, 111, 32, 119, 111, 114, 108, 100]⟩, .string ⟨#[104, 101, 108, 108, 111, 32, 119, 111, 114, 116, 104, 121]⟩, .slice none 0 0, .slice none 0 0]] (w.alloc (.cells #[.slice none 0 0, .slice none 0 0, .slice none 0 0] 58)) (After w.heap.size w.heap.size (.slice none 0 0) (.slice none 0 0) 0 (w.alloc (.cells #[.slice none 0 0, .slice none 0 0, .slice none 0 0] 58)))) :=
    step_deltas _ w.heap.size w.heap.size _ _ _ [] (book_new w) (by simp) (by simp) 1 0 0 0 _ _ _ _ [] [] (raw_hello _ _) (by omega) (by omega)
  go_enter Try.func9, Try.ntmps9
  go_wp2_with fail
  refine HF.out.mono ?_
  rintro e w1 ⟨rfl, ⟨bv1, es1, hl1, bk1⟩, hb1⟩
  have c1 : Below w.heap.size w w1 := b0.trans hb1
  clear HF b0 hb1
  go_wp2
  go_loopw [6, 9] (fun ok c wr => ∃ (i : Nat) (bv : Value) (es : List Entry), i ≤ L.length ∧ ok = .bool true ∧ c = .int .i64 i ∧ es.length ≤ i + 1 ∧ Hid (BookAt wr w.heap.size w.heap.size (.slice none 0 0) (.slice none 0 0) bv es (· < wr.heap.size)) ∧ Below w.heap.size w wr) (fun _ c _ => L.length + 1 - (intOf c).toNat)
  case atStart => exact ⟨0, bv1, es1, by omega, rfl, rfl, by omega, bk1, c1⟩
  case round =>
    obtain ⟨i, bv, es, hi, rfl, rfl, hes, HBK, hbw⟩ := hrel
    have hsz := hbw.size
    have hWb : w.heap.size < wr.heap.size := HBK.out.wbB
    by_cases hlt : i < L.length
    · obtain ⟨o, ho⟩ : ∃ o, L[i]? = some o := ⟨L[i], by simp [hlt]⟩
      obtain ⟨b, off, rfl, hb, hsc⟩ : ∃ b off, ao = some ⟨b, off, none⟩ ∧ b < w.heap.size ∧ ScriptAt w b off L := by
        rcases HS.out with h | h
        · rw [h] at hlt; simp at hlt
        · exact h
      obtain ⟨d0, d1, d2, d3, d4, d5, d6, d7, hraw⟩ := hsc i o ho
      clear hsc
      obtain ⟨k, a, b', c, s, t, vl, vm, xs, ys⟩ := o
      simp only at d0 d1 d2 d3 d4 d5 d6 d7 hraw
      have k0 := (hbw.cell (p := ⟨b, off + i * 8, none⟩) hb).trans d0
      have k1 := (hbw.cell (p := ⟨b, off + i * 8 + 1, none⟩) hb).trans d1
      have k2 := (hbw.cell (p := ⟨b, off + i * 8 + 2, none⟩) hb).trans d2
      have k3 := (hbw.cell (p := ⟨b, off + i * 8 + 3, none⟩) hb).trans d3
      have k4 := (hbw.cell (p := ⟨b, off + i * 8 + 4, none⟩) hb).trans d4
      have k5 := (hbw.cell (p := ⟨b, off + i * 8 + 5, none⟩) hb).trans d5
      have k6 := (hbw.cell (p := ⟨b, off + i * 8 + 6, none⟩) hb).trans d6
      have k7 := (hbw.cell (p := ⟨b, off + i * 8 + 7, none⟩) hb).trans d7
      have HR : Hid (Raw w.heap.size wr s t vl vm xs ys) := hraw.kept hbw
      obtain ⟨lo, lc, hvl⟩ := hraw.hl.slice
      obtain ⟨mo, mc, hvm⟩ := hraw.hm.slice
      rw [hvl] at k6 HR
      rw [hvm] at k7 HR
      clear d0 d1 d2 d3 d4 d5 d6 d7 hraw ho hvl hvm
      by_cases hk : 3 < k
      · go_wp2
        go_roundw
        case rel => exact ⟨i + 1, bv, es, by omega, rfl, by go_num, by omega, HBK, hbw⟩
        case measure => simp [intOf]; omega
      · have HC : Hid (Calls Try.prog 22 #[.pointer (some ⟨w.heap.size, 0, none⟩), .agg #[.int .i64 k, .int .i64 a, .int .i64 b', .int .i64 c, .string s, .string t, .slice lo xs.length lc, .slice mo ys.length mc]] wr (After w.heap.size w.heap.size (.slice none 0 0) (.slice none 0 0) es.length wr)) := by
          by_cases hk1 : 1 ≤ k
          · exact step_deltas _ _ _ _ _ bv es HBK.out (by omega) hsz k a b' c s t _ _ xs ys HR.out hk1 (by omega)
          · exact step_none _ _ _ _ bv es HBK.out hsz k a b' c s t _ _ xs ys HR.out (by omega)
        have hk3 : k ≤ 3 := by omega
        go_wp2_with fail
        refine HC.out.mono ?_
        rintro e w2 ⟨rfl, ⟨bv2, es2, hl2, bk2⟩, hb2⟩
        have c2 : Below w.heap.size w w2 := hbw.trans hb2
        have hW2 : w.heap.size < w2.heap.size := bk2.wbB
        have HLK : Hid (Calls Try.prog 23 #[.pointer (some ⟨w.heap.size, 2, none⟩)] w2 fun e w' => e = .returned (.bool true) ∧ Below w2.heap.size w2 w') := looks_any w2 w.heap.size w.heap.size _ _ bv2 es2 _ bk2 (by omega) hW2
        have HB2 : Hid (BookAt w2 w.heap.size w.heap.size (.slice none 0 0) (.slice none 0 0) bv2 es2 (· < w2.heap.size)) := bk2
        clear bk2 hb2 HC
        go_wp2_with fail
        refine HLK.out.mono ?_
        rintro e w3 ⟨rfl, b3⟩
        have c3 : Below w.heap.size w w3 := c2.trans (b3.mono (by omega))
        have bk3 : Hid (BookAt w3 w.heap.size w.heap.size (.slice none 0 0) (.slice none 0 0) bv2 es2 (· < w3.heap.size)) := HB2.out.kept (fun q hq => b3.block q hq) (fun q hq => Nat.lt_of_lt_of_le hq b3.size)
        clear b3 HLK HB2 c2
        go_wp2
        go_roundw
        case rel => exact ⟨i + 1, bv2, es2, by omega, rfl, by go_num, by omega, bk3, c3⟩
        case measure => simp [intOf]; omega
    · have hc : wr.cell? ⟨w.heap.size, 0, none⟩ = some (.slice none 0 0) := by rw [Lib.cell_of_heap HBK.out.blk]; rfl
      go_wp2
      go_loopw [6, 11] (fun ok c wx => ok = .bool true ∧ c = .int .i64 0 ∧ wr = wx) (fun _ _ _ => 0)
      case atStart => exact ⟨rfl, rfl, rfl⟩
      case round =>
        obtain ⟨rfl, rfl, rfl⟩ := hrel
        go_wp2
        go_ret
        exact ⟨rfl, hbw⟩
end Go.Proofs.Ytiecmiagadmjaaa
