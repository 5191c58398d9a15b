/- The texts LB, LP, OD, one behind the other. -/
import Derived.Test.YtabpiaaknjcnkaaGreatXS1S2L9
import Derived.LoopTactic
import Derived.Deep.Strs
import Derived.ProofKit
import Derived.OpenShut
import Derived.SizedLaws
/-
  A step of the script, of the kinds up to 3.
-/
namespace Go.Proofs.YtabpiaaknjcnkaaGreat
open Go.RowKit
set_option linter.unusedVariables false
set_option linter.unusedSimpArgs false
set_option maxRecDepth 100000

/-- The raw arguments of a step. -/
structure Raw (B0 : Nat) (w : World) (s t : ByteArray) (vl vm : Value) (xs ys : List DOp) : Prop where
  hs : s.size ≤ 9223372036854770000
  ht : t.size ≤ 9223372036854770000
  hx : xs.length ≤ 4398046511000
  hy : ys.length ≤ 4398046511000
  hl : LView B0 w vl xs
  hm : LView B0 w vm ys
  len : ∀ o ∈ xs, o.len ≤ 9223372036854775807
  tx : ∀ o ∈ xs, o.tx.size ≤ 9223372036854770000
theorem Raw.kept {B0 : Nat} {w w' : World} {s t : ByteArray} {vl vm : Value} {xs ys : List DOp} (h : Raw B0 w s t vl vm xs ys) (hb : Below B0 w w') : Raw B0 w' s t vl vm xs ys :=
  ⟨h.hs, h.ht, h.hx, h.hy, h.hl.kept hb, h.hm.kept hb, h.len, h.tx⟩

/-- What every step leaves. -/
def After (B0 Wb : Nat) (xv yv : Value) (n : Nat) (w : World) (e : Ending) (w' : World) : Prop :=
  e = .returned (.bool true) ∧ (∃ bv' es', es'.length ≤ n + 1 ∧ BookAt w' B0 Wb xv yv bv' es' (· < w'.heap.size)) ∧ Below B0 w w'

theorem wdeltas_any (w : World) (B0 Wb : Nat) (xv yv bv : Value) (es : List Entry) (hbook : BookAt w B0 Wb xv yv bv es (· < w.heap.size)) (hes : es.length ≤ 1300000000000) (hB0 : B0 ≤ w.heap.size) (k a b c : Int) (s t : ByteArray) (vl vm : Value) (xs ys : List DOp)
    (hr : Raw B0 w s t vl vm xs ys) (hk1 : 1 ≤ k) (hk3 : k ≤ 3) :
    Calls Tryz.prog 30 #[.pointer (some ⟨Wb, 0, none⟩), .agg #[.int .i64 k, .int .i64 a, .int .i64 b, .int .i64 c, .string s, .string t, vl, vm]] w (After B0 Wb xv yv es.length w) := by
  have h1 := hr.hs
  have h2 := hr.ht
  rcases (show k = 1 ∨ k = 2 ∨ k = 3 by omega) with rfl | rfl | rfl
  · refine (wdeltas_diff w B0 Wb xv yv bv es hbook hes hB0 a b c s t vl vm xs ys (by omega) (by omega) hr.hx hr.hy hr.hl hr.hm).mono ?_
    rintro e w' ⟨he, ⟨bv', es', hl, hb⟩, hB⟩
    exact ⟨he, ⟨bv', es', by omega, hb⟩, hB⟩
  · refine (wdeltas_apply w B0 Wb xv yv bv es hbook hB0 a b c s t vl vm xs ys (by omega) hr.hx hr.hy hr.hl hr.hm hr.len hr.tx).mono ?_
    rintro e w' ⟨he, hb, hB⟩
    exact ⟨he, ⟨bv, es, by omega, hb⟩, hB⟩
  · refine (wdeltas_sum w B0 Wb xv yv bv es hbook hB0 a b c s t vl vm xs ys (by omega) hr.hx hr.hy hr.hl hr.hm).mono ?_
    rintro e w' ⟨he, hb, hB⟩
    exact ⟨he, ⟨bv, es, by omega, hb⟩, hB⟩

set_option maxHeartbeats 4000000 in
theorem step_deltas (w : World) (B0 Wb : Nat) (xv yv bv : Value) (es : List Entry) (hbook : BookAt w B0 Wb xv yv bv es (· < w.heap.size)) (hes : es.length ≤ 1300000000000) (hB0 : B0 ≤ w.heap.size) (k a b c : Int) (s t : ByteArray) (vl vm : Value) (xs ys : List DOp)
    (hr : Raw B0 w s t vl vm xs ys) (hk1 : 1 ≤ k) (hk3 : k ≤ 3) :
    Calls Tryz.prog 17 #[.pointer (some ⟨Wb, 0, none⟩), .agg #[.int .i64 k, .int .i64 a, .int .i64 b, .int .i64 c, .string s, .string t, vl, vm]] w (After B0 Wb xv yv es.length w) := by
  have HBK : Hid (BookAt w B0 Wb xv yv bv es (· < w.heap.size)) := hbook
  have HR : Hid (Raw B0 w s t vl vm xs ys) := hr
  obtain ⟨lo, lc, hvl⟩ := hr.hl.slice
  obtain ⟨mo, mc, hvm⟩ := hr.hm.slice
  rw [hvl, hvm] at HR ⊢
  clear hbook hr hvl hvm
  have hk6 : k ≤ 6 := by omega
  have b1 : Below B0 w (w.alloc (.cells #[.int .i64 k, .int .i64 a, .int .i64 b, .int .i64 c, .string s, .string t, .slice lo xs.length lc, .slice mo ys.length mc] 61)) := (Below.refl _ _).alloc hB0 _
  have HC : Hid (Calls Tryz.prog 30 #[.pointer (some ⟨Wb, 0, none⟩), .agg #[.int .i64 k, .int .i64 a, .int .i64 b, .int .i64 c, .string s, .string t, .slice lo xs.length lc, .slice mo ys.length mc]] (w.alloc (.cells #[.int .i64 k, .int .i64 a, .int .i64 b, .int .i64 c, .string s, .string t, .slice lo xs.length lc, .slice mo ys.length mc] 61)) (After B0 Wb xv yv es.length (w.alloc (.cells #[.int .i64 k, .int .i64 a, .int .i64 b, .int .i64 c, .string s, .string t, .slice lo xs.length lc, .slice mo ys.length mc] 61)))) :=
    wdeltas_any _ B0 Wb xv yv bv es (HBK.out.kept (fun q hq => heap_alloc_old _ _ hq) (fun q hq => by have : q < w.heap.size := hq; show q < _; simp; omega)) hes (by simp; omega) k a b c s t _ _ xs ys (HR.out.kept b1) hk1 hk3
  go_enter Tryz.func17, Tryz.ntmps17
  go_wp2_with fail
  refine HC.out.mono ?_
  rintro e w1 ⟨rfl, hbk, hB⟩
  have R : Below B0 w w1 := b1.trans hB
  clear hB b1 HC
  go_wp2
  go_ret
  exact ⟨rfl, hbk, R⟩

set_option maxHeartbeats 4000000 in
theorem step_none (w : World) (B0 Wb : Nat) (yv bv : Value) (es : List Entry) (hbook : BookAt w B0 Wb (.slice none 0 0) yv bv es (· < w.heap.size)) (hB0 : B0 ≤ w.heap.size) (k a b c : Int) (s t : ByteArray) (vl vm : Value) (xs ys : List DOp)
    (hr : Raw B0 w s t vl vm xs ys) (hk1 : k < 1) :
    Calls Tryz.prog 17 #[.pointer (some ⟨Wb, 0, none⟩), .agg #[.int .i64 k, .int .i64 a, .int .i64 b, .int .i64 c, .string s, .string t, vl, vm]] w (After B0 Wb (.slice none 0 0) yv es.length w) := by
  obtain ⟨lo, lc, hvl⟩ := hr.hl.slice
  obtain ⟨mo, mc, hvm⟩ := hr.hm.slice
  rw [hvl, hvm]
  have hWb : Wb < w.heap.size := hbook.wbB
  have hc : w.cell? ⟨Wb, 0, none⟩ = some (.slice none 0 0) := by rw [Lib.cell_of_heap hbook.blk]; rfl
  have bk : BookAt (w.alloc (.cells #[.int .i64 k, .int .i64 a, .int .i64 b, .int .i64 c, .string s, .string t, .slice lo xs.length lc, .slice mo ys.length mc] 61)) B0 Wb (.slice none 0 0) yv bv es (· < (w.alloc (.cells #[.int .i64 k, .int .i64 a, .int .i64 b, .int .i64 c, .string s, .string t, .slice lo xs.length lc, .slice mo ys.length mc] 61)).heap.size) :=
    hbook.kept (fun q hq => heap_alloc_old _ _ hq) (fun q hq => by have : q < w.heap.size := hq; show q < _; simp; omega)
  have HB : Hid (BookAt (w.alloc (.cells #[.int .i64 k, .int .i64 a, .int .i64 b, .int .i64 c, .string s, .string t, .slice lo xs.length lc, .slice mo ys.length mc] 61)) B0 Wb (.slice none 0 0) yv bv es (· < (w.alloc (.cells #[.int .i64 k, .int .i64 a, .int .i64 b, .int .i64 c, .string s, .string t, .slice lo xs.length lc, .slice mo ys.length mc] 61)).heap.size)) := bk
  clear bk hbook hr hvl hvm
  have n1 : ¬ (1 : Int) ≤ k := by omega
  have n2 : ¬ k = 7 := by omega
  have n3 : ¬ k = 13 := by omega
  go_enter Tryz.func17, Tryz.ntmps17
  go_wp2
  go_ret
  exact ⟨rfl, ⟨bv, es, by omega, HB.out⟩, (Below.refl _ _).alloc hB0 _⟩
end Go.Proofs.YtabpiaaknjcnkaaGreat

/-
  A whole script, of the kinds up to 3.
-/
namespace Go.Proofs.YtabpiaaknjcnkaaGreat
open Go.RowKit
set_option linter.unusedVariables false
set_option linter.unusedSimpArgs false
set_option maxRecDepth 100000

/-- A step of a script, as its data say it. -/
structure SOp where
  k : Int
  a : Int
  b : Int
  c : Int
  s : ByteArray
  t : ByteArray
  vl : Value
  vm : Value
  xs : List DOp
  ys : List DOp

/-- The script lies there. -/
def ScriptAt (w : World) (b off : Nat) (L : List SOp) : Prop := ∀ i o, L[i]? = some o →
  w.cell? ⟨b, off + i * 8, none⟩ = some (.int .i64 o.k) ∧ w.cell? ⟨b, off + i * 8 + 1, none⟩ = some (.int .i64 o.a) ∧ w.cell? ⟨b, off + i * 8 + 2, none⟩ = some (.int .i64 o.b) ∧ w.cell? ⟨b, off + i * 8 + 3, none⟩ = some (.int .i64 o.c) ∧
  w.cell? ⟨b, off + i * 8 + 4, none⟩ = some (.string o.s) ∧ w.cell? ⟨b, off + i * 8 + 5, none⟩ = some (.string o.t) ∧ w.cell? ⟨b, off + i * 8 + 6, none⟩ = some o.vl ∧ w.cell? ⟨b, off + i * 8 + 7, none⟩ = some o.vm ∧
  Raw w.heap.size w o.s o.t o.vl o.vm o.xs o.ys

/-- A script that may be empty. -/
def Script (w : World) (ao : Option Addr) (L : List SOp) : Prop := L = [] ∨ ∃ b off, ao = some ⟨b, off, none⟩ ∧ b < w.heap.size ∧ ScriptAt w b off L

theorem raw_hello (B0 : Nat) (w : World) : Raw B0 w ⟨#[104, 101, 108, 108, 111, 32, 119, 111, 114, 108, 100]⟩ ⟨#[104, 101, 108, 108, 111, 32, 119, 111, 114, 116, 104, 121]⟩ (.slice none 0 0) (.slice none 0 0) [] [] :=
  ⟨by decide, by decide, by simp, by simp, .inl ⟨rfl, none, 0, rfl⟩, .inl ⟨rfl, none, 0, rfl⟩, by simp, by simp⟩

theorem book_new (w : World) : BookAt (w.alloc (.cells #[.slice none 0 0, .slice none 0 0, .slice none 0 0] 57)) w.heap.size w.heap.size (.slice none 0 0) (.slice none 0 0) (.slice none 0 0) [] (· < (w.alloc (.cells #[.slice none 0 0, .slice none 0 0, .slice none 0 0] 57)).heap.size) :=
  ⟨heap_alloc_new _ _, Nat.le_refl _, by simp, World.ownsRow_nil _ _ _ _, (fun g hg => by cases hg), (fun e he => by cases he)⟩

set_option maxHeartbeats 8000000 in
theorem plays_deltas (w : World) (ao : Option Addr) (cap : Nat) (L : List SOp) (hL : L.length ≤ 1256600000000) (hsc : Script w ao L) :
    Calls Tryz.prog 9 #[.slice ao L.length cap, .int .i64 3] w fun e w' => e = .returned (.bool true) ∧ Below w.heap.size w w' := by
  have HS : Hid (Script w ao L) := hsc
  clear hsc
  have b0 : Below w.heap.size w (w.alloc (.cells #[.slice none 0 0, .slice none 0 0, .slice none 0 0] 57)) := (Below.refl _ _).alloc (Nat.le_refl _) _
  have HF : Hid (Calls Tryz.prog 17 #[.pointer (some ⟨w.heap.size, 0, none⟩), .agg #[.int .i64 1, .int .i64 0, .int .i64 0, .int .i64 0, .string ⟨#[104, 101, 108, 108, 111, 32, 119, 111, 114, 108, 100]⟩, .string ⟨#[104, 101, 108, 108, 111, 32, 119, 111, 114, 116, 104, 121]⟩, .slice none 0 0, .slice none 0 0]] (w.alloc (.cells #[.slice none 0 0, .slice none 0 0, .slice none 0 0] 57)) (After w.heap.size w.heap.size (.slice none 0 0) (.slice none 0 0) 0 (w.alloc (.cells #[.slice none 0 0, .slice none 0 0, .slice none 0 0] 57)))) :=
    step_deltas _ w.heap.size w.heap.size _ _ _ [] (book_new w) (by simp) (by simp) 1 0 0 0 _ _ _ _ [] [] (raw_hello _ _) (by omega) (by omega)
  go_enter Tryz.func9, Tryz.ntmps9
  go_wp2_with fail
  refine HF.out.mono ?_
  rintro e w1 ⟨rfl, ⟨bv1, es1, hl1, bk1⟩, hb1⟩
  have c1 : Below w.heap.size w w1 := b0.trans hb1
  clear HF b0 hb1
  go_wp2
  go_loopw [6, 9] (fun ok c wr => ∃ (i : Nat) (bv : Value) (es : List Entry), i ≤ L.length ∧ ok = .bool true ∧ c = .int .i64 i ∧ es.length ≤ i + 1 ∧ Hid (BookAt wr w.heap.size w.heap.size (.slice none 0 0) (.slice none 0 0) bv es (· < wr.heap.size)) ∧ Below w.heap.size w wr) (fun _ c _ => L.length + 1 - (intOf c).toNat)
  case atStart => exact ⟨0, bv1, es1, by omega, rfl, rfl, by omega, bk1, c1⟩
  case round =>
    obtain ⟨i, bv, es, hi, rfl, rfl, hes, HBK, hbw⟩ := hrel
    have hsz := hbw.size
    have hWb : w.heap.size < wr.heap.size := HBK.out.wbB
    by_cases hlt : i < L.length
    · obtain ⟨o, ho⟩ : ∃ o, L[i]? = some o := ⟨L[i], by simp [hlt]⟩
      obtain ⟨b, off, rfl, hb, hsc⟩ : ∃ b off, ao = some ⟨b, off, none⟩ ∧ b < w.heap.size ∧ ScriptAt w b off L := by
        rcases HS.out with h | h
        · rw [h] at hlt; simp at hlt
        · exact h
      obtain ⟨d0, d1, d2, d3, d4, d5, d6, d7, hraw⟩ := hsc i o ho
      clear hsc
      obtain ⟨k, a, b', c, s, t, vl, vm, xs, ys⟩ := o
      simp only at d0 d1 d2 d3 d4 d5 d6 d7 hraw
      have k0 := (hbw.cell (p := ⟨b, off + i * 8, none⟩) hb).trans d0
      have k1 := (hbw.cell (p := ⟨b, off + i * 8 + 1, none⟩) hb).trans d1
      have k2 := (hbw.cell (p := ⟨b, off + i * 8 + 2, none⟩) hb).trans d2
      have k3 := (hbw.cell (p := ⟨b, off + i * 8 + 3, none⟩) hb).trans d3
      have k4 := (hbw.cell (p := ⟨b, off + i * 8 + 4, none⟩) hb).trans d4
      have k5 := (hbw.cell (p := ⟨b, off + i * 8 + 5, none⟩) hb).trans d5
      have k6 := (hbw.cell (p := ⟨b, off + i * 8 + 6, none⟩) hb).trans d6
      have k7 := (hbw.cell (p := ⟨b, off + i * 8 + 7, none⟩) hb).trans d7
      have HR : Hid (Raw w.heap.size wr s t vl vm xs ys) := hraw.kept hbw
      obtain ⟨lo, lc, hvl⟩ := hraw.hl.slice
      obtain ⟨mo, mc, hvm⟩ := hraw.hm.slice
      rw [hvl] at k6 HR
      rw [hvm] at k7 HR
      clear d0 d1 d2 d3 d4 d5 d6 d7 hraw ho hvl hvm
      by_cases hk : 3 < k
      · go_wp2
        go_roundw
        case rel => exact ⟨i + 1, bv, es, by omega, rfl, by go_num, by omega, HBK, hbw⟩
        case measure => simp [intOf]; omega
      · have HC : Hid (Calls Tryz.prog 17 #[.pointer (some ⟨w.heap.size, 0, none⟩), .agg #[.int .i64 k, .int .i64 a, .int .i64 b', .int .i64 c, .string s, .string t, .slice lo xs.length lc, .slice mo ys.length mc]] wr (After w.heap.size w.heap.size (.slice none 0 0) (.slice none 0 0) es.length wr)) := by
          by_cases hk1 : 1 ≤ k
          · exact step_deltas _ _ _ _ _ bv es HBK.out (by omega) hsz k a b' c s t _ _ xs ys HR.out hk1 (by omega)
          · exact step_none _ _ _ _ bv es HBK.out hsz k a b' c s t _ _ xs ys HR.out (by omega)
        have hk3 : k ≤ 3 := by omega
        go_wp2_with fail
        refine HC.out.mono ?_
        rintro e w2 ⟨rfl, ⟨bv2, es2, hl2, bk2⟩, hb2⟩
        have c2 : Below w.heap.size w w2 := hbw.trans hb2
        have hW2 : w.heap.size < w2.heap.size := bk2.wbB
        have HLK : Hid (Calls Tryz.prog 18 #[.pointer (some ⟨w.heap.size, 2, none⟩)] w2 fun e w' => e = .returned (.bool true) ∧ Below w2.heap.size w2 w') := looks_any w2 w.heap.size w.heap.size _ _ bv2 es2 _ bk2 (by omega) hW2
        have HB2 : Hid (BookAt w2 w.heap.size w.heap.size (.slice none 0 0) (.slice none 0 0) bv2 es2 (· < w2.heap.size)) := bk2
        clear bk2 hb2 HC
        go_wp2_with fail
        refine HLK.out.mono ?_
        rintro e w3 ⟨rfl, b3⟩
        have c3 : Below w.heap.size w w3 := c2.trans (b3.mono (by omega))
        have bk3 : Hid (BookAt w3 w.heap.size w.heap.size (.slice none 0 0) (.slice none 0 0) bv2 es2 (· < w3.heap.size)) := HB2.out.kept (fun q hq => b3.block q hq) (fun q hq => Nat.lt_of_lt_of_le hq b3.size)
        clear b3 HLK HB2 c2
        go_wp2
        go_roundw
        case rel => exact ⟨i + 1, bv2, es2, by omega, rfl, by go_num, by omega, bk3, c3⟩
        case measure => simp [intOf]; omega
    · have hc : wr.cell? ⟨w.heap.size, 0, none⟩ = some (.slice none 0 0) := by rw [Lib.cell_of_heap HBK.out.blk]; rfl
      go_wp2
      go_loopw [6, 11] (fun ok c wx => ok = .bool true ∧ c = .int .i64 0 ∧ wr = wx) (fun _ _ _ => 0)
      case atStart => exact ⟨rfl, rfl, rfl⟩
      case round =>
        obtain ⟨rfl, rfl, rfl⟩ := hrel
        go_wp2
        go_ret
        exact ⟨rfl, hbw⟩
end Go.Proofs.YtabpiaaknjcnkaaGreat

/-
  The data that come in, opened: lists of ops, and scripts.
-/
namespace Go.Proofs.YtabpiaaknjcnkaaGreat
open Go.ChangeShapes Go.WideShapes Go.ChangeAt Go.RowKit
set_option linter.unusedVariables false
set_option linter.unusedSimpArgs false
set_option maxRecDepth 100000

theorem Tryz.cellsOp : Tryz.prog.cellsOf 63 = 3 := by kernel_rfl
theorem Tryz.bytesOp : Tryz.prog.bytesOf 63 = 32 := by kernel_rfl
theorem Tryz.cellsIntO : Tryz.prog.cellsOf 3 = 1 := by kernel_rfl
theorem Tryz.cellsStrO : Tryz.prog.cellsOf 9 = 1 := by kernel_rfl
theorem Tryz.cellsOpsO : Tryz.prog.cellsOf 59 = 1 := by kernel_rfl
theorem Tryz.cellsLop : Tryz.prog.cellsOf 61 = 8 := by kernel_rfl
theorem Tryz.bytesLop : Tryz.prog.bytesOf 61 = 112 := by kernel_rfl

theorem wf_rangeO {z : Int} (h : (Lit.int .i64 z).wf = true) : -9223372036854775808 ≤ z ∧ z ≤ 9223372036854775807 := by
  have h1 : IntKind.i64.min = -9223372036854775808 := rfl
  have h2 : IntKind.i64.max = 9223372036854775807 := rfl
  simp only [Lit.wf, Bool.and_eq_true, decide_eq_true_eq] at h
  omega

theorem weightsAll_mem {H : Type} {P : Program} {e : TypeId} : ∀ {ds : List (DataW H)} {d : DataW H}, d ∈ ds → ∀ n ∈ d.weights P e, n ∈ DataW.weightsAll P e ds
  | d0 :: ds, d, h, n, hn => by
    simp only [DataW.weightsAll, List.mem_append]
    rcases List.mem_cons.1 h with rfl | h
    · exact .inl hn
    · exact .inr (weightsAll_mem h n hn)

/-- An op that came in. -/
theorem op_open {H : Type} {enc : TypeId × Value → H} {w : World} {n : Nat} {cs : List Value} {d : DataW H} {ps : List MemPlace} {a : Addr}
    (hc : w.cells? 0 a (Tryz.prog.cellsOf 63) = some cs) (h : DataW.trod enc Tryz.prog w 0 (fun _ => true) true n 63 cs = some (d, ps)) :
    ∃ o : DOp, w.cell? (a.add 0) = some (.int .i64 o.fr) ∧ w.cell? (a.add 1) = some (.int .i64 o.len) ∧ w.cell? (a.add 2) = some (.string o.tx) ∧ (-9223372036854775808 ≤ o.fr ∧ o.fr ≤ 9223372036854775807) ∧ (-9223372036854775808 ≤ o.len ∧ o.len ≤ 9223372036854775807) ∧ o.tx.size ∈ d.weights Tryz.prog 63 := by
  obtain ⟨_, hl, hcell⟩ := World.cells?_some hc
  obtain ⟨y0, y1, y2, m, hx, _, h0, h1, h2⟩ := Deep.trod_struct3 Tryz.underlying63 h
  rw [Tryz.cellsOp] at hl hcell
  match cs, hl with
  | [c0, c1, c2], _ =>
    simp only [Tryz.cellsIntO, Tryz.cellsStrO, List.drop_zero, List.drop_succ_cons, List.take_succ_cons, List.take_zero] at h0 h1 h2
    obtain ⟨z0, e0, x0, g0⟩ := DataW.trod_int Tryz.underlying3 h0
    obtain ⟨z1, e1, x1, g1⟩ := DataW.trod_int Tryz.underlying3 h1
    obtain ⟨s2, e2, x2, g2⟩ := DataW.trod_string Tryz.underlying9 h2
    simp only [List.cons.injEq, and_true] at e0 e1 e2
    subst e0 e1 e2
    refine ⟨⟨z0, z1, s2⟩, by simpa using hcell 0 (by omega), by simpa using hcell 1 (by omega), by simpa using hcell 2 (by omega), wf_rangeO g0, wf_rangeO g1, ?_⟩
    simp only [Prod.mk.injEq] at hx
    rw [hx.1, x0, x1, x2]
    simp [DataW.weights, Tryz.underlying63, DataW.weightsEach]

/-- A list of ops that came in. -/
theorem ops_open {H : Type} {enc : TypeId × Value → H} {w : World} {n : Nat} {v : Value} {d : DataW H} {ps : List MemPlace}
    (h : DataW.trod enc Tryz.prog w 0 (fun _ => true) true n 59 [v] = some (d, ps)) (hw : ∀ n ∈ d.weights Tryz.prog 59, n ≤ reachBytes) :
    ∃ xs : List DOp, LView w.heap.size w v xs ∧ xs.length ≤ 4398046511000 ∧ (∀ o ∈ xs, (-9223372036854775808 ≤ o.fr ∧ o.fr ≤ 9223372036854775807) ∧ (-9223372036854775808 ≤ o.len ∧ o.len ≤ 9223372036854775807) ∧ o.tx.size ≤ 140737488351232) := by
  rcases Deep.open_slice Tryz.underlying59 h with ⟨hcs, hx⟩ | ⟨a, len, cap, m, k, D, Pl, hcs, _, hl, hm, hmm, hx, hel⟩
  · simp only [List.cons.injEq, and_true] at hcs
    subst hcs
    exact ⟨[], .inl ⟨rfl, none, 0, rfl⟩, by simp, by simp⟩
  · simp only [List.cons.injEq, and_true] at hcs
    subst hcs
    simp only [if_true] at hmm
    subst hmm
    simp only [Prod.mk.injEq] at hx
    obtain ⟨rfl, _⟩ := hx
    have hlen : len * 32 ≤ 140737488351232 := by
      have := hw (((List.range len).map D).length + ((List.range (m - len)).map fun j => D (len + j)).length |> (· * Tryz.prog.bytesOf 63)) (by simp only [DataW.weights, Tryz.underlying59]; exact List.mem_cons_self)
      rw [Tryz.bytesOp] at this
      simp only [List.length_map, List.length_range, reachBytes] at this
      omega
    by_cases hl0 : len = 0
    · subst hl0
      exact ⟨[], .inl ⟨rfl, some a, m, rfl⟩, by simp, by simp⟩
    · have hall : ∀ i, i < len → ∃ o : DOp, w.cell? (a.add (i * 3)) = some (.int .i64 o.fr) ∧ w.cell? (a.add (i * 3 + 1)) = some (.int .i64 o.len) ∧ w.cell? (a.add (i * 3 + 2)) = some (.string o.tx) ∧ (-9223372036854775808 ≤ o.fr ∧ o.fr ≤ 9223372036854775807) ∧ (-9223372036854775808 ≤ o.len ∧ o.len ≤ 9223372036854775807) ∧ o.tx.size ≤ 140737488351232 := by
        intro i hi
        obtain ⟨cs', hc, ht⟩ := hel i (by omega)
        obtain ⟨o, k0, k1, k2, r0, r1, r2⟩ := op_open hc ht
        rw [Tryz.cellsOp, Deep.add_add] at k0 k1 k2
        refine ⟨o, by simpa using k0, k1, k2, r0, r1, ?_⟩
        have := hw o.tx.size (by
          simp only [DataW.weights, Tryz.underlying59]
          exact List.mem_cons_of_mem _ (List.mem_append.2 (.inl (weightsAll_mem (d := D i) (List.mem_map.2 ⟨i, List.mem_range.2 hi, rfl⟩) _ r2))))
        simpa [reachBytes] using this
      haveI : Inhabited DOp := ⟨⟨0, 0, ByteArray.empty⟩⟩
      obtain ⟨f, hf⟩ := Deep.choose_lt hall
      have hbl : a.block < w.heap.size := by
        obtain ⟨cs', hc, _⟩ := hel 0 (by omega)
        have := World.cells?_block hc (by rw [Tryz.cellsOp]; omega)
        simpa [Addr.add] using this
      obtain ⟨b, off, spot⟩ := a
      have hspot : spot = none := by simpa [Addr.add] using World.cell?_spot (hf 0 (by omega)).1
      subst hspot
      have hlx : ((List.range len).map f).length = len := by simp
      refine ⟨(List.range len).map f, .inr ⟨b, off, m, by rw [hlx], hbl, ?_⟩, by rw [hlx]; omega, ?_⟩
      · intro i o ho
        have hi : i < len := by have := (List.getElem?_eq_some_iff.1 ho).1; simpa using this
        have hfo : f i = o := by simpa [hi] using ho
        obtain ⟨k0, k1, k2, _⟩ := hf i hi
        rw [add_plain] at k0 k1 k2
        rw [hfo] at k0 k1 k2
        exact ⟨k0, by simpa [Nat.add_assoc] using k1, by simpa [Nat.add_assoc] using k2⟩
      · intro o ho
        obtain ⟨i, hi, rfl⟩ := List.mem_map.1 ho
        exact (hf i (List.mem_range.1 hi)).2.2.2

/-- What is told of a step's data. -/
structure SOpOk (B0 : Nat) (w : World) (o : SOp) : Prop where
  rk : -9223372036854775808 ≤ o.k ∧ o.k ≤ 9223372036854775807
  ra : -9223372036854775808 ≤ o.a ∧ o.a ≤ 9223372036854775807
  rb : -9223372036854775808 ≤ o.b ∧ o.b ≤ 9223372036854775807
  rc : -9223372036854775808 ≤ o.c ∧ o.c ≤ 9223372036854775807
  raw : Raw B0 w o.s o.t o.vl o.vm o.xs o.ys
  wide : ∀ p ∈ o.xs ++ o.ys, (-9223372036854775808 ≤ p.fr ∧ p.fr ≤ 9223372036854775807) ∧ (-9223372036854775808 ≤ p.len ∧ p.len ≤ 9223372036854775807) ∧ p.tx.size ≤ 140737488351232

theorem trod_struct8 {H : Type} {enc : TypeId × Value → H} {P : Program} {w : World} {base : Nat} {spare : Nat → Bool} {held : Bool} {t : TypeId} {f0 f1 f2 f3 f4 f5 f6 f7 : Field} {fuel : Nat} {cs : List Value} {x : DataW H × List MemPlace} (ht : P.underlying t = some (.struct #[f0, f1, f2, f3, f4, f5, f6, f7])) (h : DataW.trod enc P w base spare held fuel t cs = some x) :
    ∃ y0 y1 y2 y3 y4 y5 y6 y7 n, x.1 = .agg [y0.1, y1.1, y2.1, y3.1, y4.1, y5.1, y6.1, y7.1] ∧ cs.length = P.cellsOf t ∧ DataW.trod enc P w base spare held n f0.type ((cs.drop f0.offset).take (P.cellsOf f0.type)) = some y0 ∧ DataW.trod enc P w base spare held n f1.type ((cs.drop f1.offset).take (P.cellsOf f1.type)) = some y1 ∧ DataW.trod enc P w base spare held n f2.type ((cs.drop f2.offset).take (P.cellsOf f2.type)) = some y2 ∧ DataW.trod enc P w base spare held n f3.type ((cs.drop f3.offset).take (P.cellsOf f3.type)) = some y3 ∧ DataW.trod enc P w base spare held n f4.type ((cs.drop f4.offset).take (P.cellsOf f4.type)) = some y4 ∧ DataW.trod enc P w base spare held n f5.type ((cs.drop f5.offset).take (P.cellsOf f5.type)) = some y5 ∧ DataW.trod enc P w base spare held n f6.type ((cs.drop f6.offset).take (P.cellsOf f6.type)) = some y6 ∧ DataW.trod enc P w base spare held n f7.type ((cs.drop f7.offset).take (P.cellsOf f7.type)) = some y7 := by
  obtain ⟨xs, n, _, rfl, hl, hlen, hf⟩ := DataW.trod_struct ht h
  match xs, hlen with
  | [y0, y1, y2, y3, y4, y5, y6, y7], _ => exact ⟨y0, y1, y2, y3, y4, y5, y6, y7, n, by simp, hl, by simpa using hf 0 f0 rfl, by simpa using hf 1 f1 rfl, by simpa using hf 2 f2 rfl, by simpa using hf 3 f3 rfl, by simpa using hf 4 f4 rfl, by simpa using hf 5 f5 rfl, by simpa using hf 6 f6 rfl, by simpa using hf 7 f7 rfl⟩

/-- A step that came in. -/
theorem sop_open {H : Type} {enc : TypeId × Value → H} {w : World} {n : Nat} {cs : List Value} {d : DataW H} {ps : List MemPlace} {a : Addr}
    (hc : w.cells? 0 a (Tryz.prog.cellsOf 61) = some cs) (h : DataW.trod enc Tryz.prog w 0 (fun _ => true) true n 61 cs = some (d, ps)) (hw : ∀ n ∈ d.weights Tryz.prog 61, n ≤ reachBytes) :
    ∃ o : SOp, w.cell? (a.add 0) = some (.int .i64 o.k) ∧ w.cell? (a.add 1) = some (.int .i64 o.a) ∧ w.cell? (a.add 2) = some (.int .i64 o.b) ∧ w.cell? (a.add 3) = some (.int .i64 o.c) ∧ w.cell? (a.add 4) = some (.string o.s) ∧ w.cell? (a.add 5) = some (.string o.t) ∧ w.cell? (a.add 6) = some o.vl ∧ w.cell? (a.add 7) = some o.vm ∧ SOpOk w.heap.size w o := by
  obtain ⟨_, hl, hcell⟩ := World.cells?_some hc
  obtain ⟨y0, y1, y2, y3, y4, y5, y6, y7, m, hd, _, h0, h1, h2, h3, h4, h5, h6, h7⟩ := trod_struct8 Tryz.underlying61 h
  rw [Tryz.cellsLop] at hl hcell
  match cs, hl with
  | [c0, c1, c2, c3, c4, c5, c6, c7], _ =>
    simp only [Tryz.cellsIntO, Tryz.cellsStrO, Tryz.cellsOpsO, List.drop_zero, List.drop_succ_cons, List.take_succ_cons, List.take_zero] at h0 h1 h2 h3 h4 h5 h6 h7
    obtain ⟨z0, e0, x0, g0⟩ := DataW.trod_int Tryz.underlying3 h0
    obtain ⟨z1, e1, x1, g1⟩ := DataW.trod_int Tryz.underlying3 h1
    obtain ⟨z2, e2, x2, g2⟩ := DataW.trod_int Tryz.underlying3 h2
    obtain ⟨z3, e3, x3, g3⟩ := DataW.trod_int Tryz.underlying3 h3
    obtain ⟨s4, e4, x4, g4⟩ := DataW.trod_string Tryz.underlying9 h4
    obtain ⟨s5, e5, x5, g5⟩ := DataW.trod_string Tryz.underlying9 h5
    simp only [List.cons.injEq, and_true] at e0 e1 e2 e3 e4 e5
    subst e0 e1 e2 e3 e4 e5
    replace hd : d = .agg [y0.1, y1.1, y2.1, y3.1, y4.1, y5.1, y6.1, y7.1] := hd
    have hws : ∀ n, (n ∈ y4.1.weights Tryz.prog 9 ∨ n ∈ y5.1.weights Tryz.prog 9 ∨ n ∈ y6.1.weights Tryz.prog 59 ∨ n ∈ y7.1.weights Tryz.prog 59) → n ≤ reachBytes := by
      intro n hn
      apply hw
      rw [hd]
      simp only [DataW.weights, Tryz.underlying61, DataW.weightsEach, List.map_cons, List.map_nil, List.mem_append]
      rcases hn with hn | hn | hn | hn <;> simp [hn]
    obtain ⟨p6, v6, l6, b6⟩ := ops_open (d := y6.1) (ps := y6.2) h6 (fun n hn => hws n (.inr (.inr (.inl hn))))
    obtain ⟨p7, v7, l7, b7⟩ := ops_open (d := y7.1) (ps := y7.2) h7 (fun n hn => hws n (.inr (.inr (.inr hn))))
    have q4 : s4.size ≤ 140737488351232 := by simpa [reachBytes] using hws s4.size (.inl (by rw [x4]; simp [DataW.weights]))
    have q5 : s5.size ≤ 140737488351232 := by simpa [reachBytes] using hws s5.size (.inr (.inl (by rw [x5]; simp [DataW.weights])))
    refine ⟨⟨z0, z1, z2, z3, s4, s5, c6, c7, p6, p7⟩, by simpa using hcell 0 (by omega), by simpa using hcell 1 (by omega), by simpa using hcell 2 (by omega), by simpa using hcell 3 (by omega), by simpa using hcell 4 (by omega), by simpa using hcell 5 (by omega), by simpa using hcell 6 (by omega), by simpa using hcell 7 (by omega), ?_⟩
    exact ⟨wf_rangeO g0, wf_rangeO g1, wf_rangeO g2, wf_rangeO g3, ⟨by show s4.size ≤ _; omega, by show s5.size ≤ _; omega, l6, l7, v6, v7, fun o ho => (b6 o ho).2.1.2, fun o ho => by have := (b6 o ho).2.2; omega⟩,
      fun p hp => (List.mem_append.1 hp).elim (b6 p) (b7 p)⟩

/-- A script that came in. -/
theorem script_open {H : Type} {enc : TypeId × Value → H} {w : World} {v : Value} {d : DataW H} {ps : List MemPlace} {ao : Option Addr} {len cap : Nat} (hv : v = .slice ao len cap)
    (h : DataW.Trod enc Tryz.prog w 0 (fun _ => true) true 22 v d ps) (hw : ∀ n ∈ d.weights Tryz.prog 22, n ≤ reachBytes) :
    ∃ L : List SOp, L.length = len ∧ len ≤ 1256600000000 ∧ Script w ao L ∧ ∀ o ∈ L, SOpOk w.heap.size w o := by
  subst hv
  obtain ⟨fuel, h⟩ := h
  rcases Deep.open_slice Tryz.underlying22 h with ⟨hcs, hx⟩ | ⟨a, len', cap', m, k, D, Pl, hcs, _, hl, hm, hmm, hx, hel⟩
  · simp [Value.cells] at hcs
    exact ⟨[], by simp [hcs.2.1], by omega, .inl rfl, by simp⟩
  · simp [Value.cells] at hcs
    obtain ⟨rfl, rfl, rfl⟩ := hcs
    simp only [if_true] at hmm
    subst hmm
    simp only [Prod.mk.injEq] at hx
    obtain ⟨rfl, _⟩ := hx
    have hlen : len * 112 ≤ 140737488351232 := by
      have := hw (((List.range len).map D).length + ((List.range (m - len)).map fun j => D (len + j)).length |> (· * Tryz.prog.bytesOf 61)) (by simp only [DataW.weights, Tryz.underlying22]; exact List.mem_cons_self)
      rw [Tryz.bytesLop] at this
      simp only [List.length_map, List.length_range, reachBytes] at this
      omega
    by_cases hl0 : len = 0
    · exact ⟨[], by simp [hl0], by omega, .inl rfl, by simp⟩
    · have hall : ∀ i, i < len → ∃ o : SOp, w.cell? (a.add (i * 8)) = some (.int .i64 o.k) ∧ w.cell? (a.add (i * 8 + 1)) = some (.int .i64 o.a) ∧ w.cell? (a.add (i * 8 + 2)) = some (.int .i64 o.b) ∧ w.cell? (a.add (i * 8 + 3)) = some (.int .i64 o.c) ∧ w.cell? (a.add (i * 8 + 4)) = some (.string o.s) ∧ w.cell? (a.add (i * 8 + 5)) = some (.string o.t) ∧ w.cell? (a.add (i * 8 + 6)) = some o.vl ∧ w.cell? (a.add (i * 8 + 7)) = some o.vm ∧ SOpOk w.heap.size w o := by
        intro i hi
        obtain ⟨cs', hc, ht⟩ := hel i (by omega)
        obtain ⟨o, k0, k1, k2, k3, k4, k5, k6, k7, r⟩ := sop_open hc ht (fun n hn => hw n (by
          simp only [DataW.weights, Tryz.underlying22]
          exact List.mem_cons_of_mem _ (List.mem_append.2 (.inl (weightsAll_mem (d := D i) (List.mem_map.2 ⟨i, List.mem_range.2 hi, rfl⟩) _ hn)))))
        rw [Tryz.cellsLop, Deep.add_add] at k0 k1 k2 k3 k4 k5 k6 k7
        exact ⟨o, by simpa using k0, k1, k2, k3, k4, k5, k6, k7, r⟩
      haveI : Inhabited SOp := ⟨⟨0, 0, 0, 0, ByteArray.empty, ByteArray.empty, .bool true, .bool true, [], []⟩⟩
      obtain ⟨f, hf⟩ := Deep.choose_lt hall
      have hbl : a.block < w.heap.size := by
        obtain ⟨cs', hc, _⟩ := hel 0 (by omega)
        have := World.cells?_block hc (by rw [Tryz.cellsLop]; omega)
        simpa [Addr.add] using this
      obtain ⟨b, off, spot⟩ := a
      have hspot : spot = none := by simpa [Addr.add] using World.cell?_spot (hf 0 (by omega)).1
      subst hspot
      have hlx : ((List.range len).map f).length = len := by simp
      refine ⟨(List.range len).map f, hlx, by omega, .inr ⟨b, off, rfl, hbl, ?_⟩, ?_⟩
      · intro i o ho
        have hi : i < len := by have := (List.getElem?_eq_some_iff.1 ho).1; simpa using this
        have hfo : f i = o := by simpa [hi] using ho
        obtain ⟨k0, k1, k2, k3, k4, k5, k6, k7, r⟩ := hf i hi
        rw [add_plain] at k0 k1 k2 k3 k4 k5 k6 k7
        rw [hfo] at k0 k1 k2 k3 k4 k5 k6 k7 r
        exact ⟨k0, by simpa [Nat.add_assoc] using k1, by simpa [Nat.add_assoc] using k2, by simpa [Nat.add_assoc] using k3, by simpa [Nat.add_assoc] using k4, by simpa [Nat.add_assoc] using k5, by simpa [Nat.add_assoc] using k6, by simpa [Nat.add_assoc] using k7, r.raw⟩
      · intro o ho
        obtain ⟨i, hi, rfl⟩ := List.mem_map.1 ho
        exact (hf i (List.mem_range.1 hi)).2.2.2.2.2.2.2.2
end Go.Proofs.YtabpiaaknjcnkaaGreat
