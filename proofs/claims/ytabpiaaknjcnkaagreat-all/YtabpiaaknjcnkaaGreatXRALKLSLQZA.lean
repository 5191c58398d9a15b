/- The texts RA, LK, LS, LQ, ZA, one behind the other. -/
import Derived.Test.YtabpiaaknjcnkaaGreatR9
import Derived.Test.YtabpiaaknjcnkaaGreatXLCPER5
import Derived.Test.YtabpiaaknjcnkaaGreatXR4L7L8P4S1S2L9LBLP
import Derived.LoopTactic
import Derived.Deep.RegionHeld3
import Derived.Test.YtabpiaaknjcnkaaGreatXLEPND1D2D3
/-
  The document's Compose, whole.
-/
namespace Go.Proofs.YtabpiaaknjcnkaaGreat
open Go.RowKit
set_option linter.unusedVariables false
set_option linter.unusedSimpArgs false
set_option maxRecDepth 100000

theorem rcomp_any {v1 v2 : Value} {xs ys : List DOp} {w : World} (h1 : View w v1 xs) (h2 : View w v2 ys) (i1 : Ints xs) (i2 : Ints ys) :
    Calls Tryz.prog 65 #[v1, v2] w fun e w' => (∃ v', e = .returned (.tuple #[v', .int .i64 (cmpE xs ys), .int .i64 (cmpP xs ys)]) ∧ OwnOps w' w.heap.size v' (cmpL xs ys)) ∧ Below w.heap.size w w' := by
  by_cases hf : faultF xs 2000 < xs.length
  · have HC : ¬ cmpOk xs ys := fun h => h.1 hf
    rw [show cmpL xs ys = [] from if_neg HC, show cmpE xs ys = 2 from if_neg HC, show cmpP xs ys = (faultF xs 2000 : Int) from by rw [cmpP, if_neg HC, cmpF, if_pos hf]]
    refine (rcomp_fault1 (ys := ys) h1 i1 hf).mono ?_
    rintro e w' ⟨rfl, hb⟩
    exact ⟨⟨_, rfl, OwnOps.nil _ _⟩, hb⟩
  · by_cases hf2 : faultF ys (sumI xs) < ys.length
    · have HC : ¬ cmpOk xs ys := fun h => h.2.1 hf2
      rw [show cmpL xs ys = [] from if_neg HC, show cmpE xs ys = 2 from if_neg HC, show cmpP xs ys = ((xs.length + faultF ys (sumI xs) : Nat) : Int) from by rw [cmpP, if_neg HC, cmpF, if_neg hf, if_pos hf2]]
      refine (rcomp_fault2 h1 h2 i1 i2 hf hf2).mono ?_
      rintro e w' ⟨rfl, hb⟩
      exact ⟨⟨_, rfl, OwnOps.nil _ _⟩, hb⟩
    · exact rcomp_ok h1 h2 i1 i2 hf hf2
end Go.Proofs.YtabpiaaknjcnkaaGreat

/-
  A step of Compose.
-/
namespace Go.Proofs.YtabpiaaknjcnkaaGreat
open Go.RowKit
set_option linter.unusedVariables false
set_option linter.unusedSimpArgs false
set_option maxRecDepth 100000

theorem cmpL_length (xs ys : List DOp) : (cmpL xs ys).length ≤ 200 := by
  unfold cmpL
  split
  · rename_i h
    have := h.2.2
    omega
  · simp

end Go.Proofs.YtabpiaaknjcnkaaGreat

/-
  A step of the script, of the kinds up to 6.
-/
namespace Go.Proofs.YtabpiaaknjcnkaaGreat
open Go.RowKit
set_option linter.unusedVariables false
set_option linter.unusedSimpArgs false
set_option maxRecDepth 100000

theorem Raw.ints {B0 : Nat} {w : World} {s t : ByteArray} {vl vm : Value} {xs ys : List DOp} (h : Raw B0 w s t vl vm xs ys) : Ints xs := ⟨by have := h.hx; omega, h.len, h.tx⟩

/-- What a step leaves whose list lies higher up. -/
def AfterE (B0 B1 Wb : Nat) (xv yv : Value) (n : Nat) (w : World) (e : Ending) (w' : World) : Prop :=
  e = .returned (.bool true) ∧ (∃ bv' es', es'.length ≤ n + 1 ∧ BookAt w' B0 Wb xv yv bv' es' (· < w'.heap.size)) ∧ Below B1 w w'

set_option maxHeartbeats 4000000 in
theorem step_enc (w : World) (B0 B1 Wb : Nat) (xv yv bv : Value) (es : List Entry) (hbook : BookAt w B0 Wb xv yv bv es (· < w.heap.size)) (hes : es.length ≤ 1300000000000) (hB0 : B0 ≤ w.heap.size) (hB01 : B0 ≤ B1) (hB1 : B1 ≤ w.heap.size) (a b c : Int) (s t : ByteArray) (vl vm : Value) (xs ys : List DOp)
    (hr : Raw B1 w s t vl vm xs ys) (hi2 : Ints ys)  :
    Calls Tryz.prog 17 #[.pointer (some ⟨Wb, 0, none⟩), .agg #[.int .i64 5, .int .i64 a, .int .i64 b, .int .i64 c, .string s, .string t, vl, vm]] w (AfterE B0 B1 Wb xv yv es.length w) := by
  have HBK : Hid (BookAt w B0 Wb xv yv bv es (· < w.heap.size)) := hbook
  have HR : Hid (Raw B1 w s t vl vm xs ys) := hr
  obtain ⟨lo, lc, hvl⟩ := hr.hl.slice
  obtain ⟨mo, mc, hvm⟩ := hr.hm.slice
  rw [hvl, hvm] at HR ⊢
  clear hbook hr hvl hvm
  have HI : Hid (Ints ys) := hi2
  clear hi2
  have b1 : Below B1 w (w.alloc (.cells #[.int .i64 5, .int .i64 a, .int .i64 b, .int .i64 c, .string s, .string t, .slice lo xs.length lc, .slice mo ys.length mc] 61)) := (Below.refl _ _).alloc hB1 _
  have HC : Hid (Calls Tryz.prog 30 #[.pointer (some ⟨Wb, 0, none⟩), .agg #[.int .i64 5, .int .i64 a, .int .i64 b, .int .i64 c, .string s, .string t, .slice lo xs.length lc, .slice mo ys.length mc]] (w.alloc (.cells #[.int .i64 5, .int .i64 a, .int .i64 b, .int .i64 c, .string s, .string t, .slice lo xs.length lc, .slice mo ys.length mc] 61)) (AfterE B0 B1 Wb xv yv es.length (w.alloc (.cells #[.int .i64 5, .int .i64 a, .int .i64 b, .int .i64 c, .string s, .string t, .slice lo xs.length lc, .slice mo ys.length mc] 61)))) :=
    (wdeltas_enc _ B0 B1 Wb xv yv bv es (HBK.out.kept (fun q hq => heap_alloc_old _ _ hq) (fun q hq => by have : q < w.heap.size := hq; show q < _; simp; omega)) (by simp; omega) hB01 (by simp; omega) a b c s t _ _ xs ys HR.out.hx HR.out.hy (HR.out.hl.kept b1) (HR.out.hm.kept b1) HR.out.ints).mono fun e w' h => ⟨h.1, ⟨bv, es, by omega, h.2.1⟩, h.2.2⟩
  go_enter Tryz.func17, Tryz.ntmps17
  go_wp2_with fail
  refine HC.out.mono ?_
  rintro e w1 ⟨rfl, hbk, hB⟩
  have R : Below B1 w w1 := b1.trans hB
  clear hB b1 HC
  go_wp2
  go_ret
  exact ⟨rfl, hbk, R⟩
end Go.Proofs.YtabpiaaknjcnkaaGreat

/-
  A whole script, of the kinds up to 6.
-/
namespace Go.Proofs.YtabpiaaknjcnkaaGreat
open Go.RowKit
set_option linter.unusedVariables false
set_option linter.unusedSimpArgs false
set_option maxRecDepth 100000

def thereOps : List DOp := [⟨0, 6, ⟨#[]⟩⟩, ⟨0, 0, ⟨#[116, 104, 101, 114, 101]⟩⟩]
theorem ints_nil : Ints [] := ⟨by simp, by simp, by simp⟩
theorem raw_there (w : World) (T : TypeId) (n : Nat × Nat := (0, 0)) : Raw (w.heap.size + 1) (w.alloc (.cells #[.int .i64 0, .int .i64 6, .string ⟨#[]⟩, .int .i64 0, .int .i64 0, .string ⟨#[116, 104, 101, 114, 101]⟩] T n)) ⟨#[]⟩ ⟨#[]⟩ (.slice (some ⟨w.heap.size, 0, none⟩) 2 2) (.slice none 0 0) thereOps [] := by
  refine ⟨by decide, by decide, by simp [thereOps], by simp, .inr ⟨w.heap.size, 0, 2, rfl, by omega, fun i o ho => ?_⟩, .inl ⟨rfl, none, 0, rfl⟩, by simp [thereOps], fun o ho => ?_⟩
  · match i, ho with
    | 0, ho =>
      simp [thereOps] at ho
      subst ho
      refine ⟨?_, ?_, ?_⟩ <;> (rw [Lib.cell_of_heap (heap_alloc_new _ _)]; rfl)
    | 1, ho =>
      simp [thereOps] at ho
      subst ho
      refine ⟨?_, ?_, ?_⟩ <;> (rw [Lib.cell_of_heap (heap_alloc_new _ _)]; rfl)
    | n + 2, ho => simp [thereOps] at ho
  · simp [thereOps] at ho
    rcases ho with rfl | rfl <;> decide

end Go.Proofs.YtabpiaaknjcnkaaGreat

/-
  A step of Apply, a step of Sum: all below B1 is as it was.
-/
namespace Go.Proofs.YtabpiaaknjcnkaaGreat
open Go.RowKit
set_option linter.unusedVariables false
set_option linter.unusedSimpArgs false
set_option maxRecDepth 100000

set_option maxHeartbeats 4000000 in
theorem wdeltas_sumS (w : World) (B0 B1 Wb : Nat) (xv yv bv : Value) (es : List Entry) (hbook : BookAt w B0 Wb xv yv bv es (· < w.heap.size)) (hB0 : B0 ≤ w.heap.size) (hB01 : B0 ≤ B1) (hB1 : B1 ≤ w.heap.size) (a b c : Int) (s t : ByteArray) (vl vm : Value) (xs ys : List DOp)
    (hs : s.size ≤ 9223372036854775806) (hx : xs.length ≤ 4398046511000) (hy : ys.length ≤ 4398046511000) (hl : LView B1 w vl xs) (hm : LView B1 w vm ys) :
    Calls Tryz.prog 30 #[.pointer (some ⟨Wb, 0, none⟩), .agg #[.int .i64 3, .int .i64 a, .int .i64 b, .int .i64 c, .string s, .string t, vl, vm]] w fun e w' =>
      e = .returned (.bool true) ∧ BookAt w' B0 Wb xv yv bv es (· < w'.heap.size) ∧ Below B1 w w' := by
  have HBK : Hid (BookAt w B0 Wb xv yv bv es (· < w.heap.size)) := hbook
  have hWb : Wb < w.heap.size := hbook.wbB
  have hW0 : B0 ≤ Wb := hbook.wb0
  have HL : Hid (LView B1 w vl xs) := hl
  have HM : Hid (LView B1 w vm ys) := hm
  obtain ⟨lo, lc, hvl⟩ := hl.slice
  obtain ⟨mo, mc, hvm⟩ := hm.slice
  rw [hvl] at HL
  rw [hvm] at HM
  rw [hvl, hvm]
  clear hbook hl hm hvl hvm
  go_enter Tryz.func30, Tryz.ntmps30
  go_wp2_with fail
  refine (lent_any _ xs _ (by omega) ((HL.out.view hB1).kept ((Below.refl _ _).alloc (Nat.le_refl _) _))).mono ?_
  rintro e w1 ⟨rfl, o1, b1⟩
  have ob1 : w1.heap[w.heap.size]? = some (.cells #[.int .i64 3, .int .i64 a, .int .i64 b, .int .i64 c, .string s, .string t, .slice lo xs.length lc, .slice mo ys.length mc] 61 (0, 0)) := (b1.block _ (by simp)).trans (heap_alloc_new _ _)
  have c1 : Below w.heap.size w w1 := ((Below.refl _ w).alloc (Nat.le_refl _) _).trans (b1.mono (by simp))
  have p1 : Lent w1 (w.heap.size + 1) xs := by
    have h := o1
    rw [alloc_size1] at h
    exact h
  clear o1 b1
  have hs1 := c1.size
  have hp1 := p1.lt
  have k17 : w1.cell? ⟨w.heap.size, 7, none⟩ = some (.slice mo ys.length mc) := by rw [Lib.cell_of_heap ob1]; rfl
  go_wp2_with fail
  refine (lent_any _ ys _ (by omega) ((HM.out.view hB1).kept c1)).mono ?_
  rintro e w2 ⟨rfl, o2, b2⟩
  have p2 : Lent w2 w1.heap.size ys := o2
  have q1 : Lent w2 (w.heap.size + 1) xs := p1.kept (b2.block _ hp1)
  have ob2 := (b2.block _ (show w.heap.size < w1.heap.size by omega)).trans ob1
  have c2 : Below w.heap.size w w2 := c1.trans (b2.mono hs1)
  clear o2 p1 ob1 k17 c1
  have hp2 := p2.lt
  have hs2 := b2.size
  clear b2
  have k20 : w2.cell? ⟨w.heap.size, 0, none⟩ = some (.int .i64 3) := by rw [Lib.cell_of_heap ob2]; rfl
  have k24 : w2.cell? ⟨w.heap.size, 4, none⟩ = some (.string s) := by rw [Lib.cell_of_heap ob2]; rfl
  go_wp2_with fail
  refine (csum_any s _ hs).mono ?_
  rintro e w3 ⟨rfl, rfl⟩
  go_wp2_with fail
  refine (rsum_any s _ hs).mono ?_
  rintro e w3 ⟨rfl, rfl⟩
  generalize sumL s.data.toList = N at *
  generalize hw6 : w2 = w6 at *
  have bk6 : BookAt w6 B0 Wb xv yv bv es (fun q => q < w.heap.size ∨ (w6.heap.size ≤ q ∧ q < w6.heap.size)) := HBK.out.kept (fun q hq => c2.block q hq) (fun q hq => .inl hq)
  have c6 : Below B1 w w6 := c2.mono hB1
  have hl6 := c6.size
  have ob6 := ob2
  have q16 := q1
  have q26 := p2
  clear c2 ob2 q1 p2 k20 k24
  have k66 : w6.cell? ⟨w.heap.size, 6, none⟩ = some (.slice lo xs.length lc) := by rw [Lib.cell_of_heap ob6]; rfl
  have HBACK : Hid (Calls Tryz.prog 70 #[.slice (some ⟨w.heap.size + 1, 0, none⟩) (xs.length + 2) (xs.length + 2), .slice lo xs.length lc] w6 fun e w' => e = .returned (.bool true) ∧ w6.grownBy w' (some (w.heap.size + 1))) :=
    back_list (w.heap.size + 1) (w.heap.size + 1) xs _ w6 (by omega) q16 (Nat.le_refl _) ((HL.out.kept c6).view (by omega))
  go_wp2_with fail
  refine HBACK.out.mono ?_
  rintro e w7 ⟨rfl, g7⟩
  have c7 : Below B1 w w7 := below_back g7 c6 (by omega) (by omega)
  obtain ⟨_, bk7, ob7, q27, hs7⟩ := after_back g7 (c6.mono hB01) bk6 ob6 q26 hB0 (by omega) (by omega) (by omega) (by omega) (by omega) (by omega)
  clear g7 c6 bk6 ob6 q26 q16 k66 HBACK
  have k77 : w7.cell? ⟨w.heap.size, 7, none⟩ = some (.slice mo ys.length mc) := by rw [Lib.cell_of_heap ob7]; rfl
  have HBACK : Hid (Calls Tryz.prog 70 #[.slice (some ⟨w1.heap.size, 0, none⟩) (ys.length + 2) (ys.length + 2), .slice mo ys.length mc] w7 fun e w' => e = .returned (.bool true) ∧ w7.grownBy w' (some w1.heap.size)) :=
    back_list w1.heap.size w1.heap.size ys _ w7 (by omega) q27 (Nat.le_refl _) ((HM.out.kept c7).view (by have := c7.size; omega))
  go_wp2_with fail
  refine HBACK.out.mono ?_
  rintro e w8 ⟨rfl, g8⟩
  have c8 : Below B1 w w8 := below_back g8 c7 (by omega) (by have := c7.size; omega)
  have bk8 : BookAt w8 B0 Wb xv yv bv es (· < w8.heap.size) := bk7.kept (fun q hq => g8.block q (by rcases hq with h | h <;> omega) (fun e => by injection e with e; rcases hq with h | h <;> omega)) (fun q hq => by have := g8.size; rcases hq with h | h <;> (show q < w8.heap.size; omega))
  clear g8 c7 bk7 ob7 q27 k77 HBACK
  go_wp2
  go_ret
  exact ⟨rfl, bk8, c8⟩

set_option maxHeartbeats 4000000 in
theorem wdeltas_applyS (w : World) (B0 B1 Wb : Nat) (xv yv bv : Value) (es : List Entry) (hbook : BookAt w B0 Wb xv yv bv es (· < w.heap.size)) (hB0 : B0 ≤ w.heap.size) (hB01 : B0 ≤ B1) (hB1 : B1 ≤ w.heap.size) (a b c : Int) (s t : ByteArray) (vl vm : Value) (xs ys : List DOp)
    (hs : s.size ≤ 9223372036854775806) (hx : xs.length ≤ 4398046511000) (hy : ys.length ≤ 4398046511000) (hl : LView B1 w vl xs) (hm : LView B1 w vm ys) (hlen : ∀ o ∈ xs, o.len ≤ 9223372036854775807) (htx : ∀ o ∈ xs, o.tx.size ≤ 9223372036854770000) :
    Calls Tryz.prog 30 #[.pointer (some ⟨Wb, 0, none⟩), .agg #[.int .i64 2, .int .i64 a, .int .i64 b, .int .i64 c, .string s, .string t, vl, vm]] w fun e w' =>
      e = .returned (.bool true) ∧ BookAt w' B0 Wb xv yv bv es (· < w'.heap.size) ∧ Below B1 w w' := by
  have HN : Hid (∀ o ∈ xs, o.len ≤ 9223372036854775807) := hlen
  have HT : Hid (∀ o ∈ xs, o.tx.size ≤ 9223372036854770000) := htx
  clear hlen htx
  have HBK : Hid (BookAt w B0 Wb xv yv bv es (· < w.heap.size)) := hbook
  have hWb : Wb < w.heap.size := hbook.wbB
  have hW0 : B0 ≤ Wb := hbook.wb0
  have HL : Hid (LView B1 w vl xs) := hl
  have HM : Hid (LView B1 w vm ys) := hm
  obtain ⟨lo, lc, hvl⟩ := hl.slice
  obtain ⟨mo, mc, hvm⟩ := hm.slice
  rw [hvl] at HL
  rw [hvm] at HM
  rw [hvl, hvm]
  clear hbook hl hm hvl hvm
  go_enter Tryz.func30, Tryz.ntmps30
  go_wp2_with fail
  refine (lent_any _ xs _ (by omega) ((HL.out.view hB1).kept ((Below.refl _ _).alloc (Nat.le_refl _) _))).mono ?_
  rintro e w1 ⟨rfl, o1, b1⟩
  have ob1 : w1.heap[w.heap.size]? = some (.cells #[.int .i64 2, .int .i64 a, .int .i64 b, .int .i64 c, .string s, .string t, .slice lo xs.length lc, .slice mo ys.length mc] 61 (0, 0)) := (b1.block _ (by simp)).trans (heap_alloc_new _ _)
  have c1 : Below w.heap.size w w1 := ((Below.refl _ w).alloc (Nat.le_refl _) _).trans (b1.mono (by simp))
  have p1 : Lent w1 (w.heap.size + 1) xs := by
    have h := o1
    rw [alloc_size1] at h
    exact h
  clear o1 b1
  have hs1 := c1.size
  have hp1 := p1.lt
  have k17 : w1.cell? ⟨w.heap.size, 7, none⟩ = some (.slice mo ys.length mc) := by rw [Lib.cell_of_heap ob1]; rfl
  go_wp2_with fail
  refine (lent_any _ ys _ (by omega) ((HM.out.view hB1).kept c1)).mono ?_
  rintro e w2 ⟨rfl, o2, b2⟩
  have p2 : Lent w2 w1.heap.size ys := o2
  have q1 : Lent w2 (w.heap.size + 1) xs := p1.kept (b2.block _ hp1)
  have ob2 := (b2.block _ (show w.heap.size < w1.heap.size by omega)).trans ob1
  have c2 : Below w.heap.size w w2 := c1.trans (b2.mono hs1)
  clear o2 p1 ob1 k17 c1
  have hp2 := p2.lt
  have hs2 := b2.size
  clear b2
  have k20 : w2.cell? ⟨w.heap.size, 0, none⟩ = some (.int .i64 2) := by rw [Lib.cell_of_heap ob2]; rfl
  have k24 : w2.cell? ⟨w.heap.size, 4, none⟩ = some (.string s) := by rw [Lib.cell_of_heap ob2]; rfl
  have k26 : w2.cell? ⟨w.heap.size, 6, none⟩ = some (.slice lo xs.length lc) := by rw [Lib.cell_of_heap ob2]; rfl
  have HC : Hid (∀ W : World, W.heap = w2.heap → Calls Tryz.prog 60 #[.string s, .slice (some ⟨w.heap.size + 1, 0, none⟩) xs.length (xs.length + 2)] W fun e w' => e = .returned (.tuple #[.string (appS s xs), .int .i64 (appE s xs), .int .i64 (appP s xs)]) ∧ Below W.heap.size W w') :=
    fun W hW => capply_any (by omega) (by omega) ((own_head q1 _).heap hW) HN.out
  have hO2 : w.heap.size < w2.heap.size := by omega
  have n0 : (0 : Int) ≤ (xs.length : Int) := by omega
  have n1 : (xs.length : Int) ≤ (xs.length : Int) + 2 := by omega
  have n2 : (xs.length : Int) ≤ ((xs.length + 2 : Nat) : Int) := by omega
  have n3 : xs.length ≤ xs.length + 2 := by omega
  go_wp2
  go_region_held3 (fun w' => w'.cell? ⟨w.heap.size, 4, none⟩ = some (.string s) ∧ w'.cell? ⟨w.heap.size, 6, none⟩ = some (.slice lo xs.length lc)) (go_keep)
    (first | (go_at_call 60; refine (HC.out w2.drew rfl).mono ?_; rintro e w3 ⟨rfl, b3⟩; have e4 := (b3.cell (p := ⟨w.heap.size, 4, none⟩) hO2).trans k24; have e6 := (b3.cell (p := ⟨w.heap.size, 6, none⟩) hO2).trans k26))
  have b23 : Below w2.heap.size w2 w3 := ((Below.refl w2.heap.size w2).drew).trans b3
  have c3 : Below w.heap.size w w3 := c2.trans (b23.mono (by omega))
  have hs3 := b23.size
  clear b3
  go_wp2_with fail
  refine (rapply_any (by omega) (by omega) ((HL.out.kept (c3.mono hB1)).view (by omega)) HN.out HT.out).mono ?_
  rintro e w6 ⟨rfl, b6⟩
  have b26 : Below w2.heap.size w2 w6 := b23.trans (b6.mono hs3)
  have c26 : Below w.heap.size w w6 := c2.trans (b26.mono (by omega))
  have hs6 := b26.size
  have bk6 : BookAt w6 B0 Wb xv yv bv es (fun q => q < w.heap.size ∨ (w2.heap.size ≤ q ∧ q < w6.heap.size)) := HBK.out.kept (fun q hq => c26.block q hq) (fun q hq => .inl hq)
  have c6 : Below B1 w w6 := c26.mono hB1
  have hl6 := c6.size
  have ob6 := (b26.block _ hO2).trans ob2
  have q16 : Lent w6 (w.heap.size + 1) xs := q1.kept (b26.block _ (by omega))
  have q26 : Lent w6 w1.heap.size ys := p2.kept (b26.block _ (by omega))
  generalize appS s xs = AS at *
  generalize appE s xs = AE at *
  generalize appP s xs = AP at *
  clear c2 ob2 q1 p2 k20 k24 k26 b23 c3 b6 b26 c26 e4 e6 HC
  have k66 : w6.cell? ⟨w.heap.size, 6, none⟩ = some (.slice lo xs.length lc) := by rw [Lib.cell_of_heap ob6]; rfl
  have HBACK : Hid (Calls Tryz.prog 70 #[.slice (some ⟨w.heap.size + 1, 0, none⟩) (xs.length + 2) (xs.length + 2), .slice lo xs.length lc] w6 fun e w' => e = .returned (.bool true) ∧ w6.grownBy w' (some (w.heap.size + 1))) :=
    back_list (w.heap.size + 1) (w.heap.size + 1) xs _ w6 (by omega) q16 (Nat.le_refl _) ((HL.out.kept c6).view (by omega))
  go_wp2_with fail
  refine HBACK.out.mono ?_
  rintro e w7 ⟨rfl, g7⟩
  have c7 : Below B1 w w7 := below_back g7 c6 (by omega) (by omega)
  obtain ⟨_, bk7, ob7, q27, hs7⟩ := after_back g7 (c6.mono hB01) bk6 ob6 q26 hB0 (by omega) (by omega) (by omega) (by omega) (by omega) (by omega)
  clear g7 c6 bk6 ob6 q26 q16 k66 HBACK
  have k77 : w7.cell? ⟨w.heap.size, 7, none⟩ = some (.slice mo ys.length mc) := by rw [Lib.cell_of_heap ob7]; rfl
  have HBACK : Hid (Calls Tryz.prog 70 #[.slice (some ⟨w1.heap.size, 0, none⟩) (ys.length + 2) (ys.length + 2), .slice mo ys.length mc] w7 fun e w' => e = .returned (.bool true) ∧ w7.grownBy w' (some w1.heap.size)) :=
    back_list w1.heap.size w1.heap.size ys _ w7 (by omega) q27 (Nat.le_refl _) ((HM.out.kept c7).view (by have := c7.size; omega))
  go_wp2_with fail
  refine HBACK.out.mono ?_
  rintro e w8 ⟨rfl, g8⟩
  have c8 : Below B1 w w8 := below_back g8 c7 (by omega) (by have := c7.size; omega)
  have bk8 : BookAt w8 B0 Wb xv yv bv es (· < w8.heap.size) := bk7.kept (fun q hq => g8.block q (by rcases hq with h | h <;> omega) (fun e => by injection e with e; rcases hq with h | h <;> omega)) (fun q hq => by have := g8.size; rcases hq with h | h <;> (show q < w8.heap.size; omega))
  clear g8 c7 bk7 ob7 q27 k77 HBACK
  go_wp2
  go_ret
  exact ⟨rfl, bk8, c8⟩
end Go.Proofs.YtabpiaaknjcnkaaGreat
