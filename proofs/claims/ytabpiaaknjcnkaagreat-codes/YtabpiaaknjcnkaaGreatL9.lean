/-
  A step of Apply, a step of Sum.
-/
import Derived.Test.YtabpiaaknjcnkaaGreatL8
import Derived.Test.YtabpiaaknjcnkaaGreatXS1S2
import Derived.LoopTactic
import Derived.Deep.RegionHeld3
namespace Go.Proofs.YtabpiaaknjcnkaaGreat
open Go.RowKit
set_option linter.unusedVariables false
set_option linter.unusedSimpArgs false
set_option maxRecDepth 100000

theorem View.heap {w W : World} {v : Value} {xs : List DOp} (h : View w v xs) (hW : W.heap = w.heap) : View W v xs := by
  rcases h with h | ⟨b, off, cap, rfl, hlt, hr⟩
  · exact .inl h
  · refine .inr ⟨b, off, cap, rfl, by rw [hW]; exact hlt, fun i o ho => ?_⟩
    obtain ⟨r0, r1, r2⟩ := hr i o ho
    have hc : ∀ p : Addr, W.cell? p = w.cell? p := fun p => World.cell?_of_block (by rw [hW])
    exact ⟨(hc _).trans r0, (hc _).trans r1, (hc _).trans r2⟩

set_option maxHeartbeats 4000000 in
theorem wdeltas_sum (w : World) (B0 Wb : Nat) (xv yv bv : Value) (es : List Entry) (hbook : BookAt w B0 Wb xv yv bv es (· < w.heap.size)) (hB0 : B0 ≤ w.heap.size) (a b c : Int) (s t : ByteArray) (vl vm : Value) (xs ys : List DOp)
    (hs : s.size ≤ 9223372036854775806) (hx : xs.length ≤ 4398046511000) (hy : ys.length ≤ 4398046511000) (hl : LView B0 w vl xs) (hm : LView B0 w vm ys) :
    Calls Tryz.prog 30 #[.pointer (some ⟨Wb, 0, none⟩), .agg #[.int .i64 3, .int .i64 a, .int .i64 b, .int .i64 c, .string s, .string t, vl, vm]] w fun e w' =>
      e = .returned (.bool true) ∧ BookAt w' B0 Wb xv yv bv es (· < w'.heap.size) ∧ Below B0 w w' := by
  have HBK : Hid (BookAt w B0 Wb xv yv bv es (· < w.heap.size)) := hbook
  have hWb : Wb < w.heap.size := hbook.wbB
  have hW0 : B0 ≤ Wb := hbook.wb0
  have HL : Hid (LView B0 w vl xs) := hl
  have HM : Hid (LView B0 w vm ys) := hm
  obtain ⟨lo, lc, hvl⟩ := hl.slice
  obtain ⟨mo, mc, hvm⟩ := hm.slice
  rw [hvl] at HL
  rw [hvm] at HM
  rw [hvl, hvm]
  clear hbook hl hm hvl hvm
  go_enter Tryz.func30, Tryz.ntmps30
  go_wp2_with fail
  refine (lent_any _ xs _ (by omega) ((HL.out.view hB0).kept ((Below.refl _ _).alloc (Nat.le_refl _) _))).mono ?_
  rintro e w1 ⟨rfl, o1, b1⟩
  have ob1 : w1.heap[w.heap.size]? = some (.cells #[.int .i64 3, .int .i64 a, .int .i64 b, .int .i64 c, .string s, .string t, .slice lo xs.length lc, .slice mo ys.length mc] 61 (0, 0)) := (b1.block _ (by simp)).trans (heap_alloc_new _ _)
  have c1 : Below w.heap.size w w1 := ((Below.refl _ w).alloc (Nat.le_refl _) _).trans (b1.mono (by simp))
  have p1 : Lent w1 (w.heap.size + 1) xs := by
    have h := o1
    rw [alloc_size1] at h
    exact h
  clear o1 b1
  have hs1 := c1.size
  have hp1 := p1.lt
  have k17 : w1.cell? ⟨w.heap.size, 7, none⟩ = some (.slice mo ys.length mc) := by rw [Lib.cell_of_heap ob1]; rfl
  go_wp2_with fail
  refine (lent_any _ ys _ (by omega) ((HM.out.view hB0).kept c1)).mono ?_
  rintro e w2 ⟨rfl, o2, b2⟩
  have p2 : Lent w2 w1.heap.size ys := o2
  have q1 : Lent w2 (w.heap.size + 1) xs := p1.kept (b2.block _ hp1)
  have ob2 := (b2.block _ (show w.heap.size < w1.heap.size by omega)).trans ob1
  have c2 : Below w.heap.size w w2 := c1.trans (b2.mono hs1)
  clear o2 p1 ob1 k17 c1
  have hp2 := p2.lt
  have hs2 := b2.size
  clear b2
  have k20 : w2.cell? ⟨w.heap.size, 0, none⟩ = some (.int .i64 3) := by rw [Lib.cell_of_heap ob2]; rfl
  have k24 : w2.cell? ⟨w.heap.size, 4, none⟩ = some (.string s) := by rw [Lib.cell_of_heap ob2]; rfl
  go_wp2_with fail
  refine (csum_any s _ hs).mono ?_
  rintro e w3 ⟨rfl, rfl⟩
  go_wp2_with fail
  refine (rsum_any s _ hs).mono ?_
  rintro e w3 ⟨rfl, rfl⟩
  generalize sumL s.data.toList = N at *
  generalize hw6 : w2 = w6 at *
  have bk6 : BookAt w6 B0 Wb xv yv bv es (fun q => q < w.heap.size ∨ (w6.heap.size ≤ q ∧ q < w6.heap.size)) := HBK.out.kept (fun q hq => c2.block q hq) (fun q hq => .inl hq)
  have c6 : Below B0 w w6 := c2.mono hB0
  have hl6 := c6.size
  have ob6 := ob2
  have q16 := q1
  have q26 := p2
  clear c2 ob2 q1 p2 k20 k24
  have k66 : w6.cell? ⟨w.heap.size, 6, none⟩ = some (.slice lo xs.length lc) := by rw [Lib.cell_of_heap ob6]; rfl
  have HBACK : Hid (Calls Tryz.prog 70 #[.slice (some ⟨w.heap.size + 1, 0, none⟩) (xs.length + 2) (xs.length + 2), .slice lo xs.length lc] w6 fun e w' => e = .returned (.bool true) ∧ w6.grownBy w' (some (w.heap.size + 1))) :=
    back_list (w.heap.size + 1) (w.heap.size + 1) xs _ w6 (by omega) q16 (Nat.le_refl _) ((HL.out.kept c6).view (by omega))
  go_wp2_with fail
  refine HBACK.out.mono ?_
  rintro e w7 ⟨rfl, g7⟩
  obtain ⟨c7, bk7, ob7, q27, hs7⟩ := after_back g7 c6 bk6 ob6 q26 hB0 (by omega) (by omega) (by omega) (by omega) (by omega) (by omega)
  clear g7 c6 bk6 ob6 q26 q16 k66 HBACK
  have k77 : w7.cell? ⟨w.heap.size, 7, none⟩ = some (.slice mo ys.length mc) := by rw [Lib.cell_of_heap ob7]; rfl
  have HBACK : Hid (Calls Tryz.prog 70 #[.slice (some ⟨w1.heap.size, 0, none⟩) (ys.length + 2) (ys.length + 2), .slice mo ys.length mc] w7 fun e w' => e = .returned (.bool true) ∧ w7.grownBy w' (some w1.heap.size)) :=
    back_list w1.heap.size w1.heap.size ys _ w7 (by omega) q27 (Nat.le_refl _) ((HM.out.kept c7).view (by have := c7.size; omega))
  go_wp2_with fail
  refine HBACK.out.mono ?_
  rintro e w8 ⟨rfl, g8⟩
  have c8 : Below B0 w w8 := below_back g8 c7 (by omega) (by have := c7.size; omega)
  have bk8 : BookAt w8 B0 Wb xv yv bv es (· < w8.heap.size) := bk7.kept (fun q hq => g8.block q (by rcases hq with h | h <;> omega) (fun e => by injection e with e; rcases hq with h | h <;> omega)) (fun q hq => by have := g8.size; rcases hq with h | h <;> (show q < w8.heap.size; omega))
  clear g8 c7 bk7 ob7 q27 k77 HBACK
  go_wp2
  go_ret
  exact ⟨rfl, bk8, c8⟩

set_option maxHeartbeats 4000000 in
theorem wdeltas_apply (w : World) (B0 Wb : Nat) (xv yv bv : Value) (es : List Entry) (hbook : BookAt w B0 Wb xv yv bv es (· < w.heap.size)) (hB0 : B0 ≤ w.heap.size) (a b c : Int) (s t : ByteArray) (vl vm : Value) (xs ys : List DOp)
    (hs : s.size ≤ 9223372036854775806) (hx : xs.length ≤ 4398046511000) (hy : ys.length ≤ 4398046511000) (hl : LView B0 w vl xs) (hm : LView B0 w vm ys) (hlen : ∀ o ∈ xs, o.len ≤ 9223372036854775807) (htx : ∀ o ∈ xs, o.tx.size ≤ 9223372036854770000) :
    Calls Tryz.prog 30 #[.pointer (some ⟨Wb, 0, none⟩), .agg #[.int .i64 2, .int .i64 a, .int .i64 b, .int .i64 c, .string s, .string t, vl, vm]] w fun e w' =>
      e = .returned (.bool true) ∧ BookAt w' B0 Wb xv yv bv es (· < w'.heap.size) ∧ Below B0 w w' := by
  have HN : Hid (∀ o ∈ xs, o.len ≤ 9223372036854775807) := hlen
  have HT : Hid (∀ o ∈ xs, o.tx.size ≤ 9223372036854770000) := htx
  clear hlen htx
  have HBK : Hid (BookAt w B0 Wb xv yv bv es (· < w.heap.size)) := hbook
  have hWb : Wb < w.heap.size := hbook.wbB
  have hW0 : B0 ≤ Wb := hbook.wb0
  have HL : Hid (LView B0 w vl xs) := hl
  have HM : Hid (LView B0 w vm ys) := hm
  obtain ⟨lo, lc, hvl⟩ := hl.slice
  obtain ⟨mo, mc, hvm⟩ := hm.slice
  rw [hvl] at HL
  rw [hvm] at HM
  rw [hvl, hvm]
  clear hbook hl hm hvl hvm
  go_enter Tryz.func30, Tryz.ntmps30
  go_wp2_with fail
  refine (lent_any _ xs _ (by omega) ((HL.out.view hB0).kept ((Below.refl _ _).alloc (Nat.le_refl _) _))).mono ?_
  rintro e w1 ⟨rfl, o1, b1⟩
  have ob1 : w1.heap[w.heap.size]? = some (.cells #[.int .i64 2, .int .i64 a, .int .i64 b, .int .i64 c, .string s, .string t, .slice lo xs.length lc, .slice mo ys.length mc] 61 (0, 0)) := (b1.block _ (by simp)).trans (heap_alloc_new _ _)
  have c1 : Below w.heap.size w w1 := ((Below.refl _ w).alloc (Nat.le_refl _) _).trans (b1.mono (by simp))
  have p1 : Lent w1 (w.heap.size + 1) xs := by
    have h := o1
    rw [alloc_size1] at h
    exact h
  clear o1 b1
  have hs1 := c1.size
  have hp1 := p1.lt
  have k17 : w1.cell? ⟨w.heap.size, 7, none⟩ = some (.slice mo ys.length mc) := by rw [Lib.cell_of_heap ob1]; rfl
  go_wp2_with fail
  refine (lent_any _ ys _ (by omega) ((HM.out.view hB0).kept c1)).mono ?_
  rintro e w2 ⟨rfl, o2, b2⟩
  have p2 : Lent w2 w1.heap.size ys := o2
  have q1 : Lent w2 (w.heap.size + 1) xs := p1.kept (b2.block _ hp1)
  have ob2 := (b2.block _ (show w.heap.size < w1.heap.size by omega)).trans ob1
  have c2 : Below w.heap.size w w2 := c1.trans (b2.mono hs1)
  clear o2 p1 ob1 k17 c1
  have hp2 := p2.lt
  have hs2 := b2.size
  clear b2
  have k20 : w2.cell? ⟨w.heap.size, 0, none⟩ = some (.int .i64 2) := by rw [Lib.cell_of_heap ob2]; rfl
  have k24 : w2.cell? ⟨w.heap.size, 4, none⟩ = some (.string s) := by rw [Lib.cell_of_heap ob2]; rfl
  have k26 : w2.cell? ⟨w.heap.size, 6, none⟩ = some (.slice lo xs.length lc) := by rw [Lib.cell_of_heap ob2]; rfl
  have HC : Hid (∀ W : World, W.heap = w2.heap → Calls Tryz.prog 60 #[.string s, .slice (some ⟨w.heap.size + 1, 0, none⟩) xs.length (xs.length + 2)] W fun e w' => e = .returned (.tuple #[.string (appS s xs), .int .i64 (appE s xs), .int .i64 (appP s xs)]) ∧ Below W.heap.size W w') :=
    fun W hW => capply_any (by omega) (by omega) ((own_head q1 _).heap hW) HN.out
  have hO2 : w.heap.size < w2.heap.size := by omega
  have n0 : (0 : Int) ≤ (xs.length : Int) := by omega
  have n1 : (xs.length : Int) ≤ (xs.length : Int) + 2 := by omega
  have n2 : (xs.length : Int) ≤ ((xs.length + 2 : Nat) : Int) := by omega
  have n3 : xs.length ≤ xs.length + 2 := by omega
  go_wp2
  go_region_held3 (fun w' => w'.cell? ⟨w.heap.size, 4, none⟩ = some (.string s) ∧ w'.cell? ⟨w.heap.size, 6, none⟩ = some (.slice lo xs.length lc)) (go_keep)
    (first | (go_at_call 60; refine (HC.out w2.drew rfl).mono ?_; rintro e w3 ⟨rfl, b3⟩; have e4 := (b3.cell (p := ⟨w.heap.size, 4, none⟩) hO2).trans k24; have e6 := (b3.cell (p := ⟨w.heap.size, 6, none⟩) hO2).trans k26))
  have b23 : Below w2.heap.size w2 w3 := ((Below.refl w2.heap.size w2).drew).trans b3
  have c3 : Below w.heap.size w w3 := c2.trans (b23.mono (by omega))
  have hs3 := b23.size
  clear b3
  go_wp2_with fail
  refine (rapply_any (by omega) (by omega) ((HL.out.kept (c3.mono hB0)).view (by omega)) HN.out HT.out).mono ?_
  rintro e w6 ⟨rfl, b6⟩
  have b26 : Below w2.heap.size w2 w6 := b23.trans (b6.mono hs3)
  have c26 : Below w.heap.size w w6 := c2.trans (b26.mono (by omega))
  have hs6 := b26.size
  have bk6 : BookAt w6 B0 Wb xv yv bv es (fun q => q < w.heap.size ∨ (w2.heap.size ≤ q ∧ q < w6.heap.size)) := HBK.out.kept (fun q hq => c26.block q hq) (fun q hq => .inl hq)
  have c6 : Below B0 w w6 := c26.mono hB0
  have hl6 := c6.size
  have ob6 := (b26.block _ hO2).trans ob2
  have q16 : Lent w6 (w.heap.size + 1) xs := q1.kept (b26.block _ (by omega))
  have q26 : Lent w6 w1.heap.size ys := p2.kept (b26.block _ (by omega))
  generalize appS s xs = AS at *
  generalize appE s xs = AE at *
  generalize appP s xs = AP at *
  clear c2 ob2 q1 p2 k20 k24 k26 b23 c3 b6 b26 c26 e4 e6 HC
  have k66 : w6.cell? ⟨w.heap.size, 6, none⟩ = some (.slice lo xs.length lc) := by rw [Lib.cell_of_heap ob6]; rfl
  have HBACK : Hid (Calls Tryz.prog 70 #[.slice (some ⟨w.heap.size + 1, 0, none⟩) (xs.length + 2) (xs.length + 2), .slice lo xs.length lc] w6 fun e w' => e = .returned (.bool true) ∧ w6.grownBy w' (some (w.heap.size + 1))) :=
    back_list (w.heap.size + 1) (w.heap.size + 1) xs _ w6 (by omega) q16 (Nat.le_refl _) ((HL.out.kept c6).view (by omega))
  go_wp2_with fail
  refine HBACK.out.mono ?_
  rintro e w7 ⟨rfl, g7⟩
  obtain ⟨c7, bk7, ob7, q27, hs7⟩ := after_back g7 c6 bk6 ob6 q26 hB0 (by omega) (by omega) (by omega) (by omega) (by omega) (by omega)
  clear g7 c6 bk6 ob6 q26 q16 k66 HBACK
  have k77 : w7.cell? ⟨w.heap.size, 7, none⟩ = some (.slice mo ys.length mc) := by rw [Lib.cell_of_heap ob7]; rfl
  have HBACK : Hid (Calls Tryz.prog 70 #[.slice (some ⟨w1.heap.size, 0, none⟩) (ys.length + 2) (ys.length + 2), .slice mo ys.length mc] w7 fun e w' => e = .returned (.bool true) ∧ w7.grownBy w' (some w1.heap.size)) :=
    back_list w1.heap.size w1.heap.size ys _ w7 (by omega) q27 (Nat.le_refl _) ((HM.out.kept c7).view (by have := c7.size; omega))
  go_wp2_with fail
  refine HBACK.out.mono ?_
  rintro e w8 ⟨rfl, g8⟩
  have c8 : Below B0 w w8 := below_back g8 c7 (by omega) (by have := c7.size; omega)
  have bk8 : BookAt w8 B0 Wb xv yv bv es (· < w8.heap.size) := bk7.kept (fun q hq => g8.block q (by rcases hq with h | h <;> omega) (fun e => by injection e with e; rcases hq with h | h <;> omega)) (fun q hq => by have := g8.size; rcases hq with h | h <;> (show q < w8.heap.size; omega))
  clear g8 c7 bk7 ob7 q27 k77 HBACK
  go_wp2
  go_ret
  exact ⟨rfl, bk8, c8⟩
end Go.Proofs.YtabpiaaknjcnkaaGreat
