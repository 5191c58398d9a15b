/- The texts RA, LK, LS, LQ, one behind the other. -/
import Derived.Test.YtabpiaaknjcnkaaGreatR9
import Derived.Test.YtabpiaaknjcnkaaGreatXLCPE
import Derived.Test.YtabpiaaknjcnkaaGreatXS1S2L9
import Derived.LoopTactic
import Derived.Deep.RegionHeld3
import Derived.Test.YtabpiaaknjcnkaaGreatXLBLPOD
import Derived.Test.YtabpiaaknjcnkaaGreatXLEPND1
/-
  The document's Compose, whole.
-/
namespace Go.Proofs.YtabpiaaknjcnkaaGreat
open Go.RowKit
set_option linter.unusedVariables false
set_option linter.unusedSimpArgs false
set_option maxRecDepth 100000

theorem rcomp_any {v1 v2 : Value} {xs ys : List DOp} {w : World} (h1 : View w v1 xs) (h2 : View w v2 ys) (i1 : Ints xs) (i2 : Ints ys) :
    Calls Tryz.prog 65 #[v1, v2] w fun e w' => (∃ v', e = .returned (.tuple #[v', .int .i64 (cmpE xs ys), .int .i64 (cmpP xs ys)]) ∧ OwnOps w' w.heap.size v' (cmpL xs ys)) ∧ Below w.heap.size w w' := by
  by_cases hf : faultF xs 2000 < xs.length
  · have HC : ¬ cmpOk xs ys := fun h => h.1 hf
    rw [show cmpL xs ys = [] from if_neg HC, show cmpE xs ys = 2 from if_neg HC, show cmpP xs ys = (faultF xs 2000 : Int) from by rw [cmpP, if_neg HC, cmpF, if_pos hf]]
    refine (rcomp_fault1 (ys := ys) h1 i1 hf).mono ?_
    rintro e w' ⟨rfl, hb⟩
    exact ⟨⟨_, rfl, OwnOps.nil _ _⟩, hb⟩
  · by_cases hf2 : faultF ys (sumI xs) < ys.length
    · have HC : ¬ cmpOk xs ys := fun h => h.2.1 hf2
      rw [show cmpL xs ys = [] from if_neg HC, show cmpE xs ys = 2 from if_neg HC, show cmpP xs ys = ((xs.length + faultF ys (sumI xs) : Nat) : Int) from by rw [cmpP, if_neg HC, cmpF, if_neg hf, if_pos hf2]]
      refine (rcomp_fault2 h1 h2 i1 i2 hf hf2).mono ?_
      rintro e w' ⟨rfl, hb⟩
      exact ⟨⟨_, rfl, OwnOps.nil _ _⟩, hb⟩
    · exact rcomp_ok h1 h2 i1 i2 hf hf2
end Go.Proofs.YtabpiaaknjcnkaaGreat

/-
  A step of Compose.
-/
namespace Go.Proofs.YtabpiaaknjcnkaaGreat
open Go.RowKit
set_option linter.unusedVariables false
set_option linter.unusedSimpArgs false
set_option maxRecDepth 100000

theorem cmpL_length (xs ys : List DOp) : (cmpL xs ys).length ≤ 200 := by
  unfold cmpL
  split
  · rename_i h
    have := h.2.2
    omega
  · simp

set_option maxHeartbeats 4000000 in
theorem wdeltas_comp (w : World) (B0 Wb : Nat) (xv yv bv : Value) (es : List Entry) (hbook : BookAt w B0 Wb xv yv bv es (· < w.heap.size)) (hes : es.length ≤ 1300000000000) (hB0 : B0 ≤ w.heap.size) (a b c : Int) (s t : ByteArray) (vl vm : Value) (xs ys : List DOp)
    (hx : xs.length ≤ 4398046511000) (hy : ys.length ≤ 4398046511000) (hl : LView B0 w vl xs) (hm : LView B0 w vm ys) (hi1 : Ints xs) (hi2 : Ints ys) :
    Calls Tryz.prog 30 #[.pointer (some ⟨Wb, 0, none⟩), .agg #[.int .i64 4, .int .i64 a, .int .i64 b, .int .i64 c, .string s, .string t, vl, vm]] w fun e w' =>
      e = .returned (.bool true) ∧ (∃ bv' es', es'.length = es.length + 1 ∧ BookAt w' B0 Wb xv yv bv' es' (· < w'.heap.size)) ∧ Below B0 w w' := by
  have HI : Hid (Ints xs ∧ Ints ys) := ⟨hi1, hi2⟩
  clear hi1 hi2
  have HBK : Hid (BookAt w B0 Wb xv yv bv es (· < w.heap.size)) := hbook
  have hWb : Wb < w.heap.size := hbook.wbB
  have hW0 : B0 ≤ Wb := hbook.wb0
  have HL : Hid (LView B0 w vl xs) := hl
  have HM : Hid (LView B0 w vm ys) := hm
  obtain ⟨lo, lc, hvl⟩ := hl.slice
  obtain ⟨mo, mc, hvm⟩ := hm.slice
  rw [hvl] at HL
  rw [hvm] at HM
  rw [hvl, hvm]
  clear hbook hl hm hvl hvm
  have hD : (cmpL xs ys).length ≤ 100000 := by have := cmpL_length xs ys; omega
  go_enter Tryz.func30, Tryz.ntmps30
  go_wp2_with fail
  refine (lent_any _ xs _ (by omega) ((HL.out.view hB0).kept ((Below.refl _ _).alloc (Nat.le_refl _) _))).mono ?_
  rintro e w1 ⟨rfl, o1, b1⟩
  have ob1 : w1.heap[w.heap.size]? = some (.cells #[.int .i64 4, .int .i64 a, .int .i64 b, .int .i64 c, .string s, .string t, .slice lo xs.length lc, .slice mo ys.length mc] 61 (0, 0)) := (b1.block _ (by simp)).trans (heap_alloc_new _ _)
  have c1 : Below w.heap.size w w1 := ((Below.refl _ w).alloc (Nat.le_refl _) _).trans (b1.mono (by simp))
  have p1 : Lent w1 (w.heap.size + 1) xs := by
    have h := o1
    rw [alloc_size1] at h
    exact h
  clear o1 b1
  have hs1 := c1.size
  have hp1 := p1.lt
  have k17 : w1.cell? ⟨w.heap.size, 7, none⟩ = some (.slice mo ys.length mc) := by rw [Lib.cell_of_heap ob1]; rfl
  go_wp2_with fail
  refine (lent_any _ ys _ (by omega) ((HM.out.view hB0).kept c1)).mono ?_
  rintro e w2 ⟨rfl, o2, b2⟩
  have p2 : Lent w2 w1.heap.size ys := o2
  have q1 : Lent w2 (w.heap.size + 1) xs := p1.kept (b2.block _ hp1)
  have ob2 := (b2.block _ (show w.heap.size < w1.heap.size by omega)).trans ob1
  have c2 : Below w.heap.size w w2 := c1.trans (b2.mono hs1)
  clear o2 p1 ob1 k17 c1
  have hp2 := p2.lt
  have hs2 := b2.size
  clear b2
  have k20 : w2.cell? ⟨w.heap.size, 0, none⟩ = some (.int .i64 4) := by rw [Lib.cell_of_heap ob2]; rfl
  have k26 : w2.cell? ⟨w.heap.size, 6, none⟩ = some (.slice lo xs.length lc) := by rw [Lib.cell_of_heap ob2]; rfl
  have k27 : w2.cell? ⟨w.heap.size, 7, none⟩ = some (.slice mo ys.length mc) := by rw [Lib.cell_of_heap ob2]; rfl
  have HC : Hid (∀ W : World, W.heap = w2.heap → Calls Tryz.prog 64 #[.slice (some ⟨w.heap.size + 1, 0, none⟩) xs.length (xs.length + 2), .slice (some ⟨w1.heap.size, 0, none⟩) ys.length (ys.length + 2)] W fun e w' => (∃ v', e = .returned (.tuple #[v', .int .i64 (cmpE xs ys), .int .i64 (cmpP xs ys)]) ∧ OwnOps w' W.heap.size v' (cmpL xs ys)) ∧ Below W.heap.size W w') :=
    fun W hW => ccomp_any ((own_head q1 _).heap hW) ((own_head p2 _).heap hW) HI.out.1 HI.out.2
  have hO2 : w.heap.size < w2.heap.size := by omega
  have n0 : (0 : Int) ≤ (xs.length : Int) := by omega
  have n1 : (xs.length : Int) ≤ (xs.length : Int) + 2 := by omega
  have n2 : (xs.length : Int) ≤ ((xs.length + 2 : Nat) : Int) := by omega
  have n3 : xs.length ≤ xs.length + 2 := by omega
  have m0 : (0 : Int) ≤ (ys.length : Int) := by omega
  have m1 : (ys.length : Int) ≤ (ys.length : Int) + 2 := by omega
  have m2 : (ys.length : Int) ≤ ((ys.length + 2 : Nat) : Int) := by omega
  have m3 : ys.length ≤ ys.length + 2 := by omega
  go_wp2
  go_region_held3 (fun w' => w'.cell? ⟨w.heap.size, 6, none⟩ = some (.slice lo xs.length lc) ∧ w'.cell? ⟨w.heap.size, 7, none⟩ = some (.slice mo ys.length mc)) (go_keep)
    (first | (go_at_call 64; refine (HC.out w2.drew rfl).mono ?_; rintro e w3 ⟨⟨v3, rfl, o3⟩, b3⟩; obtain ⟨a3, c3, hv3⟩ := o3.slice; subst hv3; have e6 := (b3.cell (p := ⟨w.heap.size, 6, none⟩) hO2).trans k26; have e7 := (b3.cell (p := ⟨w.heap.size, 7, none⟩) hO2).trans k27))
  have b23 : Below w2.heap.size w2 w3 := ((Below.refl w2.heap.size w2).drew).trans b3
  have c3' : Below w.heap.size w w3 := c2.trans (b23.mono (by omega))
  have hs3 := b23.size
  have HR : Hid (Calls Tryz.prog 65 #[.slice lo xs.length lc, .slice mo ys.length mc] w3 fun e w' => (∃ v', e = .returned (.tuple #[v', .int .i64 (cmpE xs ys), .int .i64 (cmpP xs ys)]) ∧ OwnOps w' w3.heap.size v' (cmpL xs ys)) ∧ Below w3.heap.size w3 w') :=
    rcomp_any ((HL.out.kept (c3'.mono hB0)).view (by omega)) ((HM.out.kept (c3'.mono hB0)).view (by omega)) HI.out.1 HI.out.2
  clear b3 k20 k26 k27 c3' HC
  rename Below w2.heap.size w2 w3 => b3
  go_wp2_with fail
  refine HR.out.mono ?_
  rintro e w4 ⟨⟨v4, rfl, o4⟩, b4⟩
  obtain ⟨a4, c4, hv4⟩ := o4.slice
  subst hv4
  have u4 : OwnOps w4 w2.heap.size (.slice a3 (cmpL xs ys).length c3) (cmpL xs ys) := own_block o3 (fun g hg => b4.block g (row_own_lt o3 hg))
  have hs4 := b4.size
  have b24 : Below w2.heap.size w2 w4 := b3.trans (b4.mono hs3)
  clear b3 b4 o3 e6 e7 HR n0 n1 n2 n3 m0 m1 m2 m3
  have HSAME : Hid (Calls Tryz.prog 58 #[.slice a3 (cmpL xs ys).length c3, .slice a4 (cmpL xs ys).length c4] w4 fun e w' => e = .returned (.bool true) ∧ ∃ n, w' = w4.drewN n) := sameOps_any (by omega) (View.of_own u4) (View.of_own o4)
  clear o4
  generalize hDD : cmpL xs ys = D at *
  generalize cmpE xs ys = E at *
  generalize cmpP xs ys = P at *
  go_wp2_with fail
  refine HSAME.out.mono ?_
  rintro e w5 ⟨rfl, n5, hw5⟩
  have u5 : OwnOps w5 w2.heap.size (.slice a3 D.length c3) D := by rw [hw5]; exact u4
  have b25 : Below w2.heap.size w2 w5 := by rw [hw5]; exact b24.trans (below_drewN _ _ _)
  clear hw5 u4 b24 HSAME
  have hs5 := b25.size
  have bk5 : BookAt w5 B0 Wb xv yv bv es (· < w.heap.size) := HBK.out.kept (fun q hq => (b25.block q (by have : q < w.heap.size := hq; omega)).trans (c2.block q hq)) (fun q hq => hq)
  have q15 : Lent w5 (w.heap.size + 1) xs := q1.kept (b25.block _ (by omega))
  have q25 : Lent w5 w1.heap.size ys := p2.kept (b25.block _ (by omega))
  have ob5 := (b25.block _ (show w.heap.size < w2.heap.size by omega)).trans ob2
  have c5 : Below w.heap.size w w5 := c2.trans (b25.mono (by omega))
  clear q1 p2 ob2 c2 b25
  go_wp2_with fail
  refine (bops_walk w5 B0 Wb xv yv bv es (· < w.heap.size) w2.heap.size _ D bk5 (fun q hq => by have : q < w.heap.size := hq; omega) hes u5 hD hs5 (by omega)).mono ?_
  rintro e w6 ⟨rfl, ⟨bv6, e6, bk6⟩, kp6, bb6⟩
  have hbvb : ∀ q, w.heap.size ≤ q → bv.ownBlock ≠ some q := fun q hq e => by have : q < w.heap.size := HBK.out.lowr q e; omega
  have hs6 := bb6.size
  have ob6 := (kp6 _ (show w.heap.size < w2.heap.size by omega) (by omega) (hbvb _ (Nat.le_refl _))).trans ob5
  have q16 : Lent w6 (w.heap.size + 1) xs := q15.kept (kp6 _ (by omega) (by omega) (hbvb _ (by omega)))
  have q26 : Lent w6 w1.heap.size ys := q25.kept (kp6 _ (by omega) (by omega) (hbvb _ (by omega)))
  have c6 : Below B0 w w6 := (c5.mono hB0).trans bb6
  have hl6 := c6.size
  clear bb6 kp6 q15 q25 ob5 c5 bk5 u5
  have k66 : w6.cell? ⟨w.heap.size, 6, none⟩ = some (.slice lo xs.length lc) := by rw [Lib.cell_of_heap ob6]; rfl
  have HBACK : Hid (Calls Tryz.prog 70 #[.slice (some ⟨w.heap.size + 1, 0, none⟩) (xs.length + 2) (xs.length + 2), .slice lo xs.length lc] w6 fun e w' => e = .returned (.bool true) ∧ w6.grownBy w' (some (w.heap.size + 1))) :=
    back_list (w.heap.size + 1) (w.heap.size + 1) xs _ w6 (by omega) q16 (Nat.le_refl _) ((HL.out.kept c6).view (by omega))
  go_wp2_with fail
  refine HBACK.out.mono ?_
  rintro e w7 ⟨rfl, g7⟩
  obtain ⟨c7, bk7, ob7, q27, hs7⟩ := after_back g7 c6 bk6 ob6 q26 hB0 (by omega) (by omega) (by omega) (by omega) (by omega) (by omega)
  clear g7 c6 bk6 ob6 q26 q16 k66 HBACK
  have k77 : w7.cell? ⟨w.heap.size, 7, none⟩ = some (.slice mo ys.length mc) := by rw [Lib.cell_of_heap ob7]; rfl
  have HBACK : Hid (Calls Tryz.prog 70 #[.slice (some ⟨w1.heap.size, 0, none⟩) (ys.length + 2) (ys.length + 2), .slice mo ys.length mc] w7 fun e w' => e = .returned (.bool true) ∧ w7.grownBy w' (some w1.heap.size)) :=
    back_list w1.heap.size w1.heap.size ys _ w7 (by omega) q27 (Nat.le_refl _) ((HM.out.kept c7).view (by have := c7.size; omega))
  go_wp2_with fail
  refine HBACK.out.mono ?_
  rintro e w8 ⟨rfl, g8⟩
  have c8 : Below B0 w w8 := below_back g8 c7 (by omega) (by have := c7.size; omega)
  have bk8 : BookAt w8 B0 Wb xv yv bv6 (es ++ [e6]) (· < w8.heap.size) := bk7.kept (fun q hq => g8.block q (by rcases hq with h | h <;> omega) (fun e => by injection e with e; rcases hq with h | h <;> omega)) (fun q hq => by have := g8.size; rcases hq with h | h <;> (show q < w8.heap.size; omega))
  clear g8 c7 bk7 ob7 q27 k77 HBACK
  go_wp2
  go_ret
  exact ⟨rfl, ⟨bv6, es ++ [e6], by simp, bk8⟩, c8⟩
end Go.Proofs.YtabpiaaknjcnkaaGreat

/-
  A step of the script, of the kinds up to 6.
-/
namespace Go.Proofs.YtabpiaaknjcnkaaGreat
open Go.RowKit
set_option linter.unusedVariables false
set_option linter.unusedSimpArgs false
set_option maxRecDepth 100000

theorem Raw.ints {B0 : Nat} {w : World} {s t : ByteArray} {vl vm : Value} {xs ys : List DOp} (h : Raw B0 w s t vl vm xs ys) : Ints xs := ⟨by have := h.hx; omega, h.len, h.tx⟩

theorem wdeltas_six (w : World) (B0 Wb : Nat) (xv yv bv : Value) (es : List Entry) (hbook : BookAt w B0 Wb xv yv bv es (· < w.heap.size)) (hes : es.length ≤ 1300000000000) (hB0 : B0 ≤ w.heap.size) (k a b c : Int) (s t : ByteArray) (vl vm : Value) (xs ys : List DOp)
    (hr : Raw B0 w s t vl vm xs ys) (hi2 : Ints ys) (hk1 : 1 ≤ k) (hk6 : k ≤ 6) :
    Calls Tryz.prog 30 #[.pointer (some ⟨Wb, 0, none⟩), .agg #[.int .i64 k, .int .i64 a, .int .i64 b, .int .i64 c, .string s, .string t, vl, vm]] w (After B0 Wb xv yv es.length w) := by
  have h1 := hr.hs
  have h2 := hr.ht
  by_cases hk3 : k ≤ 3
  · exact wdeltas_any w B0 Wb xv yv bv es hbook hes hB0 k a b c s t vl vm xs ys hr hk1 hk3
  rcases (show k = 4 ∨ k = 5 ∨ k = 6 by omega) with rfl | rfl | rfl
  · refine (wdeltas_comp w B0 Wb xv yv bv es hbook hes hB0 a b c s t vl vm xs ys hr.hx hr.hy hr.hl hr.hm hr.ints hi2).mono ?_
    rintro e w' ⟨he, ⟨bv', es', hl, hb⟩, hB⟩
    exact ⟨he, ⟨bv', es', by omega, hb⟩, hB⟩
  · refine (wdeltas_enc w B0 B0 Wb xv yv bv es hbook hB0 (Nat.le_refl _) hB0 a b c s t vl vm xs ys hr.hx hr.hy hr.hl hr.hm hr.ints).mono ?_
    rintro e w' ⟨he, hb, hB⟩
    exact ⟨he, ⟨bv, es, by omega, hb⟩, hB⟩
  · refine (wdeltas_dec w B0 Wb xv yv bv es hbook hes hB0 a b c s t vl vm xs ys hr.hs hr.hx hr.hy hr.hl hr.hm).mono ?_
    rintro e w' ⟨he, ⟨bv', es', hl, hb⟩, hB⟩
    exact ⟨he, ⟨bv', es', by omega, hb⟩, hB⟩

set_option maxHeartbeats 4000000 in
theorem step_codes (w : World) (B0 Wb : Nat) (xv yv bv : Value) (es : List Entry) (hbook : BookAt w B0 Wb xv yv bv es (· < w.heap.size)) (hes : es.length ≤ 1300000000000) (hB0 : B0 ≤ w.heap.size) (k a b c : Int) (s t : ByteArray) (vl vm : Value) (xs ys : List DOp)
    (hr : Raw B0 w s t vl vm xs ys) (hi2 : Ints ys) (hk1 : 1 ≤ k) (hk6 : k ≤ 6) :
    Calls Tryz.prog 17 #[.pointer (some ⟨Wb, 0, none⟩), .agg #[.int .i64 k, .int .i64 a, .int .i64 b, .int .i64 c, .string s, .string t, vl, vm]] w (After B0 Wb xv yv es.length w) := by
  have HBK : Hid (BookAt w B0 Wb xv yv bv es (· < w.heap.size)) := hbook
  have HR : Hid (Raw B0 w s t vl vm xs ys) := hr
  obtain ⟨lo, lc, hvl⟩ := hr.hl.slice
  obtain ⟨mo, mc, hvm⟩ := hr.hm.slice
  rw [hvl, hvm] at HR ⊢
  clear hbook hr hvl hvm
  have HI : Hid (Ints ys) := hi2
  clear hi2
  have b1 : Below B0 w (w.alloc (.cells #[.int .i64 k, .int .i64 a, .int .i64 b, .int .i64 c, .string s, .string t, .slice lo xs.length lc, .slice mo ys.length mc] 61)) := (Below.refl _ _).alloc hB0 _
  have HC : Hid (Calls Tryz.prog 30 #[.pointer (some ⟨Wb, 0, none⟩), .agg #[.int .i64 k, .int .i64 a, .int .i64 b, .int .i64 c, .string s, .string t, .slice lo xs.length lc, .slice mo ys.length mc]] (w.alloc (.cells #[.int .i64 k, .int .i64 a, .int .i64 b, .int .i64 c, .string s, .string t, .slice lo xs.length lc, .slice mo ys.length mc] 61)) (After B0 Wb xv yv es.length (w.alloc (.cells #[.int .i64 k, .int .i64 a, .int .i64 b, .int .i64 c, .string s, .string t, .slice lo xs.length lc, .slice mo ys.length mc] 61)))) :=
    wdeltas_six _ B0 Wb xv yv bv es (HBK.out.kept (fun q hq => heap_alloc_old _ _ hq) (fun q hq => by have : q < w.heap.size := hq; show q < _; simp; omega)) hes (by simp; omega) k a b c s t _ _ xs ys (HR.out.kept b1) HI.out hk1 hk6
  go_enter Tryz.func17, Tryz.ntmps17
  go_wp2_with fail
  refine HC.out.mono ?_
  rintro e w1 ⟨rfl, hbk, hB⟩
  have R : Below B0 w w1 := b1.trans hB
  clear hB b1 HC
  go_wp2
  go_ret
  exact ⟨rfl, hbk, R⟩

/-- What a step leaves whose list lies higher up. -/
def AfterE (B0 B1 Wb : Nat) (xv yv : Value) (n : Nat) (w : World) (e : Ending) (w' : World) : Prop :=
  e = .returned (.bool true) ∧ (∃ bv' es', es'.length ≤ n + 1 ∧ BookAt w' B0 Wb xv yv bv' es' (· < w'.heap.size)) ∧ Below B1 w w'

set_option maxHeartbeats 4000000 in
theorem step_enc (w : World) (B0 B1 Wb : Nat) (xv yv bv : Value) (es : List Entry) (hbook : BookAt w B0 Wb xv yv bv es (· < w.heap.size)) (hes : es.length ≤ 1300000000000) (hB0 : B0 ≤ w.heap.size) (hB01 : B0 ≤ B1) (hB1 : B1 ≤ w.heap.size) (a b c : Int) (s t : ByteArray) (vl vm : Value) (xs ys : List DOp)
    (hr : Raw B1 w s t vl vm xs ys) (hi2 : Ints ys)  :
    Calls Tryz.prog 17 #[.pointer (some ⟨Wb, 0, none⟩), .agg #[.int .i64 5, .int .i64 a, .int .i64 b, .int .i64 c, .string s, .string t, vl, vm]] w (AfterE B0 B1 Wb xv yv es.length w) := by
  have HBK : Hid (BookAt w B0 Wb xv yv bv es (· < w.heap.size)) := hbook
  have HR : Hid (Raw B1 w s t vl vm xs ys) := hr
  obtain ⟨lo, lc, hvl⟩ := hr.hl.slice
  obtain ⟨mo, mc, hvm⟩ := hr.hm.slice
  rw [hvl, hvm] at HR ⊢
  clear hbook hr hvl hvm
  have HI : Hid (Ints ys) := hi2
  clear hi2
  have b1 : Below B1 w (w.alloc (.cells #[.int .i64 5, .int .i64 a, .int .i64 b, .int .i64 c, .string s, .string t, .slice lo xs.length lc, .slice mo ys.length mc] 61)) := (Below.refl _ _).alloc hB1 _
  have HC : Hid (Calls Tryz.prog 30 #[.pointer (some ⟨Wb, 0, none⟩), .agg #[.int .i64 5, .int .i64 a, .int .i64 b, .int .i64 c, .string s, .string t, .slice lo xs.length lc, .slice mo ys.length mc]] (w.alloc (.cells #[.int .i64 5, .int .i64 a, .int .i64 b, .int .i64 c, .string s, .string t, .slice lo xs.length lc, .slice mo ys.length mc] 61)) (AfterE B0 B1 Wb xv yv es.length (w.alloc (.cells #[.int .i64 5, .int .i64 a, .int .i64 b, .int .i64 c, .string s, .string t, .slice lo xs.length lc, .slice mo ys.length mc] 61)))) :=
    (wdeltas_enc _ B0 B1 Wb xv yv bv es (HBK.out.kept (fun q hq => heap_alloc_old _ _ hq) (fun q hq => by have : q < w.heap.size := hq; show q < _; simp; omega)) (by simp; omega) hB01 (by simp; omega) a b c s t _ _ xs ys HR.out.hx HR.out.hy (HR.out.hl.kept b1) (HR.out.hm.kept b1) HR.out.ints).mono fun e w' h => ⟨h.1, ⟨bv, es, by omega, h.2.1⟩, h.2.2⟩
  go_enter Tryz.func17, Tryz.ntmps17
  go_wp2_with fail
  refine HC.out.mono ?_
  rintro e w1 ⟨rfl, hbk, hB⟩
  have R : Below B1 w w1 := b1.trans hB
  clear hB b1 HC
  go_wp2
  go_ret
  exact ⟨rfl, hbk, R⟩
end Go.Proofs.YtabpiaaknjcnkaaGreat

/-
  A whole script, of the kinds up to 6.
-/
namespace Go.Proofs.YtabpiaaknjcnkaaGreat
open Go.RowKit
set_option linter.unusedVariables false
set_option linter.unusedSimpArgs false
set_option maxRecDepth 100000

def thereOps : List DOp := [⟨0, 6, ⟨#[]⟩⟩, ⟨0, 0, ⟨#[116, 104, 101, 114, 101]⟩⟩]
theorem ints_nil : Ints [] := ⟨by simp, by simp, by simp⟩
theorem raw_there (w : World) (T : TypeId) (n : Nat × Nat := (0, 0)) : Raw (w.heap.size + 1) (w.alloc (.cells #[.int .i64 0, .int .i64 6, .string ⟨#[]⟩, .int .i64 0, .int .i64 0, .string ⟨#[116, 104, 101, 114, 101]⟩] T n)) ⟨#[]⟩ ⟨#[]⟩ (.slice (some ⟨w.heap.size, 0, none⟩) 2 2) (.slice none 0 0) thereOps [] := by
  refine ⟨by decide, by decide, by simp [thereOps], by simp, .inr ⟨w.heap.size, 0, 2, rfl, by omega, fun i o ho => ?_⟩, .inl ⟨rfl, none, 0, rfl⟩, by simp [thereOps], fun o ho => ?_⟩
  · match i, ho with
    | 0, ho =>
      simp [thereOps] at ho
      subst ho
      refine ⟨?_, ?_, ?_⟩ <;> (rw [Lib.cell_of_heap (heap_alloc_new _ _)]; rfl)
    | 1, ho =>
      simp [thereOps] at ho
      subst ho
      refine ⟨?_, ?_, ?_⟩ <;> (rw [Lib.cell_of_heap (heap_alloc_new _ _)]; rfl)
    | n + 2, ho => simp [thereOps] at ho
  · simp [thereOps] at ho
    rcases ho with rfl | rfl <;> decide

set_option maxHeartbeats 8000000 in
theorem plays_codes (w : World) (ao : Option Addr) (cap : Nat) (L : List SOp) (hL : L.length ≤ 1256600000000) (hsc : Script w ao L) (hys : ∀ o ∈ L, Ints o.ys) :
    Calls Tryz.prog 9 #[.slice ao L.length cap, .int .i64 6] w fun e w' => e = .returned (.bool true) ∧ Below w.heap.size w w' := by
  have HS : Hid (Script w ao L) := hsc
  have HY : Hid (∀ o ∈ L, Ints o.ys) := hys
  clear hsc hys
  have b0 : Below w.heap.size w (w.alloc (.cells #[.slice none 0 0, .slice none 0 0, .slice none 0 0] 57)) := (Below.refl _ _).alloc (Nat.le_refl _) _
  have HF : Hid (Calls Tryz.prog 17 #[.pointer (some ⟨w.heap.size, 0, none⟩), .agg #[.int .i64 1, .int .i64 0, .int .i64 0, .int .i64 0, .string ⟨#[104, 101, 108, 108, 111, 32, 119, 111, 114, 108, 100]⟩, .string ⟨#[104, 101, 108, 108, 111, 32, 119, 111, 114, 116, 104, 121]⟩, .slice none 0 0, .slice none 0 0]] (w.alloc (.cells #[.slice none 0 0, .slice none 0 0, .slice none 0 0] 57)) (After w.heap.size w.heap.size (.slice none 0 0) (.slice none 0 0) 0 (w.alloc (.cells #[.slice none 0 0, .slice none 0 0, .slice none 0 0] 57)))) :=
    step_deltas _ w.heap.size w.heap.size _ _ _ [] (book_new w) (by simp) (by simp) 1 0 0 0 _ _ _ _ [] [] (raw_hello _ _) (by omega) (by omega)
  go_enter Tryz.func9, Tryz.ntmps9
  go_wp2_with fail
  refine HF.out.mono ?_
  rintro e w1 ⟨rfl, ⟨bv1, es1, hl1, bk1⟩, hb1⟩
  have c1 : Below w.heap.size w w1 := b0.trans hb1
  clear HF b0 hb1
  have hz1 := c1.size
  have b1' : Below w.heap.size w (w1.alloc (.cells #[.int .i64 0, .int .i64 6, .string ⟨#[]⟩, .int .i64 0, .int .i64 0, .string ⟨#[116, 104, 101, 114, 101]⟩] 63)) := c1.alloc hz1 _
  have HE : Hid (Calls Tryz.prog 17 #[.pointer (some ⟨w.heap.size, 0, none⟩), .agg #[.int .i64 5, .int .i64 0, .int .i64 0, .int .i64 0, .string ⟨#[]⟩, .string ⟨#[]⟩, .slice (some ⟨w1.heap.size, 0, none⟩) 2 2, .slice none 0 0]] (w1.alloc (.cells #[.int .i64 0, .int .i64 6, .string ⟨#[]⟩, .int .i64 0, .int .i64 0, .string ⟨#[116, 104, 101, 114, 101]⟩] 63)) (AfterE w.heap.size (w1.heap.size + 1) w.heap.size (.slice none 0 0) (.slice none 0 0) es1.length (w1.alloc (.cells #[.int .i64 0, .int .i64 6, .string ⟨#[]⟩, .int .i64 0, .int .i64 0, .string ⟨#[116, 104, 101, 114, 101]⟩] 63)))) :=
    step_enc _ w.heap.size (w1.heap.size + 1) w.heap.size _ _ bv1 es1 (bk1.kept (fun q hq => heap_alloc_old _ _ hq) (fun q hq => by have : q < w1.heap.size := hq; show q < _; simp; omega)) (by omega) (by simp; omega) (by omega) (by simp) 0 0 0 _ _ _ _ thereOps [] (raw_there _ _ _) ints_nil
  clear bk1
  go_wp2_with fail
  refine HE.out.mono ?_
  rintro e w2 ⟨rfl, ⟨bv2, es2, hl2, bk2⟩, hb2⟩
  have c2 : Below w.heap.size w w2 := b1'.trans (hb2.mono (by omega))
  clear HE b1' hb2 c1 hz1
  go_wp2
  go_loopw [6, 9] (fun ok c wr => ∃ (i : Nat) (bv : Value) (es : List Entry), i ≤ L.length ∧ ok = .bool true ∧ c = .int .i64 i ∧ es.length ≤ i + 2 ∧ Hid (BookAt wr w.heap.size w.heap.size (.slice none 0 0) (.slice none 0 0) bv es (· < wr.heap.size)) ∧ Below w.heap.size w wr) (fun _ c _ => L.length + 1 - (intOf c).toNat)
  case atStart => exact ⟨0, bv2, es2, by omega, rfl, rfl, by omega, bk2, c2⟩
  case round =>
    obtain ⟨i, bv, es, hi, rfl, rfl, hes, HBK, hbw⟩ := hrel
    have hsz := hbw.size
    have hWb : w.heap.size < wr.heap.size := HBK.out.wbB
    by_cases hlt : i < L.length
    · obtain ⟨o, ho⟩ : ∃ o, L[i]? = some o := ⟨L[i], by simp [hlt]⟩
      obtain ⟨b, off, rfl, hb, hsc⟩ : ∃ b off, ao = some ⟨b, off, none⟩ ∧ b < w.heap.size ∧ ScriptAt w b off L := by
        rcases HS.out with h | h
        · rw [h] at hlt; simp at hlt
        · exact h
      obtain ⟨d0, d1, d2, d3, d4, d5, d6, d7, hraw⟩ := hsc i o ho
      have HIY : Hid (Ints o.ys) := HY.out o (List.mem_of_getElem? ho)
      clear hsc
      obtain ⟨k, a, b', c, s, t, vl, vm, xs, ys⟩ := o
      simp only at d0 d1 d2 d3 d4 d5 d6 d7 hraw
      have k0 := (hbw.cell (p := ⟨b, off + i * 8, none⟩) hb).trans d0
      have k1 := (hbw.cell (p := ⟨b, off + i * 8 + 1, none⟩) hb).trans d1
      have k2 := (hbw.cell (p := ⟨b, off + i * 8 + 2, none⟩) hb).trans d2
      have k3 := (hbw.cell (p := ⟨b, off + i * 8 + 3, none⟩) hb).trans d3
      have k4 := (hbw.cell (p := ⟨b, off + i * 8 + 4, none⟩) hb).trans d4
      have k5 := (hbw.cell (p := ⟨b, off + i * 8 + 5, none⟩) hb).trans d5
      have k6 := (hbw.cell (p := ⟨b, off + i * 8 + 6, none⟩) hb).trans d6
      have k7 := (hbw.cell (p := ⟨b, off + i * 8 + 7, none⟩) hb).trans d7
      have HR : Hid (Raw w.heap.size wr s t vl vm xs ys) := hraw.kept hbw
      obtain ⟨lo, lc, hvl⟩ := hraw.hl.slice
      obtain ⟨mo, mc, hvm⟩ := hraw.hm.slice
      rw [hvl] at k6 HR
      rw [hvm] at k7 HR
      clear d0 d1 d2 d3 d4 d5 d6 d7 hraw ho hvl hvm
      by_cases hk : 6 < k
      · go_wp2
        go_roundw
        case rel => exact ⟨i + 1, bv, es, by omega, rfl, by go_num, by omega, HBK, hbw⟩
        case measure => simp [intOf]; omega
      · have HC : Hid (Calls Tryz.prog 17 #[.pointer (some ⟨w.heap.size, 0, none⟩), .agg #[.int .i64 k, .int .i64 a, .int .i64 b', .int .i64 c, .string s, .string t, .slice lo xs.length lc, .slice mo ys.length mc]] wr (After w.heap.size w.heap.size (.slice none 0 0) (.slice none 0 0) es.length wr)) := by
          by_cases hk1 : 1 ≤ k
          · exact step_codes _ _ _ _ _ bv es HBK.out (by omega) hsz k a b' c s t _ _ xs ys HR.out HIY.out hk1 (by omega)
          · exact step_none _ _ _ _ bv es HBK.out hsz k a b' c s t _ _ xs ys HR.out (by omega)
        have hk6 : k ≤ 6 := by omega
        go_wp2_with fail
        refine HC.out.mono ?_
        rintro e w2 ⟨rfl, ⟨bv2, es2, hl2, bk2⟩, hb2⟩
        have c2 : Below w.heap.size w w2 := hbw.trans hb2
        have hW2 : w.heap.size < w2.heap.size := bk2.wbB
        have HLK : Hid (Calls Tryz.prog 18 #[.pointer (some ⟨w.heap.size, 2, none⟩)] w2 fun e w' => e = .returned (.bool true) ∧ Below w2.heap.size w2 w') := looks_any w2 w.heap.size w.heap.size _ _ bv2 es2 _ bk2 (by omega) hW2
        have HB2 : Hid (BookAt w2 w.heap.size w.heap.size (.slice none 0 0) (.slice none 0 0) bv2 es2 (· < w2.heap.size)) := bk2
        clear bk2 hb2 HC
        go_wp2_with fail
        refine HLK.out.mono ?_
        rintro e w3 ⟨rfl, b3⟩
        have c3 : Below w.heap.size w w3 := c2.trans (b3.mono (by omega))
        have bk3 : Hid (BookAt w3 w.heap.size w.heap.size (.slice none 0 0) (.slice none 0 0) bv2 es2 (· < w3.heap.size)) := HB2.out.kept (fun q hq => b3.block q hq) (fun q hq => Nat.lt_of_lt_of_le hq b3.size)
        clear b3 HLK HB2 c2
        go_wp2
        go_roundw
        case rel => exact ⟨i + 1, bv2, es2, by omega, rfl, by go_num, by omega, bk3, c3⟩
        case measure => simp [intOf]; omega
    · have hc : wr.cell? ⟨w.heap.size, 0, none⟩ = some (.slice none 0 0) := by rw [Lib.cell_of_heap HBK.out.blk]; rfl
      go_wp2
      go_loopw [6, 11] (fun ok c wx => ok = .bool true ∧ c = .int .i64 0 ∧ wr = wx) (fun _ _ _ => 0)
      case atStart => exact ⟨rfl, rfl, rfl⟩
      case round =>
        obtain ⟨rfl, rfl, rfl⟩ := hrel
        go_wp2
        go_ret
        exact ⟨rfl, hbw⟩
end Go.Proofs.YtabpiaaknjcnkaaGreat
