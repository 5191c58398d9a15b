/-
  The step of New.
-/
import Derived.Test.YtabpiaaknjcnkaaGreatXVCYJZU
import Derived.Deep.AppendLies
import Derived.Deep.RegionLaw
namespace Go.Proofs.YtabpiaaknjcnkaaGreat
open Go.RowKit
set_option linter.unusedVariables false
set_option linter.unusedSimpArgs false
set_option maxRecDepth 100000

theorem Tryz.infoVP : (Tryz.prog.info? 29).map (fun i => (i.zero, i.size, i.bytes)) = some (some (.pointer none), 1, 8) := by kernel_rfl
theorem Tryz.infoYP : (Tryz.prog.info? 70).map (fun i => (i.zero, i.size, i.bytes)) = some (some (.pointer none), 1, 8) := by kernel_rfl
theorem yvault_new (w : World) : YAt (w.alloc (.cells #[.int .i64 0, .slice none 0 0, .int .i64 0, .slice none 0 0, .int .i64 0, .slice none 0 0, .int .i64 0, .slice none 0 0, .string ⟨#[]⟩] 69)) w.heap.size (fun _ => .slice none 0 0) noVault :=
  ⟨heap_alloc_new _ _, fun i _ => ⟨none, 0, rfl, Nat.le_refl _, fun j t ht => by simp [noVault] at ht⟩, fun i _ _ => rfl, fun i _ h => by cases h⟩

set_option maxHeartbeats 4000000 in
theorem step_new_full {w : World} {B0 Wb : Nat} {xv yv bv : Value} {es : List Entry} {xs : List XV} {ys : List YV} {κ : Nat → Col} (h : WorldAt w B0 Wb xv yv bv es xs ys κ) (hsame : xs.map (·.s) = ys.map (·.s)) (h4 : xs.length = 4) (a b c : Int) (s t : ByteArray) (lo mo : Option Addr) (ln lc mn mc : Nat) :
    Calls Tryz.prog 17 #[.pointer (some ⟨Wb, 0, none⟩), .agg #[.int .i64 7, .int .i64 a, .int .i64 b, .int .i64 c, .string s, .string t, .slice lo ln lc, .slice mo mn mc]] w (Went B0 Wb es.length w) := by
  have kX := h.cellX
  have hWb := h.lt
  obtain ⟨xo, xc, hxv⟩ : ∃ xo xc, xv = .slice xo 4 xc := by
    rcases h.xrow.2 with ⟨e, e0⟩ | ⟨g, cap, cur, e, _⟩
    · omega
    · rw [h4] at e; exact ⟨_, _, e⟩
  have HF : Hid (∀ w', Below w.heap.size w w' → Went B0 Wb es.length w (.returned (.bool true)) w') := fun w' hb => ⟨rfl, ⟨xv, yv, bv, es, xs, ys, κ, Nat.le_refl _, hsame, by omega, h.below hb⟩, hb.mono h.low0⟩
  rw [hxv] at kX
  clear h hsame h4 hxv
  go_enter Tryz.func17, Tryz.ntmps17
  go_wp2_with fail
  refine (cnew_any _).mono ?_
  rintro e w1 ⟨rfl, v1, b1⟩
  have B1 : Below w.heap.size w w1 := ((Below.refl w.heap.size w).alloc (Nat.le_refl _) _).trans (b1.mono (by simp))
  have kX1 := (B1.cell (p := ⟨Wb, 0, none⟩) hWb).trans kX
  have hWb1 := Nat.lt_of_lt_of_le hWb B1.size
  clear v1 b1 kX
  go_wp2
  go_ret
  exact HF.out _ B1

theorem row_slice1 {w : World} {b : Nat} {e : TypeId} {size n : Nat} {v : Value} {xs : List Value} (h : w.ownsRow b e size v n xs) : ∃ ao cap, v = .slice ao n cap := by
  rcases h.2 with ⟨h, h0⟩ | ⟨g', cap', cur, h, _⟩
  · exact ⟨none, 0, by rw [h, h0]⟩
  · exact ⟨_, _, h⟩
set_option maxHeartbeats 8000000 in
theorem step_new_room {w : World} {B0 Wb : Nat} {xv yv bv : Value} {es : List Entry} {xs : List XV} {ys : List YV} {κ : Nat → Col} (h : WorldAt w B0 Wb xv yv bv es xs ys κ) (hsame : xs.map (·.s) = ys.map (·.s)) (h4 : xs.length < 4) (a b c : Int) (s t : ByteArray) (lo mo : Option Addr) (ln lc mn mc : Nat) :
    Calls Tryz.prog 17 #[.pointer (some ⟨Wb, 0, none⟩), .agg #[.int .i64 7, .int .i64 a, .int .i64 b, .int .i64 c, .string s, .string t, .slice lo ln lc, .slice mo mn mc]] w (Went B0 Wb es.length w) := by
  obtain ⟨i1, hi1, hj0, hj1, hj2⟩ := info_parts Tryz.infoVP
  obtain ⟨i2, hi2, hk0, hk1, hk2⟩ := info_parts Tryz.infoYP
  have hl : ys.length = xs.length := by have := congrArg List.length hsame; simpa using this.symm
  have kX := h.cellX
  have kY := h.cellY
  have hWb := h.lt
  have hB0 := h.low0
  have hfx := h.frozen 0
  have hfy := h.frozen 1
  obtain ⟨xo, xc, hxv⟩ := row_slice1 h.xrow
  obtain ⟨yo, yc, hyv⟩ := row_slice1 h.yrow
  have HW : Hid (WorldAt w B0 Wb xv yv bv es xs ys κ) := h
  have HS : Hid (xs.map (·.s) = ys.map (·.s)) := hsame
  have HL : Hid (ys.length = xs.length) := hl
  rw [hxv] at kX
  rw [hyv, hl] at kY
  rw [hl] at hyv
  have HXV : Hid (xv = .slice xo xs.length xc) := hxv
  have HYV : Hid (yv = .slice yo xs.length yc) := hyv
  clear h hsame hl hxv hyv
  obtain ⟨N, hN⟩ : ∃ N, N = xs.length := ⟨_, rfl⟩
  rw [← hN] at kX kY h4 HXV HYV HL
  have HN : Hid (xs.length = N) := hN.symm
  have h4I : (N : Int) < 4 := by omega
  clear hN
  go_enter Tryz.func17, Tryz.ntmps17
  go_wp2_with fail
  refine (cnew_any _).mono ?_
  rintro e w1 ⟨rfl, v1, b1⟩
  have B1 : Below w.heap.size w w1 := ((Below.refl w.heap.size w).alloc (Nat.le_refl _) _).trans (b1.mono (by simp))
  rw [alloc_size1] at v1
  have HV1 : Hid (VaultAt w1 (w.heap.size + 1) (.slice none 0 0) (fun _ => .slice none 0 0) noVault) := v1
  have H1 : Hid (WorldAt w1 B0 Wb xv yv bv es xs ys (paint κ w.heap.size (3, xs.length))) := HW.out.fresh B1 (by simp) (by simp) (by simp) (fun i x hx => by have := (List.getElem?_eq_some_iff.1 hx).1; simp; omega) (fun i y hy => by simp)
  have kX1 := (B1.cell (p := ⟨Wb, 0, none⟩) hWb).trans kX
  have kY1 := (B1.cell (p := ⟨Wb, 1, none⟩) hWb).trans kY
  have hWb1 := Nat.lt_of_lt_of_le hWb B1.size
  have hs1 := B1.size
  have fx1 := (B1.frozen (p := ⟨Wb, 0, none⟩) hWb).trans hfx
  have fy1 := (B1.frozen (p := ⟨Wb, 1, none⟩) hWb).trans hfy
  have HB1 : Hid (Below w.heap.size w w1) := B1
  have HR1 : Hid ((w1.alloc (.cells #[.pointer (some ⟨w.heap.size + 1, 0, none⟩)] 29)).ownsRow B0 29 1 (.slice xo N xc) N (xs.map XV.ptr)) := by
    have hx := H1.out.xrow
    rw [HXV.out, HN.out] at hx
    exact row_block hx (fun g hg => heap_alloc_old _ _ (row_own_lt hx hg))
  clear v1 b1 kX kY hfx hfy B1
  go_wp2_with (first | (at_builtin; refine wpList_append_lies _ rfl _ _ 51 rfl B0 29 i1 (.pointer none) 1 8 Tryz.underlying51 hi1 hj0 hj1 hj2 rfl (by decide) (.slice xo N xc) N (xs.map XV.ptr) rfl HR1.out ⟨w1.heap.size, 0, none⟩ 1 1 [.pointer (some ⟨w.heap.size + 1, 0, none⟩)] rfl rfl ?c2 ?c3 (by decide) ?c4 ?c5 ?c6 (w1.heap.size + 1) alloc_size1 ?_))
  case c2 => exact World.news_of_block (cs := #[.pointer (some ⟨w.heap.size + 1, 0, none⟩)]) (heap_alloc_new _ _)
  case c3 => intro u hu; obtain rfl := List.mem_singleton.1 hu; rfl
  case c4 => unfold maxLen; omega
  case c5 => omega
  case c6 => rw [alloc_size1]; omega
  intro g2 cap2 w2 ho2 hg2 hat2 hlt2
  have O2 : Out (fun q => paint κ w.heap.size (3, xs.length) q = (1, 0)) w1 w2 := (Out.of_below ((Below.refl w1.heap.size w1).alloc (Nat.le_refl _) _)).trans (Out.of_grown (F := fun q => paint κ w.heap.size (3, xs.length) q = (1, 0)) hg2 (fun g e => H1.out.xcol g (by rw [HXV.out]; exact e))) (fun q hq => .inl hq)
  have hrow2 : w2.ownsRow B0 29 1 (.slice (some ⟨g2, 0, none⟩) (N + 1) cap2) (xs.length + 1) (xs.map XV.ptr ++ [(⟨w.heap.size + 1, .slice none 0 0, fun _ => .slice none 0 0, noVault⟩ : XV).ptr]) := by rw [HN.out]; exact ho2
  have hat2' : (Value.slice (some ⟨g2, 0, none⟩) (N + 1) cap2).ownBlock = xv.ownBlock ∨ ∃ g, (Value.slice (some ⟨g2, 0, none⟩) (N + 1) cap2).ownBlock = some g ∧ w1.heap.size ≤ g := by
    rcases hat2 with e | e
    · exact .inl (by rw [HXV.out, e]; rfl)
    · exact .inr ⟨g2, rfl, by omega⟩
  have hfoot : ∀ q, foot (w.heap.size + 1) (.slice none 0 0) (fun _ => .slice none 0 0) q → paint κ w.heap.size (3, xs.length) q = (3, xs.length) := by
    rintro q (rfl | hq | ⟨i, hi, hq⟩)
    · exact paint_new (by omega)
    · cases hq
    · cases hq
  have H3 : Hid (Below B0 w1 (w2.setCell ⟨Wb, 0, none⟩ (.slice (some ⟨g2, 0, none⟩) (N + 1) cap2)) ∧ WorldAt (w2.setCell ⟨Wb, 0, none⟩ (.slice (some ⟨g2, 0, none⟩) (N + 1) cap2)) B0 Wb (.slice (some ⟨g2, 0, none⟩) (N + 1) cap2) yv bv es (xs ++ [⟨w.heap.size + 1, .slice none 0 0, fun _ => .slice none 0 0, noVault⟩]) ys (paint (paint κ w.heap.size (3, xs.length)) w1.heap.size (1, 0))) := H1.out.turnX (x := ⟨w.heap.size + 1, .slice none 0 0, fun _ => .slice none 0 0, noVault⟩) O2 hrow2 hat2' HV1.out hfoot noVault_ok
  have e2 : w2.heap[Wb]? = w1.heap[Wb]? := O2.block Wb hWb1 (by rw [H1.out.book.wbB.2]; decide)
  have kX2 := (World.cell?_of_block (a := ⟨Wb, 0, none⟩) e2).trans kX1
  have kY2 := (World.cell?_of_block (a := ⟨Wb, 1, none⟩) e2).trans kY1
  have fx2 := (World.frozen?_of_block (a := ⟨Wb, 0, none⟩) e2).trans fx1
  have fy2 := (World.frozen?_of_block (a := ⟨Wb, 1, none⟩) e2).trans fy1
  have hWb2 : Wb < w2.heap.size := Nat.lt_of_lt_of_le hWb1 O2.size
  have kY3 : (w2.setCell ⟨Wb, 0, none⟩ (.slice (some ⟨g2, 0, none⟩) (N + 1) cap2)).cell? ⟨Wb, 1, none⟩ = some (.slice yo N yc) := (World.cell?_setCell_other _ _ _ _ (by simp)).trans kY2
  have fy3 : (w2.setCell ⟨Wb, 0, none⟩ (.slice (some ⟨g2, 0, none⟩) (N + 1) cap2)).frozen? ⟨Wb, 1, none⟩ = false := H3.out.2.frozen 1
  have hs2 := O2.size
  clear O2 hrow2 hat2 hat2' hfoot ho2 hg2 e2 kX1 kY1 fx1 fy1 HR1 HV1
  have hz3 : (w2.setCell ⟨Wb, 0, none⟩ (.slice (some ⟨g2, 0, none⟩) (N + 1) cap2)).heap.size = w2.heap.size := by simp
  have H4 : Hid (WorldAt ((w2.setCell ⟨Wb, 0, none⟩ (.slice (some ⟨g2, 0, none⟩) (N + 1) cap2)).alloc (.cells #[.int .i64 0, .slice none 0 0, .int .i64 0, .slice none 0 0, .int .i64 0, .slice none 0 0, .int .i64 0, .slice none 0 0, .string ⟨#[]⟩] 69)) B0 Wb (.slice (some ⟨g2, 0, none⟩) (N + 1) cap2) yv bv es (xs ++ [⟨w.heap.size + 1, .slice none 0 0, fun _ => .slice none 0 0, noVault⟩]) ys (paint (paint (paint κ w.heap.size (3, xs.length)) w1.heap.size (1, 0)) (w2.setCell ⟨Wb, 0, none⟩ (.slice (some ⟨g2, 0, none⟩) (N + 1) cap2)).heap.size (4, ys.length))) := H3.out.2.fresh ((Below.refl _ _).alloc (Nat.le_refl _) _) (by simp) (by simp) (by simp) (fun i x hx => by simp) (fun i y hy => by have := (List.getElem?_eq_some_iff.1 hy).1; simp; omega)
  have HV4 : Hid (YAt ((w2.setCell ⟨Wb, 0, none⟩ (.slice (some ⟨g2, 0, none⟩) (N + 1) cap2)).alloc (.cells #[.int .i64 0, .slice none 0 0, .int .i64 0, .slice none 0 0, .int .i64 0, .slice none 0 0, .int .i64 0, .slice none 0 0, .string ⟨#[]⟩] 69)) w2.heap.size (fun _ => .slice none 0 0) noVault) := by
    have := yvault_new (w2.setCell ⟨Wb, 0, none⟩ (.slice (some ⟨g2, 0, none⟩) (N + 1) cap2))
    rw [hz3] at this; exact this
  have HR4 : Hid ((((w2.setCell ⟨Wb, 0, none⟩ (.slice (some ⟨g2, 0, none⟩) (N + 1) cap2)).alloc (.cells #[.int .i64 0, .slice none 0 0, .int .i64 0, .slice none 0 0, .int .i64 0, .slice none 0 0, .int .i64 0, .slice none 0 0, .string ⟨#[]⟩] 69)).alloc (.cells #[.pointer (some ⟨w2.heap.size, 0, none⟩)] 70)).ownsRow B0 70 1 (.slice yo N yc) N (ys.map YV.ptr)) := by
    have hx := H4.out.yrow
    rw [HYV.out, HL.out] at hx
    exact row_block hx (fun g hg => heap_alloc_old _ _ (row_own_lt hx hg))
  have hA4 : (((w2.setCell ⟨Wb, 0, none⟩ (.slice (some ⟨g2, 0, none⟩) (N + 1) cap2)).alloc (.cells #[.int .i64 0, .slice none 0 0, .int .i64 0, .slice none 0 0, .int .i64 0, .slice none 0 0, .int .i64 0, .slice none 0 0, .string ⟨#[]⟩] 69)).alloc (.cells #[.pointer (some ⟨w2.heap.size, 0, none⟩)] 70)).heap.size = w2.heap.size + 1 + 1 := by simp
  have hY4 : ((w2.setCell ⟨Wb, 0, none⟩ (.slice (some ⟨g2, 0, none⟩) (N + 1) cap2)).alloc (.cells #[.int .i64 0, .slice none 0 0, .int .i64 0, .slice none 0 0, .int .i64 0, .slice none 0 0, .int .i64 0, .slice none 0 0, .string ⟨#[]⟩] 69)).heap.size = w2.heap.size + 1 := by simp
  have H3B : Hid (Below B0 w1 (w2.setCell ⟨Wb, 0, none⟩ (.slice (some ⟨g2, 0, none⟩) (N + 1) cap2))) := H3.out.1
  have e4 : ((w2.setCell ⟨Wb, 0, none⟩ (.slice (some ⟨g2, 0, none⟩) (N + 1) cap2)).alloc (.cells #[.int .i64 0, .slice none 0 0, .int .i64 0, .slice none 0 0, .int .i64 0, .slice none 0 0, .int .i64 0, .slice none 0 0, .string ⟨#[]⟩] 69)).heap[Wb]? = (w2.setCell ⟨Wb, 0, none⟩ (.slice (some ⟨g2, 0, none⟩) (N + 1) cap2)).heap[Wb]? := heap_alloc_old _ _ (by rw [hz3]; exact hWb2)
  go_wp2_with (first | (at_builtin; refine wpList_append_lies _ rfl _ _ 52 rfl B0 70 i2 (.pointer none) 1 8 Tryz.underlying52 hi2 hk0 hk1 hk2 rfl (by decide) (.slice yo N yc) N (ys.map YV.ptr) rfl HR4.out ⟨w2.heap.size + 1, 0, none⟩ 1 1 [.pointer (some ⟨w2.heap.size, 0, none⟩)] rfl rfl ?c2 ?c3 (by decide) ?c4 ?c5 ?c6 (w2.heap.size + 1 + 1) hA4 ?_))
  case c2 => exact World.news_of_block (cs := #[.pointer (some ⟨w2.heap.size, 0, none⟩)]) (alloc_at hY4)
  case c3 => intro u hu; obtain rfl := List.mem_singleton.1 hu; rfl
  case c4 => unfold maxLen; omega
  case c5 => omega
  case c6 => rw [hA4]; omega
  intro g5 cap5 w5 ho5 hg5 hat5 hlt5
  have O5 : Out (fun q => (paint (paint (paint κ w.heap.size (3, xs.length)) w1.heap.size (1, 0)) (w2.setCell ⟨Wb, 0, none⟩ (.slice (some ⟨g2, 0, none⟩) (N + 1) cap2)).heap.size (4, ys.length)) q = (2, 0)) ((w2.setCell ⟨Wb, 0, none⟩ (.slice (some ⟨g2, 0, none⟩) (N + 1) cap2)).alloc (.cells #[.int .i64 0, .slice none 0 0, .int .i64 0, .slice none 0 0, .int .i64 0, .slice none 0 0, .int .i64 0, .slice none 0 0, .string ⟨#[]⟩] 69)) w5 := (Out.of_below ((Below.refl _ _).alloc (Nat.le_refl _) _)).trans (Out.of_grown (F := fun q => (paint (paint (paint κ w.heap.size (3, xs.length)) w1.heap.size (1, 0)) (w2.setCell ⟨Wb, 0, none⟩ (.slice (some ⟨g2, 0, none⟩) (N + 1) cap2)).heap.size (4, ys.length)) q = (2, 0)) hg5 (fun g e => H4.out.ycol g (by rw [HYV.out]; exact e))) (fun q hq => .inl hq)
  have hrow5 : w5.ownsRow B0 70 1 (.slice (some ⟨g5, 0, none⟩) (N + 1) cap5) (ys.length + 1) (ys.map YV.ptr ++ [(⟨w2.heap.size, fun _ => .slice none 0 0, noVault⟩ : YV).ptr]) := by rw [HL.out]; exact ho5
  have hat5' : (Value.slice (some ⟨g5, 0, none⟩) (N + 1) cap5).ownBlock = yv.ownBlock ∨ ∃ g, (Value.slice (some ⟨g5, 0, none⟩) (N + 1) cap5).ownBlock = some g ∧ ((w2.setCell ⟨Wb, 0, none⟩ (.slice (some ⟨g2, 0, none⟩) (N + 1) cap2)).alloc (.cells #[.int .i64 0, .slice none 0 0, .int .i64 0, .slice none 0 0, .int .i64 0, .slice none 0 0, .int .i64 0, .slice none 0 0, .string ⟨#[]⟩] 69)).heap.size ≤ g := by
    rcases hat5 with e | e
    · exact .inl (by rw [HYV.out, e]; rfl)
    · exact .inr ⟨g5, rfl, by rw [hY4]; omega⟩
  have hfoot5 : ∀ q, yfoot w2.heap.size (fun _ => .slice none 0 0) q → (paint (paint (paint κ w.heap.size (3, xs.length)) w1.heap.size (1, 0)) (w2.setCell ⟨Wb, 0, none⟩ (.slice (some ⟨g2, 0, none⟩) (N + 1) cap2)).heap.size (4, ys.length)) q = (4, ys.length) := by
    rintro q (rfl | ⟨i, hi, hq⟩)
    · exact paint_new (by rw [hz3]; exact Nat.le_refl _)
    · cases hq
  have H6 : Hid (Below B0 ((w2.setCell ⟨Wb, 0, none⟩ (.slice (some ⟨g2, 0, none⟩) (N + 1) cap2)).alloc (.cells #[.int .i64 0, .slice none 0 0, .int .i64 0, .slice none 0 0, .int .i64 0, .slice none 0 0, .int .i64 0, .slice none 0 0, .string ⟨#[]⟩] 69)) (w5.setCell ⟨Wb, 1, none⟩ (.slice (some ⟨g5, 0, none⟩) (N + 1) cap5)) ∧ WorldAt (w5.setCell ⟨Wb, 1, none⟩ (.slice (some ⟨g5, 0, none⟩) (N + 1) cap5)) B0 Wb (.slice (some ⟨g2, 0, none⟩) (N + 1) cap2) (.slice (some ⟨g5, 0, none⟩) (N + 1) cap5) bv es (xs ++ [⟨w.heap.size + 1, .slice none 0 0, fun _ => .slice none 0 0, noVault⟩]) (ys ++ [(⟨w2.heap.size, fun _ => .slice none 0 0, noVault⟩ : YV)]) (paint (paint (paint (paint κ w.heap.size (3, xs.length)) w1.heap.size (1, 0)) (w2.setCell ⟨Wb, 0, none⟩ (.slice (some ⟨g2, 0, none⟩) (N + 1) cap2)).heap.size (4, ys.length)) ((w2.setCell ⟨Wb, 0, none⟩ (.slice (some ⟨g2, 0, none⟩) (N + 1) cap2)).alloc (.cells #[.int .i64 0, .slice none 0 0, .int .i64 0, .slice none 0 0, .int .i64 0, .slice none 0 0, .int .i64 0, .slice none 0 0, .string ⟨#[]⟩] 69)).heap.size (2, 0))) := H4.out.turnY (y := (⟨w2.heap.size, fun _ => .slice none 0 0, noVault⟩ : YV)) O5 hrow5 hat5' HV4.out hfoot5 noVault_ok
  have e5 : w5.heap[Wb]? = (w2.setCell ⟨Wb, 0, none⟩ (.slice (some ⟨g2, 0, none⟩) (N + 1) cap2)).heap[Wb]? := (O5.block Wb (by rw [hY4]; omega) (by rw [H4.out.book.wbB.2]; decide)).trans e4
  have kY5 := (World.cell?_of_block (a := ⟨Wb, 1, none⟩) e5).trans kY3
  have fy5 := (World.frozen?_of_block (a := ⟨Wb, 1, none⟩) e5).trans fy3
  have hWb5 : Wb < w5.heap.size := Nat.lt_of_lt_of_le (by rw [hY4]; omega) O5.size
  have HFIN : Hid (Went B0 Wb es.length w (.returned (.bool true)) (w5.setCell ⟨Wb, 1, none⟩ (.slice (some ⟨g5, 0, none⟩) (N + 1) cap5))) := by
    refine ⟨rfl, ⟨_, _, bv, es, _, _, _, Nat.le_refl _, ?_, ?_, H6.out.2⟩, ?_⟩
    · rw [List.map_append, List.map_append, HS.out]; rfl
    · rw [List.length_append, HN.out]; exact h4
    · exact ((HB1.out.mono hB0).trans H3B.out).trans ((((Below.refl _ _).alloc (by rw [hz3]; omega) _) : Below B0 (w2.setCell ⟨Wb, 0, none⟩ (.slice (some ⟨g2, 0, none⟩) (N + 1) cap2)) ((w2.setCell ⟨Wb, 0, none⟩ (.slice (some ⟨g2, 0, none⟩) (N + 1) cap2)).alloc (.cells #[.int .i64 0, .slice none 0 0, .int .i64 0, .slice none 0 0, .int .i64 0, .slice none 0 0, .int .i64 0, .slice none 0 0, .string ⟨#[]⟩] 69))).trans H6.out.1)
  clear O5 hrow5 hat5 hat5' hfoot5 ho5 hg5 e5 e4 kY3 fy3 HR4 HV4 H6 H4 H3 H3B hz3 hA4 hY4 H1 HB1
  go_wp2
  go_ret
  exact HFIN.out
theorem step_new {w : World} {B0 Wb : Nat} {xv yv bv : Value} {es : List Entry} {xs : List XV} {ys : List YV} {κ : Nat → Col} (h : WorldAt w B0 Wb xv yv bv es xs ys κ) (hsame : xs.map (·.s) = ys.map (·.s)) (h4 : xs.length ≤ 4) (a b c : Int) (s t : ByteArray) (lo mo : Option Addr) (ln lc mn mc : Nat) :
    Calls Tryz.prog 17 #[.pointer (some ⟨Wb, 0, none⟩), .agg #[.int .i64 7, .int .i64 a, .int .i64 b, .int .i64 c, .string s, .string t, .slice lo ln lc, .slice mo mn mc]] w (Went B0 Wb es.length w) := by
  by_cases e : xs.length = 4
  · exact step_new_full h hsame e a b c s t lo mo ln lc mn mc
  · exact step_new_room h hsame (by omega) a b c s t lo mo ln lc mn mc
end Go.Proofs.YtabpiaaknjcnkaaGreat
