/-
  The walks over package record: the kinds are read.
-/
import Derived.Test.YtabpiaaknjcnkaaGreatXYNaVD
namespace Go.Proofs.YtabpiaaknjcnkaaGreat
open Go.RowKit
set_option linter.unusedVariables false
set_option linter.unusedSimpArgs false
set_option maxRecDepth 100000

theorem head_cells (w : World) (L : UInt8) (c : Nat) : (w.alloc (.cells #[.int .u8 L.toNat, .int .i64 c] 145)).cell? ⟨w.heap.size, 0, none⟩ = some (.int .u8 L.toNat) ∧ (w.alloc (.cells #[.int .u8 L.toNat, .int .i64 c] 145)).cell? ⟨w.heap.size, 1, none⟩ = some (.int .i64 c) := by simp
theorem Moved.frames {rb base : Nat} {w w' : World} (h : Moved rb w w') (h1 : base ≤ rb) (h2 : base ≤ w.heap.size) : Below base w w' ∧ Clear rb w w' := ⟨h.below h1 h2, .of_moved h⟩
theorem Clear.cell {rb q j : Nat} {w w' : World} {cs : Array Value} {T : TypeId} {fr : Nat × Nat} {v : Value} (h : Clear rb w w') (hb : w.heap[q]? = some (.cells cs T fr)) (hT : T ≠ 63) (hq : q ≠ rb) (hv : cs[j]? = some v) : w'.cell? ⟨q, j, none⟩ = some v := by
  rw [Lib.cell_of_heap (h q cs T fr hb hT hq)]; exact hv

set_option maxHeartbeats 2000000 in
theorem readfull_ok (rb : Nat) (s : ByteArray) (at_ base : Nat) (L : UInt8) (c : Nat) (w : World) (h : RAt w rb s at_) (hb : base ≤ rb) (R : ByteArray → World → Prop)
    (hc : ∀ W, RAt W rb s at_ → Calls Tryz.prog 155 #[.pointer (some ⟨rb, 0, none⟩)] W fun e w' => ∃ t : ByteArray, e = .returned (.string t) ∧ R t w' ∧ Below base W w' ∧ Clear rb W w') :
    Calls Tryz.prog 149 #[.pointer (some ⟨rb, 0, none⟩), .agg #[.int .u8 L.toNat, .int .i64 c]] w fun e w' => ∃ t : ByteArray, e = .returned (.iface 155 (.agg #[.int .u8 L.toNat, .int .i64 c, (.string t)])) ∧ R t w' ∧ Below base w w' ∧ Clear rb w w' := by
  have hrb : rb < w.heap.size := lt_of_block h
  have hne : w.heap.size ≠ rb := by omega
  have hbs : base ≤ w.heap.size := by omega
  obtain ⟨k0, k1⟩ := head_cells w L c
  have hbk : (w.alloc (.cells #[.int .u8 L.toNat, .int .i64 c] 145)).heap[w.heap.size]? = some (.cells #[.int .u8 L.toNat, .int .i64 c] 145 (0, 0)) := heap_alloc_new _ _
  have HB : Hid (Below base w ((w.alloc (.cells #[.int .u8 L.toNat, .int .i64 c] 145)).drewN 1) ∧ Clear rb w ((w.alloc (.cells #[.int .u8 L.toNat, .int .i64 c] 145)).drewN 1)) := ((Moved.alloc rb w _).trans (Moved.of_below (below_drewN0 _ _ 1))).frames hb hbs
  have HR : Hid (RAt ((w.alloc (.cells #[.int .u8 L.toNat, .int .i64 c] 145)).drewN 1) rb s at_) := (h.kept ((Below.refl _ _).alloc (Nat.le_refl _) (.cells #[.int .u8 L.toNat, .int .i64 c] 145))).drewN 1
  have HC : Hid (∀ W, RAt W rb s at_ → Calls Tryz.prog 155 #[.pointer (some ⟨rb, 0, none⟩)] W fun e w' => ∃ t : ByteArray, e = .returned (.string t) ∧ Hid (R t w') ∧ Below base W w' ∧ Clear rb W w') := hc
  clear h hc
  go_enter Tryz.func149, Tryz.ntmps149
  go_wp2
  go_region_held3 (fun w' => w'.cell? ⟨w.heap.size, 0, none⟩ = some (.int .u8 L.toNat) ∧ w'.cell? ⟨w.heap.size, 1, none⟩ = some (.int .i64 c)) (go_keep)
    (first | (go_at_call 155; refine (HC.out _ HR.out).mono ?_; rintro e w3 ⟨t, rfl, HR3, hb3, hc3⟩; have e0 := hc3.cell (j := 0) hbk (by decide) hne rfl; have e1 := hc3.cell (j := 1) hbk (by decide) hne rfl))
  all_goals
    have H3 : Hid (Below base w w3 ∧ Clear rb w w3) := ⟨HB.out.1.trans hb3, HB.out.2.trans hc3⟩
    clear hb3 hc3
    go_wp2
    go_ret
    exact ⟨t, rfl, HR3.out, H3.out.1, H3.out.2⟩

set_option maxHeartbeats 2000000 in
theorem readfull_bad (rb : Nat) (s : ByteArray) (at_ base : Nat) (L : UInt8) (c p : Nat) (w : World) (h : RAt w rb s at_) (hb : base ≤ rb)
    (hc : ∀ W, RAt W rb s at_ → Calls Tryz.prog 155 #[.pointer (some ⟨rb, 0, none⟩)] W fun e w' => e = gaveUp p ∧ Below base W w' ∧ Clear rb W w') :
    Calls Tryz.prog 149 #[.pointer (some ⟨rb, 0, none⟩), .agg #[.int .u8 L.toNat, .int .i64 c]] w fun e w' => e = gaveUp p ∧ Below base w w' ∧ Clear rb w w' := by
  have hrb : rb < w.heap.size := lt_of_block h
  have hne : w.heap.size ≠ rb := by omega
  have hbs : base ≤ w.heap.size := by omega
  obtain ⟨k0, k1⟩ := head_cells w L c
  have hbk : (w.alloc (.cells #[.int .u8 L.toNat, .int .i64 c] 145)).heap[w.heap.size]? = some (.cells #[.int .u8 L.toNat, .int .i64 c] 145 (0, 0)) := heap_alloc_new _ _
  have HB : Hid (Below base w ((w.alloc (.cells #[.int .u8 L.toNat, .int .i64 c] 145)).drewN 1) ∧ Clear rb w ((w.alloc (.cells #[.int .u8 L.toNat, .int .i64 c] 145)).drewN 1)) := ((Moved.alloc rb w _).trans (Moved.of_below (below_drewN0 _ _ 1))).frames hb hbs
  have HR : Hid (RAt ((w.alloc (.cells #[.int .u8 L.toNat, .int .i64 c] 145)).drewN 1) rb s at_) := (h.kept ((Below.refl _ _).alloc (Nat.le_refl _) (.cells #[.int .u8 L.toNat, .int .i64 c] 145))).drewN 1
  have HC : Hid (∀ W, RAt W rb s at_ → Calls Tryz.prog 155 #[.pointer (some ⟨rb, 0, none⟩)] W fun e w' => e = gaveUp p ∧ Below base W w' ∧ Clear rb W w') := hc
  clear h hc
  go_enter Tryz.func149, Tryz.ntmps149
  go_wp2
  refine wp_region_held_drew (S := fun w' => w'.cell? ⟨w.heap.size, 0, none⟩ = some (.int .u8 L.toNat) ∧ w'.cell? ⟨w.heap.size, 1, none⟩ = some (.int .i64 c)) (by kernel_rfl) ⟨k0, k1⟩ (fun hS0 => ?_)
  refine takeH (i := 0) (d := 5) (v := .agg #[.int .u8 L.toNat, .int .i64 c]) rfl rfl (by kernel_rfl) (by kernel_rfl) (by kernel_rfl) (fun _ _ _ h => h) (.inl ⟨by rfl, ?_⟩) (by assumption) ?_
  · intro w' hSw; (try dsimp only at hSw); go_simp
  try simp only [Act.put, List.setIfInBounds_toArray, List.set_cons_zero, List.set_cons_succ]
  refine takeH (i := 1) (d := 6) (v := .pointer (some ⟨rb, 0, none⟩)) rfl rfl (by kernel_rfl) (by kernel_rfl) (by kernel_rfl) (fun _ _ _ h => h) (.inl ⟨by rfl, ?_⟩) (by assumption) ?_
  · intro w' hSw; (try dsimp only at hSw); go_simp
  try simp only [Act.put, List.setIfInBounds_toArray, List.set_cons_zero, List.set_cons_succ]
  refine wpAnyH_ready (rs := [2]) (by kernel_rfl) (by simp) ?_
  refine AllReadyH.cons rfl (fun K hK => ?_) AllReadyH.nil
  go_simp
  refine (HC.out _ HR.out).mono ?_
  rintro e w4 ⟨rfl, b4, c4⟩
  (try go_wp2_with fail)
  exact ⟨rfl, rfl, HB.out.1.trans b4, HB.out.2.trans c4⟩

set_option maxHeartbeats 2000000 in
theorem readprune_ok (rb : Nat) (s : ByteArray) (at_ base : Nat) (L : UInt8) (c : Nat) (w : World) (h : RAt w rb s at_) (hb : base ≤ rb) (R : Nat → World → Prop)
    (hc : ∀ W, RAt W rb s at_ → Calls Tryz.prog 134 #[.pointer (some ⟨rb, 0, none⟩)] W fun e w' => ∃ n : Nat, e = .returned (.int .i64 n) ∧ R n w' ∧ Below base W w' ∧ Clear rb W w') :
    Calls Tryz.prog 152 #[.pointer (some ⟨rb, 0, none⟩), .agg #[.int .u8 L.toNat, .int .i64 c]] w fun e w' => ∃ n : Nat, e = .returned (.iface 147 (.agg #[.int .u8 L.toNat, .int .i64 c, (.int .i64 n)])) ∧ R n w' ∧ Below base w w' ∧ Clear rb w w' := by
  have hrb : rb < w.heap.size := lt_of_block h
  have hne : w.heap.size ≠ rb := by omega
  have hbs : base ≤ w.heap.size := by omega
  obtain ⟨k0, k1⟩ := head_cells w L c
  have hbk : (w.alloc (.cells #[.int .u8 L.toNat, .int .i64 c] 145)).heap[w.heap.size]? = some (.cells #[.int .u8 L.toNat, .int .i64 c] 145 (0, 0)) := heap_alloc_new _ _
  have HB : Hid (Below base w ((w.alloc (.cells #[.int .u8 L.toNat, .int .i64 c] 145)).drewN 1) ∧ Clear rb w ((w.alloc (.cells #[.int .u8 L.toNat, .int .i64 c] 145)).drewN 1)) := ((Moved.alloc rb w _).trans (Moved.of_below (below_drewN0 _ _ 1))).frames hb hbs
  have HR : Hid (RAt ((w.alloc (.cells #[.int .u8 L.toNat, .int .i64 c] 145)).drewN 1) rb s at_) := (h.kept ((Below.refl _ _).alloc (Nat.le_refl _) (.cells #[.int .u8 L.toNat, .int .i64 c] 145))).drewN 1
  have HC : Hid (∀ W, RAt W rb s at_ → Calls Tryz.prog 134 #[.pointer (some ⟨rb, 0, none⟩)] W fun e w' => ∃ n : Nat, e = .returned (.int .i64 n) ∧ Hid (R n w') ∧ Below base W w' ∧ Clear rb W w') := hc
  clear h hc
  go_enter Tryz.func152, Tryz.ntmps152
  go_wp2
  go_region_held3 (fun w' => w'.cell? ⟨w.heap.size, 0, none⟩ = some (.int .u8 L.toNat) ∧ w'.cell? ⟨w.heap.size, 1, none⟩ = some (.int .i64 c)) (go_keep)
    (first | (go_at_call 134; refine (HC.out _ HR.out).mono ?_; rintro e w3 ⟨n, rfl, HR3, hb3, hc3⟩; have e0 := hc3.cell (j := 0) hbk (by decide) hne rfl; have e1 := hc3.cell (j := 1) hbk (by decide) hne rfl))
  all_goals
    have H3 : Hid (Below base w w3 ∧ Clear rb w w3) := ⟨HB.out.1.trans hb3, HB.out.2.trans hc3⟩
    clear hb3 hc3
    go_wp2
    go_ret
    exact ⟨n, rfl, HR3.out, H3.out.1, H3.out.2⟩

set_option maxHeartbeats 2000000 in
theorem readprune_bad (rb : Nat) (s : ByteArray) (at_ base : Nat) (L : UInt8) (c p : Nat) (w : World) (h : RAt w rb s at_) (hb : base ≤ rb)
    (hc : ∀ W, RAt W rb s at_ → Calls Tryz.prog 134 #[.pointer (some ⟨rb, 0, none⟩)] W fun e w' => e = gaveUp p ∧ Below base W w' ∧ Clear rb W w') :
    Calls Tryz.prog 152 #[.pointer (some ⟨rb, 0, none⟩), .agg #[.int .u8 L.toNat, .int .i64 c]] w fun e w' => e = gaveUp p ∧ Below base w w' ∧ Clear rb w w' := by
  have hrb : rb < w.heap.size := lt_of_block h
  have hne : w.heap.size ≠ rb := by omega
  have hbs : base ≤ w.heap.size := by omega
  obtain ⟨k0, k1⟩ := head_cells w L c
  have hbk : (w.alloc (.cells #[.int .u8 L.toNat, .int .i64 c] 145)).heap[w.heap.size]? = some (.cells #[.int .u8 L.toNat, .int .i64 c] 145 (0, 0)) := heap_alloc_new _ _
  have HB : Hid (Below base w ((w.alloc (.cells #[.int .u8 L.toNat, .int .i64 c] 145)).drewN 1) ∧ Clear rb w ((w.alloc (.cells #[.int .u8 L.toNat, .int .i64 c] 145)).drewN 1)) := ((Moved.alloc rb w _).trans (Moved.of_below (below_drewN0 _ _ 1))).frames hb hbs
  have HR : Hid (RAt ((w.alloc (.cells #[.int .u8 L.toNat, .int .i64 c] 145)).drewN 1) rb s at_) := (h.kept ((Below.refl _ _).alloc (Nat.le_refl _) (.cells #[.int .u8 L.toNat, .int .i64 c] 145))).drewN 1
  have HC : Hid (∀ W, RAt W rb s at_ → Calls Tryz.prog 134 #[.pointer (some ⟨rb, 0, none⟩)] W fun e w' => e = gaveUp p ∧ Below base W w' ∧ Clear rb W w') := hc
  clear h hc
  go_enter Tryz.func152, Tryz.ntmps152
  go_wp2
  refine wp_region_held_drew (S := fun w' => w'.cell? ⟨w.heap.size, 0, none⟩ = some (.int .u8 L.toNat) ∧ w'.cell? ⟨w.heap.size, 1, none⟩ = some (.int .i64 c)) (by kernel_rfl) ⟨k0, k1⟩ (fun hS0 => ?_)
  refine takeH (i := 0) (d := 5) (v := .agg #[.int .u8 L.toNat, .int .i64 c]) rfl rfl (by kernel_rfl) (by kernel_rfl) (by kernel_rfl) (fun _ _ _ h => h) (.inl ⟨by rfl, ?_⟩) (by assumption) ?_
  · intro w' hSw; (try dsimp only at hSw); go_simp
  try simp only [Act.put, List.setIfInBounds_toArray, List.set_cons_zero, List.set_cons_succ]
  refine takeH (i := 1) (d := 6) (v := .pointer (some ⟨rb, 0, none⟩)) rfl rfl (by kernel_rfl) (by kernel_rfl) (by kernel_rfl) (fun _ _ _ h => h) (.inl ⟨by rfl, ?_⟩) (by assumption) ?_
  · intro w' hSw; (try dsimp only at hSw); go_simp
  try simp only [Act.put, List.setIfInBounds_toArray, List.set_cons_zero, List.set_cons_succ]
  refine wpAnyH_ready (rs := [2]) (by kernel_rfl) (by simp) ?_
  refine AllReadyH.cons rfl (fun K hK => ?_) AllReadyH.nil
  go_simp
  refine (HC.out _ HR.out).mono ?_
  rintro e w4 ⟨rfl, b4, c4⟩
  (try go_wp2_with fail)
  exact ⟨rfl, rfl, HB.out.1.trans b4, HB.out.2.trans c4⟩

set_option maxHeartbeats 2000000 in
theorem readdiff_ok (rb : Nat) (s : ByteArray) (at_ base : Nat) (L : UInt8) (c : Nat) (w : World) (h : RAt w rb s at_) (hb : base ≤ rb) (R : Option Addr × Nat × Nat → World → Prop)
    (hc : ∀ W, RAt W rb s at_ → Calls Tryz.prog 128 #[.pointer (some ⟨rb, 0, none⟩)] W fun e w' => ∃ x : Option Addr × Nat × Nat, e = .returned (.slice x.1 x.2.1 x.2.2) ∧ R x w' ∧ Below base W w' ∧ Clear rb W w') :
    Calls Tryz.prog 150 #[.pointer (some ⟨rb, 0, none⟩), .agg #[.int .u8 L.toNat, .int .i64 c]] w fun e w' => ∃ x : Option Addr × Nat × Nat, e = .returned (.iface 180 (.agg #[.int .u8 L.toNat, .int .i64 c, (.slice x.1 x.2.1 x.2.2)])) ∧ R x w' ∧ Below base w w' ∧ Clear rb w w' := by
  have hrb : rb < w.heap.size := lt_of_block h
  have hne : w.heap.size ≠ rb := by omega
  have hbs : base ≤ w.heap.size := by omega
  obtain ⟨k0, k1⟩ := head_cells w L c
  have hbk : (w.alloc (.cells #[.int .u8 L.toNat, .int .i64 c] 145)).heap[w.heap.size]? = some (.cells #[.int .u8 L.toNat, .int .i64 c] 145 (0, 0)) := heap_alloc_new _ _
  have HB : Hid (Below base w ((w.alloc (.cells #[.int .u8 L.toNat, .int .i64 c] 145)).drewN 1) ∧ Clear rb w ((w.alloc (.cells #[.int .u8 L.toNat, .int .i64 c] 145)).drewN 1)) := ((Moved.alloc rb w _).trans (Moved.of_below (below_drewN0 _ _ 1))).frames hb hbs
  have HR : Hid (RAt ((w.alloc (.cells #[.int .u8 L.toNat, .int .i64 c] 145)).drewN 1) rb s at_) := (h.kept ((Below.refl _ _).alloc (Nat.le_refl _) (.cells #[.int .u8 L.toNat, .int .i64 c] 145))).drewN 1
  have HC : Hid (∀ W, RAt W rb s at_ → Calls Tryz.prog 128 #[.pointer (some ⟨rb, 0, none⟩)] W fun e w' => ∃ x : Option Addr × Nat × Nat, e = .returned (.slice x.1 x.2.1 x.2.2) ∧ Hid (R x w') ∧ Below base W w' ∧ Clear rb W w') := hc
  clear h hc
  go_enter Tryz.func150, Tryz.ntmps150
  go_wp2
  go_region_held3 (fun w' => w'.cell? ⟨w.heap.size, 0, none⟩ = some (.int .u8 L.toNat) ∧ w'.cell? ⟨w.heap.size, 1, none⟩ = some (.int .i64 c)) (go_keep)
    (first | (go_at_call 128; refine (HC.out _ HR.out).mono ?_; rintro e w3 ⟨x, rfl, HR3, hb3, hc3⟩; have e0 := hc3.cell (j := 0) hbk (by decide) hne rfl; have e1 := hc3.cell (j := 1) hbk (by decide) hne rfl))
  all_goals
    have H3 : Hid (Below base w w3 ∧ Clear rb w w3) := ⟨HB.out.1.trans hb3, HB.out.2.trans hc3⟩
    clear hb3 hc3
    go_wp2
    go_ret
    exact ⟨x, rfl, HR3.out, H3.out.1, H3.out.2⟩

set_option maxHeartbeats 2000000 in
theorem readdiff_bad (rb : Nat) (s : ByteArray) (at_ base : Nat) (L : UInt8) (c p : Nat) (w : World) (h : RAt w rb s at_) (hb : base ≤ rb)
    (hc : ∀ W, RAt W rb s at_ → Calls Tryz.prog 128 #[.pointer (some ⟨rb, 0, none⟩)] W fun e w' => e = gaveUp p ∧ Below base W w' ∧ Clear rb W w') :
    Calls Tryz.prog 150 #[.pointer (some ⟨rb, 0, none⟩), .agg #[.int .u8 L.toNat, .int .i64 c]] w fun e w' => e = gaveUp p ∧ Below base w w' ∧ Clear rb w w' := by
  have hrb : rb < w.heap.size := lt_of_block h
  have hne : w.heap.size ≠ rb := by omega
  have hbs : base ≤ w.heap.size := by omega
  obtain ⟨k0, k1⟩ := head_cells w L c
  have hbk : (w.alloc (.cells #[.int .u8 L.toNat, .int .i64 c] 145)).heap[w.heap.size]? = some (.cells #[.int .u8 L.toNat, .int .i64 c] 145 (0, 0)) := heap_alloc_new _ _
  have HB : Hid (Below base w ((w.alloc (.cells #[.int .u8 L.toNat, .int .i64 c] 145)).drewN 1) ∧ Clear rb w ((w.alloc (.cells #[.int .u8 L.toNat, .int .i64 c] 145)).drewN 1)) := ((Moved.alloc rb w _).trans (Moved.of_below (below_drewN0 _ _ 1))).frames hb hbs
  have HR : Hid (RAt ((w.alloc (.cells #[.int .u8 L.toNat, .int .i64 c] 145)).drewN 1) rb s at_) := (h.kept ((Below.refl _ _).alloc (Nat.le_refl _) (.cells #[.int .u8 L.toNat, .int .i64 c] 145))).drewN 1
  have HC : Hid (∀ W, RAt W rb s at_ → Calls Tryz.prog 128 #[.pointer (some ⟨rb, 0, none⟩)] W fun e w' => e = gaveUp p ∧ Below base W w' ∧ Clear rb W w') := hc
  clear h hc
  go_enter Tryz.func150, Tryz.ntmps150
  go_wp2
  refine wp_region_held_drew (S := fun w' => w'.cell? ⟨w.heap.size, 0, none⟩ = some (.int .u8 L.toNat) ∧ w'.cell? ⟨w.heap.size, 1, none⟩ = some (.int .i64 c)) (by kernel_rfl) ⟨k0, k1⟩ (fun hS0 => ?_)
  refine takeH (i := 0) (d := 5) (v := .agg #[.int .u8 L.toNat, .int .i64 c]) rfl rfl (by kernel_rfl) (by kernel_rfl) (by kernel_rfl) (fun _ _ _ h => h) (.inl ⟨by rfl, ?_⟩) (by assumption) ?_
  · intro w' hSw; (try dsimp only at hSw); go_simp
  try simp only [Act.put, List.setIfInBounds_toArray, List.set_cons_zero, List.set_cons_succ]
  refine takeH (i := 1) (d := 6) (v := .pointer (some ⟨rb, 0, none⟩)) rfl rfl (by kernel_rfl) (by kernel_rfl) (by kernel_rfl) (fun _ _ _ h => h) (.inl ⟨by rfl, ?_⟩) (by assumption) ?_
  · intro w' hSw; (try dsimp only at hSw); go_simp
  try simp only [Act.put, List.setIfInBounds_toArray, List.set_cons_zero, List.set_cons_succ]
  refine wpAnyH_ready (rs := [2]) (by kernel_rfl) (by simp) ?_
  refine AllReadyH.cons rfl (fun K hK => ?_) AllReadyH.nil
  go_simp
  refine (HC.out _ HR.out).mono ?_
  rintro e w4 ⟨rfl, b4, c4⟩
  (try go_wp2_with fail)
  exact ⟨rfl, rfl, HB.out.1.trans b4, HB.out.2.trans c4⟩

set_option maxHeartbeats 4000000 in
/-- What readBeginning does. -/
theorem readbeg_any (rb : Nat) (s : ByteArray) (at_ base : Nat) (L : UInt8) (c : Nat) (w : World) (h : RAt w rb s at_) (hb : base ≤ rb) (hle : at_ ≤ s.size) (hs : s.size ≤ 100000) :
    Calls Tryz.prog 151 #[.pointer (some ⟨rb, 0, none⟩), .agg #[.int .u8 L.toNat, .int .i64 c]] w fun e w' => ((∃ p, e = gaveUp p ∧ ((∃ p', numF s at_ = .inl p') ∨ ∃ n nx, numF s at_ = .inr (n, nx) ∧ ¬ (0 < n ∧ (s.extract nx s.size).size ≤ 2000))) ∨
      ∃ n nx, numF s at_ = .inr (n, nx) ∧ 0 < n ∧ (s.extract nx s.size).size ≤ 2000 ∧ e = .returned (.iface 191 (.agg #[.int .u8 L.toNat, .int .i64 c, .int .i64 n, .string (s.extract nx s.size)])) ∧ RAt w' rb s s.size) ∧ Below base w w' ∧ Clear rb w w' := by
  have hrb : rb < w.heap.size := lt_of_block h
  have hne : w.heap.size ≠ rb := by omega
  have hbs : base ≤ w.heap.size := by omega
  obtain ⟨k0, k1⟩ := head_cells w L c
  have hbk : (w.alloc (.cells #[.int .u8 L.toNat, .int .i64 c] 145)).heap[w.heap.size]? = some (.cells #[.int .u8 L.toNat, .int .i64 c] 145 (0, 0)) := heap_alloc_new _ _
  have HB : Hid (Below base w ((w.alloc (.cells #[.int .u8 L.toNat, .int .i64 c] 145)).drewN 1) ∧ Clear rb w ((w.alloc (.cells #[.int .u8 L.toNat, .int .i64 c] 145)).drewN 1)) := ((Moved.alloc rb w _).trans (Moved.of_below (below_drewN0 _ _ 1))).frames hb hbs
  have HR : Hid (RAt ((w.alloc (.cells #[.int .u8 L.toNat, .int .i64 c] 145)).drewN 1) rb s at_) := (h.kept ((Below.refl _ _).alloc (Nat.le_refl _) (.cells #[.int .u8 L.toNat, .int .i64 c] 145))).drewN 1
  have HR0 : Hid (RAt (w.alloc (.cells #[.int .u8 L.toNat, .int .i64 c] 145)) rb s at_) := h.kept ((Below.refl _ _).alloc (Nat.le_refl _) _)
  have HM0 : Hid (Moved rb w (w.alloc (.cells #[.int .u8 L.toNat, .int .i64 c] 145))) := Moved.alloc rb w _
  have hsz : w.heap.size < (w.alloc (.cells #[.int .u8 L.toNat, .int .i64 c] 145)).heap.size := by simp
  clear h HB HR
  go_enter Tryz.func151, Tryz.ntmps151
  go_wp2_with fail
  refine (at_any rb s at_ _ HR0.out).mono ?_
  rintro e w1 ⟨rfl, rfl⟩
  go_wp2_with fail
  refine (number_any rb s at_ _ HR0.out hle (by omega)).mono ?_
  rintro e w2 ⟨hcase, m2⟩
  have HM2 : Hid (Moved rb w w2) := HM0.out.trans m2
  have hb2 := (m2.block w.heap.size hsz hne).trans hbk
  clear m2 HM0 HR0 hbk k0 k1
  rcases hcase with ⟨p, hp, rfl⟩ | ⟨n, nx, hp, rfl, r2⟩
  · have HP : Hid (numF s at_ = .inl p) := hp
    clear hp
    go_wp2
    exact ⟨rfl, .inl ⟨p, rfl, .inl ⟨p, HP.out⟩⟩, HM2.out.frames hb hbs⟩
  · have HP : Hid (numF s at_ = .inr (n, nx)) := hp
    obtain ⟨hn, _, hnx⟩ := numF_ok hle hp
    have HR2 : Hid (RAt w2 rb s nx) := r2
    clear hp r2
    have k0 : w2.cell? ⟨w.heap.size, 0, none⟩ = some (.int .u8 L.toNat) := by rw [Lib.cell_of_heap hb2]; rfl
    have k1 : w2.cell? ⟨w.heap.size, 1, none⟩ = some (.int .i64 c) := by rw [Lib.cell_of_heap hb2]; rfl
    by_cases h0 : n = 0
    · have HZ : Hid (n = 0) := h0
      have hz : ((n : Int) == 0) = true := by simp [h0]
      have hz2 : (n : Int) = 0 := by omega
      clear h0
      go_wp2_with fail
      refine (giveup_any at_ _).mono ?_
      rintro e w6 ⟨rfl, rfl⟩
      go_wp2
      exact ⟨rfl, .inl ⟨_, rfl, .inr ⟨n, nx, HP.out, fun hh => by have := HZ.out; omega⟩⟩, HM2.out.frames hb hbs⟩
    · have hz : ((n : Int) == 0) = false := beq_false_of_ne (by omega)
      have hpos : 0 < n := by omega
      obtain ⟨t, ht⟩ : ∃ t, s.extract nx s.size = t := ⟨_, rfl⟩
      have HE : Hid (s.extract nx s.size = t) := ht
      have HRT := fun W hW => readtext_at rb s nx W hW hnx hs t ht
      have HC : Hid (∀ W, RAt W rb s nx → Calls Tryz.prog 155 #[.pointer (some ⟨rb, 0, none⟩)] W fun e w' => ((¬ t.size ≤ 2000 ∧ e = gaveUp nx) ∨ (t.size ≤ 2000 ∧ e = .returned (.string t) ∧ RAt w' rb s s.size)) ∧ Moved rb W w') := HRT
      have hs2 : w.heap.size < w2.heap.size := lt_of_block hb2
      clear ht HRT h0
      by_cases htz : t.size ≤ 2000
      · have HC2 : Hid (∀ W, RAt W rb s nx → Calls Tryz.prog 155 #[.pointer (some ⟨rb, 0, none⟩)] W fun e w' => e = .returned (.string t) ∧ RAt w' rb s s.size ∧ Moved rb W w') := fun W hW => (HC.out W hW).mono fun e w' ⟨h1, h2⟩ => by
          rcases h1 with ⟨x, _⟩ | ⟨_, x, y⟩
          · exact absurd htz x
          · exact ⟨x, y, h2⟩
        go_wp2
        go_region_held3 (fun w' => w'.cell? ⟨w.heap.size, 0, none⟩ = some (.int .u8 L.toNat) ∧ w'.cell? ⟨w.heap.size, 1, none⟩ = some (.int .i64 c)) (go_keep)
          (first | (go_at_call 155; refine (HC2.out _ (HR2.out.drewN 1)).mono ?_; rintro e w3 ⟨rfl, r3, m3⟩; have e0 := (World.cell?_of_block (a := ⟨w.heap.size, 0, none⟩) (m3.block w.heap.size hs2 hne)).trans k0; have e1 := (World.cell?_of_block (a := ⟨w.heap.size, 1, none⟩) (m3.block w.heap.size hs2 hne)).trans k1))
        all_goals
          have HR3 : Hid (RAt w3 rb s s.size) := r3
          have HM3 : Hid (Moved rb w w3) := (HM2.out.trans (Moved.of_below (below_drewN0 _ _ 1))).trans m3
          clear r3 m3
          go_wp2
          go_ret
          refine ⟨.inr ⟨n, nx, HP.out, hpos, by rw [HE.out]; exact htz, ?_, HR3.out⟩, HM3.out.frames hb hbs⟩
          rw [HE.out]; rfl
      · have HC2 : Hid (∀ W, RAt W rb s nx → Calls Tryz.prog 155 #[.pointer (some ⟨rb, 0, none⟩)] W fun e w' => e = gaveUp nx ∧ Moved rb W w') := fun W hW => (HC.out W hW).mono fun e w' ⟨h1, h2⟩ => by
          rcases h1 with ⟨_, x⟩ | ⟨x, _⟩
          · exact ⟨x, h2⟩
          · exact absurd x htz
        go_wp2
        refine wp_region_held_drew (S := fun w' => w'.cell? ⟨w.heap.size, 0, none⟩ = some (.int .u8 L.toNat) ∧ w'.cell? ⟨w.heap.size, 1, none⟩ = some (.int .i64 c)) (by kernel_rfl) ⟨k0, k1⟩ (fun hS0 => ?_)
        refine takeH (i := 0) (d := 15) (v := .agg #[.int .u8 L.toNat, .int .i64 c]) rfl rfl (by kernel_rfl) (by kernel_rfl) (by kernel_rfl) (fun _ _ _ h => h) (.inl ⟨by rfl, ?_⟩) (by assumption) ?_
        · intro w' hSw; (try dsimp only at hSw); go_simp
        try simp only [Act.put, List.setIfInBounds_toArray, List.set_cons_zero, List.set_cons_succ]
        refine takeH (i := 1) (d := 16) (v := .int .i64 n) rfl rfl (by kernel_rfl) (by kernel_rfl) (by kernel_rfl) (fun _ _ _ h => h) (.inl ⟨by rfl, ?_⟩) (by assumption) ?_
        · intro w' hSw; (try dsimp only at hSw); go_simp
        try simp only [Act.put, List.setIfInBounds_toArray, List.set_cons_zero, List.set_cons_succ]
        refine takeH (i := 2) (d := 17) (v := .pointer (some ⟨rb, 0, none⟩)) rfl rfl (by kernel_rfl) (by kernel_rfl) (by kernel_rfl) (fun _ _ _ h => h) (.inl ⟨by rfl, ?_⟩) (by assumption) ?_
        · intro w' hSw; (try dsimp only at hSw); go_simp
        try simp only [Act.put, List.setIfInBounds_toArray, List.set_cons_zero, List.set_cons_succ]
        refine wpAnyH_ready (rs := [3]) (by kernel_rfl) (by simp) ?_
        refine AllReadyH.cons rfl (fun K hK => ?_) AllReadyH.nil
        go_simp
        refine (HC2.out _ (HR2.out.drewN 1)).mono ?_
        rintro e w4 ⟨rfl, m4⟩
        (try go_wp2_with fail)
        exact ⟨rfl, .inl ⟨_, rfl, .inr ⟨n, nx, HP.out, fun hh => htz (by rw [← HE.out]; exact hh.2)⟩⟩, ((HM2.out.trans (Moved.of_below (below_drewN0 _ _ 1))).trans m4).frames hb hbs⟩

end Go.Proofs.YtabpiaaknjcnkaaGreat
