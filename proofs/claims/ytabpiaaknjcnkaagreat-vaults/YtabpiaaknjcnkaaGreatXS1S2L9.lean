/- The texts S1, S2, L9, one behind the other. -/
import Derived.Test.YtabpiaaknjcnkaaGreatXP1W1W3W4
import Derived.Test.YtabpiaaknjcnkaaGreatXR4L7L8P4
import Derived.LoopTactic
import Derived.Laws.BitsAllLaws
import Derived.Deep.RegionHeld3
/-
  The walks over the sums of the statements.
-/
namespace Go.Proofs.YtabpiaaknjcnkaaGreat
open Go.RowKit
set_option linter.unusedVariables false
set_option linter.unusedSimpArgs false
set_option maxRecDepth 100000

theorem and1 (y : Nat) (h : y < 4294967296) : bits BinOp.and IntKind.u32 (y : Int) 1 = ((y % 2 : Nat) : Int) := by
  have := u32_and_nat y 1 h (by decide)
  rw [nat_mask1] at this
  exact this
theorem xorP (y : Nat) (h : y < 4294967296) : bits BinOp.xor IntKind.u32 ((y : Int) / 2) 3988292384 = ((y / 2 ^^^ 3988292384 : Nat) : Int) := by
  have := u32_xor_nat (y / 2) 3988292384 (by omega) (by decide)
  rw [← this]; rfl
theorem odd_of {y : Nat} (h : y < 4294967296) (hb : (bits BinOp.and IntKind.u32 (y : Int) 1 == 1) = true) : y % 2 = 1 := by
  rw [and1 y h] at hb
  have : ((y % 2 : Nat) : Int) = 1 := by simpa using hb
  omega
theorem even_of {y : Nat} (h : y < 4294967296) (hb : (bits BinOp.and IntKind.u32 (y : Int) 1 == 1) = false) : ¬ y % 2 = 1 := by
  rw [and1 y h] at hb
  have : ¬ ((y % 2 : Nat) : Int) = 1 := by simpa using hb
  omega
theorem byte_at (s : ByteArray) (k : Nat) (h : k < s.size) : s.data.toList.take (k + 1) = s.data.toList.take k ++ [s[k]] := by
  rw [List.take_succ_eq_append_getElem (by simpa using h)]; rfl

/-- The walk at the k-th byte. -/
def st (s : ByteArray) (k : Nat) : Nat := run 4294967295 (s.data.toList.take k)
theorem st_zero (s : ByteArray) : st s 0 = 4294967295 := by simp [st, run]
theorem st_lt (s : ByteArray) (k : Nat) : st s k < 4294967296 := run_lt (by decide) _
theorem st_succ (s : ByteArray) (k : Nat) (h : k < s.size) : st s (k + 1) = upd (st s k) s[k].toNat := by
  rw [st, byte_at s k h, run_snoc]; rfl
theorem st_end (s : ByteArray) : sumL s.data.toList = 4294967295 - st s s.size := by
  rw [st, List.take_of_length_le (by rw [Lib.size_eq]; exact Nat.le_refl _)]; rfl

theorem ret_u32 {a b : Int} (h : a = b) : Ending.returned (.int .u32 a) = .returned (.int .u32 b) := by rw [h]

theorem val_u32 {a b : Int} (h : a = b) : Value.int .u32 a = .int .u32 b := by rw [h]

theorem bit_at (c j : Nat) (hc : c < 256) : (c : Int) / 2 ^ j % 4294967296 = ((c / 2 ^ j : Nat) : Int) := by
  have h1 : (c : Int) / 2 ^ j = ((c / 2 ^ j : Nat) : Int) := by rw [Int.natCast_ediv, Int.natCast_pow]; rfl
  have h2 : c / 2 ^ j ≤ c := Nat.div_le_self _ _
  rw [h1]
  generalize c / 2 ^ j = z at *
  omega
theorem bit_ne {y c j : Nat} (hy : y < 4294967296) (hc : c < 256) (h : (bits BinOp.and IntKind.u32 (y : Int) 1 != bits BinOp.and IntKind.u32 ((c : Int) / 2 ^ j % 4294967296) 1) = true) : y % 2 ≠ c / 2 ^ j % 2 := by
  have h2 : c / 2 ^ j ≤ c := Nat.div_le_self _ _
  rw [bit_at c j hc, and1 y hy, and1 _ (by omega), bne_iff_ne] at h
  omega
theorem bit_eq {y c j : Nat} (hy : y < 4294967296) (hc : c < 256) (h : (bits BinOp.and IntKind.u32 (y : Int) 1 != bits BinOp.and IntKind.u32 ((c : Int) / 2 ^ j % 4294967296) 1) = false) : ¬ y % 2 ≠ c / 2 ^ j % 2 := by
  have h2 : c / 2 ^ j ≤ c := Nat.div_le_self _ _
  rw [bit_at c j hc, and1 y hy, and1 _ (by omega)] at h
  have : ((y % 2 : Nat) : Int) = ((c / 2 ^ j % 2 : Nat) : Int) := by simpa using h
  omega
theorem odd2 {y : Nat} (h : ((y : Int) % 2 == 1) = true) : y % 2 = 1 := by
  have : (y : Int) % 2 = 1 := by simpa using h
  omega
theorem even2 {y : Nat} (h : ((y : Int) % 2 == 1) = false) : ¬ y % 2 = 1 := by
  have : ¬ (y : Int) % 2 = 1 := by simpa using h
  omega
theorem flip (v : Nat) (h : v < 4294967296) : bits BinOp.xor IntKind.u32 IntKind.u32.max (v : Int) = ((4294967295 - v : Nat) : Int) := by
  have := u32_xor_nat 4294967295 v (by decide) h
  rw [xor_ones h] at this
  exact this

set_option maxHeartbeats 1000000 in
theorem ksum_any (s : ByteArray) (w : World) (hs : s.size ≤ 9223372036854775806) :
    Calls Tryz.prog 83 #[.string s] w fun e w' => e = .returned (.int .u32 (sumL s.data.toList)) ∧ w = w' := by
  go_enter Tryz.func83, Tryz.ntmps83
  go_wp2
  go_loop [3, 4] (fun v i => ∃ k : Nat, k ≤ s.size ∧ i = .int .i64 k ∧ v = .int .u32 (st s k)) (fun _ i => s.size + 1 - (intOf i).toNat)
  case atStart => exact ⟨0, by omega, rfl, val_u32 (by rw [st_zero]; rfl)⟩
  case round =>
    obtain ⟨k, hk, rfl, rfl⟩ := hrel
    by_cases hlt : k < s.size
    · have hv := st_lt s k
      have HS : Hid (st s (k + 1) = upd (st s k) s[k].toNat) := st_succ s k hlt
      generalize hst : st s k = v at *
      clear hst
      go_wp2
      go_loop [3, 5] (fun x i => ∃ j : Nat, j ≤ 8 ∧ i = .int .i64 j ∧ x = .int .u32 (bitRun s[k].toNat j v)) (fun _ i => 9 - (intOf i).toNat)
      case atStart => exact ⟨0, by omega, rfl, rfl⟩
      case round =>
        obtain ⟨j, hj, rfl, rfl⟩ := hrel
        by_cases hj8 : j < 8
        · have hc : s[k].toNat < 256 := s[k].toNat_lt
          have hy : bitRun s[k].toNat j v < 4294967296 := bitRun_lt hv hc j
          have HN : Hid (bitRun s[k].toNat (j + 1) v = bitStep (bitRun s[k].toNat j v) (s[k].toNat / 2 ^ j % 2)) := rfl
          generalize hyy : bitRun s[k].toNat j v = y at *
          clear hyy
          go_wp2
          · go_round
            case rel => exact ⟨j + 1, by omega, by go_num, val_u32 (by rw [HN.out, bitStep, if_pos (bit_ne hy hc (by assumption)), xorP y hy])⟩
            case measure => simp [intOf]; omega
          · go_round
            case rel => exact ⟨j + 1, by omega, by go_num, val_u32 (by rw [HN.out, bitStep, if_neg (bit_eq hy hc (by assumption))]; omega)⟩
            case measure => simp [intOf]; omega
        · have HE : Hid (bitRun s[k].toNat j v = st s (k + 1)) := by
            show bitRun s[k].toNat j v = _
            rw [HS.out, show j = 8 from by omega, bitRun_upd _ _ s[k].toNat_lt]
          go_wp2
          go_round
          case rel => exact ⟨k + 1, by omega, by go_num, val_u32 (by rw [HE.out])⟩
          case measure => simp [intOf]; omega
    · go_wp2
      go_ret
      refine ⟨ret_u32 ?_, rfl⟩
      rw [flip _ (st_lt s k), st_end, show k = s.size from by omega]

set_option maxHeartbeats 1000000 in
theorem rsum_any (s : ByteArray) (w : World) (hs : s.size ≤ 9223372036854775806) :
    Calls Tryz.prog 63 #[.string s] w fun e w' => e = .returned (.int .u32 (sumL s.data.toList)) ∧ w = w' := by
  go_enter Tryz.func63, Tryz.ntmps63
  go_wp2
  go_loop [3, 4] (fun v i => ∃ k : Nat, k ≤ s.size ∧ i = .int .i64 k ∧ v = .int .u32 (st s k)) (fun _ i => s.size + 1 - (intOf i).toNat)
  case atStart => exact ⟨0, by omega, rfl, val_u32 (by rw [st_zero]; rfl)⟩
  case round =>
    obtain ⟨k, hk, rfl, rfl⟩ := hrel
    by_cases hlt : k < s.size
    · have hv := st_lt s k
      have hc : s[k].toNat < 256 := s[k].toNat_lt
      have HS : Hid (st s (k + 1) = mvs 8 (st s k ^^^ s[k].toNat)) := st_succ s k hlt
      generalize hst : st s k = v at *
      clear hst
      have hx : v ^^^ s[k].toNat < 4294967296 := xor_lt hv hc
      have HX : Hid (bits BinOp.xor IntKind.u32 (v : Int) (s[k].toNat : Int) = ((v ^^^ s[k].toNat : Nat) : Int)) := u32_xor_nat v s[k].toNat hv (by omega)
      go_wp2
      rw [HX.out]
      generalize hxx : v ^^^ s[k].toNat = x at *
      clear hxx HX
      go_loop [3, 5] (fun y i => ∃ j : Nat, j ≤ 8 ∧ i = .int .i64 j ∧ y = .int .u32 (mvs j x)) (fun _ i => 9 - (intOf i).toNat)
      case atStart => exact ⟨0, by omega, rfl, rfl⟩
      case round =>
        obtain ⟨j, hj, rfl, rfl⟩ := hrel
        have hy := mvs_lt hx j
        by_cases hj8 : j < 8
        · have HN : Hid (mvs (j + 1) x = mv (mvs j x)) := rfl
          generalize hyy : mvs j x = y at *
          clear hyy
          go_wp2
          · have ho : y % 2 = 1 := odd2 (by assumption)
            go_round
            case rel => exact ⟨j + 1, by omega, by go_num, val_u32 (by rw [HN.out, mv, if_pos ho, xorP y hy])⟩
            case measure => simp [intOf]; omega
          · have ho : ¬ y % 2 = 1 := even2 (by assumption)
            go_round
            case rel => exact ⟨j + 1, by omega, by go_num, val_u32 (by rw [HN.out, mv, if_neg ho]; omega)⟩
            case measure => simp [intOf]; omega
        · have HE : Hid (mvs j x = st s (k + 1)) := by
            show mvs j x = _
            rw [HS.out, show j = 8 from by omega]
          go_wp2
          go_round
          case rel => exact ⟨k + 1, by omega, by go_num, val_u32 (by rw [HE.out])⟩
          case measure => simp [intOf]; omega
    · have hl := st_lt s k
      go_wp2
      go_ret
      refine ⟨ret_u32 ?_, rfl⟩
      rw [st_end, ← show k = s.size from by omega]
      generalize st s k = v at *
      omega

end Go.Proofs.YtabpiaaknjcnkaaGreat

/-
  The walks over the program's own sum.
-/
namespace Go.Proofs.YtabpiaaknjcnkaaGreat
open Go.RowKit
set_option linter.unusedVariables false
set_option linter.unusedSimpArgs false
set_option maxRecDepth 100000

set_option maxHeartbeats 1000000 in
theorem eight_any (x : Nat) (w : World) (hx : x < 4294967296) :
    Calls Tryz.prog 122 #[.int .u32 x] w fun e w' => e = .returned (.int .u32 (mvs 8 x)) ∧ w = w' := by
  go_enter Tryz.func122, Tryz.ntmps122
  go_wp2
  go_loop [0, 4] (fun v i => ∃ k : Nat, k ≤ 8 ∧ i = .int .i64 k ∧ v = .int .u32 (mvs k x)) (fun _ i => 9 - (intOf i).toNat)
  case atStart => exact ⟨0, by omega, rfl, rfl⟩
  case round =>
    obtain ⟨k, hk, rfl, rfl⟩ := hrel
    have hy := mvs_lt hx k
    by_cases hlt : k < 8
    · have HN : Hid (mvs (k + 1) x = mv (mvs k x)) := rfl
      generalize hyy : mvs k x = y at *
      clear hyy
      go_wp2
      · go_round
        case rel => exact ⟨k + 1, by omega, by go_num, val_u32 (by rw [HN.out, mv, if_pos (odd_of hy (by assumption)), xorP y hy])⟩
        case measure => simp [intOf]; omega
      · go_round
        case rel => exact ⟨k + 1, by omega, by go_num, val_u32 (by rw [HN.out, mv, if_neg (even_of hy (by assumption))]; omega)⟩
        case measure => simp [intOf]; omega
    · have HE : Hid (mvs k x = mvs 8 x) := by show mvs k x = _; rw [show k = 8 from by omega]
      go_wp2
      go_ret
      exact ⟨ret_u32 (by rw [HE.out]), rfl⟩

set_option maxHeartbeats 1000000 in
theorem of_any (s : ByteArray) (w : World) (hs : s.size ≤ 9223372036854775806) :
    Calls Tryz.prog 98 #[.string s] w fun e w' => e = .returned (.int .u32 (sumL s.data.toList)) ∧ w = w' := by
  go_enter Tryz.func98, Tryz.ntmps98
  go_wp2
  go_loop [3, 7] (fun v i => ∃ k : Nat, k ≤ s.size ∧ i = .int .i64 k ∧ v = .int .u32 (st s k)) (fun _ i => s.size + 1 - (intOf i).toNat)
  case atStart => exact ⟨0, by omega, rfl, val_u32 (by rw [st_zero]; rfl)⟩
  case round =>
    obtain ⟨k, hk, rfl, rfl⟩ := hrel
    have hv := st_lt s k
    by_cases hlt : k < s.size
    · have hc : s[k].toNat < 256 := s[k].toNat_lt
      have HS : Hid (st s (k + 1) = mvs 8 (st s k ^^^ s[k].toNat)) := by
        show st s (k + 1) = _
        rw [st_succ s k hlt]; rfl
      generalize hst : st s k = v at *
      clear hst
      have hz : v ^^^ s[k].toNat < 4294967296 := Nat.xor_lt_two_pow (n := 32) (by omega) (by omega)
      have HX : Hid (bits BinOp.xor IntKind.u32 (v : Int) (s[k].toNat : Int) = ((v ^^^ s[k].toNat : Nat) : Int)) := u32_xor_nat v s[k].toNat (by omega) (by omega)
      go_wp2_with fail
      rw [HX.out]
      generalize hxx : v ^^^ s[k].toNat = x at *
      clear hxx HX
      refine (eight_any x _ (by omega)).mono ?_
      rintro e w' ⟨rfl, rfl⟩
      go_wp2
      go_round
      case rel => exact ⟨k + 1, by omega, by go_num, val_u32 (by rw [HS.out])⟩
      case measure => simp [intOf]; omega
    · go_wp2
      go_ret
      refine ⟨ret_u32 ?_, rfl⟩
      rw [st_end, ← show k = s.size from by omega]
      have h1 := u32_xor_nat (st s k) 4294967295 hv (by decide)
      rw [Nat.xor_comm, xor_ones hv] at h1
      exact h1

set_option maxHeartbeats 1000000 in
theorem csum_any (s : ByteArray) (w : World) (hs : s.size ≤ 9223372036854775806) :
    Calls Tryz.prog 62 #[.string s] w fun e w' => e = .returned (.int .u32 (sumL s.data.toList)) ∧ w = w' := by
  go_enter Tryz.func62, Tryz.ntmps62
  go_wp2_with fail
  refine (of_any s _ hs).mono ?_
  rintro e w' ⟨rfl, rfl⟩
  go_wp2
  go_ret
  exact ⟨rfl, rfl⟩
end Go.Proofs.YtabpiaaknjcnkaaGreat

/-
  A step of Apply, a step of Sum.
-/
namespace Go.Proofs.YtabpiaaknjcnkaaGreat
open Go.RowKit
set_option linter.unusedVariables false
set_option linter.unusedSimpArgs false
set_option maxRecDepth 100000

theorem View.heap {w W : World} {v : Value} {xs : List DOp} (h : View w v xs) (hW : W.heap = w.heap) : View W v xs := by
  rcases h with h | ⟨b, off, cap, rfl, hlt, hr⟩
  · exact .inl h
  · refine .inr ⟨b, off, cap, rfl, by rw [hW]; exact hlt, fun i o ho => ?_⟩
    obtain ⟨r0, r1, r2⟩ := hr i o ho
    have hc : ∀ p : Addr, W.cell? p = w.cell? p := fun p => World.cell?_of_block (by rw [hW])
    exact ⟨(hc _).trans r0, (hc _).trans r1, (hc _).trans r2⟩

set_option maxHeartbeats 4000000 in
theorem wdeltas_sum (w : World) (B0 Wb : Nat) (xv yv bv : Value) (es : List Entry) (hbook : BookAt w B0 Wb xv yv bv es (· < w.heap.size)) (hB0 : B0 ≤ w.heap.size) (a b c : Int) (s t : ByteArray) (vl vm : Value) (xs ys : List DOp)
    (hs : s.size ≤ 9223372036854775806) (hx : xs.length ≤ 4398046511000) (hy : ys.length ≤ 4398046511000) (hl : LView B0 w vl xs) (hm : LView B0 w vm ys) :
    Calls Tryz.prog 30 #[.pointer (some ⟨Wb, 0, none⟩), .agg #[.int .i64 3, .int .i64 a, .int .i64 b, .int .i64 c, .string s, .string t, vl, vm]] w fun e w' =>
      e = .returned (.bool true) ∧ BookAt w' B0 Wb xv yv bv es (· < w'.heap.size) ∧ Below B0 w w' := by
  have HBK : Hid (BookAt w B0 Wb xv yv bv es (· < w.heap.size)) := hbook
  have hWb : Wb < w.heap.size := hbook.wbB
  have hW0 : B0 ≤ Wb := hbook.wb0
  have HL : Hid (LView B0 w vl xs) := hl
  have HM : Hid (LView B0 w vm ys) := hm
  obtain ⟨lo, lc, hvl⟩ := hl.slice
  obtain ⟨mo, mc, hvm⟩ := hm.slice
  rw [hvl] at HL
  rw [hvm] at HM
  rw [hvl, hvm]
  clear hbook hl hm hvl hvm
  go_enter Tryz.func30, Tryz.ntmps30
  go_wp2_with fail
  refine (lent_any _ xs _ (by omega) ((HL.out.view hB0).kept ((Below.refl _ _).alloc (Nat.le_refl _) _))).mono ?_
  rintro e w1 ⟨rfl, o1, b1⟩
  have ob1 : w1.heap[w.heap.size]? = some (.cells #[.int .i64 3, .int .i64 a, .int .i64 b, .int .i64 c, .string s, .string t, .slice lo xs.length lc, .slice mo ys.length mc] 61 (0, 0)) := (b1.block _ (by simp)).trans (heap_alloc_new _ _)
  have c1 : Below w.heap.size w w1 := ((Below.refl _ w).alloc (Nat.le_refl _) _).trans (b1.mono (by simp))
  have p1 : Lent w1 (w.heap.size + 1) xs := by
    have h := o1
    rw [alloc_size1] at h
    exact h
  clear o1 b1
  have hs1 := c1.size
  have hp1 := p1.lt
  have k17 : w1.cell? ⟨w.heap.size, 7, none⟩ = some (.slice mo ys.length mc) := by rw [Lib.cell_of_heap ob1]; rfl
  go_wp2_with fail
  refine (lent_any _ ys _ (by omega) ((HM.out.view hB0).kept c1)).mono ?_
  rintro e w2 ⟨rfl, o2, b2⟩
  have p2 : Lent w2 w1.heap.size ys := o2
  have q1 : Lent w2 (w.heap.size + 1) xs := p1.kept (b2.block _ hp1)
  have ob2 := (b2.block _ (show w.heap.size < w1.heap.size by omega)).trans ob1
  have c2 : Below w.heap.size w w2 := c1.trans (b2.mono hs1)
  clear o2 p1 ob1 k17 c1
  have hp2 := p2.lt
  have hs2 := b2.size
  clear b2
  have k20 : w2.cell? ⟨w.heap.size, 0, none⟩ = some (.int .i64 3) := by rw [Lib.cell_of_heap ob2]; rfl
  have k24 : w2.cell? ⟨w.heap.size, 4, none⟩ = some (.string s) := by rw [Lib.cell_of_heap ob2]; rfl
  go_wp2_with fail
  refine (csum_any s _ hs).mono ?_
  rintro e w3 ⟨rfl, rfl⟩
  go_wp2_with fail
  refine (rsum_any s _ hs).mono ?_
  rintro e w3 ⟨rfl, rfl⟩
  generalize sumL s.data.toList = N at *
  generalize hw6 : w2 = w6 at *
  have bk6 : BookAt w6 B0 Wb xv yv bv es (fun q => q < w.heap.size ∨ (w6.heap.size ≤ q ∧ q < w6.heap.size)) := HBK.out.kept (fun q hq => c2.block q hq) (fun q hq => .inl hq)
  have c6 : Below B0 w w6 := c2.mono hB0
  have hl6 := c6.size
  have ob6 := ob2
  have q16 := q1
  have q26 := p2
  clear c2 ob2 q1 p2 k20 k24
  have k66 : w6.cell? ⟨w.heap.size, 6, none⟩ = some (.slice lo xs.length lc) := by rw [Lib.cell_of_heap ob6]; rfl
  have HBACK : Hid (Calls Tryz.prog 70 #[.slice (some ⟨w.heap.size + 1, 0, none⟩) (xs.length + 2) (xs.length + 2), .slice lo xs.length lc] w6 fun e w' => e = .returned (.bool true) ∧ w6.grownBy w' (some (w.heap.size + 1))) :=
    back_list (w.heap.size + 1) (w.heap.size + 1) xs _ w6 (by omega) q16 (Nat.le_refl _) ((HL.out.kept c6).view (by omega))
  go_wp2_with fail
  refine HBACK.out.mono ?_
  rintro e w7 ⟨rfl, g7⟩
  obtain ⟨c7, bk7, ob7, q27, hs7⟩ := after_back g7 c6 bk6 ob6 q26 hB0 (by omega) (by omega) (by omega) (by omega) (by omega) (by omega)
  clear g7 c6 bk6 ob6 q26 q16 k66 HBACK
  have k77 : w7.cell? ⟨w.heap.size, 7, none⟩ = some (.slice mo ys.length mc) := by rw [Lib.cell_of_heap ob7]; rfl
  have HBACK : Hid (Calls Tryz.prog 70 #[.slice (some ⟨w1.heap.size, 0, none⟩) (ys.length + 2) (ys.length + 2), .slice mo ys.length mc] w7 fun e w' => e = .returned (.bool true) ∧ w7.grownBy w' (some w1.heap.size)) :=
    back_list w1.heap.size w1.heap.size ys _ w7 (by omega) q27 (Nat.le_refl _) ((HM.out.kept c7).view (by have := c7.size; omega))
  go_wp2_with fail
  refine HBACK.out.mono ?_
  rintro e w8 ⟨rfl, g8⟩
  have c8 : Below B0 w w8 := below_back g8 c7 (by omega) (by have := c7.size; omega)
  have bk8 : BookAt w8 B0 Wb xv yv bv es (· < w8.heap.size) := bk7.kept (fun q hq => g8.block q (by rcases hq with h | h <;> omega) (fun e => by injection e with e; rcases hq with h | h <;> omega)) (fun q hq => by have := g8.size; rcases hq with h | h <;> (show q < w8.heap.size; omega))
  clear g8 c7 bk7 ob7 q27 k77 HBACK
  go_wp2
  go_ret
  exact ⟨rfl, bk8, c8⟩

set_option maxHeartbeats 4000000 in
theorem wdeltas_apply (w : World) (B0 Wb : Nat) (xv yv bv : Value) (es : List Entry) (hbook : BookAt w B0 Wb xv yv bv es (· < w.heap.size)) (hB0 : B0 ≤ w.heap.size) (a b c : Int) (s t : ByteArray) (vl vm : Value) (xs ys : List DOp)
    (hs : s.size ≤ 9223372036854775806) (hx : xs.length ≤ 4398046511000) (hy : ys.length ≤ 4398046511000) (hl : LView B0 w vl xs) (hm : LView B0 w vm ys) (hlen : ∀ o ∈ xs, o.len ≤ 9223372036854775807) (htx : ∀ o ∈ xs, o.tx.size ≤ 9223372036854770000) :
    Calls Tryz.prog 30 #[.pointer (some ⟨Wb, 0, none⟩), .agg #[.int .i64 2, .int .i64 a, .int .i64 b, .int .i64 c, .string s, .string t, vl, vm]] w fun e w' =>
      e = .returned (.bool true) ∧ BookAt w' B0 Wb xv yv bv es (· < w'.heap.size) ∧ Below B0 w w' := by
  have HN : Hid (∀ o ∈ xs, o.len ≤ 9223372036854775807) := hlen
  have HT : Hid (∀ o ∈ xs, o.tx.size ≤ 9223372036854770000) := htx
  clear hlen htx
  have HBK : Hid (BookAt w B0 Wb xv yv bv es (· < w.heap.size)) := hbook
  have hWb : Wb < w.heap.size := hbook.wbB
  have hW0 : B0 ≤ Wb := hbook.wb0
  have HL : Hid (LView B0 w vl xs) := hl
  have HM : Hid (LView B0 w vm ys) := hm
  obtain ⟨lo, lc, hvl⟩ := hl.slice
  obtain ⟨mo, mc, hvm⟩ := hm.slice
  rw [hvl] at HL
  rw [hvm] at HM
  rw [hvl, hvm]
  clear hbook hl hm hvl hvm
  go_enter Tryz.func30, Tryz.ntmps30
  go_wp2_with fail
  refine (lent_any _ xs _ (by omega) ((HL.out.view hB0).kept ((Below.refl _ _).alloc (Nat.le_refl _) _))).mono ?_
  rintro e w1 ⟨rfl, o1, b1⟩
  have ob1 : w1.heap[w.heap.size]? = some (.cells #[.int .i64 2, .int .i64 a, .int .i64 b, .int .i64 c, .string s, .string t, .slice lo xs.length lc, .slice mo ys.length mc] 61 (0, 0)) := (b1.block _ (by simp)).trans (heap_alloc_new _ _)
  have c1 : Below w.heap.size w w1 := ((Below.refl _ w).alloc (Nat.le_refl _) _).trans (b1.mono (by simp))
  have p1 : Lent w1 (w.heap.size + 1) xs := by
    have h := o1
    rw [alloc_size1] at h
    exact h
  clear o1 b1
  have hs1 := c1.size
  have hp1 := p1.lt
  have k17 : w1.cell? ⟨w.heap.size, 7, none⟩ = some (.slice mo ys.length mc) := by rw [Lib.cell_of_heap ob1]; rfl
  go_wp2_with fail
  refine (lent_any _ ys _ (by omega) ((HM.out.view hB0).kept c1)).mono ?_
  rintro e w2 ⟨rfl, o2, b2⟩
  have p2 : Lent w2 w1.heap.size ys := o2
  have q1 : Lent w2 (w.heap.size + 1) xs := p1.kept (b2.block _ hp1)
  have ob2 := (b2.block _ (show w.heap.size < w1.heap.size by omega)).trans ob1
  have c2 : Below w.heap.size w w2 := c1.trans (b2.mono hs1)
  clear o2 p1 ob1 k17 c1
  have hp2 := p2.lt
  have hs2 := b2.size
  clear b2
  have k20 : w2.cell? ⟨w.heap.size, 0, none⟩ = some (.int .i64 2) := by rw [Lib.cell_of_heap ob2]; rfl
  have k24 : w2.cell? ⟨w.heap.size, 4, none⟩ = some (.string s) := by rw [Lib.cell_of_heap ob2]; rfl
  have k26 : w2.cell? ⟨w.heap.size, 6, none⟩ = some (.slice lo xs.length lc) := by rw [Lib.cell_of_heap ob2]; rfl
  have HC : Hid (∀ W : World, W.heap = w2.heap → Calls Tryz.prog 60 #[.string s, .slice (some ⟨w.heap.size + 1, 0, none⟩) xs.length (xs.length + 2)] W fun e w' => e = .returned (.tuple #[.string (appS s xs), .int .i64 (appE s xs), .int .i64 (appP s xs)]) ∧ Below W.heap.size W w') :=
    fun W hW => capply_any (by omega) (by omega) ((own_head q1 _).heap hW) HN.out
  have hO2 : w.heap.size < w2.heap.size := by omega
  have n0 : (0 : Int) ≤ (xs.length : Int) := by omega
  have n1 : (xs.length : Int) ≤ (xs.length : Int) + 2 := by omega
  have n2 : (xs.length : Int) ≤ ((xs.length + 2 : Nat) : Int) := by omega
  have n3 : xs.length ≤ xs.length + 2 := by omega
  go_wp2
  go_region_held3 (fun w' => w'.cell? ⟨w.heap.size, 4, none⟩ = some (.string s) ∧ w'.cell? ⟨w.heap.size, 6, none⟩ = some (.slice lo xs.length lc)) (go_keep)
    (first | (go_at_call 60; refine (HC.out w2.drew rfl).mono ?_; rintro e w3 ⟨rfl, b3⟩; have e4 := (b3.cell (p := ⟨w.heap.size, 4, none⟩) hO2).trans k24; have e6 := (b3.cell (p := ⟨w.heap.size, 6, none⟩) hO2).trans k26))
  have b23 : Below w2.heap.size w2 w3 := ((Below.refl w2.heap.size w2).drew).trans b3
  have c3 : Below w.heap.size w w3 := c2.trans (b23.mono (by omega))
  have hs3 := b23.size
  clear b3
  go_wp2_with fail
  refine (rapply_any (by omega) (by omega) ((HL.out.kept (c3.mono hB0)).view (by omega)) HN.out HT.out).mono ?_
  rintro e w6 ⟨rfl, b6⟩
  have b26 : Below w2.heap.size w2 w6 := b23.trans (b6.mono hs3)
  have c26 : Below w.heap.size w w6 := c2.trans (b26.mono (by omega))
  have hs6 := b26.size
  have bk6 : BookAt w6 B0 Wb xv yv bv es (fun q => q < w.heap.size ∨ (w2.heap.size ≤ q ∧ q < w6.heap.size)) := HBK.out.kept (fun q hq => c26.block q hq) (fun q hq => .inl hq)
  have c6 : Below B0 w w6 := c26.mono hB0
  have hl6 := c6.size
  have ob6 := (b26.block _ hO2).trans ob2
  have q16 : Lent w6 (w.heap.size + 1) xs := q1.kept (b26.block _ (by omega))
  have q26 : Lent w6 w1.heap.size ys := p2.kept (b26.block _ (by omega))
  generalize appS s xs = AS at *
  generalize appE s xs = AE at *
  generalize appP s xs = AP at *
  clear c2 ob2 q1 p2 k20 k24 k26 b23 c3 b6 b26 c26 e4 e6 HC
  have k66 : w6.cell? ⟨w.heap.size, 6, none⟩ = some (.slice lo xs.length lc) := by rw [Lib.cell_of_heap ob6]; rfl
  have HBACK : Hid (Calls Tryz.prog 70 #[.slice (some ⟨w.heap.size + 1, 0, none⟩) (xs.length + 2) (xs.length + 2), .slice lo xs.length lc] w6 fun e w' => e = .returned (.bool true) ∧ w6.grownBy w' (some (w.heap.size + 1))) :=
    back_list (w.heap.size + 1) (w.heap.size + 1) xs _ w6 (by omega) q16 (Nat.le_refl _) ((HL.out.kept c6).view (by omega))
  go_wp2_with fail
  refine HBACK.out.mono ?_
  rintro e w7 ⟨rfl, g7⟩
  obtain ⟨c7, bk7, ob7, q27, hs7⟩ := after_back g7 c6 bk6 ob6 q26 hB0 (by omega) (by omega) (by omega) (by omega) (by omega) (by omega)
  clear g7 c6 bk6 ob6 q26 q16 k66 HBACK
  have k77 : w7.cell? ⟨w.heap.size, 7, none⟩ = some (.slice mo ys.length mc) := by rw [Lib.cell_of_heap ob7]; rfl
  have HBACK : Hid (Calls Tryz.prog 70 #[.slice (some ⟨w1.heap.size, 0, none⟩) (ys.length + 2) (ys.length + 2), .slice mo ys.length mc] w7 fun e w' => e = .returned (.bool true) ∧ w7.grownBy w' (some w1.heap.size)) :=
    back_list w1.heap.size w1.heap.size ys _ w7 (by omega) q27 (Nat.le_refl _) ((HM.out.kept c7).view (by have := c7.size; omega))
  go_wp2_with fail
  refine HBACK.out.mono ?_
  rintro e w8 ⟨rfl, g8⟩
  have c8 : Below B0 w w8 := below_back g8 c7 (by omega) (by have := c7.size; omega)
  have bk8 : BookAt w8 B0 Wb xv yv bv es (· < w8.heap.size) := bk7.kept (fun q hq => g8.block q (by rcases hq with h | h <;> omega) (fun e => by injection e with e; rcases hq with h | h <;> omega)) (fun q hq => by have := g8.size; rcases hq with h | h <;> (show q < w8.heap.size; omega))
  clear g8 c7 bk7 ob7 q27 k77 HBACK
  go_wp2
  go_ret
  exact ⟨rfl, bk8, c8⟩
end Go.Proofs.YtabpiaaknjcnkaaGreat
