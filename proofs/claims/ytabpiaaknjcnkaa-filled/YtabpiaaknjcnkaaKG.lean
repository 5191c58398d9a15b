/-
  The walk over Filled.
-/
import Derived.Test.YtabpiaaknjcnkaaPG
import Derived.Test.YtabpiaaknjcnkaaK2
import Derived.Test.YtabpiaaknjcnkaaV7
import Derived.Deep.OwnRows
namespace Go.Proofs.Ytabpiaaknjcnkaa
open Go.RowKit
set_option linter.unusedVariables false
set_option linter.unusedSimpArgs false
set_option maxRecDepth 100000

/-- So many zero bytes. -/
def zeros (n : Nat) : ByteArray := ⟨(List.replicate n 0).toArray⟩
theorem zeros_size (n : Nat) : (zeros n).size = n := by rw [Lib.size_eq]; simp [zeros]
theorem make_zeros (n : Nat) (hn : n ≤ 1000000) (W : World) : (Instr.makeSlice 39 (.int .i64 (n : Int)) (.int .i64 (n : Int))).run Try.prog W = .ok (.slice (some ⟨W.heap.size, 0, none⟩) n n) (W.alloc (.cells (madeCells #[.int .u8 0] n) 5)) := by
  obtain ⟨i0, hi, hz0, hz1, hz2⟩ := info_parts Try.infoByte
  exact run_make_row 39 5 i0 (.int .u8 0) Try.underlying39 hi hz0 hz1 rfl .i64 .i64 n (by rw [hz2]; omega) (by omega) W
theorem conv_zeros (n : Nat) (W : World) : (convert 39 9 (.slice (some ⟨W.heap.size, 0, none⟩) n n)).run Try.prog (W.alloc (.cells (madeCells #[.int .u8 0] n) 5)) = .ok (.string (zeros n)) (W.alloc (.cells (madeCells #[.int .u8 0] n) 5)) := by
  have hc : ∀ j, j < n → (W.alloc (.cells (madeCells #[.int .u8 0] n) 5)).cell? ⟨W.heap.size, j, none⟩ = some (.int .u8 0) := fun j hj => by
    have hb : (W.alloc (.cells (madeCells #[.int .u8 0] n) 5)).heap[W.heap.size]? = some (.cells (madeCells #[.int .u8 0] n) 5) := heap_alloc_new _ _
    rw [Lib.cell_of_heap hb]
    simp [madeCells, hj, Nat.mod_one]
  have := run_convert_bytes_back (P := Try.prog) (W.alloc (.cells (madeCells #[.int .u8 0] n) 5)) 39 9 5 ⟨W.heap.size, 0, none⟩ n (List.replicate n 0) Try.underlying39 Try.underlying5 Try.underlying9 (fun j hj => by
    rw [List.length_replicate] at hj
    have := hc j hj
    rw [show (⟨W.heap.size, 0, none⟩ : Addr).add j = ⟨W.heap.size, j, none⟩ from by unfold Addr.add; split <;> simp_all]
    rw [this, List.getElem_replicate]; rfl)
  rw [List.length_replicate] at this
  exact this
def uB (n : Nat) : ByteArray := ⟨(uN n).toArray⟩
def rB (b : ByteArray) : ByteArray := ⟨(recL b.data.toList).toArray⟩
theorem uB_data (n : Nat) : (uB n).data.toList = uN n := by simp [uB]
theorem rB_data (b : ByteArray) : (rB b).data.toList = recL b.data.toList := by simp [rB]
theorem rB_size (b : ByteArray) : (rB b).size = (recL b.data.toList).length := by rw [Lib.size_eq, rB_data]
theorem cat_data (a b : ByteArray) : (a ++ b).data.toList = a.data.toList ++ b.data.toList := by rw [ByteArray.data_append, Array.toList_append]
theorem ku_says (k : Nat) (z : Int) (hz : z = k) (hk : k < 34359738368) (W : World) : Calls Try.prog 25 #[.int .i64 z] W fun e w' => e = .returned (.string (uB k)) ∧ Below W.heap.size W w' := by rw [hz]; exact ku_any k W hk
theorem kr_says (b : ByteArray) (hb : b.size ≤ 100000) (W : World) : Calls Try.prog 24 #[.string b] W fun e w' => e = .returned (.string (rB b)) ∧ Below W.heap.size W w' := krecord_any b W hb

theorem fill_moves {w W w' : World} {p : Nat} {lv : Value} {rows : Nat → Value} {s' : Vlt} (hp : w.heap.size = p) (hB : Below p w W) (hF : ∀ q, foot p lv rows q → p ≤ q) (hM : Moves p lv rows s' W w') : ∃ lv' rows', VaultAt w' p lv' rows' s' ∧ (∀ q, foot p lv' rows' q → p ≤ q) ∧ Below p w w' := by
  obtain ⟨lv6, rows6, hv6, ho6, hf6⟩ := hM
  have hs := hB.size
  refine ⟨lv6, rows6, hv6, fun q hq => ?_, ⟨ho6.os.trans hB.os, ho6.tape.trans hB.tape, ho6.output.trans hB.output, Nat.le_trans hB.size ho6.size, fun q hq => (ho6.block q (by omega) (fun hf => by have := hF q hf; omega)).trans (hB.block q hq)⟩⟩
  rcases hf6 q hq with h | h
  · exact hF q h
  · omega

set_option maxHeartbeats 32000000 in
theorem filled_any (by0 : Int) (w : World) (hb1 : -9223372036854775808 ≤ by0) (hb2 : by0 ≤ 9223372036854775807) :
    Calls Try.prog 8 #[.int .i64 by0] w fun e w' => e = .returned (.bool true) ∧ Below w.heap.size w w' := by
  have HPK : Hid (∀ W, Calls Try.prog 16 #[.int .i64 by0, .int .i64 256] W fun e w' => e = .returned (.int .i64 (pickN by0 256)) ∧ W = w') := fun W => pick_eq by0 256 W hb1 hb2 (by decide) (by decide)
  have hc := pickN_lt by0 256 (by decide)
  generalize pickN by0 256 = c at *
  clear hb1 hb2
  have wc0 : IntKind.u8.wrap (c : Int) = (c : Int) := by rw [IntKind.wrap_u8]; omega
  obtain ⟨ZC, hZC⟩ : ∃ ZC, ZC = madeCells #[.int .u8 0] 2000 := ⟨_, rfl⟩
  obtain ⟨Z, hZ⟩ : ∃ Z, Z = zeros 2000 := ⟨_, rfl⟩
  have hmk : ∀ W : World, (Instr.makeSlice 39 (.int .i64 2000) (.int .i64 2000)).run Try.prog W = .ok (.slice (some ⟨W.heap.size, 0, none⟩) 2000 2000) (W.alloc (.cells ZC 5)) := fun W => by rw [hZC]; exact make_zeros 2000 (by omega) W
  have hcv : ∀ W : World, (convert 39 9 (.slice (some ⟨W.heap.size, 0, none⟩) 2000 2000)).run Try.prog (W.alloc (.cells ZC 5)) = .ok (.string Z) (W.alloc (.cells ZC 5)) := fun W => by rw [hZC, hZ]; exact conv_zeros 2000 W
  have hZs : Z.size = 2000 := by rw [hZ]; exact zeros_size _
  clear hZC hZ
  go_enter Try.func8, Try.ntmps8
  go_wp2_with fail
  refine (cnew_any _).mono ?_
  rintro e w1 ⟨rfl, hv1, b1⟩
  have HV1 : Hid (VaultAt w1 w.heap.size (.slice none 0 0) (fun _ => .slice none 0 0) noVault) := hv1
  have HB1 : Hid (Below w.heap.size w w1) := b1
  clear hv1 b1
  go_wp2_with fail
  refine (HPK.out _).mono ?_
  rintro e w2 ⟨rfl, rfl⟩
  have HB2 : Hid (Below w1.heap.size w1 (w1.alloc (.cells ZC 5))) := (Below.refl _ _).alloc (Nat.le_refl _) _
  generalize hW2 : w1.alloc (.cells ZC 5) = w2 at *
  clear hW2 HPK hmk hcv
  go_wp2_with fail
  refine (ku_says 0 _ rfl (by omega) _).mono ?_
  rintro e w3 ⟨rfl, b3⟩
  obtain ⟨U0, hU0⟩ : ∃ U, U = uB 0 := ⟨_, rfl⟩
  rw [← hU0]
  have zU0 : U0.size = 1 := by rw [hU0, Lib.size_eq, uB_data, uN_one (by omega)]
  obtain ⟨A1, hA1⟩ : ∃ A, A = (⟨#[70]⟩ : ByteArray) ++ U0 := ⟨_, rfl⟩
  have zA1 : A1.size = 2 := by rw [hA1, ByteArray.size_append, zU0]; rfl
  have aA1 : ∀ W : World, (Op.stringOp .add ⟨#[70]⟩ U0).run Try.prog W = .ok (.string A1) W := fun W => by rw [hA1]; exact run_string_add_sum W _ _ (by rw [zU0]; decide)
  obtain ⟨A2, hA2⟩ : ∃ A, A = A1 ++ Z := ⟨_, rfl⟩
  have zA2 : A2.size = 2002 := by rw [hA2, ByteArray.size_append, zA1, hZs]
  have aA2 : ∀ W : World, (Op.stringOp .add A1 Z).run Try.prog W = .ok (.string A2) W := fun W => by rw [hA2]; exact run_string_add_sum W _ _ (by omega)
  have HB3 : Hid (Below w1.heap.size w1 w3) := HB2.out.trans (b3.mono HB2.out.size)
  clear b3 HB2 hU0 hA1 hA2
  go_wp2_with fail
  refine (kr_says A2 (by omega) _).mono ?_
  rintro e w4 ⟨rfl, b4⟩
  obtain ⟨R, hR⟩ : ∃ R, R = rB A2 := ⟨_, rfl⟩
  rw [← hR]
  have zR : R.size = 2008 := by
    rw [hR, rB_size]
    have := recL_length A2.data.toList
    have h2 := uN_two (n := 2002) (by omega) (by omega)
    rw [← Lib.size_eq, zA2] at this
    omega
  have HB4 : Hid (Below w1.heap.size w1 w4) := HB3.out.trans (b4.mono HB3.out.size)
  have HV4 : Hid (VaultAt w4 w.heap.size (.slice none 0 0) (fun _ => .slice none 0 0) noVault) := HV1.out.below HB4.out
  have HBw : Hid (Below w.heap.size w w4) := HB1.out.trans (HB4.out.mono HB1.out.size)
  clear b4 HB3 HB4 HB1 HV1 aA1 aA2 hR zA1 zA2 zU0
  generalize hp : w.heap.size = p at *
  go_wp2_with fail
  go_loopw [4, 7] (fun tv n wr => ∃ (k : Nat) (T : ByteArray) (lv : Value) (rows : Nat → Value), tv = .string T ∧ n = .int .i64 k ∧ k ≤ 9 ∧ T.size = 2000 ∧ Hid (0 < k → T = tText c k) ∧ Hid (VaultAt wr p lv rows (fillV c k)) ∧ Hid (∀ q, foot p lv rows q → p ≤ q) ∧ Hid (Below p w wr)) (fun _ n _ => 10 - (intOf n).toNat)
  case atStart => exact ⟨0, Z, _, _, rfl, rfl, by omega, hZs, fun h => absurd h (by omega), HV4, (fun q hq => by
    rcases hq with rfl | hq | ⟨i, hi, hq⟩
    · exact Nat.le_refl _
    · cases hq
    · cases hq), HBw⟩
  case round =>
    obtain ⟨k, T, lv, rows, rfl, rfl, hk, hT, HTk, HV, HF, HB⟩ := hrel
    obtain ⟨W5, hW5⟩ : ∃ W5, W5 = wr := ⟨_, rfl⟩
    subst hW5
    obtain ⟨LG, hLG⟩ : ∃ LG, LG = (⟨(fillV c k).log.toArray⟩ : ByteArray) := ⟨_, rfl⟩
    have zLG : LG.size = 2008 * k := by rw [hLG, Lib.size_eq, ← fill_log c k]
    have HLG : Hid (Calls Try.prog 26 #[.pointer (some ⟨p, 0, none⟩)] W5 fun e w' => e = .returned (.string LG) ∧ W5 = w') := by rw [hLG]; exact clog_any p lv rows _ W5 HV.out
    have wL : IntKind.i64.wrap ((LG.size : Int) + 2008) = (LG.size : Int) + 2008 := by rw [IntKind.wrap_i64]; omega
    have HOK : Hid ((fillV c k).Ok) := fill_ok c k hk
    by_cases hlt : k ≤ 8
    · have c1 : (LG.size : Int) + 2008 ≤ 20000 := by omega
      have c2 : (k : Int) < 300 := by omega
      have HzLG : Hid (LG.size = 2008 * k) := zLG
      obtain ⟨cap, hcap⟩ : ∃ cap, cap = grownCap W5 T.size 0 5 := ⟨_, rfl⟩
      obtain ⟨cs0, hcs0⟩ : ∃ cs, cs = bytesRow T cap := ⟨_, rfl⟩
      have hbt : (convert 9 39 (.string T)).run Try.prog W5 = .ok (.slice (some ⟨W5.heap.size, 0, none⟩) 2000 cap) (W5.drew.alloc (.cells cs0 5 (cs0.size, cs0.size + 1))) := by
        have := run_bytes_of_string (P := Try.prog) W5 9 39 5 T Try.underlying9 Try.underlying39 Try.underlying5
        rw [← hcap, ← hcs0, hT] at this
        exact this
      have hcsz : 2000 ≤ cs0.size := by
        have e : T.data.size = 2000 := hT
        rw [hcs0]; unfold bytesRow; rw [Array.size_append, Array.size_map, e]; omega
      have wk : IntKind.i64.wrap ((k : Int) + 1) = (k : Int) + 1 := by rw [IntKind.wrap_i64]; omega
      clear zLG hLG hcap hcs0
      go_wp2_with fail
      refine HLG.out.mono ?_
      rintro e w5 ⟨rfl, rfl⟩
      go_wp2_with fail
      have HG0 : Hid ((W5.alloc (.cells cs0 5 (cs0.size, cs0.size + 1))).drew.heap[W5.heap.size]? = some (.cells cs0 5 (cs0.size, cs0.size + 1))) := heap_alloc_new W5 _
      have HB0 : Hid (Below W5.heap.size W5 (W5.alloc (.cells cs0 5 (cs0.size, cs0.size + 1))).drew) := ((Below.refl _ _).alloc (Nat.le_refl _) _).drew
      generalize hG : W5.heap.size = G at *
      generalize (W5.alloc (.cells cs0 5 (cs0.size, cs0.size + 1))).drew = W0 at *
      have HG : Hid (W5.heap.size = G) := hG
      clear hbt hG
      have q1 : IntKind.i64.wrap (2 * ((k : Int) + 1)) = 2 * ((k : Int) + 1) := by rw [IntKind.wrap_i64]; omega
      have q2 : IntKind.i64.wrap (2 * ((k : Int) + 1) + 1) = 2 * ((k : Int) + 1) + 1 := by rw [IntKind.wrap_i64]; omega
      have q7 : IntKind.i64.wrap ((k : Int) + 1 + 7) = (k : Int) + 1 + 7 := by rw [IntKind.wrap_i64]; omega
      go_loopw [9] (fun i wq => ∃ (j : Nat) (cs : Array Value), i = .int .i64 j ∧ j ≤ 2000 ∧ cs.size = cs0.size ∧ Hid (wq.heap[G]? = some (.cells cs 5 (cs0.size, cs0.size + 1))) ∧ Hid (∀ i, i < j → cs[i]? = some (.int .u8 (tNum c (k + 1) i : Nat))) ∧ Hid (Below G W5 wq)) (fun i _ => 2001 - (intOf i).toNat)
      case atStart => exact ⟨0, cs0, rfl, by omega, rfl, HG0, fun i hi => by omega, HB0⟩
      case round =>
        obtain ⟨j, cs, rfl, hj, hcs, HGq, HCq, HBq⟩ := hrel
        by_cases hj2 : j < 2000
        · have c3 : (j : Int) < 2000 := by omega
          obtain ⟨N1, hN1⟩ : ∃ N, N = j * (2 * (k + 1) + 1) := ⟨_, rfl⟩
          obtain ⟨N2, hN2⟩ : ∃ N, N = j / 256 * (k + 1 + 7) := ⟨_, rfl⟩
          have e1 : (j : Int) * (2 * ((k : Int) + 1) + 1) = (N1 : Int) := by rw [hN1]; push_cast; rfl
          have e2 : ((j / 256 : Nat) : Int) * ((k : Int) + 1 + 7) = (N2 : Int) := by rw [hN2]; push_cast; rfl
          have l1 : N1 ≤ 2000 * 21 := by rw [hN1]; exact Nat.mul_le_mul (by omega) (by omega)
          have l2 : N2 ≤ 8 * 17 := by rw [hN2]; exact Nat.mul_le_mul (by omega) (by omega)
          have q3 : IntKind.i64.wrap (N1 : Int) = (N1 : Int) := by rw [IntKind.wrap_i64]; omega
          have q8 : IntKind.i64.wrap (N2 : Int) = (N2 : Int) := by rw [IntKind.wrap_i64]; omega
          have u1 : IntKind.u8.wrap (N1 : Int) = ((N1 % 256 : Nat) : Int) := by rw [IntKind.wrap_u8]; omega
          have u2 : IntKind.u8.wrap (N2 : Int) = ((N2 % 256 : Nat) : Int) := by rw [IntKind.wrap_u8]; omega
          have u3 : IntKind.u8.wrap ((c : Int) + ((N1 % 256 : Nat) : Int)) = (((c + N1 % 256) % 256 : Nat) : Int) := by rw [IntKind.wrap_u8]; omega
          have u4 : IntKind.u8.wrap ((((c + N1 % 256) % 256 : Nat) : Int) + ((N2 % 256 : Nat) : Int)) = ((tNum c (k + 1) j : Nat) : Int) := by
            rw [IntKind.wrap_u8]; unfold tNum; rw [← hN1, ← hN2]; omega
          have e3 : (j : Int) / 256 * ((k : Int) + 1 + 7) = (N2 : Int) := by rw [show (j : Int) / 256 = ((j / 256 : Nat) : Int) by omega]; exact e2
          have d1 : Int.tdiv (j : Int) 256 = ((j / 256 : Nat) : Int) := by rw [Int.tdiv_eq_ediv_of_nonneg (by omega)]; rfl
          have wj : IntKind.i64.wrap ((j : Int) + 1) = (j : Int) + 1 := by rw [IntKind.wrap_i64]; omega
          obtain ⟨old, hold⟩ : ∃ u, cs[j]? = some u := ⟨cs[j]'(by omega), Array.getElem?_eq_getElem (by omega)⟩
          have kc : wr.cell? ⟨G, j, none⟩ = some old := by rw [Lib.cell_of_heap HGq.out, hold]
          have kf : wr.frozen? ⟨G, j, none⟩ = false := by
            have hx : ¬ cs0.size ≤ j := by omega
            simp [World.frozen?, HGq.out, hx]
          generalize hv1 : N1 % 256 = M1 at *
          generalize hv2 : N2 % 256 = M2 at *
          generalize hv3 : (c + M1) % 256 = M3 at *
          clear hold hN1 hN2 hv1 hv2 hv3
          have HG2 : Hid ((wr.setCell ⟨G, j, none⟩ (.int .u8 ((tNum c (k + 1) j : Nat) : Int))).heap[G]? = some (.cells (cs.setIfInBounds j (.int .u8 ((tNum c (k + 1) j : Nat) : Int))) 5 (cs0.size, cs0.size + 1))) := Lib.heap_setCell_same HGq.out _
          have HC2 : Hid (∀ i, i < j + 1 → (cs.setIfInBounds j (.int .u8 ((tNum c (k + 1) j : Nat) : Int)))[i]? = some (.int .u8 (tNum c (k + 1) i : Nat))) := fun i hi => by
            by_cases e : i = j
            · subst e; rw [Array.getElem?_setIfInBounds_self_of_lt (by omega)]
            · rw [Array.getElem?_setIfInBounds_ne (Ne.symm e)]; exact HCq.out i (by omega)
          have HB2 : Hid (Below G W5 (wr.setCell ⟨G, j, none⟩ (.int .u8 ((tNum c (k + 1) j : Nat) : Int)))) := HBq.out.setCell (p := ⟨G, j, none⟩) (Nat.le_refl _) _
          have hcs2 : (cs.setIfInBounds j (.int .u8 ((tNum c (k + 1) j : Nat) : Int))).size = cs0.size := by rw [Array.size_setIfInBounds]; exact hcs
          clear HGq HCq HBq
          go_wp2
          go_roundw
          case rel => exact ⟨j + 1, _, by go_num, by omega, hcs2, HG2, HC2, HB2⟩
          case measure => simp [intOf]; omega
        · obtain rfl : j = 2000 := by omega
          have hcv : (convert 39 9 (.slice (some ⟨G, 0, none⟩) 2000 cap)).run Try.prog wr = .ok (.string (tText c (k + 1))) wr := by
            have h2 : (tText c (k + 1)).data.toList.length = 2000 := by rw [← Lib.size_eq, tText_size]
            have := run_convert_bytes_back (P := Try.prog) wr 39 9 5 ⟨G, 0, none⟩ cap (tText c (k + 1)).data.toList Try.underlying39 Try.underlying5 Try.underlying9 (fun j hj => by
              rw [show (⟨G, 0, none⟩ : Addr).add j = ⟨G, j, none⟩ from by unfold Addr.add; split <;> simp_all, Lib.cell_of_heap HGq.out, HCq.out j (by omega)]
              congr 3
              simp only [tText_data, List.getElem_map, List.getElem_range]
              rw [UInt8.toNat_ofNat_of_lt' (tNum_lt _ _ _)])
            rw [h2] at this
            simpa using this
          have HVq : Hid (VaultAt wr p lv rows (fillV c k)) := HV.out.below (by rw [HG.out]; exact HBq.out)
          have HBw2 : Hid (Below p w wr) := HB.out.trans (HBq.out.mono (by have h1 := HB.out.size; have h2 := HG.out; omega))
          obtain ⟨f1, f2, f3⟩ := fill_put c k hlt
          obtain ⟨g1, g2⟩ := fill_get c k hlt
          obtain ⟨TT, hTT⟩ : ∃ TT, TT = tText c (k + 1) := ⟨_, rfl⟩
          rw [← hTT] at hcv f1 f2 f3 g2
          have HBK : Hid (Calls Try.prog 27 #[.pointer (some ⟨p, 0, none⟩), .int .i64 0, .string TT] wr fun e w' => e = .returned (.tuple #[.int .i64 ((k : Int) + 1), .int .i64 0]) ∧ Hid (Moves p lv rows (fillV c (k + 1)) wr w')) := by
            have := cbackup_any p 0 lv rows _ TT wr HVq.out HOK.out (by rw [hTT, tText_size]; omega)
            rw [f1, f2, f3] at this
            exact this
          have HTT : Hid (TT = tText c (k + 1)) := hTT
          have hTs : TT.size = 2000 := by rw [hTT, tText_size]
          have G1 : Hid (getE (fillV c (k + 1)) 0 ((k : Int) + 1) = 0 ∧ getT (fillV c (k + 1)) 0 ((k : Int) + 1) = TT) := ⟨g1, g2⟩
          clear f1 f2 f3 g1 g2 hTT HGq HCq HBq
          go_wp2_with fail
          refine HBK.out.mono ?_
          rintro e w6 ⟨rfl, HM⟩
          obtain ⟨lv6, rows6, hv6, ho6, hf6⟩ := HM.out
          have HV6 : Hid (VaultAt w6 p lv6 rows6 (fillV c (k + 1))) := hv6
          have HF6 : Hid (∀ q, foot p lv6 rows6 q → p ≤ q) := fun q hq => by
            rcases hf6 q hq with h | h
            · exact HF.out q h
            · have := HBw2.out.size; omega
          have HB6 : Hid (Below p w w6) := ⟨ho6.os.trans HBw2.out.os, ho6.tape.trans HBw2.out.tape, ho6.output.trans HBw2.out.output, Nat.le_trans HBw2.out.size ho6.size, fun q hq => (ho6.block q (by have := HBw2.out.size; omega) (fun hf => by have := HF.out q hf; omega)).trans (HBw2.out.block q hq)⟩
          have HRS : Hid (Calls Try.prog 28 #[.pointer (some ⟨p, 0, none⟩), .int .i64 0, .int .i64 ((k : Int) + 1)] w6 fun e w' => e = .returned (.tuple #[.string TT, .int .i64 0]) ∧ Below w6.heap.size w6 w') := by
            have := crestore_any p 0 ((k : Int) + 1) lv6 rows6 _ w6 hv6 (fill_ok c (k + 1) (by omega))
            rw [G1.out.1, G1.out.2] at this
            exact this
          clear hv6 ho6 hf6 HM HBK HVq hcv
          go_wp2_with fail
          refine HRS.out.mono ?_
          rintro e w7 ⟨rfl, b7⟩
          have HV7 : Hid (VaultAt w7 p lv6 rows6 (fillV c (k + 1))) := HV6.out.below b7
          have HB7 : Hid (Below p w w7) := HB6.out.trans (b7.mono (by have := HB6.out.size; omega))
          clear b7 HRS
          go_wp2
          go_roundw
          case rel => exact ⟨k + 1, TT, lv6, rows6, rfl, by go_num, by omega, hTs, fun _ => HTT.out, HV7, HF6, HB7⟩
          case measure => simp [intOf]; omega
    · have c1 : ¬ (LG.size : Int) + 2008 ≤ 20000 := by omega
      have c8 : (8 : Int) < (k : Int) := by omega
      have cb : decide ((LG.size : Int) + 2008 ≤ 20000) = false := decide_eq_false c1
      have hT9 := HTk.out (by omega)
      obtain ⟨x1, x2, x3, x4, x5, x6, x7, x8, x9, x10⟩ := fill_end (c := c) (k := k) (by omega)
      rw [← hT9] at x1 x2 x3 x10
      generalize fillV c k = V9 at *
      generalize V9.put 1 tX = V10 at *
      have HBK : Hid (Calls Try.prog 27 #[.pointer (some ⟨p, 0, none⟩), .int .i64 0, .string T] W5 fun e w' => e = .returned (.tuple #[.int .i64 0, .int .i64 6]) ∧ Hid (Moves p lv rows V9 W5 w')) := by
        have := cbackup_any p 0 lv rows V9 T W5 HV.out HOK.out (by omega)
        rw [x1, x2, x3] at this
        exact this
      have HBX : Hid (∀ (W : World) (lv' : Value) (rows' : Nat → Value), VaultAt W p lv' rows' V9 → Calls Try.prog 27 #[.pointer (some ⟨p, 0, none⟩), .int .i64 1, .string ⟨#[120]⟩] W fun e w' => e = .returned (.tuple #[.int .i64 1, .int .i64 0]) ∧ Hid (Moves p lv' rows' V10 W w')) := fun W lv' rows' hv => by
        have := cbackup_any p 1 lv' rows' V9 tX W hv HOK.out (by decide)
        rw [x4, x5, x6] at this
        exact this
      obtain ⟨LX, hLX⟩ : ∃ LX, LX = (⟨V10.log.toArray⟩ : ByteArray) := ⟨_, rfl⟩
      have zLX : LX.size = 18080 := by rw [hLX, Lib.size_eq, ← x8]
      have HLX : Hid (∀ (W : World) (lv' : Value) (rows' : Nat → Value), VaultAt W p lv' rows' V10 → Calls Try.prog 26 #[.pointer (some ⟨p, 0, none⟩)] W fun e w' => e = .returned (.string LX) ∧ W = w') := fun W lv' rows' hv => by rw [hLX]; exact clog_any p lv' rows' V10 W hv
      have HRX : Hid (∀ (W : World) (lv' : Value) (rows' : Nat → Value), VaultAt W p lv' rows' V10 → Calls Try.prog 28 #[.pointer (some ⟨p, 0, none⟩), .int .i64 0, .int .i64 (k : Int)] W fun e w' => e = .returned (.tuple #[.string T, .int .i64 0]) ∧ Below W.heap.size W w') := fun W lv' rows' hv => by
        have := crestore_any p 0 (k : Int) lv' rows' V10 W hv x7
        rw [x9, x10] at this
        exact this
      clear zLG hLG HTk x1 x2 x3 x4 x5 x6 x7 x8 x9 x10 hT9 hLX HOK hlt hk
      go_wp2_with fail
      refine HLG.out.mono ?_
      rintro e w5 ⟨rfl, rfl⟩
      go_wp2_with fail
      refine HBK.out.mono ?_
      rintro e w6 ⟨rfl, HM⟩
      obtain ⟨lv6, rows6, hv6, hf6, hb6⟩ := fill_moves hp HB.out HF.out HM.out
      have HV6 : Hid (VaultAt w6 p lv6 rows6 V9) := hv6
      have HF6 : Hid (∀ q, foot p lv6 rows6 q → p ≤ q) := hf6
      have HB6 : Hid (Below p w w6) := hb6
      clear hv6 hf6 hb6 HM HBK HV HF HB HLG
      go_wp2_with fail
      refine (HBX.out _ _ _ HV6.out).mono ?_
      rintro e w7 ⟨rfl, HM⟩
      obtain ⟨lv7, rows7, hv7, hf7, hb7⟩ := fill_moves hp HB6.out HF6.out HM.out
      have HV7 : Hid (VaultAt w7 p lv7 rows7 V10) := hv7
      have HB7 : Hid (Below p w w7) := hb7
      clear hv7 hf7 hb7 HM HBX HV6 HF6 HB6
      go_wp2_with fail
      refine (HLX.out _ _ _ HV7.out).mono ?_
      rintro e w8 ⟨rfl, rfl⟩
      go_wp2_with fail
      refine (ku_says 1 _ rfl (by omega) _).mono ?_
      rintro e w9 ⟨rfl, b9⟩
      obtain ⟨U1, hU1⟩ : ∃ U, U = uB 1 := ⟨_, rfl⟩
      rw [← hU1]
      have zU1 : U1.size = 1 := by rw [hU1, Lib.size_eq, uB_data, uN_one (by omega)]
      obtain ⟨A3, hA3⟩ : ∃ A, A = (⟨#[70]⟩ : ByteArray) ++ U1 := ⟨_, rfl⟩
      have zA3 : A3.size = 2 := by rw [hA3, ByteArray.size_append, zU1]; rfl
      have aA3 : ∀ W : World, (Op.stringOp .add ⟨#[70]⟩ U1).run Try.prog W = .ok (.string A3) W := fun W => by rw [hA3]; exact run_string_add_sum W _ _ (by rw [zU1]; decide)
      obtain ⟨A4, hA4⟩ : ∃ A, A = A3 ++ (⟨#[120]⟩ : ByteArray) := ⟨_, rfl⟩
      have zA4 : A4.size = 3 := by rw [hA4, ByteArray.size_append, zA3]; rfl
      have aA4 : ∀ W : World, (Op.stringOp .add A3 ⟨#[120]⟩).run Try.prog W = .ok (.string A4) W := fun W => by rw [hA4]; exact run_string_add_sum W _ _ (by rw [zA3]; decide)
      have HV9 : Hid (VaultAt w9 p lv7 rows7 V10) := HV7.out.below b9
      have HB9 : Hid (Below p w w9) := HB7.out.trans (b9.mono (by have := HB7.out.size; omega))
      clear b9 hU1 hA3 hA4 HV7 HB7
      go_wp2_with fail
      refine (kr_says A4 (by omega) _).mono ?_
      rintro e wa ⟨rfl, ba⟩
      obtain ⟨R2, hR2⟩ : ∃ R, R = rB A4 := ⟨_, rfl⟩
      rw [← hR2]
      have zR2 : R2.size = 8 := by
        rw [hR2, rB_size]
        have := recL_length A4.data.toList
        have h2 := uN_one (n := 3) (by omega)
        rw [← Lib.size_eq, zA4] at this
        omega
      have HVa : Hid (VaultAt wa p lv7 rows7 V10) := HV9.out.below ba
      have HBa : Hid (Below p w wa) := HB9.out.trans (ba.mono (by have := HB9.out.size; omega))
      clear ba hR2 HV9 HB9 aA3 aA4
      go_wp2_with fail
      refine (HRX.out _ _ _ HVa.out).mono ?_
      rintro e wb ⟨rfl, bb⟩
      have HBb : Hid (Below p w wb) := HBa.out.trans (bb.mono (by have := HBa.out.size; omega))
      clear bb
      go_wp2
      go_ret
      exact ⟨rfl, by rw [hp]; exact HBb.out⟩
end Go.Proofs.Ytabpiaaknjcnkaa
