/-
  The walk over Flipped.
-/
import Derived.Test.YtabpiaaknjcnkaaGreatKC
import Derived.Deep.RegionHeld3
namespace Go.Proofs.YtabpiaaknjcnkaaGreat
open Go.RowKit
set_option linter.unusedVariables false
set_option linter.unusedSimpArgs false
set_option maxRecDepth 100000

theorem other_byteF (c : UInt8) (p : Nat) (hp : p < 255) : ∃ x : UInt8, bits BinOp.xor IntKind.u8 (c.toNat : Int) (1 + (p : Int)) = (x.toNat : Int) ∧ x ≠ c := by
  have hlt : c.toNat ^^^ (1 + p) < 256 := Nat.xor_lt_two_pow (n := 8) c.toNat_lt (by omega)
  refine ⟨UInt8.ofNat (c.toNat ^^^ (1 + p)), ?_, ?_⟩
  · rw [UInt8.toNat_ofNat_of_lt' hlt, ← u8_xor_nat c.toNat (1 + p) c.toNat_lt (by omega)]
    rfl
  · intro e
    have e2 := congrArg UInt8.toNat e
    rw [UInt8.toNat_ofNat_of_lt' hlt] at e2
    have e3 : (1 + p) ^^^ c.toNat = 0 ^^^ c.toNat := by rw [Nat.xor_comm, e2, Nat.zero_xor]
    have := xor_cancel e3
    omega
theorem conv_byteF (W : World) (x : UInt8) : (convert 48 9 (.slice (some ⟨W.heap.size, 0, none⟩) 1 1)).run Tryz.prog ((W.alloc (.cells #[.int .u8 (x.toNat : Int)] 5)).drew) = .ok (.string ⟨#[x]⟩) ((W.alloc (.cells #[.int .u8 (x.toNat : Int)] 5)).drew) :=
  run_convert_bytes_back (P := Tryz.prog) ((W.alloc (.cells #[.int .u8 (x.toNat : Int)] 5)).drew) 48 9 5 ⟨W.heap.size, 0, none⟩ 1 [x] Tryz.underlying48 Tryz.underlying5 Tryz.underlying9 (fun j hj => by
    have : j = 0 := by simpa using hj
    subst this
    simp [Addr.add])

theorem turned_data (s : ByteArray) (k : Nat) (hk : k < s.size) (x : UInt8) : (s.extract 0 k ++ ⟨#[x]⟩ ++ s.extract (k + 1) s.size).data.toList = setAt s.data.toList k x := by
  have h2 : (s.extract (k + 1) s.size).data.toList = s.data.toList.drop (k + 1) := by
    rw [mid_data, List.take_of_length_le (by rw [List.length_drop, ← Lib.size_eq]; omega)]
  rw [ByteArray.data_append, Array.toList_append, ByteArray.data_append, Array.toList_append, h2, mid_data]
  unfold setAt
  simp

/-- A log of which a byte is another one opens as what stands ahead of it. -/
theorem flip_opens {s a b : Vlt} {vs : List Vlt} (hk : TaleOk s vs) {j n : Nat} (ha : vs[j]? = some a) (hb : vs[j + 1]? = some b) (hn : n < (logB s).size) (h1 : (logB a).size ≤ n) (h2 : n < (logB b).size) {x : UInt8} (hx : x ≠ (logB s)[n]) :
    ∃ z : Nat, (logB a).size + z < (logB s).size ∧ (∀ i, i < z → ∀ h : (logB a).size + i < (logB s).size, 128 ≤ ((logB s)[(logB a).size + i]'h).toNat) ∧ (∀ h : (logB a).size + z < (logB s).size, ((logB s)[(logB a).size + z]'h).toNat < 128) ∧
      (logB a).size ≤ (openF ((logB s).extract 0 n ++ ⟨#[x]⟩ ++ (logB s).extract (n + 1) (logB s).size)).2 ∧
      ((logB a).size + z + 1 ≤ n → openF ((logB s).extract 0 n ++ ⟨#[x]⟩ ++ (logB s).extract (n + 1) (logB s).size) = (a.ch, (logB a).size) ∧ ((logB s).extract 0 n ++ ⟨#[x]⟩ ++ (logB s).extract (n + 1) (logB s).size).data.toList.take (logB a).size = a.log) := by
  have hc : s.log[n]? = some (logB s)[n] := by
    rw [← logB_data, List.getElem?_eq_getElem (by rw [← Lib.size_eq]; exact hn)]; rfl
  have hlt := (List.getElem?_eq_some_iff.1 ha).1
  have g : ∀ i (h : i < (logB s).size), s.log[i]? = some (logB s)[i] := fun i h => by
    rw [← logB_data, List.getElem?_eq_getElem (by rw [← Lib.size_eq]; exact h)]; rfl
  obtain ⟨size, p1, p2, p3, p4, p5⟩ := told_flip hk.told ha hb hk.last (by rw [← logB_size]; exact h1) (by rw [← logB_size]; exact h2) hc hx
  obtain ⟨p6, p7⟩ := p5 _ ((turned_data (logB s) n hn x).trans (by rw [logB_data]))
  rw [← logB_size] at p2 p3 p4 p6 p7
  rw [← logB_size] at p2
  refine ⟨size - 1, by omega, fun i hi h => p3 i _ (by omega) (g _ h), fun h => p4 _ (by rw [← g _ h]; congr 1; omega), p6, fun h => ⟨p7 (by omega), ?_⟩⟩
  obtain ⟨r, er⟩ := told_pre hk.told ha (vs.length - 1 - j) s (by rw [show j + (vs.length - 1 - j) = vs.length - 1 by omega]; exact hk.last)
  rw [turned_data _ _ hn, logB_data, er]
  unfold setAt
  rw [List.take_append_of_le_length (by rw [List.length_take, List.length_append, ← logB_size]; omega), List.take_take, Nat.min_eq_left h1, logB_size, List.take_left]

set_option maxHeartbeats 16000000 in
theorem flipped_any (text : ByteArray) (v : Value) (at0 by0 : Int) (w : World) (ht : text.size ≤ 9223372036854775807) (hv : RawIn w v) (hsl : ∃ ao n cap, v = .slice ao n cap) (ha1 : -9223372036854775808 ≤ at0) (ha2 : at0 ≤ 9223372036854775807) (hb1 : -9223372036854775808 ≤ by0) (hb2 : by0 ≤ 9223372036854775807) :
    Calls Tryz.prog 8 #[.string text, v, .int .i64 at0, .int .i64 by0] w fun e w' => e = .returned (.bool true) ∧ Below w.heap.size w w' := by
  have HTO : Hid (Calls Tryz.prog 10 #[.string text, v] w (ToldPost w)) := told_any text v w ht hv
  obtain ⟨rao, rn, rcap, rfl⟩ := hsl
  clear hv
  have HPK : Hid (∀ W, Calls Tryz.prog 11 #[.int .i64 by0, .int .i64 255] W fun e w' => e = .returned (.int .i64 (pickN by0 255)) ∧ W = w') := fun W => pick_eq by0 255 W hb1 hb2 (by decide) (by decide)
  have hp := pickN_lt by0 255 (by decide)
  generalize pickN by0 255 = p0 at *
  clear hb1 hb2
  go_enter Tryz.func8, Tryz.ntmps8
  go_wp2_with fail
  refine HTO.out.mono ?_
  rintro e w1 ⟨q, p, rfl, cur, a, b, c, lv, tv, s, vs, rs, hT, hK⟩
  have HT : Hid (TaleAt w w1 q p cur a b c lv tv s vs rs) := hT
  have HK : Hid (TaleOk s vs) := hK
  have hpos := hK.pos
  have hmany := hK.many
  have k9 := hT.st.cells.2.1
  have hq := hT.st.lt
  obtain ⟨ga, ca, hav, hga, hcells⟩ := row_cell hT.st.logs (by rw [List.length_map]; exact hpos)
  rw [List.length_map] at hav
  rw [hav] at k9
  have HC : Hid (∀ (k : Nat) (v : Vlt), vs[k]? = some v → w1.cell? ⟨ga, k, none⟩ = some (.string (logB v))) := fun k v hv => hcells k _ (by rw [List.getElem?_map, List.getElem?_map, hv]; rfl)
  have HB : Hid (Below w.heap.size w w1) := hT.below
  obtain ⟨m, hm⟩ : ∃ m, vs.length = m + 1 := ⟨vs.length - 1, by omega⟩
  have HL : Hid (vs.length = m + 1) := hm
  have hlast := hK.last
  rw [hm] at k9 hmany hlast
  have HLA : Hid (vs[m]? = some s) := hlast
  have hc0 := HC.out m s hlast
  have hSz : (logB s).size ≤ 20000 := by rw [logB_size]; exact (hK.ok s hK.mem).1.log
  have hmI : IntKind.i64.wrap (m : Int) = (m : Int) := by rw [IntKind.wrap_i64]; omega
  have hmL : (m : Int) < (m : Int) + 1 := by omega
  have h00 : (logB noVault).size = 0 := rfl
  have HV0 : Hid (vs[0]? = some noVault) := hK.told.1
  clear hT hK hcells hm hpos hav hlast
  cases hemp : (logB s).toList.isEmpty
  · have hpos : 0 < (logB s).size := by
      rcases Nat.eq_zero_or_pos (logB s).size with h | h
      · have : (logB s).toList.isEmpty = true := by rw [Lib.toList_data, List.isEmpty_iff]; exact List.eq_nil_of_length_eq_zero (by rw [← Lib.size_eq]; exact h)
        rw [this] at hemp; cases hemp
      · exact h
    go_wp2
    go_quiet (fail)
    go_wp2_with fail
    refine (pick_eq at0 (logB s).size _ ha1 ha2 hpos (by omega)).mono ?_
    rintro e w2 ⟨rfl, rfl⟩
    have hnlt := pickN_lt at0 (logB s).size hpos
    generalize pickN at0 (logB s).size = n at *
    clear hc0 hmI hmL hemp
    have HT0 : Hid (TaleAt w (w1.drewN nq) q p cur a b c lv tv s vs rs) := HT.out.belowed (below_drewN0 _ _ _)
    have k90 : (w1.drewN nq).cell? ⟨q, 9, none⟩ = some (.slice (some ⟨ga, 0, none⟩) (m + 1) ca) := k9
    have HC0 : Hid (∀ (k : Nat) (v : Vlt), vs[k]? = some v → (w1.drewN nq).cell? ⟨ga, k, none⟩ = some (.string (logB v))) := HC.out
    have hq0 : q < (w1.drewN nq).heap.size := hq
    have hga0 : ga < (w1.drewN nq).heap.size := hga
    have HB0 : Hid (Below w.heap.size w (w1.drewN nq)) := below_drewN1 HB.out nq
    generalize (w1.drewN nq) = W0 at *
    clear HT HC k9 hq hga HB
    go_wp2
    go_loopw [13] (fun i wr => ∃ (j : Nat) (y : Vlt), i = .int .i64 j ∧ j ≤ m ∧ Hid (vs[j]? = some y) ∧ (logB y).size ≤ n ∧ W0 = wr) (fun i _ => m + 2 - (intOf i).toNat)
    case atStart => exact ⟨0, noVault, rfl, by omega, HV0, by rw [h00]; omega, rfl⟩
    case round =>
      obtain ⟨j, y, rfl, hj, HY, hy, rfl⟩ := hrel
      have wj1 : IntKind.i64.wrap ((j : Int) + 1) = (j : Int) + 1 := by rw [IntKind.wrap_i64]; omega
      have hjm : j < m := by
        rcases Nat.lt_or_ge j m with h | h
        · exact h
        · have e : j = m := by omega
          subst e
          have := HY.out.symm.trans HLA.out
          simp only [Option.some.injEq] at this
          subst this
          omega
      have c1 : (j : Int) + 1 < (m : Int) + 1 := by omega
      have hx := List.getElem?_eq_getElem (show j + 1 < vs.length by have := HL.out; omega)
      have y2c := HC0.out (j + 1) _ hx
      generalize hy2 : vs[j + 1]'(by have := HL.out; omega) = y2 at *
      have HY2 : Hid (vs[j + 1]? = some y2) := hx
      clear hx hy2
      by_cases hle : (logB y2).size ≤ n
      · have hleI : ((logB y2).size : Int) ≤ (n : Int) := by omega
        go_wp2
        go_roundw
        case rel => exact ⟨j + 1, y2, by go_num, by omega, HY2, hle, by first | rfl | trivial⟩
        case measure => simp [intOf]; omega
      · have hleI : ¬ ((logB y2).size : Int) ≤ (n : Int) := by omega
        obtain ⟨x, hbx, hxn⟩ := other_byteF (logB s)[n] p0 hp
        obtain ⟨z, z1, z2, z3, z4, z5⟩ := flip_opens HK.out HY.out HY2.out hnlt hy (by omega) hxn
        have yc := HC0.out j y HY.out
        have HYO : Hid (y.Ok ∧ ChOk y.ch) := HK.out.ok y (List.mem_of_getElem? HY.out)
        have HZ2 : Hid (∀ i, i < z → ∀ h : (logB y).size + i < (logB s).size, 128 ≤ ((logB s)[(logB y).size + i]'h).toNat) := z2
        have HZ3 : Hid (∀ h : (logB y).size + z < (logB s).size, ((logB s)[(logB y).size + z]'h).toNat < 128) := z3
        have hjL : (j : Int) < (m : Int) + 1 := by omega
        generalize hTL : (logB s).extract 0 n ++ ⟨#[x]⟩ ++ (logB s).extract (n + 1) (logB s).size = TL at *
        have HTL : Hid ((logB s).extract 0 n ++ ⟨#[x]⟩ ++ (logB s).extract (n + 1) (logB s).size = TL) := hTL
        have HZ4 : Hid ((logB y).size ≤ (openF TL).2 ∧ ((logB y).size + z + 1 ≤ n → openF TL = (y.ch, (logB y).size) ∧ TL.data.toList.take (logB y).size = y.log)) := ⟨z4, z5⟩
        clear z2 z3 z4 z5 hTL
        go_wp2
        clear y2c hleI hle HY2 c1 wj1
        go_loopw [15] (fun i wr => ∃ (g : Nat), i = .int .i64 ((g : Int) + 1) ∧ g ≤ z ∧ W0 = wr) (fun i _ => z + 2 - (intOf i).toNat)
        case atStart => exact ⟨0, rfl, by omega, rfl⟩
        case round =>
          obtain ⟨g, rfl, hg, rfl⟩ := hrel
          have hfs : (logB y).size + g < (logB s).size := by omega
          have q1 : ((logB y).size : Int) + (g : Int) < ((logB s).size : Int) := by omega
          have hfn : (0 : Int) ≤ ((logB y).size : Int) + (g : Int) := by omega
          by_cases hgz : g < z
          · have h128 : 128 ≤ ((logB s)[(logB y).size + g]'hfs).toNat := HZ2.out g hgz _
            have hI : (128 : Int) ≤ (((logB s)[(logB y).size + g]'hfs).toNat : Int) := by omega
            have wg : IntKind.i64.wrap ((g : Int) + 1 + 1) = (g : Int) + 1 + 1 := by rw [IntKind.wrap_i64]; omega
            go_wp2
            go_roundw
            case rel => exact ⟨g + 1, by go_num, by omega, by first | rfl | trivial⟩
            case measure => simp [intOf]; omega
          · have hgz' : g = z := by omega
            subst hgz'
            have h128 : ((logB s)[(logB y).size + g]'hfs).toNat < 128 := HZ3.out _
            have hI : ¬ (128 : Int) ≤ (((logB s)[(logB y).size + g]'hfs).toNat : Int) := by omega
            go_wp2
            clear q1 hfn h128 hI HZ2 HZ3 hg hgz
            have q1 : (n : Int) < ((logB s).size : Int) := by omega
            have q2 : (0 : Int) ≤ (n : Int) := by omega
            have q3 : (n : Int) ≤ ((logB s).size : Int) := by omega
            have q4 : n + 1 ≤ (logB s).size := by omega
            have q5 : (n : Int) + 1 ≤ ((logB s).size : Int) := by omega
            have q10 : (0 : Int) ≤ (n : Int) + 1 := by omega
            have q6 : IntKind.i64.wrap ((n : Int) + 1) = (n : Int) + 1 := by rw [IntKind.wrap_i64]; omega
            have q7 : IntKind.i64.wrap (1 + (p0 : Int)) = 1 + (p0 : Int) := by rw [IntKind.wrap_i64]; omega
            have q8 : IntKind.u8.wrap (1 + (p0 : Int)) = 1 + (p0 : Int) := by rw [IntKind.wrap_u8]; omega
            have q9 : (1 + (p0 : Int)) % 256 = 1 + (p0 : Int) := by omega
            have hcv : ∀ W : World, (convert 48 9 (.slice (some ⟨W.heap.size, 0, none⟩) 1 1)).run Tryz.prog ((W.alloc (.cells #[.int .u8 (x.toNat : Int)] 5)).drew) = .ok (.string ⟨#[x]⟩) ((W.alloc (.cells #[.int .u8 (x.toNat : Int)] 5)).drew) := fun W => conv_byteF W x
            have z2 : ((logB s).extract 0 n).size = n := by rw [ByteArray.size_extract]; omega
            have z3 : ((logB s).extract (n + 1) (logB s).size).size = (logB s).size - (n + 1) := by rw [ByteArray.size_extract]; omega
            have z4 : (⟨#[x]⟩ : ByteArray).size = 1 := rfl
            have hadd1 : ∀ W : World, (Op.stringOp .add ((logB s).extract 0 n) ⟨#[x]⟩).run Tryz.prog W = .ok (.string ((logB s).extract 0 n ++ ⟨#[x]⟩)) W := fun W => run_string_add_sum W _ _ (by omega)
            have hadd2 : ∀ W : World, (Op.stringOp .add ((logB s).extract 0 n ++ ⟨#[x]⟩) ((logB s).extract (n + 1) (logB s).size)).run Tryz.prog W = .ok (.string ((logB s).extract 0 n ++ ⟨#[x]⟩ ++ (logB s).extract (n + 1) (logB s).size)) W := fun W => run_string_add_sum W _ _ (by rw [ByteArray.size_append]; omega)
            have HTZ : Hid (TL.size = (logB s).size) := by
              unfold Hid; rw [← HTL.out, ByteArray.size_append, ByteArray.size_append]; omega
            clear z2 z3 z4
            have HOP : Hid (∀ W : World, Calls Tryz.prog 12 #[.string ((logB s).extract 0 n ++ ⟨#[x]⟩ ++ (logB s).extract (n + 1) (logB s).size)] W fun e w' => ∃ (kept : Nat) (lv3 : Value) (tv3 : Nat → Value) (ch' : Nat → Chn), e = .returned (.tuple #[.pointer (some ⟨W.heap.size, 0, none⟩), .int .i64 0, .int .i64 kept]) ∧ kept ≤ 20000 ∧ Hid (openF TL = (ch', kept)) ∧ Hid (VaultAt w' W.heap.size lv3 tv3 ⟨TL.data.toList.take kept, ch'⟩) ∧ Hid (Below W.heap.size W w')) := fun W => by
              rw [HTL.out]
              refine (copen_any TL W (by rw [HTZ.out]; omega)).mono ?_
              rintro e w3 ⟨hcase, b3⟩
              rcases hcase with ⟨hbad, _⟩ | ⟨_, n', ch', lv3, tv3, hO, hn', hok', rfl, hv3, hf3⟩
              · have := HTZ.out; omega
              · exact ⟨n', lv3, tv3, ch', rfl, by have := HTZ.out; omega, hO, hv3, b3⟩
            go_region_with (first | (go_at_call 11; refine (HPK.out _).mono ?_; rintro e w' ⟨rfl, rfl⟩) | (go_at_call 12; refine (HOP.out _).mono ?_; rintro e w3 ⟨kept, lv3, tv3, ch', rfl, hkb, HO3, HV3, HB3⟩))
            all_goals
              have hPW : (W0.alloc (Obj.cells #[Value.int .u8 (x.toNat : Int)] 5)).drew.heap.size = W0.heap.size + 1 := by simp
              have HB4 : Hid (Below W0.heap.size W0 w3) := (((Below.refl W0.heap.size W0).alloc (Nat.le_refl _) _).drew).trans (HB3.out.mono (by rw [hPW]; omega))
              have hv3 := HV3.out
              rw [hPW] at hv3
              have HT3 : Hid (TaleAt w w3 q p cur a b c lv tv s vs rs) := HT0.out.belowed HB4.out
              have k93 := (HB4.out.cell (p := ⟨q, 9, none⟩) hq0).trans k90
              have yc3 := (HB4.out.cell (p := ⟨ga, j, none⟩) hga0).trans yc
              have hq3 : q < w3.heap.size := Nat.lt_of_lt_of_le hq0 HB4.out.size
              have hga3 : ga < w3.heap.size := Nat.lt_of_lt_of_le hga0 HB4.out.size
              have HR3 : Hid (Below w.heap.size w w3) := HB0.out.trans (HB4.out.mono HB0.out.size)
              have hfr : (logB y).size ≤ kept := by have := HZ4.out.1; rw [HO3.out] at this; exact this
              have wsz : IntKind.i64.wrap (((logB y).size : Int) + ((g : Int) + 1)) = ((logB y).size : Int) + ((g : Int) + 1) := by rw [IntKind.wrap_i64]; omega
              generalize hP3 : W0.heap.size + 1 = P3 at *
              clear HOP HB3 HV3 HTZ hadd1 hadd2 hcv q3 q4 q5 q6 q7 q8 q9 q10 hPW HT0 HC0 HPK hbx HB4 HTL
              by_cases hcs : (logB y).size + g + 1 ≤ n
              · obtain ⟨o1, o2⟩ := HZ4.out.2 hcs
                rw [HO3.out] at o1
                simp only [Prod.mk.injEq] at o1
                obtain ⟨e1, e2⟩ := o1
                subst e1
                subst e2
                rw [o2] at hv3
                have HV3 : Hid (VaultAt w3 P3 lv3 tv3 y) := hv3
                have hnc : ¬ (n : Int) < ((logB y).size : Int) + ((g : Int) + 1) := by omega
                have HH : Hid (Calls Tryz.prog 14 #[.pointer (some ⟨q, 0, none⟩), .pointer (some ⟨P3, 0, none⟩), .int .i64 j] w3 fun e w' => e = .returned (.bool true) ∧ Below w3.heap.size w3 w') := tale_holds HT3.out HK.out hv3 HYO.out.1 HY.out (fun i _ => rfl)
                have HLG : Hid (∀ W, Below w3.heap.size w3 W → Calls Tryz.prog 13 #[.pointer (some ⟨P3, 0, none⟩)] W fun e w' => e = .returned (.string (logB y)) ∧ W = w') := fun W hW => clog_any P3 lv3 tv3 y W (HV3.out.below hW)
                clear hv3 o2 HZ4 HO3 hcs
                generalize hly : logB y = LY at *
                go_wp2_with fail
                refine HH.out.mono ?_
                rintro e w5 ⟨rfl, b5⟩
                have k95 := (b5.cell (p := ⟨q, 9, none⟩) hq3).trans k93
                have yc5 := (b5.cell (p := ⟨ga, j, none⟩) hga3).trans yc3
                have HB5 : Hid (Below w3.heap.size w3 w5) := b5
                have HR5 : Hid (Below w.heap.size w w5) := HR3.out.trans (b5.mono HR3.out.size)
                clear b5 k93 yc3
                go_wp2_with fail
                have HLG5 : Hid (Calls Tryz.prog 13 #[.pointer (some ⟨P3, 0, none⟩)] (w5.drewN 1) fun e w' => e = .returned (.string LY) ∧ w5.drewN 1 = w') := HLG.out _ (below_drewN1 HB5.out 1)
                clear HLG HH HB5
                go_region_held3 (fun w' => w'.cell? ⟨q, 9, none⟩ = some (.slice (some ⟨ga, 0, none⟩) (m + 1) ca) ∧ w'.cell? ⟨ga, j, none⟩ = some (.string LY)) (go_keep)
                  (first | (go_at_call 13; refine HLG5.out.mono ?_; rintro e w4 ⟨rfl, rfl⟩; have e0 := k95; have e1 := yc5))
                all_goals
                  go_wp2
                  go_ret
                  exact ⟨rfl, below_drewN1 HR5.out _⟩
              · have hnc : (n : Int) < ((logB y).size : Int) + ((g : Int) + 1) := by omega
                have hkI : ((logB y).size : Int) ≤ (kept : Int) := by omega
                go_wp2
                go_ret
                exact ⟨rfl, HR3.out⟩
  · go_wp2
    go_quiet (fail)
    go_wp2
    go_ret
    exact ⟨rfl, below_drewN1 HB.out nq⟩
end Go.Proofs.YtabpiaaknjcnkaaGreat
