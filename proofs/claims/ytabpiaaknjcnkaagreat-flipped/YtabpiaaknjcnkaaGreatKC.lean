/-
  The walk over Cut.
-/
import Derived.Test.YtabpiaaknjcnkaaGreatXWKOIT8K3
import Derived.Test.YtabpiaaknjcnkaaGreatXVLVM
namespace Go.Proofs.YtabpiaaknjcnkaaGreat
open Go.RowKit
set_option linter.unusedVariables false
set_option linter.unusedSimpArgs false
set_option maxRecDepth 100000

/-- A log that is cut off opens as one of the vaults. -/
theorem cut_opens {s a : Vlt} {vs : List Vlt} (hk : TaleOk s vs) {j n : Nat} (ha : vs[j]? = some a) (hn : n ≤ (logB s).size) (h1 : (logB a).size ≤ n) (h2 : ∀ b, vs[j + 1]? = some b → n < (logB b).size) :
    openF ((logB s).extract 0 n) = (a.ch, (logB a).size) ∧ ((logB s).extract 0 n).data.toList.take (logB a).size = a.log ∧ ((logB s).extract 0 n).size = n := by
  rw [logB_size] at h1 hn
  have hd : ((logB s).extract 0 n).data.toList = s.log.take n := by rw [mid_data, logB_data, List.drop_zero, Nat.sub_zero]
  have hlt := (List.getElem?_eq_some_iff.1 ha).1
  refine ⟨?_, ?_, ?_⟩
  · rw [logB_size]
    exact told_cut hk.told ha hk.last hn h1 (fun b hb => by have := h2 b hb; rw [logB_size] at this; exact this) hd
  · obtain ⟨r, er⟩ := told_pre hk.told ha (vs.length - 1 - j) s (by rw [show j + (vs.length - 1 - j) = vs.length - 1 by omega]; exact hk.last)
    rw [hd, logB_size, List.take_take, er, Nat.min_eq_left h1, List.take_left]
  · rw [Lib.size_eq, hd, List.length_take]; omega
theorem tale_less {s a : Vlt} {vs : List Vlt} (hk : TaleOk s vs) {j : Nat} (ha : vs[j]? = some a) : a.log.length ≤ 10800 := by
  have hlt := (List.getElem?_eq_some_iff.1 ha).1
  obtain ⟨r, er⟩ := told_pre hk.told ha (vs.length - 1 - j) s (by rw [show j + (vs.length - 1 - j) = vs.length - 1 by omega]; exact hk.last)
  have h1 := hk.logs
  have h2 := hk.many
  have := congrArg List.length er
  rw [List.length_append] at this
  omega
/-- A short text more, behind a tale's vault. -/
theorem one_more {s a : Vlt} {vs : List Vlt} (hk : TaleOk s vs) {j : Nat} (ha : vs[j]? = some a) (T : ByteArray) (hT : T.size = 8) : putE a 3 T = 0 ∧ putN a 3 T = (((a.ch 3).last + 1 : Nat) : Int) ∧ putS a 3 T = a.put 3 T ∧ getE (a.put 3 T) 3 (((a.ch 3).last + 1 : Nat) : Int) = 0 ∧ getT (a.put 3 T) 3 (((a.ch 3).last + 1 : Nat) : Int) = T := by
  have h1 := tale_less hk ha
  have h2 := hk.nums a (List.mem_of_getElem? ha) 3
  have h3 := hk.many
  have hl := (recL_len (b := bodyF 3 T.data.toList) (by have := (bodyF_len 3 T (by omega) (by omega)).2; omega)).1
  have hb := (bodyF_len 3 T (by omega) (by omega)).2
  have hE : putE a 3 T = 0 := by
    unfold putE
    rw [if_neg (by omega), if_neg (by omega), if_neg]
    rintro (h | h)
    · have : (3 : Int).toNat = 3 := rfl
      rw [this] at h; omega
    · have : (3 : Int).toNat = 3 := rfl
      rw [this] at h; omega
  have hc : (a.put 3 T).ch 3 = ⟨(a.ch 3).gone, (a.ch 3).texts ++ [T]⟩ := by simp [Vlt.put]
  have hg := getT_at (s := a.put 3 T) (c := 3) (i := (a.ch 3).texts.length) (z := (((a.ch 3).last + 1 : Nat) : Int)) (t := T) (by omega) (by rw [hc]; unfold Chn.last; simp only; omega) (by rw [hc]; simp)
  refine ⟨hE, ?_, ?_, hg.1, hg.2⟩
  · unfold putN; rw [if_pos hE]; rfl
  · unfold putS; rw [if_pos hE]; rfl

set_option maxHeartbeats 16000000 in
theorem cut_any (text : ByteArray) (v : Value) (at0 : Int) (w : World) (ht : text.size ≤ 9223372036854775807) (hv : RawIn w v) (hsl : ∃ ao n cap, v = .slice ao n cap) (ha1 : -9223372036854775808 ≤ at0) (ha2 : at0 ≤ 9223372036854775807) :
    Calls Tryz.prog 7 #[.string text, v, .int .i64 at0] w fun e w' => e = .returned (.bool true) ∧ Below w.heap.size w w' := by
  have HTO : Hid (Calls Tryz.prog 10 #[.string text, v] w (ToldPost w)) := told_any text v w ht hv
  obtain ⟨rao, rn, rcap, rfl⟩ := hsl
  clear hv
  go_enter Tryz.func7, Tryz.ntmps7
  go_wp2_with fail
  refine HTO.out.mono ?_
  rintro e w1 ⟨q, p, rfl, cur, a, b, c, lv, tv, s, vs, rs, hT, hK⟩
  have HT : Hid (TaleAt w w1 q p cur a b c lv tv s vs rs) := hT
  have HK : Hid (TaleOk s vs) := hK
  have hpos := hK.pos
  have hmany := hK.many
  have k9 := hT.st.cells.2.1
  have hq := hT.st.lt
  obtain ⟨ga, ca, hav, hga, hcells⟩ := row_cell hT.st.logs (by rw [List.length_map]; exact hpos)
  rw [List.length_map] at hav
  rw [hav] at k9
  have HC : Hid (∀ (k : Nat) (v : Vlt), vs[k]? = some v → w1.cell? ⟨ga, k, none⟩ = some (.string (logB v))) := fun k v hv => hcells k _ (by rw [List.getElem?_map, List.getElem?_map, hv]; rfl)
  have HB : Hid (Below w.heap.size w w1) := hT.below
  have k10 := hT.st.cells.2.2.1
  have k11 := hT.st.cells.2.2.2.1
  obtain ⟨gb, bc, hbv, hgb, hcb⟩ := row_cell hT.st.firsts (by rw [List.length_map]; exact hpos)
  obtain ⟨gc, cc, hcv, hgc, hcc⟩ := row_cell hT.st.all (by rw [hT.len]; exact hpos)
  rw [List.length_map] at hbv
  rw [hT.len] at hcv
  rw [hbv] at k10
  rw [hcv] at k11
  have HFB : Hid (∀ (k : Nat) (y : Vlt), vs[k]? = some y → w1.cell? ⟨gb, k * 4 + 3, none⟩ = some (.int .i64 (firstsOf y 3))) := fun k y hy => hcb _ _ (by
    rw [four_cell (f := i4) (fun _ => rfl) (vs.map firstsOf) k 3 (firstsOf y) (by rw [List.getElem?_map, hy]; rfl) (by omega)]; rfl)
  have HRC : Hid (∀ (k : Nat) (y : Vlt), vs[k]? = some y → ∃ ro rcp, w1.cell? ⟨gc, k * 4 + 3, none⟩ = some (.slice ro (y.ch 3).texts.length rcp)) := fun k y hy => by
    have hlt := (List.getElem?_eq_some_iff.1 hy).1
    have hl := hT.len
    obtain ⟨r, hr⟩ : ∃ r, rs[k]? = some r := ⟨rs[k]'(by omega), List.getElem?_eq_getElem (by omega)⟩
    obtain ⟨ro, rcp, he, _⟩ := (hT.ahead k y r hy hr 3 (by omega)).1
    refine ⟨ro, rcp, ?_⟩
    have h4 := hcc (k * 4 + 3) (r 3) (by rw [four_cell (f := s4) (fun _ => rfl) rs k 3 r hr (by omega)]; rfl)
    rw [h4, he]
  obtain ⟨m, hm⟩ : ∃ m, vs.length = m + 1 := ⟨vs.length - 1, by omega⟩
  have HL : Hid (vs.length = m + 1) := hm
  have hlast := hK.last
  rw [hm] at k9 k10 k11 hmany hlast
  have hc0 := HC.out m s hlast
  have hSz : (logB s).size ≤ 20000 := by rw [logB_size]; exact (hK.ok s hK.mem).1.log
  have hmI : IntKind.i64.wrap (m : Int) = (m : Int) := by rw [IntKind.wrap_i64]; omega
  have hmL : (m : Int) < (m : Int) + 1 := by omega
  obtain ⟨S1, hS1⟩ : ∃ S1, S1 = (logB s).size + 1 := ⟨_, rfl⟩
  have wS1 : IntKind.i64.wrap (((logB s).size : Int) + 1) = (S1 : Int) := by rw [IntKind.wrap_i64]; omega
  have HS1 : Hid (S1 = (logB s).size + 1) := hS1
  have hS1p : 0 < S1 := by omega
  have hS1b : S1 ≤ 20001 := by omega
  have h00 : (logB noVault).size = 0 := rfl
  have HV0 : Hid (vs[0]? = some noVault) := hK.told.1
  clear hT hK hcells hm hpos hav hlast hS1 hcb hcc hbv hcv
  go_wp2
  go_quiet (fail)
  go_wp2_with fail
  refine (pick_eq at0 S1 _ ha1 ha2 hS1p (by omega)).mono ?_
  rintro e w2 ⟨rfl, rfl⟩
  have hnlt := pickN_lt at0 S1 hS1p
  generalize pickN at0 S1 = n at *
  have hnS : n ≤ (logB s).size := by have := HS1.out; omega
  clear hc0 hmI hmL
  have HT0 : Hid (TaleAt w (w1.drewN nq) q p cur a b c lv tv s vs rs) := HT.out.belowed (below_drewN0 _ _ _)
  have k90 : (w1.drewN nq).cell? ⟨q, 9, none⟩ = some (.slice (some ⟨ga, 0, none⟩) (m + 1) ca) := k9
  have HC0 : Hid (∀ (k : Nat) (v : Vlt), vs[k]? = some v → (w1.drewN nq).cell? ⟨ga, k, none⟩ = some (.string (logB v))) := HC.out
  have hq0 : q < (w1.drewN nq).heap.size := hq
  have hga0 : ga < (w1.drewN nq).heap.size := hga
  have k100 : (w1.drewN nq).cell? ⟨q, 10, none⟩ = some (.slice (some ⟨gb, 0, none⟩) (m + 1) bc) := k10
  have k110 : (w1.drewN nq).cell? ⟨q, 11, none⟩ = some (.slice (some ⟨gc, 0, none⟩) (m + 1) cc) := k11
  have HFB0 : Hid (∀ (k : Nat) (y : Vlt), vs[k]? = some y → (w1.drewN nq).cell? ⟨gb, k * 4 + 3, none⟩ = some (.int .i64 (firstsOf y 3))) := HFB.out
  have HRC0 : Hid (∀ (k : Nat) (y : Vlt), vs[k]? = some y → ∃ ro rcp, (w1.drewN nq).cell? ⟨gc, k * 4 + 3, none⟩ = some (.slice ro (y.ch 3).texts.length rcp)) := HRC.out
  have hgb0 : gb < (w1.drewN nq).heap.size := hgb
  have hgc0 : gc < (w1.drewN nq).heap.size := hgc
  have HB0 : Hid (Below w.heap.size w (w1.drewN nq)) := below_drewN1 HB.out nq
  generalize (w1.drewN nq) = W0 at *
  clear HT HC k9 k10 k11 HFB HRC hq hga hgb hgc HB
  go_wp2
  go_loopw [11] (fun i wr => ∃ (j : Nat) (y : Vlt), i = .int .i64 j ∧ j ≤ m ∧ Hid (vs[j]? = some y) ∧ (logB y).size ≤ n ∧ W0 = wr) (fun i _ => m + 2 - (intOf i).toNat)
  case atStart => exact ⟨0, noVault, rfl, by omega, HV0, by rw [h00]; omega, rfl⟩
  case round =>
    obtain ⟨j, y, rfl, hj, HY, hy, rfl⟩ := hrel
    have wj1 : IntKind.i64.wrap ((j : Int) + 1) = (j : Int) + 1 := by rw [IntKind.wrap_i64]; omega
    by_cases hjm : j < m
    · have c1 : (j : Int) + 1 < (m : Int) + 1 := by omega
      have hx := List.getElem?_eq_getElem (show j + 1 < vs.length by have := HL.out; omega)
      have y2c := HC0.out (j + 1) _ hx
      generalize hy2 : vs[j + 1]'(by have := HL.out; omega) = y2 at *
      have HY2 : Hid (vs[j + 1]? = some y2) := hx
      clear hx hy2
      by_cases hle : (logB y2).size ≤ n
      · have hleI : ((logB y2).size : Int) ≤ (n : Int) := by omega
        go_wp2
        go_roundw
        case rel => exact ⟨j + 1, y2, by go_num, by omega, HY2, hle, by first | rfl | trivial⟩
        case measure => simp [intOf]; omega
      · have hleI : ¬ ((logB y2).size : Int) ≤ (n : Int) := by omega
        have HNX : Hid (∀ b, vs[j + 1]? = some b → n < (logB b).size) := fun b hb => by
          rw [HY2.out] at hb
          simp only [Option.some.injEq] at hb
          subst hb; omega
        obtain ⟨o1, o2, o3⟩ := cut_opens HK.out HY.out hnS hy HNX.out
        have HO : Hid (openF ((logB s).extract 0 n) = (y.ch, (logB y).size) ∧ ((logB s).extract 0 n).data.toList.take (logB y).size = y.log) := ⟨o1, o2⟩
        have yc := HC0.out j y HY.out
        have HYO : Hid (y.Ok ∧ ChOk y.ch) := HK.out.ok y (List.mem_of_getElem? HY.out)
        have hnI : (n : Int) ≤ ((logB s).size : Int) := by omega
        have hX : ((logB s).extract 0 n).size ≤ 9223372036854775807 := by omega
        have HX2 : Hid (¬ 20000 < ((logB s).extract 0 n).size) := by unfold Hid; omega
        clear o1 o2 o3
        go_wp2_with fail
        refine (copen_any _ _ hX).mono ?_
        rintro e w3 ⟨hcase, b3⟩
        rcases hcase with ⟨hbad, _⟩ | ⟨_, n', ch', lv3, tv3, hO, hn', hok', rfl, hv3, hf3⟩
        · exact absurd hbad HX2.out
        · rw [HO.out.1] at hO
          simp only [Prod.mk.injEq] at hO
          obtain ⟨e1, e2⟩ := hO
          subst e1; subst e2
          rw [HO.out.2] at hv3
          have HV3 : Hid (VaultAt w3 W0.heap.size lv3 tv3 y) := hv3
          have HT3 : Hid (TaleAt w w3 q p cur a b c lv tv s vs rs) := HT0.out.belowed b3
          have k93 := (b3.cell (p := ⟨q, 9, none⟩) hq0).trans k90
          have yc3 := (b3.cell (p := ⟨ga, j, none⟩) hga0).trans yc
          have fb0 := HFB0.out j y HY.out
          obtain ⟨ro, rcp, rc0⟩ := HRC0.out j y HY.out
          have hjL : (j : Int) < (m : Int) + 1 := by omega
          have HLG : Hid (Calls Tryz.prog 13 #[.pointer (some ⟨W0.heap.size, 0, none⟩)] (w3.drewN 1) fun e w' => e = .returned (.string (logB y)) ∧ w3.drewN 1 = w') := clog_any W0.heap.size lv3 tv3 y (w3.drewN 1) (hv3.drewN 1)
          have HH : Hid (Calls Tryz.prog 14 #[.pointer (some ⟨q, 0, none⟩), .pointer (some ⟨W0.heap.size, 0, none⟩), .int .i64 j] (w3.drewN 1) fun e w' => e = .returned (.bool true) ∧ Below (w3.drewN 1).heap.size (w3.drewN 1) w') := tale_holds (HT3.out.belowed (below_drewN0 _ _ 1)) HK.out (hv3.drewN 1) HYO.out.1 HY.out (fun i _ => rfl)
          have HM1 : Hid (∀ T : ByteArray, T.size = 8 → putE y 3 T = 0 ∧ putN y 3 T = (((y.ch 3).last + 1 : Nat) : Int) ∧ putS y 3 T = y.put 3 T ∧ getE (y.put 3 T) 3 (((y.ch 3).last + 1 : Nat) : Int) = 0 ∧ getT (y.put 3 T) 3 (((y.ch 3).last + 1 : Nat) : Int) = T) := fun T hT => one_more HK.out HY.out T hT
          have HBK : Hid (∀ (T : ByteArray) (W : World), T.size = 8 → Below w3.heap.size w3 W → Calls Tryz.prog 15 #[.pointer (some ⟨W0.heap.size, 0, none⟩), .int .i64 3, .string T] W fun e w' => e = .returned (.tuple #[.int .i64 (((y.ch 3).last + 1 : Nat) : Int), .int .i64 0]) ∧ Hid (Moves W0.heap.size lv3 tv3 (y.put 3 T) W w')) := fun T W hT hW => by
            have := cbackup_any W0.heap.size 3 lv3 tv3 y T W (hv3.below hW) HYO.out.1 (by omega)
            obtain ⟨x1, x2, x3, _⟩ := HM1.out T hT
            rw [x1, x2, x3] at this
            exact this
          have HRS : Hid (∀ (T : ByteArray) (W : World) (lv6 : Value) (tv6 : Nat → Value), T.size = 8 → VaultAt W W0.heap.size lv6 tv6 (y.put 3 T) → Calls Tryz.prog 16 #[.pointer (some ⟨W0.heap.size, 0, none⟩), .int .i64 3, .int .i64 (((y.ch 3).last + 1 : Nat) : Int)] W fun e w' => e = .returned (.tuple #[.string T, .int .i64 0]) ∧ Below W.heap.size W w') := fun T W lv6 tv6 hT hW => by
            obtain ⟨x1, x2, x3, x4, x5⟩ := HM1.out T hT
            have hok := putS_ok HYO.out.1 3 T
            rw [x3] at hok
            have := crestore_any W0.heap.size 3 (((y.ch 3).last + 1 : Nat) : Int) lv6 tv6 (y.put 3 T) W hW hok
            rw [x4, x5] at this
            exact this
          have HFI : Hid ((y.ch 3).last = (y.ch 3).gone + (y.ch 3).texts.length ∧ ((y.ch 3).texts.length = 0 → (y.ch 3).gone = 0) ∧ (0 < (y.ch 3).texts.length → firstsOf y 3 = (y.ch 3).gone + 1) ∧ (y.ch 3).last ≤ 24) := ⟨rfl, fun h => HYO.out.1.none 3 (List.eq_nil_of_length_eq_zero h), fun h => by unfold firstsOf firstN; rw [if_neg (List.ne_nil_of_length_pos h)], by have h1 := HK.out.nums y (List.mem_of_getElem? HY.out) 3; have h2 := HK.out.many; omega⟩
          have HF3 : Hid (∀ g, foot W0.heap.size lv3 tv3 g → W0.heap.size ≤ g) := hf3
          have HB3 : Hid (Below W0.heap.size W0 w3) := b3
          have HB03 : Hid (Below w.heap.size w w3) := HB0.out.trans (b3.mono HB0.out.size)
          have hwP := HB0.out.size
          generalize hP3 : W0.heap.size = P3 at *
          generalize hly : logB y = LY at *
          generalize hla : (y.ch 3).last + 1 = N1 at *
          generalize hL3 : (y.ch 3).texts.length = L3 at *
          generalize hF1 : firstsOf y 3 = F1 at *
          have HN1 : Hid ((L3 = 0 → N1 = 1) ∧ (0 < L3 → N1 = F1 + L3) ∧ N1 ≤ 25) := by
            obtain ⟨x1, x2, x3, x4⟩ := HFI.out
            exact ⟨fun h => by have := x2 h; omega, fun h => by have := x3 h; omega, by omega⟩
          clear hv3 hf3 hok' b3 HO HX2 hX hnI hly hla hL3 hF1 HM1 HFI HRC0 HFB0 HYO
          have HP3 : Hid (W0.heap.size = P3) := hP3
          clear hP3
          go_wp2_with fail
          go_region_held3 (fun w' => w'.cell? ⟨q, 9, none⟩ = some (.slice (some ⟨ga, 0, none⟩) (m + 1) ca) ∧ w'.cell? ⟨ga, j, none⟩ = some (.string LY)) (go_keep)
            (first | (go_at_call 13; refine HLG.out.mono ?_; rintro e w4 ⟨rfl, rfl⟩; have e0 := k93; have e1 := yc3))
          all_goals
            go_wp2_with fail
            refine HH.out.mono ?_
            rintro e w5 ⟨rfl, b5⟩
            have HB35 : Below w3.heap.size w3 w5 := (below_drewN0 _ _ 1).trans b5
            clear b5
            go_wp2_with fail
            refine (HBK.out _ _ ?_ HB35).mono ?_
            · rfl
            rintro e w6 ⟨rfl, HM⟩
            obtain ⟨lv6, tv6, v6, o6, n6⟩ := HM.out
            have HV6 : Hid (VaultAt w6 P3 lv6 tv6 _) := v6
            have hz3 := HB3.out.size
            have hz5 := HB35.size
            have hPP := HP3.out
            have KEEP : ∀ g, g < P3 → w6.heap[g]? = W0.heap[g]? := fun g hg => (o6.block g (by omega) (fun hf => by have := HF3.out g hf; omega)).trans ((HB35.block g (by omega)).trans (HB3.out.block g hg))
            have k116 := (World.cell?_of_block (a := ⟨q, 11, none⟩) (KEEP q hq0)).trans k110
            have k106 := (World.cell?_of_block (a := ⟨q, 10, none⟩) (KEEP q hq0)).trans k100
            have rc6 := (World.cell?_of_block (a := ⟨gc, j * 4 + 3, none⟩) (KEEP gc hgc0)).trans rc0
            have fb6 := (World.cell?_of_block (a := ⟨gb, j * 4 + 3, none⟩) (KEEP gb hgb0)).trans fb0
            have HR6 : Hid (Below w.heap.size w w6) := ⟨o6.os.trans (HB35.os.trans HB03.out.os), o6.tape.trans (HB35.tape.trans HB03.out.tape), o6.output.trans (HB35.output.trans HB03.out.output), Nat.le_trans HB03.out.size (Nat.le_trans hz5 o6.size), fun g hg => (KEEP g (by omega)).trans (HB0.out.block g hg)⟩
            clear v6 o6 n6 HM KEEP HB35 hz3 hz5 hPP k93 yc3 k90 k100 k110 rc0 fb0 yc HBK HH HLG
            by_cases h0 : L3 = 0
            · have hN : N1 = 1 := HN1.out.1 h0
              subst hN
              subst h0
              go_wp2_with fail
              refine (HRS.out _ _ lv6 tv6 ?_ HV6.out).mono ?_
              · rfl
              rintro e w7 ⟨rfl, b7⟩
              have R := HR6.out.trans (b7.mono HR6.out.size)
              clear b7
              go_wp2
              go_ret
              exact ⟨rfl, R⟩
            · have hL3I : (0 : Int) < (L3 : Int) := by omega
              have wFL : IntKind.i64.wrap ((F1 : Int) + (L3 : Int)) = (N1 : Int) := by
                have h1 := HN1.out.2.1 (by omega)
                have h2 := HN1.out.2.2
                rw [IntKind.wrap_i64]; omega
              go_wp2_with fail
              go_quiet (fail)
              go_wp2_with fail
              refine (HRS.out _ _ lv6 tv6 ?_ (HV6.out.drewN nq)).mono ?_
              · rfl
              rintro e w7 ⟨rfl, b7⟩
              have R := (below_drewN1 HR6.out nq).trans (b7.mono HR6.out.size)
              clear b7
              go_wp2
              go_ret
              exact ⟨rfl, R⟩
    · have c1 : ¬ (j : Int) + 1 < (m : Int) + 1 := by omega
      have HNX : Hid (∀ b, vs[j + 1]? = some b → n < (logB b).size) := fun b hb => by
        have h1 := (List.getElem?_eq_some_iff.1 hb).1
        have := HL.out
        omega
      obtain ⟨o1, o2, o3⟩ := cut_opens HK.out HY.out hnS hy HNX.out
      have HO : Hid (openF ((logB s).extract 0 n) = (y.ch, (logB y).size) ∧ ((logB s).extract 0 n).data.toList.take (logB y).size = y.log) := ⟨o1, o2⟩
      have yc := HC0.out j y HY.out
      have HYO : Hid (y.Ok ∧ ChOk y.ch) := HK.out.ok y (List.mem_of_getElem? HY.out)
      have hnI : (n : Int) ≤ ((logB s).size : Int) := by omega
      have hX : ((logB s).extract 0 n).size ≤ 9223372036854775807 := by omega
      have HX2 : Hid (¬ 20000 < ((logB s).extract 0 n).size) := by unfold Hid; omega
      clear o1 o2 o3
      go_wp2_with fail
      refine (copen_any _ _ hX).mono ?_
      rintro e w3 ⟨hcase, b3⟩
      rcases hcase with ⟨hbad, _⟩ | ⟨_, n', ch', lv3, tv3, hO, hn', hok', rfl, hv3, hf3⟩
      · exact absurd hbad HX2.out
      · rw [HO.out.1] at hO
        simp only [Prod.mk.injEq] at hO
        obtain ⟨e1, e2⟩ := hO
        subst e1; subst e2
        rw [HO.out.2] at hv3
        have HV3 : Hid (VaultAt w3 W0.heap.size lv3 tv3 y) := hv3
        have HT3 : Hid (TaleAt w w3 q p cur a b c lv tv s vs rs) := HT0.out.belowed b3
        have k93 := (b3.cell (p := ⟨q, 9, none⟩) hq0).trans k90
        have yc3 := (b3.cell (p := ⟨ga, j, none⟩) hga0).trans yc
        have fb0 := HFB0.out j y HY.out
        obtain ⟨ro, rcp, rc0⟩ := HRC0.out j y HY.out
        have hjL : (j : Int) < (m : Int) + 1 := by omega
        have HLG : Hid (Calls Tryz.prog 13 #[.pointer (some ⟨W0.heap.size, 0, none⟩)] (w3.drewN 1) fun e w' => e = .returned (.string (logB y)) ∧ w3.drewN 1 = w') := clog_any W0.heap.size lv3 tv3 y (w3.drewN 1) (hv3.drewN 1)
        have HH : Hid (Calls Tryz.prog 14 #[.pointer (some ⟨q, 0, none⟩), .pointer (some ⟨W0.heap.size, 0, none⟩), .int .i64 j] (w3.drewN 1) fun e w' => e = .returned (.bool true) ∧ Below (w3.drewN 1).heap.size (w3.drewN 1) w') := tale_holds (HT3.out.belowed (below_drewN0 _ _ 1)) HK.out (hv3.drewN 1) HYO.out.1 HY.out (fun i _ => rfl)
        have HM1 : Hid (∀ T : ByteArray, T.size = 8 → putE y 3 T = 0 ∧ putN y 3 T = (((y.ch 3).last + 1 : Nat) : Int) ∧ putS y 3 T = y.put 3 T ∧ getE (y.put 3 T) 3 (((y.ch 3).last + 1 : Nat) : Int) = 0 ∧ getT (y.put 3 T) 3 (((y.ch 3).last + 1 : Nat) : Int) = T) := fun T hT => one_more HK.out HY.out T hT
        have HBK : Hid (∀ (T : ByteArray) (W : World), T.size = 8 → Below w3.heap.size w3 W → Calls Tryz.prog 15 #[.pointer (some ⟨W0.heap.size, 0, none⟩), .int .i64 3, .string T] W fun e w' => e = .returned (.tuple #[.int .i64 (((y.ch 3).last + 1 : Nat) : Int), .int .i64 0]) ∧ Hid (Moves W0.heap.size lv3 tv3 (y.put 3 T) W w')) := fun T W hT hW => by
          have := cbackup_any W0.heap.size 3 lv3 tv3 y T W (hv3.below hW) HYO.out.1 (by omega)
          obtain ⟨x1, x2, x3, _⟩ := HM1.out T hT
          rw [x1, x2, x3] at this
          exact this
        have HRS : Hid (∀ (T : ByteArray) (W : World) (lv6 : Value) (tv6 : Nat → Value), T.size = 8 → VaultAt W W0.heap.size lv6 tv6 (y.put 3 T) → Calls Tryz.prog 16 #[.pointer (some ⟨W0.heap.size, 0, none⟩), .int .i64 3, .int .i64 (((y.ch 3).last + 1 : Nat) : Int)] W fun e w' => e = .returned (.tuple #[.string T, .int .i64 0]) ∧ Below W.heap.size W w') := fun T W lv6 tv6 hT hW => by
          obtain ⟨x1, x2, x3, x4, x5⟩ := HM1.out T hT
          have hok := putS_ok HYO.out.1 3 T
          rw [x3] at hok
          have := crestore_any W0.heap.size 3 (((y.ch 3).last + 1 : Nat) : Int) lv6 tv6 (y.put 3 T) W hW hok
          rw [x4, x5] at this
          exact this
        have HFI : Hid ((y.ch 3).last = (y.ch 3).gone + (y.ch 3).texts.length ∧ ((y.ch 3).texts.length = 0 → (y.ch 3).gone = 0) ∧ (0 < (y.ch 3).texts.length → firstsOf y 3 = (y.ch 3).gone + 1) ∧ (y.ch 3).last ≤ 24) := ⟨rfl, fun h => HYO.out.1.none 3 (List.eq_nil_of_length_eq_zero h), fun h => by unfold firstsOf firstN; rw [if_neg (List.ne_nil_of_length_pos h)], by have h1 := HK.out.nums y (List.mem_of_getElem? HY.out) 3; have h2 := HK.out.many; omega⟩
        have HF3 : Hid (∀ g, foot W0.heap.size lv3 tv3 g → W0.heap.size ≤ g) := hf3
        have HB3 : Hid (Below W0.heap.size W0 w3) := b3
        have HB03 : Hid (Below w.heap.size w w3) := HB0.out.trans (b3.mono HB0.out.size)
        have hwP := HB0.out.size
        generalize hP3 : W0.heap.size = P3 at *
        generalize hly : logB y = LY at *
        generalize hla : (y.ch 3).last + 1 = N1 at *
        generalize hL3 : (y.ch 3).texts.length = L3 at *
        generalize hF1 : firstsOf y 3 = F1 at *
        have HN1 : Hid ((L3 = 0 → N1 = 1) ∧ (0 < L3 → N1 = F1 + L3) ∧ N1 ≤ 25) := by
          obtain ⟨x1, x2, x3, x4⟩ := HFI.out
          exact ⟨fun h => by have := x2 h; omega, fun h => by have := x3 h; omega, by omega⟩
        clear hv3 hf3 hok' b3 HO HX2 hX hnI hly hla hL3 hF1 HM1 HFI HRC0 HFB0 HYO
        have HP3 : Hid (W0.heap.size = P3) := hP3
        clear hP3
        go_wp2_with fail
        go_region_held3 (fun w' => w'.cell? ⟨q, 9, none⟩ = some (.slice (some ⟨ga, 0, none⟩) (m + 1) ca) ∧ w'.cell? ⟨ga, j, none⟩ = some (.string LY)) (go_keep)
          (first | (go_at_call 13; refine HLG.out.mono ?_; rintro e w4 ⟨rfl, rfl⟩; have e0 := k93; have e1 := yc3))
        all_goals
          go_wp2_with fail
          refine HH.out.mono ?_
          rintro e w5 ⟨rfl, b5⟩
          have HB35 : Below w3.heap.size w3 w5 := (below_drewN0 _ _ 1).trans b5
          clear b5
          go_wp2_with fail
          refine (HBK.out _ _ ?_ HB35).mono ?_
          · rfl
          rintro e w6 ⟨rfl, HM⟩
          obtain ⟨lv6, tv6, v6, o6, n6⟩ := HM.out
          have HV6 : Hid (VaultAt w6 P3 lv6 tv6 _) := v6
          have hz3 := HB3.out.size
          have hz5 := HB35.size
          have hPP := HP3.out
          have KEEP : ∀ g, g < P3 → w6.heap[g]? = W0.heap[g]? := fun g hg => (o6.block g (by omega) (fun hf => by have := HF3.out g hf; omega)).trans ((HB35.block g (by omega)).trans (HB3.out.block g hg))
          have k116 := (World.cell?_of_block (a := ⟨q, 11, none⟩) (KEEP q hq0)).trans k110
          have k106 := (World.cell?_of_block (a := ⟨q, 10, none⟩) (KEEP q hq0)).trans k100
          have rc6 := (World.cell?_of_block (a := ⟨gc, j * 4 + 3, none⟩) (KEEP gc hgc0)).trans rc0
          have fb6 := (World.cell?_of_block (a := ⟨gb, j * 4 + 3, none⟩) (KEEP gb hgb0)).trans fb0
          have HR6 : Hid (Below w.heap.size w w6) := ⟨o6.os.trans (HB35.os.trans HB03.out.os), o6.tape.trans (HB35.tape.trans HB03.out.tape), o6.output.trans (HB35.output.trans HB03.out.output), Nat.le_trans HB03.out.size (Nat.le_trans hz5 o6.size), fun g hg => (KEEP g (by omega)).trans (HB0.out.block g hg)⟩
          clear v6 o6 n6 HM KEEP HB35 hz3 hz5 hPP k93 yc3 k90 k100 k110 rc0 fb0 yc HBK HH HLG
          by_cases h0 : L3 = 0
          · have hN : N1 = 1 := HN1.out.1 h0
            subst hN
            subst h0
            go_wp2_with fail
            refine (HRS.out _ _ lv6 tv6 ?_ HV6.out).mono ?_
            · rfl
            rintro e w7 ⟨rfl, b7⟩
            have R := HR6.out.trans (b7.mono HR6.out.size)
            clear b7
            go_wp2
            go_ret
            exact ⟨rfl, R⟩
          · have hL3I : (0 : Int) < (L3 : Int) := by omega
            have wFL : IntKind.i64.wrap ((F1 : Int) + (L3 : Int)) = (N1 : Int) := by
              have h1 := HN1.out.2.1 (by omega)
              have h2 := HN1.out.2.2
              rw [IntKind.wrap_i64]; omega
            go_wp2_with fail
            go_quiet (fail)
            go_wp2_with fail
            refine (HRS.out _ _ lv6 tv6 ?_ (HV6.out.drewN nq)).mono ?_
            · rfl
            rintro e w7 ⟨rfl, b7⟩
            have R := (below_drewN1 HR6.out nq).trans (b7.mono HR6.out.size)
            clear b7
            go_wp2
            go_ret
            exact ⟨rfl, R⟩
end Go.Proofs.YtabpiaaknjcnkaaGreat
