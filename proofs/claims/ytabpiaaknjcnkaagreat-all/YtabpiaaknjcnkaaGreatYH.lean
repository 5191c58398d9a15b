/-
  The document's Backup, where there is room.
-/
import Derived.Test.YtabpiaaknjcnkaaGreatYG
namespace Go.Proofs.YtabpiaaknjcnkaaGreat
open Go.RowKit
set_option linter.unusedVariables false
set_option linter.unusedSimpArgs false
set_option maxRecDepth 100000

set_option maxHeartbeats 8000000 in
theorem ybackup_first (p n : Nat) (tv : Nat → Value) (s : Vlt) (t : ByteArray) (w : World) (hv : YAt w p tv s) (hok : s.Ok) (hn : n < 4) (ht : t.size ≤ 2000) (hf : ¬ s.full n t) (h0 : (s.ch n).texts = []) :
    Calls Tryz.prog 33 #[.pointer (some ⟨p, 0, none⟩), .int .i64 n, .string t] w fun e w' => e = .returned (.tuple #[.int .i64 (((s.ch n).last + 1 : Nat) : Int), .int .i64 0]) ∧ YMoves p tv (s.put n t) w w' := by
  have k1 := hv.cellF n hn
  have k2 := hv.cellT n hn
  have k8 := hv.cellL
  obtain ⟨ao, cap, htv, hcap, hrow⟩ := hv.row n hn
  rw [htv] at k2
  have hp := hv.lt
  have hlog := hok.log
  have hnI : (n : Int) < 4 := by omega
  have htI : ¬ (2000 : Int) < (t.size : Int) := by omega
  have HCAN : Hid (∀ W : World, Calls Tryz.prog 72 #[.agg #[.int .i64 (yF (s.ch n)), .slice ao (s.ch n).texts.length cap]] W fun e w' => e = .returned (.bool (decide ((s.ch n).last ≠ 2147483647))) ∧ Below W.heap.size W w') := fun W => yroom hok W
  have HFB : Hid (∀ W : World, Calls Tryz.prog 73 #[.int .i64 n, .string t] W fun e w' => e = .returned (.string ⟨(bodyF n t.data.toList).toArray⟩) ∧ Below W.heap.size W w') := fun W => yfull_any n t W (by omega) ht
  have HR2 : Hid (∀ W : World, Calls Tryz.prog 74 #[.string ⟨(bodyF n t.data.toList).toArray⟩] W fun e w' => e = .returned (.string ⟨(recL (bodyF n t.data.toList)).toArray⟩) ∧ Below W.heap.size W w') := fun W => yrecord_any _ W (by rw [lens_size]; have := (bodyF_len n t (by omega) ht).2; omega)
  have hx2 : (⟨(recL (bodyF n t.data.toList)).toArray⟩ : ByteArray).size ≤ 100000 := by
    have h1 := (bodyF_len n t (by omega) ht).2
    have h2 := (recL_len (b := bodyF n t.data.toList) (by omega)).1
    rw [lens_size]; omega
  have hls : (⟨s.log.toArray⟩ : ByteArray).size ≤ 20000 := by rw [lens_size]; exact hlog
  have hff : ¬ 20000 < (⟨s.log.toArray⟩ : ByteArray).size + (⟨(recL (bodyF n t.data.toList)).toArray⟩ : ByteArray).size ∧ (s.ch n).last ≠ 2147483647 := by
    rw [lens_size, lens_size]; unfold Vlt.full at hf; exact ⟨fun h => hf (.inl h), fun h => hf (.inr h)⟩
  have hcn : decide ((s.ch n).last ≠ 2147483647) = true := decide_eq_true hff.2
  rw [hcn] at HCAN
  have hA := hff.1
  have hlast := hok.last n
  have hRn : recL (bodyF n t.data.toList) = addedL n none t := rfl
  have HMV : Hid (∀ (w1 w3 : World) (l : List UInt8) (v' : Value) (z : Int), Below w.heap.size w w1 → l = addedL n (s.ch n).texts.getLast? t → Below (w1.setCell ⟨p, 8, none⟩ (.string ⟨(s.log ++ l).toArray⟩)).heap.size (w1.setCell ⟨p, 8, none⟩ (.string ⟨(s.log ++ l).toArray⟩)) w3 → z = (((s.ch n).gone + 1 : Nat) : Int) → YView w3 v' ((s.ch n).texts ++ [t]) → (∀ b, rowBlock v' = some b → (w1.setCell ⟨p, 8, none⟩ (.string ⟨(s.log ++ l).toArray⟩)).heap.size ≤ b) →
      YMoves p tv (s.put n t) w ((w3.setCell ⟨p, n * 2, none⟩ (.int .i64 z)).setCell ⟨p, n * 2 + 1, none⟩ v')) := fun w1 w3 l v' z h1 h2 h3 h4 h5 h6 => yput_moves hv hn h1 rfl h3 h4 h5 h6 h2
  have HWI : Hid (∀ (W : World) (l : List UInt8), YAt W p tv ⟨l, s.ch⟩ → Calls Tryz.prog 76 #[.agg #[.int .i64 (yF (s.ch n)), .slice ao (s.ch n).texts.length cap], .string t] W fun e w' => ∃ v', e = .returned (.agg #[.int .i64 (((s.ch n).gone + 1 : Nat) : Int), v']) ∧ YView w' v' ((s.ch n).texts ++ [t]) ∧ (∀ b, rowBlock v' = some b → W.heap.size ≤ b) ∧ Below W.heap.size W w') := fun W l hW => by
    have := ywith_any (s.ch n) (tv n) t W (hW.row n hn) (hW.nil n hn) (hok.none n) (hok.last n)
    rw [htv] at this; exact this
  have HV : Hid (YAt w p tv s) := hv
  have HLOG : Hid (∀ W l, Below w.heap.size w W → YAt (W.setCell ⟨p, 8, none⟩ (.string ⟨(s.log ++ l).toArray⟩)) p tv ⟨s.log ++ l, s.ch⟩) := fun W l hW => ((hv.below hW).logged _).1
  have hfz := hv.frozen 8
  have HADD : Hid ((⟨s.log.toArray⟩ ++ ⟨(recL (bodyF n t.data.toList)).toArray⟩ : ByteArray) = ⟨(s.log ++ recL (bodyF n t.data.toList)).toArray⟩) := by
    apply bytes_ext; rw [app_bytes]
  have q1 : IntKind.i64.wrap (((⟨s.log.toArray⟩ : ByteArray).size : Int) + ((⟨(recL (bodyF n t.data.toList)).toArray⟩ : ByteArray).size : Int)) = ((⟨s.log.toArray⟩ : ByteArray).size : Int) + ((⟨(recL (bodyF n t.data.toList)).toArray⟩ : ByteArray).size : Int) := by rw [IntKind.wrap_i64]; omega
  have hAI : ¬ (20000 : Int) < ((⟨s.log.toArray⟩ : ByteArray).size : Int) + ((⟨(recL (bodyF n t.data.toList)).toArray⟩ : ByteArray).size : Int) := by omega
  generalize hRF : (⟨(recL (bodyF n t.data.toList)).toArray⟩ : ByteArray) = RF at *
  generalize hBF : (⟨(bodyF n t.data.toList).toArray⟩ : ByteArray) = BF at *
  generalize hLG : (⟨s.log.toArray⟩ : ByteArray) = LG at *
  generalize hYF : yF (s.ch n) = F at *
  have hL0 : (s.ch n).texts.length = 0 := by rw [h0]; rfl
  have hg0 : (s.ch n).gone = 0 := hok.none n h0
  rw [hL0] at k2 HCAN HWI
  have HH : Hid ((s.ch n).texts = [] ∧ (s.ch n).gone = 0 ∧ (s.ch n).last = 0 ∧ recL (bodyF n t.data.toList) = addedL n (s.ch n).texts.getLast? t) := ⟨h0, hg0, by unfold Chn.last; rw [hg0, hL0], by rw [h0]; rfl⟩
  clear hff hcn hf hv hok hlog ht hrow h0 hL0 hg0 hRn hlast hA hcap htv hYF hBF
  have k8b := k8
  go_enter Tryz.func33, Tryz.ntmps33
  go_wp2_with fail
  refine (HCAN.out _).mono ?_
  rintro e w1 ⟨rfl, b1⟩
  have B1 : Below w.heap.size w w1 := ((Below.refl w.heap.size w).alloc (Nat.le_refl _) _).trans (b1.mono (by simp))
  have ob1 := (b1.block w.heap.size (by simp)).trans (heap_alloc_new w (.cells #[.int .i64 F, .slice ao 0 cap] 66))
  have k81 := (B1.cell (p := ⟨p, 8, none⟩) hp).trans k8
  clear k1 k2 k8 b1
  go_wp2_with fail
  refine (HFB.out _).mono ?_
  rintro e w2 ⟨rfl, b2⟩
  have k82 := (b2.cell (p := ⟨p, 8, none⟩) (Nat.lt_of_lt_of_le hp B1.size)).trans k81
  have ob2 := (b2.block w.heap.size (lt_of_block ob1)).trans ob1
  have B2 : Below w.heap.size w w2 := B1.trans (b2.mono B1.size)
  have hp2 : p < w2.heap.size := Nat.lt_of_lt_of_le hp B2.size
  clear k81 B1 b2 ob1
  have HB2 : Hid (Below w.heap.size w w2 ∧ w2.heap[w.heap.size]? = some (.cells #[.int .i64 F, .slice ao 0 cap] 66 (0, 0))) := ⟨B2, ob2⟩
  clear B2 HCAN HFB ob2
  go_upto_region 8 with fail
  go_cut [44] (fun v wx => v = .bool false ∧ Hid (Below w.heap.size w wx ∧ wx.heap[w.heap.size]? = some (.cells #[.int .i64 F, .slice ao 0 cap] 66 (0, 0))))
  case first =>
    have HN : Hid (∀ s, s ∈ ([0, 9, 10] : List Nat) → ¬ ∃ i, i < 14 ∧ s = (fun i => ([31, 32, 33, 34, 35, 36, 37, 38, 39, 40, 41, 42, 43, 44] : List Nat).getD i 0) i) := fun s hs ⟨i, hi, e⟩ => by
      have key : ∀ i, i < 14 → (fun i => ([31, 32, 33, 34, 35, 36, 37, 38, 39, 40, 41, 42, 43, 44] : List Nat).getD i 0) i ∉ ([0, 9, 10] : List Nat) := by decide
      exact key i hi (by rw [← e]; exact hs)
    refine wp_region_wants3 (by kernel_rfl) [.val (.pointer (some ⟨p, 0, none⟩)), .val (.pointer (some ⟨p, 0, none⟩)), .val (.pointer (some ⟨p, 8, none⟩)), .val (.string LG), .val (.int .i64 (LG.size : Int)), .val (.string BF), .val (.string RF), .val (.int .i64 (RF.size : Int)), .val (.int .i64 ((LG.size : Int) + (RF.size : Int))), .val (.bool false), .val (.bool false), .val (.bool true), .val (.bool false), .val (.bool false)] (fun i => ([31, 32, 33, 34, 35, 36, 37, 38, 39, 40, 41, 42, 43, 44] : List Nat).getD i 0) _ rfl (by kernel_rfl) ?_ rfl ?_
    · intro i o qq a wx ho hq hh hb hdep
      have k8x := (hb.cell (p := ⟨p, 8, none⟩) hp2).trans k82
      have HCX : Hid (Calls Tryz.prog 74 #[.string BF] wx fun e w' => e = .returned (.string RF) ∧ Below wx.heap.size wx w') := HR2.out _
      have t0 : a.tmps.getD 0 undef = .pointer (some ⟨p, 0, none⟩) := hh.at_ 0 (HN.out 0 (by decide))
      have t9 : a.tmps.getD 9 undef = .bool true := hh.at_ 9 (HN.out 9 (by decide))
      have t10 : a.tmps.getD 10 undef = .string BF := hh.at_ 10 (HN.out 10 (by decide))
      clear hb hh HN
      match i, ho, hq with
      | 0, ho, hq =>
        cases ho
        cases hq
        refine .inl ⟨wanted_free rfl, ?_⟩
        clear hdep
        unfold Oper.wp
        go_simp
        exact ⟨_, rfl, Below.refl _ _, rfl⟩
      | 1, ho, hq =>
        cases ho
        cases hq
        have h31 : a.tmps.getD 31 undef = .pointer (some ⟨p, 0, none⟩) := hdep ⟨0, .data⟩ (by simp) rfl _ rfl
        refine .inl ⟨wanted_free rfl, ?_⟩
        clear hdep
        unfold Oper.wp
        go_simp
        exact ⟨_, rfl, Below.refl _ _, rfl⟩
      | 2, ho, hq =>
        cases ho
        cases hq
        have h32 : a.tmps.getD 32 undef = .pointer (some ⟨p, 0, none⟩) := hdep ⟨1, .data⟩ (by simp) rfl _ rfl
        refine .inl ⟨wanted_free rfl, ?_⟩
        clear hdep
        unfold Oper.wp
        go_simp
        exact ⟨_, rfl, Below.refl _ _, rfl⟩
      | 3, ho, hq =>
        cases ho
        cases hq
        have h33 : a.tmps.getD 33 undef = .pointer (some ⟨p, 8, none⟩) := hdep ⟨2, .data⟩ (by simp) rfl _ rfl
        refine .inl ⟨wanted_free rfl, ?_⟩
        clear hdep
        unfold Oper.wp
        go_simp
        exact ⟨_, rfl, Below.refl _ _, rfl⟩
      | 4, ho, hq =>
        cases ho
        cases hq
        have h34 : a.tmps.getD 34 undef = .string LG := hdep ⟨3, .data⟩ (by simp) rfl _ rfl
        refine .inl ⟨wanted_free rfl, ?_⟩
        clear hdep
        unfold Oper.wp
        go_simp
        exact ⟨_, rfl, Below.refl _ _, rfl⟩
      | 5, ho, hq =>
        cases ho
        cases hq
        refine .inl ⟨wanted_free rfl, ?_⟩
        clear hdep
        unfold Oper.wp
        go_simp
        exact ⟨_, rfl, Below.refl _ _, rfl⟩
      | 6, ho, hq =>
        cases ho
        cases hq
        have h36 : a.tmps.getD 36 undef = .string BF := hdep ⟨5, .data⟩ (by simp) rfl _ rfl
        refine .inl ⟨wanted_free rfl, ?_⟩
        clear hdep
        unfold Oper.wp
        go_simp
        refine HCX.out.mono ?_
        rintro e w' ⟨rfl, b'⟩
        exact ⟨_, rfl, b', rfl⟩
      | 7, ho, hq =>
        cases ho
        cases hq
        have h37 : a.tmps.getD 37 undef = .string RF := hdep ⟨6, .data⟩ (by simp) rfl _ rfl
        refine .inl ⟨wanted_free rfl, ?_⟩
        clear hdep
        unfold Oper.wp
        go_simp
        exact ⟨_, rfl, Below.refl _ _, rfl⟩
      | 8, ho, hq =>
        cases ho
        cases hq
        have h35 : a.tmps.getD 35 undef = .int .i64 (LG.size : Int) := hdep ⟨4, .data⟩ (by simp) rfl _ rfl
        have h38 : a.tmps.getD 38 undef = .int .i64 (RF.size : Int) := hdep ⟨7, .data⟩ (by simp) rfl _ rfl
        refine .inl ⟨wanted_free rfl, ?_⟩
        clear hdep
        unfold Oper.wp
        go_simp
        exact ⟨_, rfl, Below.refl _ _, rfl⟩
      | 9, ho, hq =>
        cases ho
        cases hq
        have h39 : a.tmps.getD 39 undef = .int .i64 ((LG.size : Int) + (RF.size : Int)) := hdep ⟨8, .data⟩ (by simp) rfl _ rfl
        refine .inl ⟨wanted_free rfl, ?_⟩
        clear hdep
        unfold Oper.wp
        go_simp
        exact ⟨_, rfl, Below.refl _ _, congrArg Value.bool (decide_eq_false (by omega))⟩
      | 10, ho, hq =>
        cases ho
        cases hq
        have h40 : a.tmps.getD 40 undef = .bool false := hdep ⟨9, .data⟩ (by simp) rfl _ rfl
        refine .inl ⟨wanted_free rfl, ?_⟩
        clear hdep
        unfold Oper.wp
        go_simp
        exact ⟨_, rfl, Below.refl _ _, rfl⟩
      | 11, ho, hq =>
        cases ho
        cases hq
        have h41 : a.tmps.getD 41 undef = .bool false := hdep ⟨10, .guard⟩ (by simp) rfl _ rfl
        refine .inl ⟨wanted_is rfl rfl rfl h41 rfl, ?_⟩
        clear hdep
        unfold Oper.wp
        go_simp
        exact ⟨_, rfl, Below.refl _ _, rfl⟩
      | 12, ho, hq =>
        cases ho
        cases hq
        have h42 : a.tmps.getD 42 undef = .bool true := hdep ⟨11, .data⟩ (by simp) rfl _ rfl
        have h41 : a.tmps.getD 41 undef = .bool false := hdep ⟨10, .guard⟩ (by simp) rfl _ rfl
        refine .inl ⟨wanted_is rfl rfl rfl h41 rfl, ?_⟩
        clear hdep
        unfold Oper.wp
        go_simp
        exact ⟨_, rfl, Below.refl _ _, rfl⟩
      | 13, ho, hq =>
        cases ho
        cases hq
        have h41 : a.tmps.getD 41 undef = .bool false := hdep ⟨10, .data⟩ (by simp) rfl _ rfl
        have h43 : a.tmps.getD 43 undef = .bool false := hdep ⟨12, .data⟩ (by simp) rfl _ rfl
        refine .inl ⟨wanted_free rfl, ?_⟩
        clear hdep
        unfold Oper.wp
        go_simp
        exact ⟨_, rfl, Below.refl _ _, rfl⟩
      | i + 14, ho, hq =>
        exfalso
        have h : i + 14 < 14 := (List.getElem?_eq_some_iff.1 hq).1
        omega
    · intro a wx hh hb hv
      have hG0 := hv 13 _ rfl
      obtain ⟨u, hUa, hUb⟩ := Held.form (n := 14) (D := (fun i => ([31, 32, 33, 34, 35, 36, 37, 38, 39, 40, 41, 42, 43, 44] : List Nat).getD i 0)) hh (fun i hi => Nat.lt_of_lt_of_le (m := 45) ((by decide : ∀ i, i < 14 → (fun i => ([31, 32, 33, 34, 35, 36, 37, 38, 39, 40, 41, 42, 43, 44] : List Nat).getD i 0) i < 45) i hi) (Nat.le_of_ble_eq_true rfl))
      have hu0 : u 13 = .bool false := (hUb 13).trans hG0
      have HBx : Hid (Below _ _ wx) := hb
      clear hUb hv hh hb HN hG0
      subst hUa
      rw [show List.range 14 = [0, 1, 2, 3, 4, 5, 6, 7, 8, 9, 10, 11, 12, 13] from rfl]
      simp only [putAll, Act.put, List.getD_cons_zero, List.getD_cons_succ, List.setIfInBounds_toArray, List.set_cons_zero, List.set_cons_succ, hu0]
      go_wp2_with fail
      go_meet
      exact ⟨rfl, HB2.out.1.trans (HBx.out.mono HB2.out.1.size), (HBx.out.block _ (lt_of_block HB2.out.2)).trans HB2.out.2⟩
  case rest =>
    obtain ⟨rfl, HB3⟩ := hcut
    generalize wc = W3 at *
    clear HB2 k82 hp2
    have o3 := HB3.out.2
    have cT : W3.cell? ⟨w.heap.size, 1, none⟩ = some (.slice ao 0 cap) := by rw [Lib.cell_of_heap o3]; rfl
    have k83 := (HB3.out.1.cell (p := ⟨p, 8, none⟩) hp).trans k8b
    have hp3 : p < W3.heap.size := Nat.lt_of_lt_of_le hp HB3.out.1.size
    have hs3 : w.heap.size < W3.heap.size := lt_of_block o3
    have f83 := (HB3.out.1.frozen (p := ⟨p, 8, none⟩) hp).trans hfz
    have hne : ¬ w.heap.size = p := by omega
    clear o3
    go_upto_region 12 with fail
    go_cut [] (fun wx => ∃ w1 : World, Hid (Below w.heap.size w w1 ∧ w1.heap[w.heap.size]? = some (.cells #[.int .i64 F, .slice ao 0 cap] 66 (0, 0)) ∧ wx = w1.setCell ⟨p, 8, none⟩ (.string (LG ++ RF))))
    case first =>
      have hz : ¬ 9223372036854775807 < LG.size + RF.size := by omega
      go_region_with (first | (go_at_call 74; refine (HR2.out _).mono ?_; rintro e w4 ⟨rfl, b4⟩; have k84 := (b4.cell (p := ⟨p, 8, none⟩) hp3).trans k83; have f84 := (b4.frozen (p := ⟨p, 8, none⟩) hp3).trans f83))
      all_goals
        go_wp2_with fail
        go_meet
        have B4 : Below w.heap.size w w4 := HB3.out.1.drew.trans (b4.mono HB3.out.1.size)
        exact ⟨w4, B4, (b4.block w.heap.size hs3).trans HB3.out.2, rfl⟩
    case rest =>
      obtain ⟨w9, H9⟩ := hcut
      have H4 := HLOG.out w9 (recL (bodyF n t.data.toList)) H9.out.1
      have hw4 := H9.out.2.2
      rw [HADD.out] at hw4
      rw [← hw4] at H4
      have ob4 : wc.heap[w.heap.size]? = some (.cells #[.int .i64 F, .slice ao 0 cap] 66 (0, 0)) := by rw [hw4]; exact (far1 hne).trans H9.out.2.1
      have m0 : wc.cell? ⟨w.heap.size, 0, none⟩ = some (.int .i64 F) := by rw [Lib.cell_of_heap ob4]; rfl
      have m1 : wc.cell? ⟨w.heap.size, 1, none⟩ = some (.slice ao 0 cap) := by rw [Lib.cell_of_heap ob4]; rfl
      have hs4 : w.heap.size < wc.heap.size := lt_of_block ob4
      have hp4 : p < wc.heap.size := H4.lt
      have c0 := H4.cellF n hn
      have c1 := H4.cellT n hn
      have f0 := H4.frozen (n * 2)
      have f1 := H4.frozen (n * 2 + 1)
      have HWC : Hid (∀ W, Below wc.heap.size wc W → Calls Tryz.prog 76 #[.agg #[.int .i64 F, .slice ao 0 cap], .string t] W fun e w' => ∃ v', e = .returned (.agg #[.int .i64 (((s.ch n).gone + 1 : Nat) : Int), v']) ∧ YView w' v' ((s.ch n).texts ++ [t]) ∧ (∀ b, rowBlock v' = some b → W.heap.size ≤ b) ∧ Below W.heap.size W w') := fun W hW => HWI.out W _ (H4.below hW)
      have HM4 : Hid (∀ (w3 : World) (v' : Value), Below wc.heap.size wc w3 → YView w3 v' ((s.ch n).texts ++ [t]) → (∀ b, rowBlock v' = some b → wc.heap.size ≤ b) → YMoves p tv (s.put n t) w ((w3.setCell ⟨p, n * 2, none⟩ (.int .i64 (((s.ch n).gone + 1 : Nat) : Int))).setCell ⟨p, n * 2 + 1, none⟩ v')) := fun w3 v' x1 x2 x3 => by
        rw [hw4] at x1 x3
        exact HMV.out w9 w3 (recL (bodyF n t.data.toList)) v' _ H9.out.1 HH.out.2.2.2 x1 rfl x2 x3
      clear H4 hw4 ob4 H9 HWI HMV HLOG HB3 cT k83 f83 k8b hfz
      generalize wc = W4 at *
      have hlen : ((s.ch n).texts ++ [t]).length = 1 := by rw [HH.out.1]; rfl
      obtain ⟨G1, hG1⟩ : ∃ G1, G1 = (((s.ch n).gone + 1 : Nat) : Int) := ⟨_, rfl⟩
      obtain ⟨TX, hTX⟩ : ∃ TX, TX = (s.ch n).texts ++ [t] := ⟨_, rfl⟩
      rw [← hG1, ← hTX] at HM4 HWC
      rw [← hTX] at hlen
      have HLN : Hid (TX.length = 1) := hlen
      have HNUM : Hid ((((s.ch n).last + 1 : Nat) : Int) = G1 + (1 : Nat) - 1) := by unfold Hid; rw [hG1, HH.out.2.1, HH.out.2.2.1]; rfl
      have hG0 : 0 ≤ G1 ∧ G1 ≤ 2147483648 := by rw [hG1, HH.out.2.1]; omega
      have u1 : IntKind.i64.wrap (G1 + ((1 : Nat) : Int)) = G1 + ((1 : Nat) : Int) := by rw [IntKind.wrap_i64]; omega
      have u2 : IntKind.i64.wrap (G1 + ((1 : Nat) : Int) - 1) = G1 + ((1 : Nat) : Int) - 1 := by rw [IntKind.wrap_i64]; omega
      clear hG1 hTX hlen hRF hLG HADD HR2
      go_upto_region 13 with fail
      go_cut [] (fun wx => ∃ (w3 : World) (vo : Option Addr) (vc : Nat), Hid (Below W4.heap.size W4 w3 ∧ YView w3 (.slice vo (1) vc) TX ∧ (∀ b, rowBlock (.slice vo (1) vc) = some b → W4.heap.size ≤ b) ∧ wx = ((w3.setCell ⟨p, n * 2, none⟩ (.int .i64 G1)).setCell ⟨p, n * 2 + 1, none⟩ (.slice vo (1) vc))))
      case first =>
        go_region_with (first | (go_at_call 76; refine (HWC.out _ (by first | exact (Below.refl _ _).drew | exact Below.refl _ _)).mono ?_; rintro e w5 ⟨v5, rfl, hv5, hr5, b5⟩; obtain ⟨vo, vc, hv5e, hv5l⟩ : ∃ vo vc, v5 = .slice vo (1) vc ∧ Hid (YView w5 v5 TX) := (by obtain ⟨x, y, z, _⟩ := id hv5; rw [HLN.out] at z; exact ⟨x, y, z, hv5⟩); subst hv5e; have HR5 : Hid (∀ b, rowBlock (.slice vo (1) vc) = some b → W4.heap.size ≤ b) := hr5; clear hv5 hr5; have c05 := (b5.cell (p := ⟨p, n * 2, none⟩) hp4).trans c0; have c15 := (b5.cell (p := ⟨p, n * 2 + 1, none⟩) hp4).trans c1; have f05 := (b5.frozen (p := ⟨p, n * 2, none⟩) hp4).trans f0; have f15 := (b5.frozen (p := ⟨p, n * 2 + 1, none⟩) hp4).trans f1))
        all_goals
          go_wp2_with fail
          go_meet
          exact ⟨w5, vo, vc, (Below.refl _ _).drew.trans b5, hv5l.out, HR5.out, rfl⟩
      case rest =>
        obtain ⟨w5, vo, vc, H5⟩ := hcut
        have e5 := H5.out.2.2.2
        have hMV : Hid (YMoves p tv (s.put n t) w wc) := by unfold Hid; rw [e5]; exact HM4.out w5 _ H5.out.1 H5.out.2.1 H5.out.2.2.1
        have d0 : wc.cell? ⟨p, n * 2, none⟩ = some (.int .i64 G1) := by
          rw [e5]; exact (World.cell?_setCell_other _ _ _ _ (by simp)).trans (World.cell?_setCell_same _ _ _ ((H5.out.1.cell (p := ⟨p, n * 2, none⟩) hp4).trans c0))
        have d1 : wc.cell? ⟨p, n * 2 + 1, none⟩ = some (.slice vo (1) vc) := by
          rw [e5]; exact World.cell?_setCell_same _ _ _ ((World.cell?_setCell_other _ _ _ _ (by simp)).trans ((H5.out.1.cell (p := ⟨p, n * 2 + 1, none⟩) hp4).trans c1))
        have hp6 : p < wc.heap.size := Nat.lt_of_lt_of_le hp4 (by rw [e5]; simpa using H5.out.1.size)
        clear H5 e5 c0 c1 f0 f1 m0 m1 HM4 HWC
        generalize wc = W6 at *
        go_wp2
        go_quiet (fail)
        go_wp2
        go_ret2
        refine ⟨ret_2i ?_ rfl, hMV.out.drewN _⟩
        rw [HNUM.out]
        (first | rfl | omega)
end Go.Proofs.YtabpiaaknjcnkaaGreat
