/-
  The document's Backup.
-/
import Derived.Test.YtabpiaaknjcnkaaGreatXYDYEYFYW
import Derived.Test.YtabpiaaknjcnkaaGreatXRGRHRI
import Derived.Deep.DeepCutAuto
import Derived.BigQuiet
import Derived.Deep.QuietTactic
namespace Go.Proofs.YtabpiaaknjcnkaaGreat
open Go.RowKit
set_option linter.unusedVariables false
set_option linter.unusedSimpArgs false
set_option maxRecDepth 100000

theorem ret_2i {a b c d : Int} (h1 : a = c) (h2 : b = d) : Ending.returned (.tuple #[.int .i64 a, .int .i64 b]) = Ending.returned (.tuple #[.int .i64 c, .int .i64 d]) := by rw [h1, h2]
theorem YMoves.drewN {p : Nat} {tv : Nat → Value} {s : Vlt} {w w' : World} (h : YMoves p tv s w w') (k : Nat) : YMoves p tv s w (w'.drewN k) := by
  obtain ⟨tv', h1, h2, h3⟩ := h
  exact ⟨tv', h1.kept (fun b _ => rfl) (Nat.le_refl _), h2.drewN k, h3⟩
theorem yput_moves {w w1 w2 w3 : World} {p n : Nat} {tv : Nat → Value} {s : Vlt} {t : ByteArray} {v' : Value} {l : List UInt8} {z : Int} (hv : YAt w p tv s) (hn : n < 4) (b1 : Below w.heap.size w w1) (hw2 : w2 = w1.setCell ⟨p, 8, none⟩ (.string ⟨(s.log ++ l).toArray⟩)) (b3 : Below w2.heap.size w2 w3)
    (hz : z = (((s.ch n).gone + 1 : Nat) : Int)) (hr : YView w3 v' ((s.ch n).texts ++ [t])) (hp : ∀ b, rowBlock v' = some b → w2.heap.size ≤ b) (hl : l = addedL n (s.ch n).texts.getLast? t) :
    YMoves p tv (s.put n t) w ((w3.setCell ⟨p, n * 2, none⟩ (.int .i64 z)).setCell ⟨p, n * 2 + 1, none⟩ v') := by
  subst hw2
  have h1 := hv.below b1
  obtain ⟨h2, o2⟩ := h1.logged (s.log ++ l)
  have h3 := h2.below b3
  have hlt : p < (w1.setCell ⟨p, 8, none⟩ (.string ⟨(s.log ++ l).toArray⟩)).heap.size := h2.lt
  have hs1 := b1.size
  have hs2 : (w1.setCell ⟨p, 8, none⟩ (.string ⟨(s.log ++ l).toArray⟩)).heap.size = w1.heap.size := by simp
  obtain ⟨h4, o4⟩ := h3.chained (c := n) (g' := (s.ch n).gone) hn hz hr (by simp) (fun e => by have := hp _ e; omega)
  have e : s.put n t = ⟨s.log ++ l, fun i => if i = n then ⟨(s.ch n).gone, (s.ch n).texts ++ [t]⟩ else s.ch i⟩ := by unfold Vlt.put; rw [hl]
  rw [e]
  refine ⟨_, h4, (((Out.of_below b1).trans o2 (fun q hq => .inl hq)).trans (Out.of_below (F := (· = p)) b3) (fun q hq => .inl hq)).trans o4 (fun q hq => .inl hq), ?_⟩
  rintro b (rfl | ⟨i, hi, hb⟩)
  · exact .inl (.inl rfl)
  · by_cases e : i = n
    · simp only [e, if_true] at hb
      have := hp b hb
      exact .inr (by omega)
    · simp only [e, if_false] at hb
      exact .inl (.inr ⟨i, hi, hb⟩)

set_option maxHeartbeats 2000000 in
theorem ybackup_chain (p : Nat) (c : Int) (t : ByteArray) (w : World) (hc : ¬ (0 ≤ c ∧ c < 4)) :
    Calls Tryz.prog 33 #[.pointer (some ⟨p, 0, none⟩), .int .i64 c, .string t] w fun e w' => e = .returned (.tuple #[.int .i64 0, .int .i64 4]) ∧ w = w' := by
  by_cases h1 : c < 0
  · go_enter Tryz.func33, Tryz.ntmps33
    go_wp2
    go_ret2
    exact ⟨rfl, rfl⟩
  · have h2 : 4 ≤ c := by omega
    clear hc
    go_enter Tryz.func33, Tryz.ntmps33
    go_wp2
    go_ret2
    exact ⟨rfl, rfl⟩
set_option maxHeartbeats 2000000 in
theorem ybackup_long (p c : Nat) (t : ByteArray) (w : World) (hc : c < 4) (ht : 2000 < t.size) (hs : t.size ≤ 9223372036854775807) :
    Calls Tryz.prog 33 #[.pointer (some ⟨p, 0, none⟩), .int .i64 c, .string t] w fun e w' => e = .returned (.tuple #[.int .i64 0, .int .i64 1]) ∧ w = w' := by
  have hcI : (c : Int) < 4 := by omega
  have htI : (2000 : Int) < (t.size : Int) := by omega
  go_enter Tryz.func33, Tryz.ntmps33
  go_wp2
  go_ret2
  exact ⟨rfl, rfl⟩

theorem yroom {s : Vlt} (hok : s.Ok) {c : Nat} {ao : Option Addr} {cap : Nat} (W : World) :
    Calls Tryz.prog 72 #[.agg #[.int .i64 (yF (s.ch c)), .slice ao (s.ch c).texts.length cap]] W fun e w' => e = .returned (.bool (decide ((s.ch c).last ≠ 2147483647))) ∧ Below W.heap.size W w' := by
  have hlast := hok.last c
  unfold Chn.last at hlast
  have hF : yF (s.ch c) ≤ (s.ch c).gone + 1 := by unfold yF; split <;> omega
  have h := ycan_any (yF (s.ch c)) (s.ch c).texts.length cap ao W (by omega)
  have e : decide (yF (s.ch c) + (s.ch c).texts.length ≤ 2147483647) = decide ((s.ch c).last ≠ 2147483647) := by
    congr 1
    apply propext
    unfold yF Chn.last
    by_cases h0 : (s.ch c).texts = []
    · rw [if_pos h0, h0, hok.none c h0]; simp
    · rw [if_neg h0]; omega
  rw [e] at h; exact h

set_option maxHeartbeats 4000000 in
theorem ybackup_full (p n : Nat) (tv : Nat → Value) (s : Vlt) (t : ByteArray) (w : World) (hv : YAt w p tv s) (hok : s.Ok) (hn : n < 4) (ht : t.size ≤ 2000) (hf : s.full n t) :
    Calls Tryz.prog 33 #[.pointer (some ⟨p, 0, none⟩), .int .i64 n, .string t] w fun e w' => e = .returned (.tuple #[.int .i64 0, .int .i64 6]) ∧ Below w.heap.size w w' := by
  have k1 := hv.cellF n hn
  have k2 := hv.cellT n hn
  have k8 := hv.cellL
  obtain ⟨ao, cap, htv, hcap, hrow⟩ := hv.row n hn
  rw [htv] at k2
  have hp := hv.lt
  have hlog := hok.log
  have hnI : (n : Int) < 4 := by omega
  have htI : ¬ (2000 : Int) < (t.size : Int) := by omega
  have HCAN : Hid (∀ W : World, Calls Tryz.prog 72 #[.agg #[.int .i64 (yF (s.ch n)), .slice ao (s.ch n).texts.length cap]] W fun e w' => e = .returned (.bool (decide ((s.ch n).last ≠ 2147483647))) ∧ Below W.heap.size W w') := fun W => yroom hok W
  have HFB : Hid (∀ W : World, Calls Tryz.prog 73 #[.int .i64 n, .string t] W fun e w' => e = .returned (.string ⟨(bodyF n t.data.toList).toArray⟩) ∧ Below W.heap.size W w') := fun W => yfull_any n t W (by omega) ht
  have HR2 : Hid (∀ W : World, Calls Tryz.prog 74 #[.string ⟨(bodyF n t.data.toList).toArray⟩] W fun e w' => e = .returned (.string ⟨(recL (bodyF n t.data.toList)).toArray⟩) ∧ Below W.heap.size W w') := fun W => yrecord_any _ W (by rw [lens_size]; have := (bodyF_len n t (by omega) ht).2; omega)
  have hx2 : (⟨(recL (bodyF n t.data.toList)).toArray⟩ : ByteArray).size ≤ 100000 := by
    have h1 := (bodyF_len n t (by omega) ht).2
    have h2 := (recL_len (b := bodyF n t.data.toList) (by omega)).1
    rw [lens_size]; omega
  have hls : (⟨s.log.toArray⟩ : ByteArray).size ≤ 20000 := by rw [lens_size]; exact hlog
  have hff : 20000 < (⟨s.log.toArray⟩ : ByteArray).size + (⟨(recL (bodyF n t.data.toList)).toArray⟩ : ByteArray).size ∨ (s.ch n).last = 2147483647 := by
    rw [lens_size, lens_size]; exact hf
  generalize (⟨(recL (bodyF n t.data.toList)).toArray⟩ : ByteArray) = RF at *
  generalize (⟨(bodyF n t.data.toList).toArray⟩ : ByteArray) = BF at *
  generalize (⟨s.log.toArray⟩ : ByteArray) = LG at *
  generalize yF (s.ch n) = F at *
  generalize (s.ch n).texts.length = L at *
  clear hv hok hf htv hcap hlog ht hrow
  have q1 : IntKind.i64.wrap ((LG.size : Int) + (RF.size : Int)) = (LG.size : Int) + (RF.size : Int) := by rw [IntKind.wrap_i64]; omega
  by_cases hA : 20000 < LG.size + RF.size
  · have hAI : (20000 : Int) < (LG.size : Int) + (RF.size : Int) := by omega
    generalize decide ((s.ch n).last ≠ 2147483647) = cn at *
    clear hff
    go_enter Tryz.func33, Tryz.ntmps33
    go_wp2_with fail
    refine (HCAN.out _).mono ?_
    rintro e w1 ⟨rfl, b1⟩
    have B1 : Below w.heap.size w w1 := ((Below.refl w.heap.size w).alloc (Nat.le_refl _) _).trans (b1.mono (by simp))
    have ob1 := (b1.block w.heap.size (by simp)).trans (heap_alloc_new w (.cells #[.int .i64 F, .slice ao L cap] 66))
    have k81 := (B1.cell (p := ⟨p, 8, none⟩) hp).trans k8
    clear k1 k2 k8 b1
    go_wp2_with fail
    refine (HFB.out _).mono ?_
    rintro e w2 ⟨rfl, b2⟩
    have k82 := (b2.cell (p := ⟨p, 8, none⟩) (Nat.lt_of_lt_of_le hp B1.size)).trans k81
    have ob2 := (b2.block w.heap.size (lt_of_block ob1)).trans ob1
    have B2 : Below w.heap.size w w2 := B1.trans (b2.mono B1.size)
    have hp2 : p < w2.heap.size := Nat.lt_of_lt_of_le hp B2.size
    clear k81 B1 b2 ob1
    have HB2 : Hid (Below w.heap.size w w2 ∧ w2.heap[w.heap.size]? = some (.cells #[.int .i64 F, .slice ao L cap] 66 (0, 0))) := ⟨B2, ob2⟩
    clear B2 HCAN HFB ob2
    go_upto_region 8 with fail
    go_cut [44] (fun v wx => v = .bool true ∧ Hid (Below w.heap.size w wx ∧ wx.heap[w.heap.size]? = some (.cells #[.int .i64 F, .slice ao L cap] 66 (0, 0))))
    case first =>
      have HN : Hid (∀ s, s ∈ ([0, 9, 10] : List Nat) → ¬ ∃ i, i < 14 ∧ s = (fun i => ([31, 32, 33, 34, 35, 36, 37, 38, 39, 40, 41, 42, 43, 44] : List Nat).getD i 0) i) := fun s hs ⟨i, hi, e⟩ => by
        have key : ∀ i, i < 14 → (fun i => ([31, 32, 33, 34, 35, 36, 37, 38, 39, 40, 41, 42, 43, 44] : List Nat).getD i 0) i ∉ ([0, 9, 10] : List Nat) := by decide
        exact key i hi (by rw [← e]; exact hs)
      refine wp_region_wants3 (by kernel_rfl) [.val (.pointer (some ⟨p, 0, none⟩)), .val (.pointer (some ⟨p, 0, none⟩)), .val (.pointer (some ⟨p, 8, none⟩)), .val (.string LG), .val (.int .i64 (LG.size : Int)), .val (.string BF), .val (.string RF), .val (.int .i64 (RF.size : Int)), .val (.int .i64 ((LG.size : Int) + (RF.size : Int))), .val (.bool true), .val (.bool true), .val (undef), .val (undef), .val (.bool true)] (fun i => ([31, 32, 33, 34, 35, 36, 37, 38, 39, 40, 41, 42, 43, 44] : List Nat).getD i 0) _ rfl (by kernel_rfl) ?_ rfl ?_
      · intro i o qq a wx ho hq hh hb hdep
        have k8x := (hb.cell (p := ⟨p, 8, none⟩) hp2).trans k82
        have HCX : Hid (Calls Tryz.prog 74 #[.string BF] wx fun e w' => e = .returned (.string RF) ∧ Below wx.heap.size wx w') := HR2.out _
        have t0 : a.tmps.getD 0 undef = .pointer (some ⟨p, 0, none⟩) := hh.at_ 0 (HN.out 0 (by decide))
        have t9 : a.tmps.getD 9 undef = .bool cn := hh.at_ 9 (HN.out 9 (by decide))
        have t10 : a.tmps.getD 10 undef = .string BF := hh.at_ 10 (HN.out 10 (by decide))
        clear hb hh HN
        match i, ho, hq with
        | 0, ho, hq =>
          cases ho
          cases hq
          refine .inl ⟨wanted_free rfl, ?_⟩
          clear hdep
          unfold Oper.wp
          go_simp
          exact ⟨_, rfl, Below.refl _ _, rfl⟩
        | 1, ho, hq =>
          cases ho
          cases hq
          have h31 : a.tmps.getD 31 undef = .pointer (some ⟨p, 0, none⟩) := hdep ⟨0, .data⟩ (by simp) rfl _ rfl
          refine .inl ⟨wanted_free rfl, ?_⟩
          clear hdep
          unfold Oper.wp
          go_simp
          exact ⟨_, rfl, Below.refl _ _, rfl⟩
        | 2, ho, hq =>
          cases ho
          cases hq
          have h32 : a.tmps.getD 32 undef = .pointer (some ⟨p, 0, none⟩) := hdep ⟨1, .data⟩ (by simp) rfl _ rfl
          refine .inl ⟨wanted_free rfl, ?_⟩
          clear hdep
          unfold Oper.wp
          go_simp
          exact ⟨_, rfl, Below.refl _ _, rfl⟩
        | 3, ho, hq =>
          cases ho
          cases hq
          have h33 : a.tmps.getD 33 undef = .pointer (some ⟨p, 8, none⟩) := hdep ⟨2, .data⟩ (by simp) rfl _ rfl
          refine .inl ⟨wanted_free rfl, ?_⟩
          clear hdep
          unfold Oper.wp
          go_simp
          exact ⟨_, rfl, Below.refl _ _, rfl⟩
        | 4, ho, hq =>
          cases ho
          cases hq
          have h34 : a.tmps.getD 34 undef = .string LG := hdep ⟨3, .data⟩ (by simp) rfl _ rfl
          refine .inl ⟨wanted_free rfl, ?_⟩
          clear hdep
          unfold Oper.wp
          go_simp
          exact ⟨_, rfl, Below.refl _ _, rfl⟩
        | 5, ho, hq =>
          cases ho
          cases hq
          refine .inl ⟨wanted_free rfl, ?_⟩
          clear hdep
          unfold Oper.wp
          go_simp
          exact ⟨_, rfl, Below.refl _ _, rfl⟩
        | 6, ho, hq =>
          cases ho
          cases hq
          have h36 : a.tmps.getD 36 undef = .string BF := hdep ⟨5, .data⟩ (by simp) rfl _ rfl
          refine .inl ⟨wanted_free rfl, ?_⟩
          clear hdep
          unfold Oper.wp
          go_simp
          refine HCX.out.mono ?_
          rintro e w' ⟨rfl, b'⟩
          exact ⟨_, rfl, b', rfl⟩
        | 7, ho, hq =>
          cases ho
          cases hq
          have h37 : a.tmps.getD 37 undef = .string RF := hdep ⟨6, .data⟩ (by simp) rfl _ rfl
          refine .inl ⟨wanted_free rfl, ?_⟩
          clear hdep
          unfold Oper.wp
          go_simp
          exact ⟨_, rfl, Below.refl _ _, rfl⟩
        | 8, ho, hq =>
          cases ho
          cases hq
          have h35 : a.tmps.getD 35 undef = .int .i64 (LG.size : Int) := hdep ⟨4, .data⟩ (by simp) rfl _ rfl
          have h38 : a.tmps.getD 38 undef = .int .i64 (RF.size : Int) := hdep ⟨7, .data⟩ (by simp) rfl _ rfl
          refine .inl ⟨wanted_free rfl, ?_⟩
          clear hdep
          unfold Oper.wp
          go_simp
          exact ⟨_, rfl, Below.refl _ _, rfl⟩
        | 9, ho, hq =>
          cases ho
          cases hq
          have h39 : a.tmps.getD 39 undef = .int .i64 ((LG.size : Int) + (RF.size : Int)) := hdep ⟨8, .data⟩ (by simp) rfl _ rfl
          refine .inl ⟨wanted_free rfl, ?_⟩
          clear hdep
          unfold Oper.wp
          go_simp
          exact ⟨_, rfl, Below.refl _ _, rfl⟩
        | 10, ho, hq =>
          cases ho
          cases hq
          have h40 : a.tmps.getD 40 undef = .bool true := hdep ⟨9, .data⟩ (by simp) rfl _ rfl
          refine .inl ⟨wanted_free rfl, ?_⟩
          clear hdep
          unfold Oper.wp
          go_simp
          exact ⟨_, rfl, Below.refl _ _, rfl⟩
        | 11, ho, hq =>
          cases ho
          cases hq
          have h41 : a.tmps.getD 41 undef = .bool true := hdep ⟨10, .guard⟩ (by simp) rfl _ rfl
          exact .inr ⟨wanted_is rfl rfl rfl h41 rfl, rfl⟩
        | 12, ho, hq =>
          cases ho
          cases hq
          have h41 : a.tmps.getD 41 undef = .bool true := hdep ⟨10, .guard⟩ (by simp) rfl _ rfl
          exact .inr ⟨wanted_is rfl rfl rfl h41 rfl, rfl⟩
        | 13, ho, hq =>
          cases ho
          cases hq
          have h41 : a.tmps.getD 41 undef = .bool true := hdep ⟨10, .data⟩ (by simp) rfl _ rfl
          refine .inl ⟨wanted_free rfl, ?_⟩
          clear hdep
          unfold Oper.wp
          go_simp
          exact ⟨_, rfl, Below.refl _ _, rfl⟩
        | i + 14, ho, hq =>
          exfalso
          have h : i + 14 < 14 := (List.getElem?_eq_some_iff.1 hq).1
          omega
      · intro a wx hh hb hv
        have hG0 := hv 13 _ rfl
        obtain ⟨u, hUa, hUb⟩ := Held.form (n := 14) (D := (fun i => ([31, 32, 33, 34, 35, 36, 37, 38, 39, 40, 41, 42, 43, 44] : List Nat).getD i 0)) hh (fun i hi => Nat.lt_of_lt_of_le (m := 45) ((by decide : ∀ i, i < 14 → (fun i => ([31, 32, 33, 34, 35, 36, 37, 38, 39, 40, 41, 42, 43, 44] : List Nat).getD i 0) i < 45) i hi) (Nat.le_of_ble_eq_true rfl))
        have hu0 : u 13 = .bool true := (hUb 13).trans hG0
        have HBx : Hid (Below _ _ wx) := hb
        clear hUb hv hh hb HN hG0
        subst hUa
        rw [show List.range 14 = [0, 1, 2, 3, 4, 5, 6, 7, 8, 9, 10, 11, 12, 13] from rfl]
        simp only [putAll, Act.put, List.getD_cons_zero, List.getD_cons_succ, List.setIfInBounds_toArray, List.set_cons_zero, List.set_cons_succ, hu0]
        go_wp2_with fail
        go_meet
        exact ⟨rfl, HB2.out.1.trans (HBx.out.mono HB2.out.1.size), (HBx.out.block _ (lt_of_block HB2.out.2)).trans HB2.out.2⟩
    case rest =>
      obtain ⟨rfl, HB3⟩ := hcut
      generalize wc = W3 at *
      clear HB2 k82 hp2
      go_wp2
      go_ret2
      exact ⟨rfl, HB3.out.1⟩
  · have hAI : ¬ (20000 : Int) < (LG.size : Int) + (RF.size : Int) := by omega
    have hcn : decide ((s.ch n).last ≠ 2147483647) = false := decide_eq_false (fun e => e (by rcases hff with h | h; exact absurd h hA; exact h))
    rw [hcn] at HCAN
    clear hff hcn
    go_enter Tryz.func33, Tryz.ntmps33
    go_wp2_with fail
    refine (HCAN.out _).mono ?_
    rintro e w1 ⟨rfl, b1⟩
    have B1 : Below w.heap.size w w1 := ((Below.refl w.heap.size w).alloc (Nat.le_refl _) _).trans (b1.mono (by simp))
    have ob1 := (b1.block w.heap.size (by simp)).trans (heap_alloc_new w (.cells #[.int .i64 F, .slice ao L cap] 66))
    have k81 := (B1.cell (p := ⟨p, 8, none⟩) hp).trans k8
    clear k1 k2 k8 b1
    go_wp2_with fail
    refine (HFB.out _).mono ?_
    rintro e w2 ⟨rfl, b2⟩
    have k82 := (b2.cell (p := ⟨p, 8, none⟩) (Nat.lt_of_lt_of_le hp B1.size)).trans k81
    have ob2 := (b2.block w.heap.size (lt_of_block ob1)).trans ob1
    have B2 : Below w.heap.size w w2 := B1.trans (b2.mono B1.size)
    have hp2 : p < w2.heap.size := Nat.lt_of_lt_of_le hp B2.size
    clear k81 B1 b2 ob1
    have HB2 : Hid (Below w.heap.size w w2 ∧ w2.heap[w.heap.size]? = some (.cells #[.int .i64 F, .slice ao L cap] 66 (0, 0))) := ⟨B2, ob2⟩
    clear B2 HCAN HFB ob2
    go_upto_region 8 with fail
    go_cut [44] (fun v wx => v = .bool true ∧ Hid (Below w.heap.size w wx ∧ wx.heap[w.heap.size]? = some (.cells #[.int .i64 F, .slice ao L cap] 66 (0, 0))))
    case first =>
      have HN : Hid (∀ s, s ∈ ([0, 9, 10] : List Nat) → ¬ ∃ i, i < 14 ∧ s = (fun i => ([31, 32, 33, 34, 35, 36, 37, 38, 39, 40, 41, 42, 43, 44] : List Nat).getD i 0) i) := fun s hs ⟨i, hi, e⟩ => by
        have key : ∀ i, i < 14 → (fun i => ([31, 32, 33, 34, 35, 36, 37, 38, 39, 40, 41, 42, 43, 44] : List Nat).getD i 0) i ∉ ([0, 9, 10] : List Nat) := by decide
        exact key i hi (by rw [← e]; exact hs)
      refine wp_region_wants3 (by kernel_rfl) [.val (.pointer (some ⟨p, 0, none⟩)), .val (.pointer (some ⟨p, 0, none⟩)), .val (.pointer (some ⟨p, 8, none⟩)), .val (.string LG), .val (.int .i64 (LG.size : Int)), .val (.string BF), .val (.string RF), .val (.int .i64 (RF.size : Int)), .val (.int .i64 ((LG.size : Int) + (RF.size : Int))), .val (.bool false), .val (.bool false), .val (.bool false), .val (.bool true), .val (.bool true)] (fun i => ([31, 32, 33, 34, 35, 36, 37, 38, 39, 40, 41, 42, 43, 44] : List Nat).getD i 0) _ rfl (by kernel_rfl) ?_ rfl ?_
      · intro i o qq a wx ho hq hh hb hdep
        have k8x := (hb.cell (p := ⟨p, 8, none⟩) hp2).trans k82
        have HCX : Hid (Calls Tryz.prog 74 #[.string BF] wx fun e w' => e = .returned (.string RF) ∧ Below wx.heap.size wx w') := HR2.out _
        have t0 : a.tmps.getD 0 undef = .pointer (some ⟨p, 0, none⟩) := hh.at_ 0 (HN.out 0 (by decide))
        have t9 : a.tmps.getD 9 undef = .bool false := hh.at_ 9 (HN.out 9 (by decide))
        have t10 : a.tmps.getD 10 undef = .string BF := hh.at_ 10 (HN.out 10 (by decide))
        clear hb hh HN
        match i, ho, hq with
        | 0, ho, hq =>
          cases ho
          cases hq
          refine .inl ⟨wanted_free rfl, ?_⟩
          clear hdep
          unfold Oper.wp
          go_simp
          exact ⟨_, rfl, Below.refl _ _, rfl⟩
        | 1, ho, hq =>
          cases ho
          cases hq
          have h31 : a.tmps.getD 31 undef = .pointer (some ⟨p, 0, none⟩) := hdep ⟨0, .data⟩ (by simp) rfl _ rfl
          refine .inl ⟨wanted_free rfl, ?_⟩
          clear hdep
          unfold Oper.wp
          go_simp
          exact ⟨_, rfl, Below.refl _ _, rfl⟩
        | 2, ho, hq =>
          cases ho
          cases hq
          have h32 : a.tmps.getD 32 undef = .pointer (some ⟨p, 0, none⟩) := hdep ⟨1, .data⟩ (by simp) rfl _ rfl
          refine .inl ⟨wanted_free rfl, ?_⟩
          clear hdep
          unfold Oper.wp
          go_simp
          exact ⟨_, rfl, Below.refl _ _, rfl⟩
        | 3, ho, hq =>
          cases ho
          cases hq
          have h33 : a.tmps.getD 33 undef = .pointer (some ⟨p, 8, none⟩) := hdep ⟨2, .data⟩ (by simp) rfl _ rfl
          refine .inl ⟨wanted_free rfl, ?_⟩
          clear hdep
          unfold Oper.wp
          go_simp
          exact ⟨_, rfl, Below.refl _ _, rfl⟩
        | 4, ho, hq =>
          cases ho
          cases hq
          have h34 : a.tmps.getD 34 undef = .string LG := hdep ⟨3, .data⟩ (by simp) rfl _ rfl
          refine .inl ⟨wanted_free rfl, ?_⟩
          clear hdep
          unfold Oper.wp
          go_simp
          exact ⟨_, rfl, Below.refl _ _, rfl⟩
        | 5, ho, hq =>
          cases ho
          cases hq
          refine .inl ⟨wanted_free rfl, ?_⟩
          clear hdep
          unfold Oper.wp
          go_simp
          exact ⟨_, rfl, Below.refl _ _, rfl⟩
        | 6, ho, hq =>
          cases ho
          cases hq
          have h36 : a.tmps.getD 36 undef = .string BF := hdep ⟨5, .data⟩ (by simp) rfl _ rfl
          refine .inl ⟨wanted_free rfl, ?_⟩
          clear hdep
          unfold Oper.wp
          go_simp
          refine HCX.out.mono ?_
          rintro e w' ⟨rfl, b'⟩
          exact ⟨_, rfl, b', rfl⟩
        | 7, ho, hq =>
          cases ho
          cases hq
          have h37 : a.tmps.getD 37 undef = .string RF := hdep ⟨6, .data⟩ (by simp) rfl _ rfl
          refine .inl ⟨wanted_free rfl, ?_⟩
          clear hdep
          unfold Oper.wp
          go_simp
          exact ⟨_, rfl, Below.refl _ _, rfl⟩
        | 8, ho, hq =>
          cases ho
          cases hq
          have h35 : a.tmps.getD 35 undef = .int .i64 (LG.size : Int) := hdep ⟨4, .data⟩ (by simp) rfl _ rfl
          have h38 : a.tmps.getD 38 undef = .int .i64 (RF.size : Int) := hdep ⟨7, .data⟩ (by simp) rfl _ rfl
          refine .inl ⟨wanted_free rfl, ?_⟩
          clear hdep
          unfold Oper.wp
          go_simp
          exact ⟨_, rfl, Below.refl _ _, rfl⟩
        | 9, ho, hq =>
          cases ho
          cases hq
          have h39 : a.tmps.getD 39 undef = .int .i64 ((LG.size : Int) + (RF.size : Int)) := hdep ⟨8, .data⟩ (by simp) rfl _ rfl
          refine .inl ⟨wanted_free rfl, ?_⟩
          clear hdep
          unfold Oper.wp
          go_simp
          exact ⟨_, rfl, Below.refl _ _, congrArg Value.bool (decide_eq_false (by omega))⟩
        | 10, ho, hq =>
          cases ho
          cases hq
          have h40 : a.tmps.getD 40 undef = .bool false := hdep ⟨9, .data⟩ (by simp) rfl _ rfl
          refine .inl ⟨wanted_free rfl, ?_⟩
          clear hdep
          unfold Oper.wp
          go_simp
          exact ⟨_, rfl, Below.refl _ _, rfl⟩
        | 11, ho, hq =>
          cases ho
          cases hq
          have h41 : a.tmps.getD 41 undef = .bool false := hdep ⟨10, .guard⟩ (by simp) rfl _ rfl
          refine .inl ⟨wanted_is rfl rfl rfl h41 rfl, ?_⟩
          clear hdep
          unfold Oper.wp
          go_simp
          exact ⟨_, rfl, Below.refl _ _, rfl⟩
        | 12, ho, hq =>
          cases ho
          cases hq
          have h42 : a.tmps.getD 42 undef = .bool false := hdep ⟨11, .data⟩ (by simp) rfl _ rfl
          have h41 : a.tmps.getD 41 undef = .bool false := hdep ⟨10, .guard⟩ (by simp) rfl _ rfl
          refine .inl ⟨wanted_is rfl rfl rfl h41 rfl, ?_⟩
          clear hdep
          unfold Oper.wp
          go_simp
          exact ⟨_, rfl, Below.refl _ _, rfl⟩
        | 13, ho, hq =>
          cases ho
          cases hq
          have h41 : a.tmps.getD 41 undef = .bool false := hdep ⟨10, .data⟩ (by simp) rfl _ rfl
          have h43 : a.tmps.getD 43 undef = .bool true := hdep ⟨12, .data⟩ (by simp) rfl _ rfl
          refine .inl ⟨wanted_free rfl, ?_⟩
          clear hdep
          unfold Oper.wp
          go_simp
          exact ⟨_, rfl, Below.refl _ _, rfl⟩
        | i + 14, ho, hq =>
          exfalso
          have h : i + 14 < 14 := (List.getElem?_eq_some_iff.1 hq).1
          omega
      · intro a wx hh hb hv
        have hG0 := hv 13 _ rfl
        obtain ⟨u, hUa, hUb⟩ := Held.form (n := 14) (D := (fun i => ([31, 32, 33, 34, 35, 36, 37, 38, 39, 40, 41, 42, 43, 44] : List Nat).getD i 0)) hh (fun i hi => Nat.lt_of_lt_of_le (m := 45) ((by decide : ∀ i, i < 14 → (fun i => ([31, 32, 33, 34, 35, 36, 37, 38, 39, 40, 41, 42, 43, 44] : List Nat).getD i 0) i < 45) i hi) (Nat.le_of_ble_eq_true rfl))
        have hu0 : u 13 = .bool true := (hUb 13).trans hG0
        have HBx : Hid (Below _ _ wx) := hb
        clear hUb hv hh hb HN hG0
        subst hUa
        rw [show List.range 14 = [0, 1, 2, 3, 4, 5, 6, 7, 8, 9, 10, 11, 12, 13] from rfl]
        simp only [putAll, Act.put, List.getD_cons_zero, List.getD_cons_succ, List.setIfInBounds_toArray, List.set_cons_zero, List.set_cons_succ, hu0]
        go_wp2_with fail
        go_meet
        exact ⟨rfl, HB2.out.1.trans (HBx.out.mono HB2.out.1.size), (HBx.out.block _ (lt_of_block HB2.out.2)).trans HB2.out.2⟩
    case rest =>
      obtain ⟨rfl, HB3⟩ := hcut
      generalize wc = W3 at *
      clear HB2 k82 hp2
      go_wp2
      go_ret2
      exact ⟨rfl, HB3.out.1⟩
end Go.Proofs.YtabpiaaknjcnkaaGreat
