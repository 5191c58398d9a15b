/- The texts YQ, ZQb, YM, one behind the other. -/
import Derived.Test.YtabpiaaknjcnkaaGreatXZYZPYLPXVN
import Derived.Test.YtabpiaaknjcnkaaGreatXVOVP
import Derived.LoopTactic
import Derived.Deep.DeepCutAuto
import Derived.Test.YtabpiaaknjcnkaaGreatXVCYJZU
/-
  The document's Squash.
-/
namespace Go.Proofs.YtabpiaaknjcnkaaGreat
open Go.RowKit
set_option linter.unusedVariables false
set_option linter.unusedSimpArgs false
set_option maxRecDepth 100000

theorem YMoves.squashed {w w' : World} {p : Nat} {tv : Nat → Value} {s : Vlt} {LG : ByteArray} (h : YAt w p tv s) (hb : Below w.heap.size w w') (hl : LG.data.toList = squashL s.ch) (hle : LG.size ≤ s.log.length) :
    YMoves p tv s.squash w (w'.setCell ⟨p, 8, none⟩ (.string LG)) := by
  have e : LG = ⟨(squashL s.ch).toArray⟩ := bytes_ext (by rw [hl])
  have e2 : s.squash = ⟨squashL s.ch, s.ch⟩ := by
    unfold Vlt.squash; rw [if_pos (by rw [← hl, ← Lib.size_eq]; exact hle)]
  rw [e, e2]
  obtain ⟨h1, h2⟩ := (h.below hb).logged (squashL s.ch)
  exact ⟨tv, h1, (Out.of_below hb).trans h2 (fun q hq => .inl hq), fun b hb => .inl hb⟩
theorem squash_same {s : Vlt} {LG : ByteArray} (hl : LG.data.toList = squashL s.ch) (hle : ¬ LG.size ≤ s.log.length) : s.squash = s := by
  unfold Vlt.squash; rw [if_neg (by rw [← hl, ← Lib.size_eq]; exact hle)]

set_option maxHeartbeats 16000000 in
theorem ysquash_any (p : Nat) (tv : Nat → Value) (s : Vlt) (w : World) (hv : YAt w p tv s) (hok : s.Ok) :
    Calls Tryz.prog 40 #[.pointer (some ⟨p, 0, none⟩)] w fun e w' => e = .returned (.tuple #[]) ∧ YMoves p tv s.squash w w' := by
  have HV : Hid (YAt w p tv s) := hv
  have HOK : Hid s.Ok := hok
  have hp := hv.lt
  have hlog := hok.log
  clear hv hok
  go_enter Tryz.func40, Tryz.ntmps40
  go_wp2
  go_loopw [2, 3] (fun lg c wr => ∃ (n : Nat) (LG : ByteArray), n ≤ 4 ∧ c = .int .i64 n ∧ lg = .string LG ∧ Hid (LG.data.toList = squashTo s.ch n) ∧ Below w.heap.size w wr) (fun _ c _ => 5 - (intOf c).toNat)
  case atStart => exact ⟨0, ⟨#[]⟩, by omega, rfl, rfl, rfl, Below.refl _ _⟩
  case round =>
    obtain ⟨n, LG, hn, rfl, rfl, HLG, hbn⟩ := hrel
    have hsn := hbn.size
    by_cases hn4 : n < 4
    · have hnI : (n : Int) < 4 := by omega
      have k1 := (hbn.cell (p := ⟨p, n * 2, none⟩) hp).trans (HV.out.cellF n hn4)
      have k2 := (hbn.cell (p := ⟨p, n * 2 + 1, none⟩) hp).trans (HV.out.cellT n hn4)
      obtain ⟨ao, cap, htv, hcap, hrow⟩ := HV.out.row n hn4
      rw [htv] at k2
      have hp1 := Nat.lt_of_lt_of_le hp hsn
      have HROW : Hid (∀ i t, (s.ch n).texts[i]? = some t → ∃ g k, ao = some ⟨g, k, none⟩ ∧ g < w.heap.size ∧ w.cell? ⟨g, k + i, none⟩ = some (.string t)) := hrow
      obtain ⟨T, hT⟩ : ∃ T, (s.ch n).texts.length = T := ⟨_, rfl⟩
      rw [hT] at k2
      have HT : Hid ((s.ch n).texts.length = T) := hT
      obtain ⟨F, hF⟩ : ∃ F, yF (s.ch n) = F := ⟨_, rfl⟩
      rw [hF] at k1
      have HF : Hid (0 < T → F = (s.ch n).gone + 1) := fun h => by
        rw [← hF]; unfold yF; rw [if_neg (fun e => by rw [e] at hT; simp at hT; omega)]
      have HLST : Hid ((s.ch n).gone + T ≤ 2147483647) := by rw [← hT]; exact HOK.out.last n
      have hTb : T ≤ 2147483647 := by have := HLST.out; omega
      clear hrow hT hF htv hcap
      obtain ⟨W1, hW1⟩ : ∃ W1, W1 = wr := ⟨_, rfl⟩
      subst hW1
      go_wp2
      go_loopw [2, 5] (fun lg c wx => ∃ (i : Nat) (LG : ByteArray), i ≤ T ∧ c = .int .i64 i ∧ lg = .string LG ∧ Hid (LG.data.toList = squashTo s.ch n ++ chainL n ⟨(s.ch n).gone, (s.ch n).texts.take i⟩) ∧ Below w.heap.size w wx ∧ Hid (wx.heap[W1.heap.size]? = some (.cells #[.int .i64 F, .slice ao T cap] 66 (0, 0)))) (fun _ c _ => T + 1 - (intOf c).toNat)
      case atStart => exact ⟨0, LG, by omega, rfl, rfl, by unfold Hid; rw [HLG.out, List.take_zero]; simp [chainL], hbn.alloc hsn _, heap_alloc_new _ _⟩
      case round =>
        obtain ⟨W2, hW2⟩ : ∃ W2, W2 = wr := ⟨_, rfl⟩
        subst hW2
        obtain ⟨i, LI, hi, rfl, rfl, HLI, hbi, HOB⟩ := hrel
        have y0 : W2.cell? ⟨W1.heap.size, 0, none⟩ = some (.int .i64 F) := by rw [Lib.cell_of_heap HOB.out]; rfl
        have y1 : W2.cell? ⟨W1.heap.size, 1, none⟩ = some (.slice ao T cap) := by rw [Lib.cell_of_heap HOB.out]; rfl
        have hs2 : W1.heap.size < W2.heap.size := lt_of_block HOB.out
        by_cases hiT : i < T
        · have hiI : (i : Int) < (T : Int) := by omega
          have hT0 : (0 : Int) < (T : Int) := by omega
          have hLIs : LI.size ≤ 25000000000000 := by
            have h1 := squashTo_le HOK.out n (by omega)
            have h2 := chainL_take hn4 (g := (s.ch n).gone) (ts := (s.ch n).texts) (by rw [HT.out]; exact HLST.out) (HOK.out.size n) i (by rw [HT.out]; omega)
            have h3 := Lib.size_eq LI
            rw [HLI.out, List.length_append] at h3
            omega
          obtain ⟨t0, ht0⟩ : ∃ t, (s.ch n).texts[0]? = some t := ⟨(s.ch n).texts[0]'(by rw [HT.out]; omega), List.getElem?_eq_getElem _⟩
          obtain ⟨g, k, hao, hg, hc0⟩ := HROW.out 0 t0 ht0
          subst hao
          have hz0 : W2.cell? ⟨g, k, none⟩ = some (.string t0) := (hbi.cell (p := ⟨g, k + 0, none⟩) hg).trans hc0
          have hsz0 : t0.size ≤ 2000 := HOK.out.size n t0 (List.mem_of_getElem? ht0)
          obtain rfl := HF.out (by omega)
          have HBB : Hid (∀ W : World, Calls Tryz.prog 82 #[.int .i64 n, .int .i64 (((s.ch n).gone + 1 : Nat) : Int), .string t0] W fun e w' => e = .returned (.string ⟨(bodyB n ((s.ch n).gone + 1) t0.data.toList).toArray⟩) ∧ Below W.heap.size W w') := fun W => ybase_any n ((s.ch n).gone + 1) t0 W (by omega) (by have := HLST.out; omega) hsz0
          by_cases hi0 : i = 0
          · subst hi0
            have hbl := (bodyB_len n ((s.ch n).gone + 1) t0 (by omega) (by have := HLST.out; omega) hsz0).2
            have HRB : Hid (∀ W : World, Calls Tryz.prog 74 #[.string ⟨(bodyB n ((s.ch n).gone + 1) t0.data.toList).toArray⟩] W fun e w' => e = .returned (.string ⟨(recL (bodyB n ((s.ch n).gone + 1) t0.data.toList)).toArray⟩) ∧ Below W.heap.size W w') := fun W => yrecord_any _ W (by rw [lens_size]; omega)
            have hrs : (⟨(recL (bodyB n ((s.ch n).gone + 1) t0.data.toList)).toArray⟩ : ByteArray).size ≤ 100000 := by rw [lens_size]; have := (recL_len (b := bodyB n ((s.ch n).gone + 1) t0.data.toList) (by omega)).1; omega
            have HNX : Hid ((LI ++ ⟨(recL (bodyB n ((s.ch n).gone + 1) t0.data.toList)).toArray⟩ : ByteArray).data.toList = squashTo s.ch n ++ chainL n ⟨(s.ch n).gone, (s.ch n).texts.take (0 + 1)⟩) := by
              unfold Hid
              rw [app_bytes, HLI.out, take_snoc ht0, List.take_zero]
              simp [chainL, restL]
            generalize (⟨(recL (bodyB n ((s.ch n).gone + 1) t0.data.toList)).toArray⟩ : ByteArray) = RB at *
            generalize (⟨(bodyB n ((s.ch n).gone + 1) t0.data.toList).toArray⟩ : ByteArray) = BB at *
            generalize (s.ch n).gone + 1 = F at *
            have hz : ¬ 9223372036854775807 < LI.size + RB.size := by omega
            clear hc0 ht0 hbl hsz0
            go_upto_region 8 with fail
            go_cut [6] (fun v wx => v = .string BB ∧ Hid (Below w.heap.size w wx ∧ wx.heap[W1.heap.size]? = some (.cells #[.int .i64 F, .slice (some ⟨g, k, none⟩) T cap] 66 (0, 0))))
            case first =>
              go_region_with (first | (go_at_call 82; refine (HBB.out _).mono ?_; rintro e w3 ⟨rfl, b3⟩))
              all_goals
                go_wp2_with fail
                go_meet
                exact ⟨rfl, hbi.drew.trans (b3.mono hbi.size), (b3.block _ hs2).trans HOB.out⟩
            case rest =>
              obtain ⟨rfl, H3⟩ := hcut
              clear HBB y0 y1 hs2 HOB hz0 hbi
              generalize wc = W3 at *
              have H4 := H3
              clear H3
              go_wp2_with fail
              refine (HRB.out _).mono ?_
              rintro e w5 ⟨rfl, b5⟩
              have H5 : Hid (Below w.heap.size w w5 ∧ w5.heap[W1.heap.size]? = some (.cells #[.int .i64 F, .slice (some ⟨g, k, none⟩) T cap] 66 (0, 0))) := ⟨H4.out.1.trans (b5.mono H4.out.1.size), (b5.block _ (lt_of_block H4.out.2)).trans H4.out.2⟩
              clear H4 b5
              go_wp2
              go_roundw
              case rel => exact ⟨_, LI ++ RB, by omega, by go_num, rfl, HNX, H5.out.1, H5.out.2⟩
              case measure => first | (simp [intOf]; done) | (simp [intOf]; omega)
          · obtain ⟨j, hj⟩ : ∃ j, i = j + 1 := ⟨i - 1, by omega⟩
            have HJ : Hid (i = j + 1) := hj
            obtain ⟨x, hx⟩ : ∃ x, (s.ch n).texts[j]? = some x := ⟨(s.ch n).texts[j]'(by rw [HT.out]; omega), List.getElem?_eq_getElem _⟩
            obtain ⟨t, ht⟩ : ∃ t, (s.ch n).texts[i]? = some t := ⟨(s.ch n).texts[i]'(by rw [HT.out]; omega), List.getElem?_eq_getElem _⟩
            have hxs : x.size ≤ 2000 := HOK.out.size n x (List.mem_of_getElem? hx)
            have hts : t.size ≤ 2000 := HOK.out.size n t (List.mem_of_getElem? ht)
            have HCX : Hid (g < w.heap.size ∧ w.cell? ⟨g, k + j, none⟩ = some (.string x) ∧ w.cell? ⟨g, k + i, none⟩ = some (.string t)) := by
              obtain ⟨g1, k1', e1, h1, c1⟩ := HROW.out j x hx
              obtain ⟨g2, k2', e2, h2, c2⟩ := HROW.out i t ht
              injection e1 with e1
              injection e1 with a1 a2
              injection e2 with e2
              injection e2 with a3 a4
              subst a1; subst a2; subst a3; subst a4
              exact ⟨h1, c1, c2⟩
            have HDF : Hid (∀ W : World, Calls Tryz.prog 75 #[.int .i64 n, .string x, .string t] W fun e w' => e = .returned (.string ⟨(ydifL n x t).toArray⟩) ∧ Below W.heap.size W w') := fun W => ydiffers_any n x t W (by omega) hxs hts
            have hdl := ydif_len n x t (by omega) hxs hts
            have HRX : Hid (∀ W : World, Calls Tryz.prog 74 #[.string ⟨(ydifL n x t).toArray⟩] W fun e w' => e = .returned (.string ⟨(recL (ydifL n x t)).toArray⟩) ∧ Below W.heap.size W w') := fun W => yrecord_any _ W (by rw [lens_size]; omega)
            have hrs : (⟨(recL (ydifL n x t)).toArray⟩ : ByteArray).size ≤ 100000 := by rw [lens_size]; have := (recL_len (b := ydifL n x t) (by omega)).1; omega
            have HNX : Hid ((LI ++ ⟨(recL (ydifL n x t)).toArray⟩ : ByteArray).data.toList = squashTo s.ch n ++ chainL n ⟨(s.ch n).gone, (s.ch n).texts.take (i + 1)⟩) := by
              unfold Hid
              have ht' := ht
              rw [hj] at ht'
              rw [app_bytes, HLI.out, hj, chain_next hx ht', ydif_rec, List.append_assoc]
            generalize (⟨(recL (ydifL n x t)).toArray⟩ : ByteArray) = RX at *
            generalize (⟨(ydifL n x t).toArray⟩ : ByteArray) = BX at *
            generalize (⟨(bodyB n ((s.ch n).gone + 1) t0.data.toList).toArray⟩ : ByteArray) = BB at *
            generalize (s.ch n).gone + 1 = F at *
            have hz : ¬ 9223372036854775807 < LI.size + RX.size := by omega
            clear hc0 ht0 hsz0 hx ht hxs hts hdl hj hi0
            go_upto_region 8 with fail
            go_cut [6] (fun v wx => v = .string BB ∧ Hid (Below w.heap.size w wx ∧ wx.heap[W1.heap.size]? = some (.cells #[.int .i64 F, .slice (some ⟨g, k, none⟩) T cap] 66 (0, 0))))
            case first =>
              go_region_with (first | (go_at_call 82; refine (HBB.out _).mono ?_; rintro e w3 ⟨rfl, b3⟩))
              all_goals
                go_wp2_with fail
                go_meet
                exact ⟨rfl, hbi.drew.trans (b3.mono hbi.size), (b3.block _ hs2).trans HOB.out⟩
            case rest =>
              obtain ⟨rfl, H3⟩ := hcut
              clear HBB y0 y1 hs2 HOB hz0 hbi
              generalize wc = W3 at *
              have y0 : W3.cell? ⟨W1.heap.size, 0, none⟩ = some (.int .i64 F) := by rw [Lib.cell_of_heap H3.out.2]; rfl
              have y1 : W3.cell? ⟨W1.heap.size, 1, none⟩ = some (.slice (some ⟨g, k, none⟩) T cap) := by rw [Lib.cell_of_heap H3.out.2]; rfl
              have hs3 : W1.heap.size < W3.heap.size := lt_of_block H3.out.2
              have cx := (H3.out.1.cell (p := ⟨g, k + j, none⟩) HCX.out.1).trans HCX.out.2.1
              have ct := (H3.out.1.cell (p := ⟨g, k + i, none⟩) HCX.out.1).trans HCX.out.2.2
              have v1 : IntKind.i64.wrap ((i : Int) - 1) = (j : Int) := by have := HJ.out; rw [IntKind.wrap_i64]; omega
              have v2 : (0 : Int) < (i : Int) := by have := HJ.out; omega
              have v3 : (j : Int) < (T : Int) := by have := HJ.out; omega
              go_upto_region 10 with fail
              go_cut [6] (fun v wx => v = .string BX ∧ Hid (Below w.heap.size w wx ∧ wx.heap[W1.heap.size]? = some (.cells #[.int .i64 F, .slice (some ⟨g, k, none⟩) T cap] 66 (0, 0))))
              case first =>
                go_region_with (first | (go_at_call 75; refine (HDF.out _).mono ?_; rintro e w4 ⟨rfl, b4⟩))
                all_goals
                  go_wp2_with fail
                  go_meet
                  exact ⟨rfl, H3.out.1.drew.trans (b4.mono H3.out.1.size), (b4.block _ hs3).trans H3.out.2⟩
              case rest =>
                obtain ⟨rfl, H4⟩ := hcut
                clear HDF y0 y1 hs3 cx ct v1 v3 H3
                generalize wc = W4 at *
                go_wp2_with fail
                refine (HRX.out _).mono ?_
                rintro e w5 ⟨rfl, b5⟩
                have H5 : Hid (Below w.heap.size w w5 ∧ w5.heap[W1.heap.size]? = some (.cells #[.int .i64 F, .slice (some ⟨g, k, none⟩) T cap] 66 (0, 0))) := ⟨H4.out.1.trans (b5.mono H4.out.1.size), (b5.block _ (lt_of_block H4.out.2)).trans H4.out.2⟩
                clear H4 b5
                go_wp2
                go_roundw
                case rel => exact ⟨_, LI ++ RX, by omega, by go_num, rfl, HNX, H5.out.1, H5.out.2⟩
                case measure => simp [intOf]; omega
        · have HFIN : Hid (LI.data.toList = squashTo s.ch (n + 1)) := by
            unfold Hid
            rw [HLI.out, show i = (s.ch n).texts.length by rw [HT.out]; omega, List.take_length]; rfl
          have hiI : ¬ (i : Int) < (T : Int) := by omega
          go_wp2
          go_roundw
          case rel => exact ⟨n + 1, LI, by omega, by go_num, rfl, HFIN, hbi⟩
          case measure => simp [intOf]; omega
    · have hn4' : n = 4 := by omega
      have HSQ : Hid (LG.data.toList = squashL s.ch) := by unfold Hid; rw [HLG.out, hn4', squashTo_four]
      have hLGs : LG.size ≤ 25000000000000 := by
        have h1 := squashTo_le HOK.out n hn
        have h3 := Lib.size_eq LG
        rw [HLG.out] at h3
        omega
      have k8 := (hbn.cell (p := ⟨p, 8, none⟩) hp).trans HV.out.cellL
      have f8 := (hbn.frozen (p := ⟨p, 8, none⟩) hp).trans (HV.out.frozen 8)
      have hp1 := Nat.lt_of_lt_of_le hp hsn
      have hL8 : (⟨s.log.toArray⟩ : ByteArray).size = s.log.length := lens_size _
      have hnI : ¬ (n : Int) < 4 := by omega
      by_cases hle : LG.size ≤ s.log.length
      · have HM : Hid (YMoves p tv s.squash w (wr.setCell ⟨p, 8, none⟩ (.string LG))) := YMoves.squashed HV.out hbn HSQ.out hle
        generalize (⟨s.log.toArray⟩ : ByteArray) = OL at *
        have hleI : (LG.size : Int) ≤ (OL.size : Int) := by omega
        clear hle hL8 hn4' HLG
        go_wp2
        (try simp only [Exit.inBlock, Exit.then])
        first | refine bodyPost_ret (results_none rfl _ _ _) rfl ?_ | refine bodyPost_end (results_none rfl _ _ _) rfl ?_
        exact ⟨rfl, HM.out⟩
      · have HM : Hid (YMoves p tv s.squash w wr) := by unfold Hid; rw [squash_same HSQ.out hle]; exact YMoves.stays HV.out hbn
        generalize (⟨s.log.toArray⟩ : ByteArray) = OL at *
        have hleI : ¬ (LG.size : Int) ≤ (OL.size : Int) := by omega
        clear hle hL8 hn4' HLG
        go_wp2
        (try simp only [Exit.inBlock, Exit.then])
        first | refine bodyPost_ret (results_none rfl _ _ _) rfl ?_ | refine bodyPost_end (results_none rfl _ _ _) rfl ?_
        exact ⟨rfl, HM.out⟩
end Go.Proofs.YtabpiaaknjcnkaaGreat

/-
  The step of Squash.
-/
namespace Go.Proofs.YtabpiaaknjcnkaaGreat
open Go.RowKit
set_option linter.unusedVariables false
set_option linter.unusedSimpArgs false
set_option maxRecDepth 100000

theorem squashV_ok {s : Vlt} (h : s.Ok) : s.squash.Ok := ⟨Nat.le_trans (squash_le s) h.log, h.last, h.size, h.none⟩
set_option maxHeartbeats 4000000 in
theorem step_squash {w : World} {B0 Wb : Nat} {xv yv bv : Value} {es : List Entry} {xs : List XV} {ys : List YV} {κ : Nat → Col} (h : WorldAt w B0 Wb xv yv bv es xs ys κ) (hsame : xs.map (·.s) = ys.map (·.s)) (h0 : 0 < xs.length) (h4 : xs.length ≤ 4) (a b c : Int) (ha : -9223372036854775808 ≤ a ∧ a ≤ 9223372036854775807) (s t : ByteArray) (hs : s.size ≤ 9223372036854775807) (lo mo : Option Addr) (ln lc mn mc : Nat) :
    Calls Tryz.prog 17 #[.pointer (some ⟨Wb, 0, none⟩), .agg #[.int .i64 15, .int .i64 a, .int .i64 b, .int .i64 c, .string s, .string t, .slice lo ln lc, .slice mo mn mc]] w (Went B0 Wb es.length w) := by
  have hi := pickN_lt a xs.length h0
  have HPK : Hid (∀ W, Calls Tryz.prog 32 #[.int .i64 a, .int .i64 xs.length] W fun e w' => e = .returned (.int .i64 (pickN a xs.length)) ∧ W = w') := fun W => lpick_eq a xs.length W ha.1 ha.2 h0 (by omega)
  generalize pickN a xs.length = i at *
  obtain ⟨gx, cx, gy, cy, x, y, ex, ey, lx, ly, c1, c2, hx, hy, hxy⟩ := h.picks hsame hi
  obtain ⟨hX, hXc, hok⟩ := h.xat i x hx
  obtain ⟨hY, hYc, hok2⟩ := h.yat i y hy
  have HX : Hid (∀ W, Below w.heap.size w W → Calls Tryz.prog 39 #[.pointer (some ⟨x.p, 0, none⟩)] W fun e w' => e = .returned (.tuple #[]) ∧ Below B0 W w' ∧ w.heap.size ≤ w'.heap.size ∧ (w.heap.size < W.heap.size → w'.heap[w.heap.size]? = W.heap[w.heap.size]?) ∧ Hid (∃ x' κ', x'.s = x.s.squash ∧ WorldAt w' B0 Wb xv yv bv es (xs.set i x') ys κ')) := fun W hW => by
    have hWat := h.below hW
    obtain ⟨hXW, _, _⟩ := hWat.xat i x hx
    refine (csquash_any x.p x.lv x.tv x.s W hXW hok).mono ?_
    rintro e w' ⟨he, hm⟩
    obtain ⟨hB, x', κ', e1, e2, hat⟩ := hWat.xmove hx hm (squashV_ok hok)
    refine ⟨he, hB, Nat.le_trans hW.size hB.size, ?_, x', κ', e1, hat⟩
    obtain ⟨_, _, _, hO, _⟩ := hm
    exact fun hlt => hO.block _ hlt (fun hf => by have := hX.foot_lt _ hf; omega)
  have HY : Hid (∀ W x' κ', x'.s = x.s.squash → WorldAt W B0 Wb xv yv bv es (xs.set i x') ys κ' → Calls Tryz.prog 40 #[.pointer (some ⟨y.q, 0, none⟩)] W fun e w' => e = .returned (.tuple #[]) ∧ Hid (Below B0 W w' ∧ ∃ xs' ys' κ', xs'.map (·.s) = ys'.map (·.s) ∧ xs'.length ≤ 4 ∧ WorldAt w' B0 Wb xv yv bv es xs' ys' κ')) := fun W x' κ' hx' hat => by
    obtain ⟨hYW, _, hok3⟩ := hat.yat i y hy
    refine (ysquash_any y.q y.tv y.s W hYW hok3).mono ?_
    rintro e w' ⟨he, hm⟩
    obtain ⟨hB, y', κ2, e1, e2, hat2⟩ := hat.ymove hy hm (squashV_ok hok3)
    exact ⟨he, hB, _, _, κ2, set_same hsame (by rw [hx', e1, hxy]), by rw [List.length_set]; exact h4, hat2⟩
  have kX := h.cellX
  have kY := h.cellY
  rw [ex] at kX
  rw [ey] at kY
  have hWb := h.lt
  have hB0 := h.low0
  have hN0 : ¬ (xs.length : Int) = 0 := by omega
  have hiI : (i : Int) < (xs.length : Int) := by omega
  generalize x.p = p at *
  generalize y.q = q at *
  generalize hN : xs.length = N at *
  have HB0 : Hid (B0 ≤ w.heap.size) := hB0
  clear hx hy hxy hX hY hok h hsame ex ey ha hXc hYc hok2 h0 h4 hi hN hB0
  go_enter Tryz.func17, Tryz.ntmps17
  go_wp2
  go_region_with (first | (go_at_call 32; refine (HPK.out _).mono ?_; rintro e w' ⟨rfl, rfl⟩))
  all_goals
    go_wp2_with fail
    refine (HX.out _ (((Below.refl w.heap.size w).alloc (Nat.le_refl _) _).drew)).mono ?_
    rintro e w1 ⟨rfl, b1, hs1, o1, H1⟩
    have ob1 := (o1 (by simp)).trans (heap_alloc_new w _)
    have B1 : Below B0 w w1 := ((((Below.refl w.heap.size w).alloc (Nat.le_refl _) _).drew).mono HB0.out).trans b1
    have j2 : w1.cell? ⟨w.heap.size, 2, none⟩ = some (.int .i64 b) := by rw [Lib.cell_of_heap ob1]; rfl
    have j3 : w1.cell? ⟨w.heap.size, 3, none⟩ = some (.int .i64 c) := by rw [Lib.cell_of_heap ob1]; rfl
    have j4 : w1.cell? ⟨w.heap.size, 4, none⟩ = some (.string s) := by rw [Lib.cell_of_heap ob1]; rfl
    have hs1' : w.heap.size < w1.heap.size := lt_of_block ob1
    obtain ⟨x', κ', hx', hat⟩ := H1.out
    have HYC := HY.out w1 x' κ' hx' hat
    have HYD : Hid (Calls Tryz.prog 40 #[.pointer (some ⟨q, 0, none⟩)] w1 fun e w' => e = .returned (.tuple #[]) ∧ Hid (Below B0 w1 w' ∧ ∃ xs' ys' κ', xs'.map (·.s) = ys'.map (·.s) ∧ xs'.length ≤ 4 ∧ WorldAt w' B0 Wb xv yv bv es xs' ys' κ')) := HYC
    clear ob1 b1 o1 c1 c2 kX kY H1 hat hx' HYC HX HY
    go_wp2_with fail
    refine HYD.out.mono ?_
    rintro e w2 ⟨rfl, H2⟩
    have HR : Hid (Below B0 w w2 ∧ ∃ xs' ys' κ', xs'.map (·.s) = ys'.map (·.s) ∧ xs'.length ≤ 4 ∧ WorldAt w2 B0 Wb xv yv bv es xs' ys' κ') := ⟨B1.trans H2.out.1, H2.out.2⟩
    clear HYD B1 j2 j3 j4 H2
    go_wp2
    go_ret
    obtain ⟨hb, xs', ys', κ2, e1, e2, hat2⟩ := HR.out
    exact ⟨rfl, ⟨xv, yv, bv, es, xs', ys', κ2, Nat.le_refl _, e1, e2, hat2⟩, hb⟩
end Go.Proofs.YtabpiaaknjcnkaaGreat

/-
  The document's does: nothing is done.
-/
namespace Go.Proofs.YtabpiaaknjcnkaaGreat
open Go.RowKit
set_option linter.unusedVariables false
set_option linter.unusedSimpArgs false
set_option maxRecDepth 100000

set_option maxHeartbeats 4000000 in
theorem ydoes_empty (p : Nat) (b : ByteArray) (tv : Nat → Value) (s : Vlt) (w : World) (hv : YAt w p tv s) (hok : s.Ok) (hsz : b.size ≤ 20000) (h0 : b = ⟨#[]⟩) :
    Calls Tryz.prog 105 #[.pointer (some ⟨p, 0, none⟩), .string b] w fun e w' => e = .returned (.bool false) ∧ Below w.heap.size w w' := by
  subst h0
  clear hv hok
  go_enter Tryz.func105, Tryz.ntmps105
  go_wp2
  go_ret
  exact ⟨rfl, Below.refl _ _⟩
set_option maxHeartbeats 4000000 in
theorem ydoes_num (p : Nat) (b : ByteArray) (tv : Nat → Value) (s : Vlt) (w : World) (hv : YAt w p tv s) (hok : s.Ok) (hsz : b.size ≤ 20000) (h0 : 0 < b.size) (hbad : ∀ c at_, numF b 1 = .inr (c, at_) → 3 < c) :
    Calls Tryz.prog 105 #[.pointer (some ⟨p, 0, none⟩), .string b] w fun e w' => e = .returned (.bool false) ∧ Below w.heap.size w w' := by
  have hb0 : b.toList.isEmpty = false := by
    cases h : b.toList.isEmpty
    · rfl
    · have := (isEmpty_iff b).1 h; omega
  have HN : Hid (∀ W : World, Calls Tryz.prog 104 #[.string b, .int .i64 1, .int .i64 3] W fun e w' => (∃ q : Nat, e = .returned (.tuple #[.int .i64 0, .int .i64 0, .int .i64 q])) ∧ W = w') := fun W => by
    have := rnum_any b 1 3 W (by omega) (by omega) (by omega)
    cases hn : numF b 1 with
    | inl q => rw [numR_bad hn] at this; exact this.mono fun e w' h => ⟨⟨q, h.1⟩, h.2⟩
    | inr x =>
      obtain ⟨c, a⟩ := x
      rw [numR_most hn (hbad c a hn)] at this; exact this.mono fun e w' h => ⟨⟨1, h.1⟩, h.2⟩
  clear hv hok hbad
  go_enter Tryz.func105, Tryz.ntmps105
  go_wp2_with fail
  refine (HN.out _).mono ?_
  rintro e w0 ⟨⟨q, rfl⟩, rfl⟩
  go_wp2
  go_ret
  exact ⟨rfl, Below.refl _ _⟩
set_option maxHeartbeats 4000000 in
theorem ydoes_F_long (p : Nat) (b : ByteArray) (tv : Nat → Value) (s : Vlt) (w : World) (hv : YAt w p tv s) (hok : s.Ok) (hsz : b.size ≤ 20000) (h0 : 0 < b.size) (c at_ : Nat) (hnum : numF b 1 = .inr (c, at_)) (hc : c < 4) (hl : (b[0]'h0).toNat = 70) (ht : 2000 < b.size - at_) :
    Calls Tryz.prog 105 #[.pointer (some ⟨p, 0, none⟩), .string b] w fun e w' => e = .returned (.bool false) ∧ Below w.heap.size w w' := by
  have hb0 : b.toList.isEmpty = false := by
    cases h : b.toList.isEmpty
    · rfl
    · have := (isEmpty_iff b).1 h; omega
  obtain ⟨_, hat1, hat2⟩ := numF_ok (by omega) hnum
  have HN : Hid (∀ W : World, Calls Tryz.prog 104 #[.string b, .int .i64 1, .int .i64 3] W fun e w' => e = .returned (.tuple #[.int .i64 c, .int .i64 at_, .int .i64 (-1)]) ∧ W = w') := fun W => by
    have := rnum_any b 1 3 W (by omega) (by omega) (by omega)
    rw [numR_ok hnum (by omega)] at this; exact this
  have k1 := hv.cellF c hc
  have k2 := hv.cellT c hc
  obtain ⟨ao, cap, htv, hcap, hrow⟩ := hv.row c hc
  rw [htv] at k2
  have hp := hv.lt
  have hcI : (c : Int) < 4 := by omega
  have HCAN : Hid (∀ W : World, Calls Tryz.prog 72 #[.agg #[.int .i64 (yF (s.ch c)), .slice ao (s.ch c).texts.length cap]] W fun e w' => e = .returned (.bool (decide ((s.ch c).last ≠ 2147483647))) ∧ Below W.heap.size W w') := fun W => yroom hok W
  have htI : (2000 : Int) < (b.size : Int) - (at_ : Int) := by omega
  have u1 : IntKind.i64.wrap ((b.size : Int) - (at_ : Int)) = (b.size : Int) - (at_ : Int) := by rw [IntKind.wrap_i64]; omega
  generalize decide ((s.ch c).last ≠ 2147483647) = cn at *
  generalize yF (s.ch c) = F at *
  generalize (s.ch c).texts.length = L at *
  clear hv hok htv hcap hrow hnum ht
  go_enter Tryz.func105, Tryz.ntmps105
  go_wp2_with fail
  refine (HN.out _).mono ?_
  rintro e w0 ⟨rfl, rfl⟩
  go_wp2_with fail
  refine (HCAN.out _).mono ?_
  rintro e w1 ⟨rfl, b1⟩
  have B1 : Below w.heap.size w w1 := ((Below.refl w.heap.size w).alloc (Nat.le_refl _) _).trans (b1.mono (by simp))
  have ob1 := (b1.block w.heap.size (by simp)).trans (heap_alloc_new w (.cells #[.int .i64 F, .slice ao L cap] 66))
  have x0 : w1.cell? ⟨w.heap.size, 0, none⟩ = some (.int .i64 F) := by rw [Lib.cell_of_heap ob1]; rfl
  have x1 : w1.cell? ⟨w.heap.size, 1, none⟩ = some (.slice ao L cap) := by rw [Lib.cell_of_heap ob1]; rfl
  have hs1 : w.heap.size < w1.heap.size := lt_of_block ob1
  clear k1 k2 b1
  go_wp2
  go_ret
  exact ⟨rfl, B1⟩
set_option maxHeartbeats 4000000 in
theorem ydoes_F_full (p : Nat) (b : ByteArray) (tv : Nat → Value) (s : Vlt) (w : World) (hv : YAt w p tv s) (hok : s.Ok) (hsz : b.size ≤ 20000) (h0 : 0 < b.size) (c at_ : Nat) (hnum : numF b 1 = .inr (c, at_)) (hc : c < 4) (hl : (b[0]'h0).toNat = 70) (ht : b.size - at_ ≤ 2000) (hlast : (s.ch c).last = 2147483647) :
    Calls Tryz.prog 105 #[.pointer (some ⟨p, 0, none⟩), .string b] w fun e w' => e = .returned (.bool false) ∧ Below w.heap.size w w' := by
  have hb0 : b.toList.isEmpty = false := by
    cases h : b.toList.isEmpty
    · rfl
    · have := (isEmpty_iff b).1 h; omega
  obtain ⟨_, hat1, hat2⟩ := numF_ok (by omega) hnum
  have HN : Hid (∀ W : World, Calls Tryz.prog 104 #[.string b, .int .i64 1, .int .i64 3] W fun e w' => e = .returned (.tuple #[.int .i64 c, .int .i64 at_, .int .i64 (-1)]) ∧ W = w') := fun W => by
    have := rnum_any b 1 3 W (by omega) (by omega) (by omega)
    rw [numR_ok hnum (by omega)] at this; exact this
  have k1 := hv.cellF c hc
  have k2 := hv.cellT c hc
  obtain ⟨ao, cap, htv, hcap, hrow⟩ := hv.row c hc
  rw [htv] at k2
  have hp := hv.lt
  have hcI : (c : Int) < 4 := by omega
  have HCAN : Hid (∀ W : World, Calls Tryz.prog 72 #[.agg #[.int .i64 (yF (s.ch c)), .slice ao (s.ch c).texts.length cap]] W fun e w' => e = .returned (.bool (decide ((s.ch c).last ≠ 2147483647))) ∧ Below W.heap.size W w') := fun W => yroom hok W
  have htI : ¬ (2000 : Int) < (b.size : Int) - (at_ : Int) := by omega
  have u1 : IntKind.i64.wrap ((b.size : Int) - (at_ : Int)) = (b.size : Int) - (at_ : Int) := by rw [IntKind.wrap_i64]; omega
  rw [show decide ((s.ch c).last ≠ 2147483647) = false from decide_eq_false (fun h => h hlast)] at HCAN
  generalize yF (s.ch c) = F at *
  generalize (s.ch c).texts.length = L at *
  clear hv hok htv hcap hrow hnum ht hlast
  go_enter Tryz.func105, Tryz.ntmps105
  go_wp2_with fail
  refine (HN.out _).mono ?_
  rintro e w0 ⟨rfl, rfl⟩
  go_wp2_with fail
  refine (HCAN.out _).mono ?_
  rintro e w1 ⟨rfl, b1⟩
  have B1 : Below w.heap.size w w1 := ((Below.refl w.heap.size w).alloc (Nat.le_refl _) _).trans (b1.mono (by simp))
  have ob1 := (b1.block w.heap.size (by simp)).trans (heap_alloc_new w (.cells #[.int .i64 F, .slice ao L cap] 66))
  have x0 : w1.cell? ⟨w.heap.size, 0, none⟩ = some (.int .i64 F) := by rw [Lib.cell_of_heap ob1]; rfl
  have x1 : w1.cell? ⟨w.heap.size, 1, none⟩ = some (.slice ao L cap) := by rw [Lib.cell_of_heap ob1]; rfl
  have hs1 : w.heap.size < w1.heap.size := lt_of_block ob1
  clear k1 k2 b1
  go_wp2
  go_ret
  exact ⟨rfl, B1⟩
set_option maxHeartbeats 4000000 in
theorem ydoes_other (p : Nat) (b : ByteArray) (tv : Nat → Value) (s : Vlt) (w : World) (hv : YAt w p tv s) (hok : s.Ok) (hsz : b.size ≤ 20000) (h0 : 0 < b.size) (c at_ : Nat) (hnum : numF b 1 = .inr (c, at_)) (hc : c < 4) (hF : ¬ (b[0]'h0).toNat = 70) (hD : ¬ (b[0]'h0).toNat = 68) (hB : ¬ (b[0]'h0).toNat = 66) (hP : ¬ (b[0]'h0).toNat = 80) :
    Calls Tryz.prog 105 #[.pointer (some ⟨p, 0, none⟩), .string b] w fun e w' => e = .returned (.bool false) ∧ Below w.heap.size w w' := by
  have hb0 : b.toList.isEmpty = false := by
    cases h : b.toList.isEmpty
    · rfl
    · have := (isEmpty_iff b).1 h; omega
  obtain ⟨_, hat1, hat2⟩ := numF_ok (by omega) hnum
  have HN : Hid (∀ W : World, Calls Tryz.prog 104 #[.string b, .int .i64 1, .int .i64 3] W fun e w' => e = .returned (.tuple #[.int .i64 c, .int .i64 at_, .int .i64 (-1)]) ∧ W = w') := fun W => by
    have := rnum_any b 1 3 W (by omega) (by omega) (by omega)
    rw [numR_ok hnum (by omega)] at this; exact this
  have k1 := hv.cellF c hc
  have k2 := hv.cellT c hc
  obtain ⟨ao, cap, htv, hcap, hrow⟩ := hv.row c hc
  rw [htv] at k2
  have hp := hv.lt
  have hcI : (c : Int) < 4 := by omega
  have HCAN : Hid (∀ W : World, Calls Tryz.prog 72 #[.agg #[.int .i64 (yF (s.ch c)), .slice ao (s.ch c).texts.length cap]] W fun e w' => e = .returned (.bool (decide ((s.ch c).last ≠ 2147483647))) ∧ Below W.heap.size W w') := fun W => yroom hok W
  generalize decide ((s.ch c).last ≠ 2147483647) = cn at *
  generalize yF (s.ch c) = F at *
  generalize (s.ch c).texts.length = L at *
  clear hv hok htv hcap hrow hnum 
  go_enter Tryz.func105, Tryz.ntmps105
  go_wp2_with fail
  refine (HN.out _).mono ?_
  rintro e w0 ⟨rfl, rfl⟩
  go_wp2_with fail
  refine (HCAN.out _).mono ?_
  rintro e w1 ⟨rfl, b1⟩
  have B1 : Below w.heap.size w w1 := ((Below.refl w.heap.size w).alloc (Nat.le_refl _) _).trans (b1.mono (by simp))
  have ob1 := (b1.block w.heap.size (by simp)).trans (heap_alloc_new w (.cells #[.int .i64 F, .slice ao L cap] 66))
  have x0 : w1.cell? ⟨w.heap.size, 0, none⟩ = some (.int .i64 F) := by rw [Lib.cell_of_heap ob1]; rfl
  have x1 : w1.cell? ⟨w.heap.size, 1, none⟩ = some (.slice ao L cap) := by rw [Lib.cell_of_heap ob1]; rfl
  have hs1 : w.heap.size < w1.heap.size := lt_of_block ob1
  clear k1 k2 b1
  go_wp2
  go_ret
  exact ⟨rfl, B1⟩
set_option maxHeartbeats 4000000 in
theorem ydoes_D_code (p : Nat) (b : ByteArray) (tv : Nat → Value) (s : Vlt) (w : World) (hv : YAt w p tv s) (hok : s.Ok) (hsz : b.size ≤ 20000) (h0 : 0 < b.size) (c at_ : Nat) (hnum : numF b 1 = .inr (c, at_)) (hc : c < 4) (hl : (b[0]'h0).toNat = 68) (q : Nat) (hd : decF (b.extract at_ b.size) = .inl q) :
    Calls Tryz.prog 105 #[.pointer (some ⟨p, 0, none⟩), .string b] w fun e w' => e = .returned (.bool false) ∧ Below w.heap.size w w' := by
  have hb0 : b.toList.isEmpty = false := by
    cases h : b.toList.isEmpty
    · rfl
    · have := (isEmpty_iff b).1 h; omega
  obtain ⟨_, hat1, hat2⟩ := numF_ok (by omega) hnum
  have HN : Hid (∀ W : World, Calls Tryz.prog 104 #[.string b, .int .i64 1, .int .i64 3] W fun e w' => e = .returned (.tuple #[.int .i64 c, .int .i64 at_, .int .i64 (-1)]) ∧ W = w') := fun W => by
    have := rnum_any b 1 3 W (by omega) (by omega) (by omega)
    rw [numR_ok hnum (by omega)] at this; exact this
  have k1 := hv.cellF c hc
  have k2 := hv.cellT c hc
  obtain ⟨ao, cap, htv, hcap, hrow⟩ := hv.row c hc
  rw [htv] at k2
  have hp := hv.lt
  have hcI : (c : Int) < 4 := by omega
  have HCAN : Hid (∀ W : World, Calls Tryz.prog 72 #[.agg #[.int .i64 (yF (s.ch c)), .slice ao (s.ch c).texts.length cap]] W fun e w' => e = .returned (.bool (decide ((s.ch c).last ≠ 2147483647))) ∧ Below W.heap.size W w') := fun W => yroom hok W
  have hxs : (b.extract at_ b.size).size ≤ 20000 := by rw [ByteArray.size_extract]; omega
  have HDC : Hid (∀ W : World, Calls Tryz.prog 69 #[.string (b.extract at_ b.size)] W (DecPost (b.extract at_ b.size) W)) := fun W => rdec_any _ W (by omega)
  have hE : decE (b.extract at_ b.size) = 3 := by unfold decE; rw [hd]
  generalize decide ((s.ch c).last ≠ 2147483647) = cn at *
  unfold DecPost at HDC
  rw [hE] at HDC
  generalize decL (b.extract at_ b.size) = DL at *
  generalize decP (b.extract at_ b.size) = DP at *
  generalize yF (s.ch c) = F at *
  generalize (s.ch c).texts.length = L at *
  clear hv hok htv hcap hrow hnum hd hE
  go_enter Tryz.func105, Tryz.ntmps105
  go_wp2_with fail
  refine (HN.out _).mono ?_
  rintro e w0 ⟨rfl, rfl⟩
  go_wp2_with fail
  refine (HCAN.out _).mono ?_
  rintro e w1 ⟨rfl, b1⟩
  have B1 : Below w.heap.size w w1 := ((Below.refl w.heap.size w).alloc (Nat.le_refl _) _).trans (b1.mono (by simp))
  have ob1 := (b1.block w.heap.size (by simp)).trans (heap_alloc_new w (.cells #[.int .i64 F, .slice ao L cap] 66))
  have x0 : w1.cell? ⟨w.heap.size, 0, none⟩ = some (.int .i64 F) := by rw [Lib.cell_of_heap ob1]; rfl
  have x1 : w1.cell? ⟨w.heap.size, 1, none⟩ = some (.slice ao L cap) := by rw [Lib.cell_of_heap ob1]; rfl
  have hs1 : w.heap.size < w1.heap.size := lt_of_block ob1
  clear k1 k2 b1
  go_wp2_with fail
  refine (HDC.out _).mono ?_
  rintro e w2 ⟨⟨v2, rfl, o2⟩, b2⟩
  have B2 : Below w.heap.size w w2 := B1.trans (b2.mono B1.size)
  have ob2 := (b2.block w.heap.size hs1).trans ob1
  have y0 : w2.cell? ⟨w.heap.size, 0, none⟩ = some (.int .i64 F) := by rw [Lib.cell_of_heap ob2]; rfl
  have y1 : w2.cell? ⟨w.heap.size, 1, none⟩ = some (.slice ao L cap) := by rw [Lib.cell_of_heap ob2]; rfl
  have hs2 : w.heap.size < w2.heap.size := lt_of_block ob2
  clear B1 ob1 b2 o2 ob2
  go_wp2
  go_ret
  exact ⟨rfl, B2⟩
set_option maxHeartbeats 4000000 in
theorem ydoes_D_none (p : Nat) (b : ByteArray) (tv : Nat → Value) (s : Vlt) (w : World) (hv : YAt w p tv s) (hok : s.Ok) (hsz : b.size ≤ 20000) (h0 : 0 < b.size) (c at_ : Nat) (hnum : numF b 1 = .inr (c, at_)) (hc : c < 4) (hl : (b[0]'h0).toNat = 68) (ops : List DOp) (hd : decF (b.extract at_ b.size) = .inr ops) (hno : (s.ch c).texts = []) :
    Calls Tryz.prog 105 #[.pointer (some ⟨p, 0, none⟩), .string b] w fun e w' => e = .returned (.bool false) ∧ Below w.heap.size w w' := by
  have hb0 : b.toList.isEmpty = false := by
    cases h : b.toList.isEmpty
    · rfl
    · have := (isEmpty_iff b).1 h; omega
  obtain ⟨_, hat1, hat2⟩ := numF_ok (by omega) hnum
  have HN : Hid (∀ W : World, Calls Tryz.prog 104 #[.string b, .int .i64 1, .int .i64 3] W fun e w' => e = .returned (.tuple #[.int .i64 c, .int .i64 at_, .int .i64 (-1)]) ∧ W = w') := fun W => by
    have := rnum_any b 1 3 W (by omega) (by omega) (by omega)
    rw [numR_ok hnum (by omega)] at this; exact this
  have k1 := hv.cellF c hc
  have k2 := hv.cellT c hc
  obtain ⟨ao, cap, htv, hcap, hrow⟩ := hv.row c hc
  rw [htv] at k2
  have hp := hv.lt
  have hcI : (c : Int) < 4 := by omega
  have HCAN : Hid (∀ W : World, Calls Tryz.prog 72 #[.agg #[.int .i64 (yF (s.ch c)), .slice ao (s.ch c).texts.length cap]] W fun e w' => e = .returned (.bool (decide ((s.ch c).last ≠ 2147483647))) ∧ Below W.heap.size W w') := fun W => yroom hok W
  have hxs : (b.extract at_ b.size).size ≤ 20000 := by rw [ByteArray.size_extract]; omega
  have HDC : Hid (∀ W : World, Calls Tryz.prog 69 #[.string (b.extract at_ b.size)] W (DecPost (b.extract at_ b.size) W)) := fun W => rdec_any _ W (by omega)
  have hE : decE (b.extract at_ b.size) = 0 := by unfold decE; rw [hd]
  generalize decide ((s.ch c).last ≠ 2147483647) = cn at *
  unfold DecPost at HDC
  rw [hE] at HDC
  generalize decL (b.extract at_ b.size) = DL at *
  generalize decP (b.extract at_ b.size) = DP at *
  rw [show (s.ch c).texts.length = 0 from by rw [hno]; rfl] at k2 HCAN
  generalize yF (s.ch c) = F at *
  clear hv hok htv hcap hrow hnum hd hE hno
  go_enter Tryz.func105, Tryz.ntmps105
  go_wp2_with fail
  refine (HN.out _).mono ?_
  rintro e w0 ⟨rfl, rfl⟩
  go_wp2_with fail
  refine (HCAN.out _).mono ?_
  rintro e w1 ⟨rfl, b1⟩
  have B1 : Below w.heap.size w w1 := ((Below.refl w.heap.size w).alloc (Nat.le_refl _) _).trans (b1.mono (by simp))
  have ob1 := (b1.block w.heap.size (by simp)).trans (heap_alloc_new w (.cells #[.int .i64 F, .slice ao 0 cap] 66))
  have x0 : w1.cell? ⟨w.heap.size, 0, none⟩ = some (.int .i64 F) := by rw [Lib.cell_of_heap ob1]; rfl
  have x1 : w1.cell? ⟨w.heap.size, 1, none⟩ = some (.slice ao 0 cap) := by rw [Lib.cell_of_heap ob1]; rfl
  have hs1 : w.heap.size < w1.heap.size := lt_of_block ob1
  clear k1 k2 b1
  go_wp2_with fail
  refine (HDC.out _).mono ?_
  rintro e w2 ⟨⟨v2, rfl, o2⟩, b2⟩
  have B2 : Below w.heap.size w w2 := B1.trans (b2.mono B1.size)
  have ob2 := (b2.block w.heap.size hs1).trans ob1
  have y0 : w2.cell? ⟨w.heap.size, 0, none⟩ = some (.int .i64 F) := by rw [Lib.cell_of_heap ob2]; rfl
  have y1 : w2.cell? ⟨w.heap.size, 1, none⟩ = some (.slice ao 0 cap) := by rw [Lib.cell_of_heap ob2]; rfl
  have hs2 : w.heap.size < w2.heap.size := lt_of_block ob2
  clear B1 ob1 b2 o2 ob2
  go_wp2
  go_ret
  exact ⟨rfl, B2⟩
end Go.Proofs.YtabpiaaknjcnkaaGreat
