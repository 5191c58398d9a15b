/- The texts YK, ZV, ZX, one behind the other. -/
import Derived.Test.YtabpiaaknjcnkaaGreatXVCYJZU
import Derived.Deep.AppendLies
import Derived.Deep.RegionLaw
/-
  The document's Prune, where it is done.
-/
namespace Go.Proofs.YtabpiaaknjcnkaaGreat
open Go.RowKit
set_option linter.unusedVariables false
set_option linter.unusedSimpArgs false
set_option maxRecDepth 100000

set_option maxHeartbeats 4000000 in
theorem yprune_ok (p n m : Nat) (tv : Nat → Value) (s : Vlt) (w : World) (hv : YAt w p tv s) (hok : s.Ok) (hn : n < 4) (hh : hasB (s.ch n) m = true) (hroom : s.log.length + (recL (bodyP n m)).length ≤ 20000) :
    Calls Tryz.prog 37 #[.pointer (some ⟨p, 0, none⟩), .int .i64 n, .int .i64 m] w fun e w' => e = .returned (.int .i64 0) ∧ YMoves p tv (s.drop n m) w w' := by
  have k1 := hv.cellF n hn
  have k2 := hv.cellT n hn
  have k8 := hv.cellL
  obtain ⟨ao, cap, htv, hcap, hrow⟩ := hv.row n hn
  rw [htv] at k2
  have hp := hv.lt
  have hlog := hok.log
  have hnI : (n : Int) < 4 := by omega
  have hm : m < 34359738368 := by
    have h1 := hasB_iff.1 hh
    have h2 := hok.last n
    unfold Chn.has at h1
    omega
  have HY : Hid (∀ W : World, Calls Tryz.prog 77 #[.agg #[.int .i64 (yF (s.ch n)), .slice ao (s.ch n).texts.length cap], .int .i64 m] W fun e w' => e = .returned (.bool true) ∧ Below W.heap.size W w') := fun W => by rw [← hh]; exact yhas_chain hok m W
  have HPB : Hid (∀ W : World, Calls Tryz.prog 79 #[.int .i64 n, .int .i64 m] W fun e w' => e = .returned (.string ⟨(bodyP n m).toArray⟩) ∧ Below W.heap.size W w') := fun W => yprunes_any n m W (by omega) hm
  have hbl := (bodyP_len n m (by omega) hm).2
  have hrl := (recL_len (b := bodyP n m) (by omega)).1
  have HRP : Hid (∀ W : World, Calls Tryz.prog 74 #[.string ⟨(bodyP n m).toArray⟩] W fun e w' => e = .returned (.string ⟨(recL (bodyP n m)).toArray⟩) ∧ Below W.heap.size W w') := fun W => yrecord_any _ W (by rw [lens_size]; omega)
  have hls : (⟨s.log.toArray⟩ : ByteArray).size ≤ 20000 := by rw [lens_size]; exact hlog
  have hx : (⟨(recL (bodyP n m)).toArray⟩ : ByteArray).size ≤ 100000 := by rw [lens_size]; omega
  have hf : (⟨s.log.toArray⟩ : ByteArray).size + (⟨(recL (bodyP n m)).toArray⟩ : ByteArray).size ≤ 20000 := by rw [lens_size, lens_size]; exact hroom
  have hh' := hasB_iff.1 hh
  unfold Chn.has Chn.last at hh'
  have hne0 : (s.ch n).texts ≠ [] := fun e => by rw [e] at hh'; simp at hh'; omega
  have hF : yF (s.ch n) = (s.ch n).gone + 1 := by unfold yF; rw [if_neg hne0]
  obtain ⟨i, hi⟩ : ∃ i : Nat, m = (s.ch n).gone + 1 + i := ⟨m - (s.ch n).gone - 1, by omega⟩
  have hdi : m - (s.ch n).gone - 1 = i := by omega
  have hlast : (s.ch n).gone + (s.ch n).texts.length ≤ 2147483647 := hok.last n
  have HMV : Hid (∀ (w1 w3 : World) (v' : Value), Below w.heap.size w w1 → Below (w1.setCell ⟨p, 8, none⟩ (.string ⟨(s.log ++ recL (bodyP n m)).toArray⟩)).heap.size (w1.setCell ⟨p, 8, none⟩ (.string ⟨(s.log ++ recL (bodyP n m)).toArray⟩)) w3 → YView w3 v' ((s.ch n).texts.drop i) → rowBlock v' = rowBlock (tv n) →
      YMoves p tv (s.drop n m) w ((w3.setCell ⟨p, n * 2, none⟩ (.int .i64 (m : Int))).setCell ⟨p, n * 2 + 1, none⟩ v')) := fun w1 w3 v' h1 h2 h3 h4 => ydrop_moves hv hn h1 rfl h2 rfl (by omega) (by rw [hdi]; exact h3) (by rw [hdi]; intro e; rw [List.drop_eq_nil_iff] at e; omega) h4 rfl
  have HFR : Hid (∀ (W : World) (l : List UInt8), YAt W p tv ⟨l, s.ch⟩ → Calls Tryz.prog 80 #[.agg #[.int .i64 (yF (s.ch n)), .slice ao (s.ch n).texts.length cap], .int .i64 (m : Int)] W fun e w' => ∃ v', e = .returned (.agg #[.int .i64 (m : Int), v']) ∧ YView w' v' ((s.ch n).texts.drop i) ∧ rowBlock v' = rowBlock (tv n) ∧ Below W.heap.size W w') := fun W l hW => by
    have := yfrom_any ((s.ch n).gone + 1) i (tv n) (s.ch n).texts W (hW.row n hn) (by omega) (by omega)
    rw [htv] at this ⊢
    rw [hF]
    have em : (((s.ch n).gone + 1 : Nat) : Int) + (i : Int) = (m : Int) := by omega
    rw [em] at this
    exact this
  have HLOG : Hid (∀ W, Below w.heap.size w W → YAt (W.setCell ⟨p, 8, none⟩ (.string ⟨(s.log ++ recL (bodyP n m)).toArray⟩)) p tv ⟨s.log ++ recL (bodyP n m), s.ch⟩) := fun W hW => ((hv.below hW).logged _).1
  have hfz := hv.frozen 8
  have HADD : Hid ((⟨s.log.toArray⟩ ++ ⟨(recL (bodyP n m)).toArray⟩ : ByteArray) = ⟨(s.log ++ recL (bodyP n m)).toArray⟩) := by
    apply bytes_ext; rw [app_bytes]
  generalize (⟨(recL (bodyP n m)).toArray⟩ : ByteArray) = RP at *
  generalize (⟨(bodyP n m).toArray⟩ : ByteArray) = BP at *
  generalize (⟨s.log.toArray⟩ : ByteArray) = LG at *
  clear hF
  generalize hYF : yF (s.ch n) = F at *
  have HYF : Hid (yF (s.ch n) = F) := hYF
  clear hYF
  clear hh' hlast
  have HTV : Hid (tv n = .slice ao (s.ch n).texts.length cap) := htv
  clear htv
  generalize (s.ch n).texts.length = L at *
  have q1 : IntKind.i64.wrap ((LG.size : Int) + (RP.size : Int)) = (LG.size : Int) + (RP.size : Int) := by rw [IntKind.wrap_i64]; omega
  have hfI : ¬ (20000 : Int) < (LG.size : Int) + (RP.size : Int) := by omega
  clear hv hok hrow hcap hh hroom hbl hrl hlog hm hi hdi hne0
  go_enter Tryz.func37, Tryz.ntmps37
  go_wp2_with fail
  refine (HY.out _).mono ?_
  rintro e w1 ⟨rfl, b1⟩
  have k81 := (b1.cell (p := ⟨p, 8, none⟩) hp).trans k8
  have hp1 := Nat.lt_of_lt_of_le hp b1.size
  clear k8
  go_wp2_with fail
  refine (HPB.out _).mono ?_
  rintro e w2 ⟨rfl, b2⟩
  go_wp2_with fail
  refine (HRP.out _).mono ?_
  rintro e w3 ⟨rfl, b3⟩
  have b23 := b2.trans (b3.mono b2.size)
  have k83 := (b23.cell (p := ⟨p, 8, none⟩) hp1).trans k81
  have hp3 := Nat.lt_of_lt_of_le hp1 b23.size
  have B3 : Below w.heap.size w w3 := b1.trans (b23.mono b1.size)
  have f83 := (B3.frozen (p := ⟨p, 8, none⟩) hp).trans hfz
  have HB3 : Hid (Below w.heap.size w w3) := B3
  clear b23 b1 b2 b3 k81 k1 k2 B3
  have hz : ¬ 9223372036854775807 < LG.size + RP.size := by omega
  go_wp2_with fail
  obtain ⟨W4, hW4⟩ : ∃ W4, W4 = w3.setCell ⟨p, 8, none⟩ (.string (LG ++ RP)) := ⟨_, rfl⟩
  rw [← hW4]
  have hW4' : W4 = w3.setCell ⟨p, 8, none⟩ (.string ⟨(s.log ++ recL (bodyP n m)).toArray⟩) := by rw [hW4, HADD.out]
  have H4 := HLOG.out w3 HB3.out
  rw [← hW4'] at H4
  have hp4 : p < W4.heap.size := H4.lt
  have c0 : W4.cell? ⟨p, n * 2, none⟩ = some (.int .i64 F) := by have := H4.cellF n hn; rw [show yF ((⟨s.log ++ recL (bodyP n m), s.ch⟩ : Vlt).ch n) = F from HYF.out] at this; exact this
  have c1 : W4.cell? ⟨p, n * 2 + 1, none⟩ = some (.slice ao L cap) := by rw [← HTV.out]; exact H4.cellT n hn
  have f0 := H4.frozen (n * 2)
  have f1 := H4.frozen (n * 2 + 1)
  have HWC : Hid (∀ W, Below W4.heap.size W4 W → Calls Tryz.prog 80 #[.agg #[.int .i64 F, .slice ao L cap], .int .i64 (m : Int)] W fun e w' => ∃ v', e = .returned (.agg #[.int .i64 (m : Int), v']) ∧ YView w' v' ((s.ch n).texts.drop i) ∧ rowBlock v' = rowBlock (tv n) ∧ Below W.heap.size W w') := fun W hW => HFR.out W _ (H4.below hW)
  have HM4 : Hid (∀ (w5 : World) (v' : Value), Below W4.heap.size W4 w5 → YView w5 v' ((s.ch n).texts.drop i) → rowBlock v' = rowBlock (tv n) → YMoves p tv (s.drop n m) w ((w5.setCell ⟨p, n * 2, none⟩ (.int .i64 (m : Int))).setCell ⟨p, n * 2 + 1, none⟩ v')) := fun w5 v' x1 x2 x3 => by
    rw [hW4'] at x1
    exact HMV.out w3 w5 v' HB3.out x1 x2 x3
  obtain ⟨K, hK⟩ : ∃ K, ((s.ch n).texts.drop i).length = K := ⟨_, rfl⟩
  have HKL : Hid (((s.ch n).texts.drop i).length = K) := hK
  clear H4 hW4 hW4' HLOG HFR HMV HADD HB3 k83 f83 hK
  go_region_with (first | (go_at_call 80; refine (HWC.out _ (by first | exact (Below.refl _ _).drew | exact Below.refl _ _)).mono ?_; rintro e w5 ⟨v5, rfl, hv5, hr5, b5⟩; obtain ⟨vo, vc, hv5e, hv5l⟩ : ∃ vo vc, v5 = .slice vo K vc ∧ Hid (YView w5 v5 ((s.ch n).texts.drop i)) := (by obtain ⟨x, y, z, _⟩ := id hv5; rw [HKL.out] at z; exact ⟨x, y, z, hv5⟩); subst hv5e; have HR5 : Hid (rowBlock (.slice vo K vc) = rowBlock (tv n)) := hr5; clear hv5 hr5; have c05 := (b5.cell (p := ⟨p, n * 2, none⟩) hp4).trans c0; have c15 := (b5.cell (p := ⟨p, n * 2 + 1, none⟩) hp4).trans c1; have f05 := (b5.frozen (p := ⟨p, n * 2, none⟩) hp4).trans f0; have f15 := (b5.frozen (p := ⟨p, n * 2 + 1, none⟩) hp4).trans f1))
  all_goals go_wp2
  all_goals go_ret
  all_goals exact ⟨rfl, HM4.out w5 _ ((Below.refl _ _).drew.trans b5) hv5l.out HR5.out⟩
theorem yprune_any (p : Nat) (c z : Int) (tv : Nat → Value) (s : Vlt) (w : World) (hv : YAt w p tv s) (hok : s.Ok) :
    Calls Tryz.prog 37 #[.pointer (some ⟨p, 0, none⟩), .int .i64 c, .int .i64 z] w fun e w' => e = .returned (.int .i64 (cutE s c z)) ∧ YMoves p tv (cutS s c z) w w' := by
  by_cases hc : 0 ≤ c ∧ c < 4
  · obtain ⟨n, rfl⟩ : ∃ n : Nat, c = n := ⟨c.toNat, by omega⟩
    have hn : n < 4 := by omega
    have en : ((n : Int)).toNat = n := by omega
    cases hh : hasB (s.ch n) z with
    | false =>
      have hE : cutE s n z = 5 := by unfold cutE; rw [if_neg (by omega), en, hh]; rfl
      have hS : cutS s n z = s := by unfold cutS; rw [if_neg (by rw [hE]; decide)]
      rw [hE, hS]
      exact (yprune_none p n z tv s w hv hok hn hh).mono fun e w' ⟨h1, h2⟩ => ⟨h1, YMoves.stays hv h2⟩
    | true =>
      have hh' := hasB_iff.1 hh
      unfold Chn.has at hh'
      obtain ⟨m, rfl⟩ : ∃ m : Nat, z = m := ⟨z.toNat, by omega⟩
      have em : ((m : Int)).toNat = m := by omega
      by_cases hr : 20000 < s.log.length + (recL (bodyP n m)).length
      · have hE : cutE s n m = 6 := by unfold cutE; rw [if_neg (by omega), en, em, hh, if_pos rfl, if_pos hr]
        have hS : cutS s n m = s := by unfold cutS; rw [if_neg (by rw [hE]; decide)]
        rw [hE, hS]
        exact (yprune_full p n m tv s w hv hok hn hh hr).mono fun e w' ⟨h1, h2⟩ => ⟨h1, YMoves.stays hv h2⟩
      · have hE : cutE s n m = 0 := by unfold cutE; rw [if_neg (by omega), en, em, hh, if_pos rfl, if_neg hr]
        have hS : cutS s n m = s.drop n m := by unfold cutS; rw [if_pos hE, en, em]
        rw [hE, hS]
        exact yprune_ok p n m tv s w hv hok hn hh (by omega)
  · have hE : cutE s c z = 4 := by unfold cutE; rw [if_pos hc]
    have hS : cutS s c z = s := by unfold cutS; rw [if_neg (by rw [hE]; decide)]
    rw [hE, hS]
    refine (yprune_chain p c z w hc).mono ?_
    rintro e w' ⟨rfl, rfl⟩
    exact ⟨rfl, YMoves.stays hv (Below.refl _ _)⟩
end Go.Proofs.YtabpiaaknjcnkaaGreat

/-
  The step of Prune.
-/
namespace Go.Proofs.YtabpiaaknjcnkaaGreat
open Go.RowKit
set_option linter.unusedVariables false
set_option linter.unusedSimpArgs false
set_option maxRecDepth 100000

set_option maxHeartbeats 4000000 in
theorem step_prune {w : World} {B0 Wb : Nat} {xv yv bv : Value} {es : List Entry} {xs : List XV} {ys : List YV} {κ : Nat → Col} (h : WorldAt w B0 Wb xv yv bv es xs ys κ) (hsame : xs.map (·.s) = ys.map (·.s)) (h0 : 0 < xs.length) (h4 : xs.length ≤ 4) (a b c : Int) (ha : -9223372036854775808 ≤ a ∧ a ≤ 9223372036854775807) (s t : ByteArray) (hs : s.size ≤ 9223372036854775807) (lo mo : Option Addr) (ln lc mn mc : Nat) :
    Calls Tryz.prog 17 #[.pointer (some ⟨Wb, 0, none⟩), .agg #[.int .i64 11, .int .i64 a, .int .i64 b, .int .i64 c, .string s, .string t, .slice lo ln lc, .slice mo mn mc]] w (Went B0 Wb es.length w) := by
  have hi := pickN_lt a xs.length h0
  have HPK : Hid (∀ W, Calls Tryz.prog 32 #[.int .i64 a, .int .i64 xs.length] W fun e w' => e = .returned (.int .i64 (pickN a xs.length)) ∧ W = w') := fun W => lpick_eq a xs.length W ha.1 ha.2 h0 (by omega)
  generalize pickN a xs.length = i at *
  obtain ⟨gx, cx, gy, cy, x, y, ex, ey, lx, ly, c1, c2, hx, hy, hxy⟩ := h.picks hsame hi
  obtain ⟨hX, hXc, hok⟩ := h.xat i x hx
  obtain ⟨hY, hYc, hok2⟩ := h.yat i y hy
  have HX : Hid (∀ W, Below w.heap.size w W → Calls Tryz.prog 22 #[.pointer (some ⟨x.p, 0, none⟩), .int .i64 b, .int .i64 c] W fun e w' => e = .returned (.int .i64 (cutE x.s b c)) ∧ Below B0 W w' ∧ w.heap.size ≤ w'.heap.size ∧ (w.heap.size < W.heap.size → w'.heap[w.heap.size]? = W.heap[w.heap.size]?) ∧ Hid (∃ x' κ', x'.s = cutS x.s b c ∧ WorldAt w' B0 Wb xv yv bv es (xs.set i x') ys κ')) := fun W hW => by
    have hWat := h.below hW
    obtain ⟨hXW, _, _⟩ := hWat.xat i x hx
    refine (cprune_any x.p b c x.lv x.tv x.s W hXW hok).mono ?_
    rintro e w' ⟨he, hm⟩
    obtain ⟨hB, x', κ', e1, e2, hat⟩ := hWat.xmove hx hm (cutS_ok hok _ _)
    refine ⟨he, hB, Nat.le_trans hW.size hB.size, ?_, x', κ', e1, hat⟩
    obtain ⟨_, _, _, hO, _⟩ := hm
    exact fun hlt => hO.block _ hlt (fun hf => by have := hX.foot_lt _ hf; omega)
  have HY : Hid (∀ W x' κ', x'.s = cutS x.s b c → WorldAt W B0 Wb xv yv bv es (xs.set i x') ys κ' → Calls Tryz.prog 37 #[.pointer (some ⟨y.q, 0, none⟩), .int .i64 b, .int .i64 c] W fun e w' => e = .returned (.int .i64 (cutE x.s b c)) ∧ Hid (Below B0 W w' ∧ ∃ xs' ys' κ', xs'.map (·.s) = ys'.map (·.s) ∧ xs'.length ≤ 4 ∧ WorldAt w' B0 Wb xv yv bv es xs' ys' κ')) := fun W x' κ' hx' hat => by
    obtain ⟨hYW, _, hok3⟩ := hat.yat i y hy
    rw [hxy]
    refine (yprune_any y.q b c y.tv y.s W hYW hok3).mono ?_
    rintro e w' ⟨he, hm⟩
    obtain ⟨hB, y', κ2, e1, e2, hat2⟩ := hat.ymove hy hm (cutS_ok hok3 _ _)
    exact ⟨he, hB, _, _, κ2, set_same hsame (by rw [hx', e1, hxy]), by rw [List.length_set]; exact h4, hat2⟩
  have kX := h.cellX
  have kY := h.cellY
  rw [ex] at kX
  rw [ey] at kY
  have hWb := h.lt
  have hB0 := h.low0
  have hN0 : ¬ (xs.length : Int) = 0 := by omega
  have hiI : (i : Int) < (xs.length : Int) := by omega
  generalize cutE x.s b c = E1 at *
  generalize x.p = p at *
  generalize y.q = q at *
  generalize hN : xs.length = N at *
  have HB0 : Hid (B0 ≤ w.heap.size) := hB0
  clear hx hy hxy hX hY hok h hsame ex ey ha hXc hYc hok2 h0 h4 hi hN hB0
  go_enter Tryz.func17, Tryz.ntmps17
  go_wp2
  go_region_with (first | (go_at_call 32; refine (HPK.out _).mono ?_; rintro e w' ⟨rfl, rfl⟩))
  all_goals
    go_wp2_with fail
    refine (HX.out _ (((Below.refl w.heap.size w).alloc (Nat.le_refl _) _).drew)).mono ?_
    rintro e w1 ⟨rfl, b1, hs1, o1, H1⟩
    have ob1 := (o1 (by simp)).trans (heap_alloc_new w _)
    have B1 : Below B0 w w1 := ((((Below.refl w.heap.size w).alloc (Nat.le_refl _) _).drew).mono HB0.out).trans b1
    have j2 : w1.cell? ⟨w.heap.size, 2, none⟩ = some (.int .i64 b) := by rw [Lib.cell_of_heap ob1]; rfl
    have j3 : w1.cell? ⟨w.heap.size, 3, none⟩ = some (.int .i64 c) := by rw [Lib.cell_of_heap ob1]; rfl
    have j4 : w1.cell? ⟨w.heap.size, 4, none⟩ = some (.string s) := by rw [Lib.cell_of_heap ob1]; rfl
    have hs1' : w.heap.size < w1.heap.size := lt_of_block ob1
    obtain ⟨x', κ', hx', hat⟩ := H1.out
    have HYC := HY.out w1 x' κ' hx' hat
    have HYD : Hid (Calls Tryz.prog 37 #[.pointer (some ⟨q, 0, none⟩), .int .i64 b, .int .i64 c] w1 fun e w' => e = .returned (.int .i64 (E1)) ∧ Hid (Below B0 w1 w' ∧ ∃ xs' ys' κ', xs'.map (·.s) = ys'.map (·.s) ∧ xs'.length ≤ 4 ∧ WorldAt w' B0 Wb xv yv bv es xs' ys' κ')) := HYC
    clear ob1 b1 o1 c1 c2 kX kY H1 hat hx' HYC HX HY
    go_wp2_with fail
    refine HYD.out.mono ?_
    rintro e w2 ⟨rfl, H2⟩
    have HR : Hid (Below B0 w w2 ∧ ∃ xs' ys' κ', xs'.map (·.s) = ys'.map (·.s) ∧ xs'.length ≤ 4 ∧ WorldAt w2 B0 Wb xv yv bv es xs' ys' κ') := ⟨B1.trans H2.out.1, H2.out.2⟩
    clear HYD B1 j2 j3 j4 H2
    go_wp2
    go_ret
    obtain ⟨hb, xs', ys', κ2, e1, e2, hat2⟩ := HR.out
    exact ⟨rfl, ⟨xv, yv, bv, es, xs', ys', κ2, Nat.le_refl _, e1, e2, hat2⟩, hb⟩
end Go.Proofs.YtabpiaaknjcnkaaGreat

/-
  The step of New.
-/
namespace Go.Proofs.YtabpiaaknjcnkaaGreat
open Go.RowKit
set_option linter.unusedVariables false
set_option linter.unusedSimpArgs false
set_option maxRecDepth 100000

theorem Tryz.infoVP : (Tryz.prog.info? 29).map (fun i => (i.zero, i.size, i.bytes)) = some (some (.pointer none), 1, 8) := by kernel_rfl
theorem Tryz.infoYP : (Tryz.prog.info? 70).map (fun i => (i.zero, i.size, i.bytes)) = some (some (.pointer none), 1, 8) := by kernel_rfl
theorem yvault_new (w : World) : YAt (w.alloc (.cells #[.int .i64 0, .slice none 0 0, .int .i64 0, .slice none 0 0, .int .i64 0, .slice none 0 0, .int .i64 0, .slice none 0 0, .string ⟨#[]⟩] 69)) w.heap.size (fun _ => .slice none 0 0) noVault :=
  ⟨heap_alloc_new _ _, fun i _ => ⟨none, 0, rfl, Nat.le_refl _, fun j t ht => by simp [noVault] at ht⟩, fun i _ _ => rfl, fun i _ h => by cases h⟩

set_option maxHeartbeats 4000000 in
theorem step_new_full {w : World} {B0 Wb : Nat} {xv yv bv : Value} {es : List Entry} {xs : List XV} {ys : List YV} {κ : Nat → Col} (h : WorldAt w B0 Wb xv yv bv es xs ys κ) (hsame : xs.map (·.s) = ys.map (·.s)) (h4 : xs.length = 4) (a b c : Int) (s t : ByteArray) (lo mo : Option Addr) (ln lc mn mc : Nat) :
    Calls Tryz.prog 17 #[.pointer (some ⟨Wb, 0, none⟩), .agg #[.int .i64 7, .int .i64 a, .int .i64 b, .int .i64 c, .string s, .string t, .slice lo ln lc, .slice mo mn mc]] w (Went B0 Wb es.length w) := by
  have kX := h.cellX
  have hWb := h.lt
  obtain ⟨xo, xc, hxv⟩ : ∃ xo xc, xv = .slice xo 4 xc := by
    rcases h.xrow.2 with ⟨e, e0⟩ | ⟨g, cap, cur, e, _⟩
    · omega
    · rw [h4] at e; exact ⟨_, _, e⟩
  have HF : Hid (∀ w', Below w.heap.size w w' → Went B0 Wb es.length w (.returned (.bool true)) w') := fun w' hb => ⟨rfl, ⟨xv, yv, bv, es, xs, ys, κ, Nat.le_refl _, hsame, by omega, h.below hb⟩, hb.mono h.low0⟩
  rw [hxv] at kX
  clear h hsame h4 hxv
  go_enter Tryz.func17, Tryz.ntmps17
  go_wp2_with fail
  refine (cnew_any _).mono ?_
  rintro e w1 ⟨rfl, v1, b1⟩
  have B1 : Below w.heap.size w w1 := ((Below.refl w.heap.size w).alloc (Nat.le_refl _) _).trans (b1.mono (by simp))
  have kX1 := (B1.cell (p := ⟨Wb, 0, none⟩) hWb).trans kX
  have hWb1 := Nat.lt_of_lt_of_le hWb B1.size
  clear v1 b1 kX
  go_wp2
  go_ret
  exact HF.out _ B1

theorem row_slice1 {w : World} {b : Nat} {e : TypeId} {size n : Nat} {v : Value} {xs : List Value} (h : w.ownsRow b e size v n xs) : ∃ ao cap, v = .slice ao n cap := by
  rcases h.2 with ⟨h, h0⟩ | ⟨g', cap', cur, h, _⟩
  · exact ⟨none, 0, by rw [h, h0]⟩
  · exact ⟨_, _, h⟩
set_option maxHeartbeats 8000000 in
theorem step_new_room {w : World} {B0 Wb : Nat} {xv yv bv : Value} {es : List Entry} {xs : List XV} {ys : List YV} {κ : Nat → Col} (h : WorldAt w B0 Wb xv yv bv es xs ys κ) (hsame : xs.map (·.s) = ys.map (·.s)) (h4 : xs.length < 4) (a b c : Int) (s t : ByteArray) (lo mo : Option Addr) (ln lc mn mc : Nat) :
    Calls Tryz.prog 17 #[.pointer (some ⟨Wb, 0, none⟩), .agg #[.int .i64 7, .int .i64 a, .int .i64 b, .int .i64 c, .string s, .string t, .slice lo ln lc, .slice mo mn mc]] w (Went B0 Wb es.length w) := by
  obtain ⟨i1, hi1, hj0, hj1, hj2⟩ := info_parts Tryz.infoVP
  obtain ⟨i2, hi2, hk0, hk1, hk2⟩ := info_parts Tryz.infoYP
  have hl : ys.length = xs.length := by have := congrArg List.length hsame; simpa using this.symm
  have kX := h.cellX
  have kY := h.cellY
  have hWb := h.lt
  have hB0 := h.low0
  have hfx := h.frozen 0
  have hfy := h.frozen 1
  obtain ⟨xo, xc, hxv⟩ := row_slice1 h.xrow
  obtain ⟨yo, yc, hyv⟩ := row_slice1 h.yrow
  have HW : Hid (WorldAt w B0 Wb xv yv bv es xs ys κ) := h
  have HS : Hid (xs.map (·.s) = ys.map (·.s)) := hsame
  have HL : Hid (ys.length = xs.length) := hl
  rw [hxv] at kX
  rw [hyv, hl] at kY
  rw [hl] at hyv
  have HXV : Hid (xv = .slice xo xs.length xc) := hxv
  have HYV : Hid (yv = .slice yo xs.length yc) := hyv
  clear h hsame hl hxv hyv
  obtain ⟨N, hN⟩ : ∃ N, N = xs.length := ⟨_, rfl⟩
  rw [← hN] at kX kY h4 HXV HYV HL
  have HN : Hid (xs.length = N) := hN.symm
  have h4I : (N : Int) < 4 := by omega
  clear hN
  go_enter Tryz.func17, Tryz.ntmps17
  go_wp2_with fail
  refine (cnew_any _).mono ?_
  rintro e w1 ⟨rfl, v1, b1⟩
  have B1 : Below w.heap.size w w1 := ((Below.refl w.heap.size w).alloc (Nat.le_refl _) _).trans (b1.mono (by simp))
  rw [alloc_size1] at v1
  have HV1 : Hid (VaultAt w1 (w.heap.size + 1) (.slice none 0 0) (fun _ => .slice none 0 0) noVault) := v1
  have H1 : Hid (WorldAt w1 B0 Wb xv yv bv es xs ys (paint κ w.heap.size (3, xs.length))) := HW.out.fresh B1 (by simp) (by simp) (by simp) (fun i x hx => by have := (List.getElem?_eq_some_iff.1 hx).1; simp; omega) (fun i y hy => by simp)
  have kX1 := (B1.cell (p := ⟨Wb, 0, none⟩) hWb).trans kX
  have kY1 := (B1.cell (p := ⟨Wb, 1, none⟩) hWb).trans kY
  have hWb1 := Nat.lt_of_lt_of_le hWb B1.size
  have hs1 := B1.size
  have fx1 := (B1.frozen (p := ⟨Wb, 0, none⟩) hWb).trans hfx
  have fy1 := (B1.frozen (p := ⟨Wb, 1, none⟩) hWb).trans hfy
  have HB1 : Hid (Below w.heap.size w w1) := B1
  have HR1 : Hid ((w1.alloc (.cells #[.pointer (some ⟨w.heap.size + 1, 0, none⟩)] 29)).ownsRow B0 29 1 (.slice xo N xc) N (xs.map XV.ptr)) := by
    have hx := H1.out.xrow
    rw [HXV.out, HN.out] at hx
    exact row_block hx (fun g hg => heap_alloc_old _ _ (row_own_lt hx hg))
  clear v1 b1 kX kY hfx hfy B1
  go_wp2_with (first | (at_builtin; refine wpList_append_lies _ rfl _ _ 51 rfl B0 29 i1 (.pointer none) 1 8 Tryz.underlying51 hi1 hj0 hj1 hj2 rfl (by decide) (.slice xo N xc) N (xs.map XV.ptr) rfl HR1.out ⟨w1.heap.size, 0, none⟩ 1 1 [.pointer (some ⟨w.heap.size + 1, 0, none⟩)] rfl rfl ?c2 ?c3 (by decide) ?c4 ?c5 ?c6 (w1.heap.size + 1) alloc_size1 ?_))
  case c2 => exact World.news_of_block (cs := #[.pointer (some ⟨w.heap.size + 1, 0, none⟩)]) (heap_alloc_new _ _)
  case c3 => intro u hu; obtain rfl := List.mem_singleton.1 hu; rfl
  case c4 => unfold maxLen; omega
  case c5 => omega
  case c6 => rw [alloc_size1]; omega
  intro g2 cap2 w2 ho2 hg2 hat2 hlt2
  have O2 : Out (fun q => paint κ w.heap.size (3, xs.length) q = (1, 0)) w1 w2 := (Out.of_below ((Below.refl w1.heap.size w1).alloc (Nat.le_refl _) _)).trans (Out.of_grown (F := fun q => paint κ w.heap.size (3, xs.length) q = (1, 0)) hg2 (fun g e => H1.out.xcol g (by rw [HXV.out]; exact e))) (fun q hq => .inl hq)
  have hrow2 : w2.ownsRow B0 29 1 (.slice (some ⟨g2, 0, none⟩) (N + 1) cap2) (xs.length + 1) (xs.map XV.ptr ++ [(⟨w.heap.size + 1, .slice none 0 0, fun _ => .slice none 0 0, noVault⟩ : XV).ptr]) := by rw [HN.out]; exact ho2
  have hat2' : (Value.slice (some ⟨g2, 0, none⟩) (N + 1) cap2).ownBlock = xv.ownBlock ∨ ∃ g, (Value.slice (some ⟨g2, 0, none⟩) (N + 1) cap2).ownBlock = some g ∧ w1.heap.size ≤ g := by
    rcases hat2 with e | e
    · exact .inl (by rw [HXV.out, e]; rfl)
    · exact .inr ⟨g2, rfl, by omega⟩
  have hfoot : ∀ q, foot (w.heap.size + 1) (.slice none 0 0) (fun _ => .slice none 0 0) q → paint κ w.heap.size (3, xs.length) q = (3, xs.length) := by
    rintro q (rfl | hq | ⟨i, hi, hq⟩)
    · exact paint_new (by omega)
    · cases hq
    · cases hq
  have H3 : Hid (Below B0 w1 (w2.setCell ⟨Wb, 0, none⟩ (.slice (some ⟨g2, 0, none⟩) (N + 1) cap2)) ∧ WorldAt (w2.setCell ⟨Wb, 0, none⟩ (.slice (some ⟨g2, 0, none⟩) (N + 1) cap2)) B0 Wb (.slice (some ⟨g2, 0, none⟩) (N + 1) cap2) yv bv es (xs ++ [⟨w.heap.size + 1, .slice none 0 0, fun _ => .slice none 0 0, noVault⟩]) ys (paint (paint κ w.heap.size (3, xs.length)) w1.heap.size (1, 0))) := H1.out.turnX (x := ⟨w.heap.size + 1, .slice none 0 0, fun _ => .slice none 0 0, noVault⟩) O2 hrow2 hat2' HV1.out hfoot noVault_ok
  have e2 : w2.heap[Wb]? = w1.heap[Wb]? := O2.block Wb hWb1 (by rw [H1.out.book.wbB.2]; decide)
  have kX2 := (World.cell?_of_block (a := ⟨Wb, 0, none⟩) e2).trans kX1
  have kY2 := (World.cell?_of_block (a := ⟨Wb, 1, none⟩) e2).trans kY1
  have fx2 := (World.frozen?_of_block (a := ⟨Wb, 0, none⟩) e2).trans fx1
  have fy2 := (World.frozen?_of_block (a := ⟨Wb, 1, none⟩) e2).trans fy1
  have hWb2 : Wb < w2.heap.size := Nat.lt_of_lt_of_le hWb1 O2.size
  have kY3 : (w2.setCell ⟨Wb, 0, none⟩ (.slice (some ⟨g2, 0, none⟩) (N + 1) cap2)).cell? ⟨Wb, 1, none⟩ = some (.slice yo N yc) := (World.cell?_setCell_other _ _ _ _ (by simp)).trans kY2
  have fy3 : (w2.setCell ⟨Wb, 0, none⟩ (.slice (some ⟨g2, 0, none⟩) (N + 1) cap2)).frozen? ⟨Wb, 1, none⟩ = false := H3.out.2.frozen 1
  have hs2 := O2.size
  clear O2 hrow2 hat2 hat2' hfoot ho2 hg2 e2 kX1 kY1 fx1 fy1 HR1 HV1
  have hz3 : (w2.setCell ⟨Wb, 0, none⟩ (.slice (some ⟨g2, 0, none⟩) (N + 1) cap2)).heap.size = w2.heap.size := by simp
  have H4 : Hid (WorldAt ((w2.setCell ⟨Wb, 0, none⟩ (.slice (some ⟨g2, 0, none⟩) (N + 1) cap2)).alloc (.cells #[.int .i64 0, .slice none 0 0, .int .i64 0, .slice none 0 0, .int .i64 0, .slice none 0 0, .int .i64 0, .slice none 0 0, .string ⟨#[]⟩] 69)) B0 Wb (.slice (some ⟨g2, 0, none⟩) (N + 1) cap2) yv bv es (xs ++ [⟨w.heap.size + 1, .slice none 0 0, fun _ => .slice none 0 0, noVault⟩]) ys (paint (paint (paint κ w.heap.size (3, xs.length)) w1.heap.size (1, 0)) (w2.setCell ⟨Wb, 0, none⟩ (.slice (some ⟨g2, 0, none⟩) (N + 1) cap2)).heap.size (4, ys.length))) := H3.out.2.fresh ((Below.refl _ _).alloc (Nat.le_refl _) _) (by simp) (by simp) (by simp) (fun i x hx => by simp) (fun i y hy => by have := (List.getElem?_eq_some_iff.1 hy).1; simp; omega)
  have HV4 : Hid (YAt ((w2.setCell ⟨Wb, 0, none⟩ (.slice (some ⟨g2, 0, none⟩) (N + 1) cap2)).alloc (.cells #[.int .i64 0, .slice none 0 0, .int .i64 0, .slice none 0 0, .int .i64 0, .slice none 0 0, .int .i64 0, .slice none 0 0, .string ⟨#[]⟩] 69)) w2.heap.size (fun _ => .slice none 0 0) noVault) := by
    have := yvault_new (w2.setCell ⟨Wb, 0, none⟩ (.slice (some ⟨g2, 0, none⟩) (N + 1) cap2))
    rw [hz3] at this; exact this
  have HR4 : Hid ((((w2.setCell ⟨Wb, 0, none⟩ (.slice (some ⟨g2, 0, none⟩) (N + 1) cap2)).alloc (.cells #[.int .i64 0, .slice none 0 0, .int .i64 0, .slice none 0 0, .int .i64 0, .slice none 0 0, .int .i64 0, .slice none 0 0, .string ⟨#[]⟩] 69)).alloc (.cells #[.pointer (some ⟨w2.heap.size, 0, none⟩)] 70)).ownsRow B0 70 1 (.slice yo N yc) N (ys.map YV.ptr)) := by
    have hx := H4.out.yrow
    rw [HYV.out, HL.out] at hx
    exact row_block hx (fun g hg => heap_alloc_old _ _ (row_own_lt hx hg))
  have hA4 : (((w2.setCell ⟨Wb, 0, none⟩ (.slice (some ⟨g2, 0, none⟩) (N + 1) cap2)).alloc (.cells #[.int .i64 0, .slice none 0 0, .int .i64 0, .slice none 0 0, .int .i64 0, .slice none 0 0, .int .i64 0, .slice none 0 0, .string ⟨#[]⟩] 69)).alloc (.cells #[.pointer (some ⟨w2.heap.size, 0, none⟩)] 70)).heap.size = w2.heap.size + 1 + 1 := by simp
  have hY4 : ((w2.setCell ⟨Wb, 0, none⟩ (.slice (some ⟨g2, 0, none⟩) (N + 1) cap2)).alloc (.cells #[.int .i64 0, .slice none 0 0, .int .i64 0, .slice none 0 0, .int .i64 0, .slice none 0 0, .int .i64 0, .slice none 0 0, .string ⟨#[]⟩] 69)).heap.size = w2.heap.size + 1 := by simp
  have H3B : Hid (Below B0 w1 (w2.setCell ⟨Wb, 0, none⟩ (.slice (some ⟨g2, 0, none⟩) (N + 1) cap2))) := H3.out.1
  have e4 : ((w2.setCell ⟨Wb, 0, none⟩ (.slice (some ⟨g2, 0, none⟩) (N + 1) cap2)).alloc (.cells #[.int .i64 0, .slice none 0 0, .int .i64 0, .slice none 0 0, .int .i64 0, .slice none 0 0, .int .i64 0, .slice none 0 0, .string ⟨#[]⟩] 69)).heap[Wb]? = (w2.setCell ⟨Wb, 0, none⟩ (.slice (some ⟨g2, 0, none⟩) (N + 1) cap2)).heap[Wb]? := heap_alloc_old _ _ (by rw [hz3]; exact hWb2)
  go_wp2_with (first | (at_builtin; refine wpList_append_lies _ rfl _ _ 52 rfl B0 70 i2 (.pointer none) 1 8 Tryz.underlying52 hi2 hk0 hk1 hk2 rfl (by decide) (.slice yo N yc) N (ys.map YV.ptr) rfl HR4.out ⟨w2.heap.size + 1, 0, none⟩ 1 1 [.pointer (some ⟨w2.heap.size, 0, none⟩)] rfl rfl ?c2 ?c3 (by decide) ?c4 ?c5 ?c6 (w2.heap.size + 1 + 1) hA4 ?_))
  case c2 => exact World.news_of_block (cs := #[.pointer (some ⟨w2.heap.size, 0, none⟩)]) (alloc_at hY4)
  case c3 => intro u hu; obtain rfl := List.mem_singleton.1 hu; rfl
  case c4 => unfold maxLen; omega
  case c5 => omega
  case c6 => rw [hA4]; omega
  intro g5 cap5 w5 ho5 hg5 hat5 hlt5
  have O5 : Out (fun q => (paint (paint (paint κ w.heap.size (3, xs.length)) w1.heap.size (1, 0)) (w2.setCell ⟨Wb, 0, none⟩ (.slice (some ⟨g2, 0, none⟩) (N + 1) cap2)).heap.size (4, ys.length)) q = (2, 0)) ((w2.setCell ⟨Wb, 0, none⟩ (.slice (some ⟨g2, 0, none⟩) (N + 1) cap2)).alloc (.cells #[.int .i64 0, .slice none 0 0, .int .i64 0, .slice none 0 0, .int .i64 0, .slice none 0 0, .int .i64 0, .slice none 0 0, .string ⟨#[]⟩] 69)) w5 := (Out.of_below ((Below.refl _ _).alloc (Nat.le_refl _) _)).trans (Out.of_grown (F := fun q => (paint (paint (paint κ w.heap.size (3, xs.length)) w1.heap.size (1, 0)) (w2.setCell ⟨Wb, 0, none⟩ (.slice (some ⟨g2, 0, none⟩) (N + 1) cap2)).heap.size (4, ys.length)) q = (2, 0)) hg5 (fun g e => H4.out.ycol g (by rw [HYV.out]; exact e))) (fun q hq => .inl hq)
  have hrow5 : w5.ownsRow B0 70 1 (.slice (some ⟨g5, 0, none⟩) (N + 1) cap5) (ys.length + 1) (ys.map YV.ptr ++ [(⟨w2.heap.size, fun _ => .slice none 0 0, noVault⟩ : YV).ptr]) := by rw [HL.out]; exact ho5
  have hat5' : (Value.slice (some ⟨g5, 0, none⟩) (N + 1) cap5).ownBlock = yv.ownBlock ∨ ∃ g, (Value.slice (some ⟨g5, 0, none⟩) (N + 1) cap5).ownBlock = some g ∧ ((w2.setCell ⟨Wb, 0, none⟩ (.slice (some ⟨g2, 0, none⟩) (N + 1) cap2)).alloc (.cells #[.int .i64 0, .slice none 0 0, .int .i64 0, .slice none 0 0, .int .i64 0, .slice none 0 0, .int .i64 0, .slice none 0 0, .string ⟨#[]⟩] 69)).heap.size ≤ g := by
    rcases hat5 with e | e
    · exact .inl (by rw [HYV.out, e]; rfl)
    · exact .inr ⟨g5, rfl, by rw [hY4]; omega⟩
  have hfoot5 : ∀ q, yfoot w2.heap.size (fun _ => .slice none 0 0) q → (paint (paint (paint κ w.heap.size (3, xs.length)) w1.heap.size (1, 0)) (w2.setCell ⟨Wb, 0, none⟩ (.slice (some ⟨g2, 0, none⟩) (N + 1) cap2)).heap.size (4, ys.length)) q = (4, ys.length) := by
    rintro q (rfl | ⟨i, hi, hq⟩)
    · exact paint_new (by rw [hz3]; exact Nat.le_refl _)
    · cases hq
  have H6 : Hid (Below B0 ((w2.setCell ⟨Wb, 0, none⟩ (.slice (some ⟨g2, 0, none⟩) (N + 1) cap2)).alloc (.cells #[.int .i64 0, .slice none 0 0, .int .i64 0, .slice none 0 0, .int .i64 0, .slice none 0 0, .int .i64 0, .slice none 0 0, .string ⟨#[]⟩] 69)) (w5.setCell ⟨Wb, 1, none⟩ (.slice (some ⟨g5, 0, none⟩) (N + 1) cap5)) ∧ WorldAt (w5.setCell ⟨Wb, 1, none⟩ (.slice (some ⟨g5, 0, none⟩) (N + 1) cap5)) B0 Wb (.slice (some ⟨g2, 0, none⟩) (N + 1) cap2) (.slice (some ⟨g5, 0, none⟩) (N + 1) cap5) bv es (xs ++ [⟨w.heap.size + 1, .slice none 0 0, fun _ => .slice none 0 0, noVault⟩]) (ys ++ [(⟨w2.heap.size, fun _ => .slice none 0 0, noVault⟩ : YV)]) (paint (paint (paint (paint κ w.heap.size (3, xs.length)) w1.heap.size (1, 0)) (w2.setCell ⟨Wb, 0, none⟩ (.slice (some ⟨g2, 0, none⟩) (N + 1) cap2)).heap.size (4, ys.length)) ((w2.setCell ⟨Wb, 0, none⟩ (.slice (some ⟨g2, 0, none⟩) (N + 1) cap2)).alloc (.cells #[.int .i64 0, .slice none 0 0, .int .i64 0, .slice none 0 0, .int .i64 0, .slice none 0 0, .int .i64 0, .slice none 0 0, .string ⟨#[]⟩] 69)).heap.size (2, 0))) := H4.out.turnY (y := (⟨w2.heap.size, fun _ => .slice none 0 0, noVault⟩ : YV)) O5 hrow5 hat5' HV4.out hfoot5 noVault_ok
  have e5 : w5.heap[Wb]? = (w2.setCell ⟨Wb, 0, none⟩ (.slice (some ⟨g2, 0, none⟩) (N + 1) cap2)).heap[Wb]? := (O5.block Wb (by rw [hY4]; omega) (by rw [H4.out.book.wbB.2]; decide)).trans e4
  have kY5 := (World.cell?_of_block (a := ⟨Wb, 1, none⟩) e5).trans kY3
  have fy5 := (World.frozen?_of_block (a := ⟨Wb, 1, none⟩) e5).trans fy3
  have hWb5 : Wb < w5.heap.size := Nat.lt_of_lt_of_le (by rw [hY4]; omega) O5.size
  have HFIN : Hid (Went B0 Wb es.length w (.returned (.bool true)) (w5.setCell ⟨Wb, 1, none⟩ (.slice (some ⟨g5, 0, none⟩) (N + 1) cap5))) := by
    refine ⟨rfl, ⟨_, _, bv, es, _, _, _, Nat.le_refl _, ?_, ?_, H6.out.2⟩, ?_⟩
    · rw [List.map_append, List.map_append, HS.out]; rfl
    · rw [List.length_append, HN.out]; exact h4
    · exact ((HB1.out.mono hB0).trans H3B.out).trans ((((Below.refl _ _).alloc (by rw [hz3]; omega) _) : Below B0 (w2.setCell ⟨Wb, 0, none⟩ (.slice (some ⟨g2, 0, none⟩) (N + 1) cap2)) ((w2.setCell ⟨Wb, 0, none⟩ (.slice (some ⟨g2, 0, none⟩) (N + 1) cap2)).alloc (.cells #[.int .i64 0, .slice none 0 0, .int .i64 0, .slice none 0 0, .int .i64 0, .slice none 0 0, .int .i64 0, .slice none 0 0, .string ⟨#[]⟩] 69))).trans H6.out.1)
  clear O5 hrow5 hat5 hat5' hfoot5 ho5 hg5 e5 e4 kY3 fy3 HR4 HV4 H6 H4 H3 H3B hz3 hA4 hY4 H1 HB1
  go_wp2
  go_ret
  exact HFIN.out
theorem step_new {w : World} {B0 Wb : Nat} {xv yv bv : Value} {es : List Entry} {xs : List XV} {ys : List YV} {κ : Nat → Col} (h : WorldAt w B0 Wb xv yv bv es xs ys κ) (hsame : xs.map (·.s) = ys.map (·.s)) (h4 : xs.length ≤ 4) (a b c : Int) (s t : ByteArray) (lo mo : Option Addr) (ln lc mn mc : Nat) :
    Calls Tryz.prog 17 #[.pointer (some ⟨Wb, 0, none⟩), .agg #[.int .i64 7, .int .i64 a, .int .i64 b, .int .i64 c, .string s, .string t, .slice lo ln lc, .slice mo mn mc]] w (Went B0 Wb es.length w) := by
  by_cases e : xs.length = 4
  · exact step_new_full h hsame e a b c s t lo mo ln lc mn mc
  · exact step_new_room h hsame (by omega) a b c s t lo mo ln lc mn mc
end Go.Proofs.YtabpiaaknjcnkaaGreat
