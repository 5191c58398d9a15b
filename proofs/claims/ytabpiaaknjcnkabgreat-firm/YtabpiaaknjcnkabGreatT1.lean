/-
  The walks over versions and works of cofferkeep.
-/
import Derived.Test.YtabpiaaknjcnkabGreatVC
import Derived.Test.YtabpiaaknjcnkabGreatXW9K2
namespace Go.Proofs.YtabpiaaknjcnkabGreat
open Go.RowKit
set_option linter.unusedVariables false
set_option linter.unusedSimpArgs false
set_option maxRecDepth 100000

/-- A row of texts that is read. -/
def SView (w : World) (v : Value) (ts : List ByteArray) : Prop := ∃ ao cap, v = .slice ao ts.length cap ∧ ts.length ≤ cap ∧ ∀ i t, ts[i]? = some t → ∃ g k, ao = some ⟨g, k, none⟩ ∧ w.cell? ⟨g, k + i, none⟩ = some (.string t)
theorem SView.of_own {w : World} {b : Nat} {v : Value} {ts : List ByteArray} (h : OwnStrs w b v ts) : SView w v ts := by
  obtain ⟨ao, cap, rfl⟩ := h.slice
  refine ⟨ao, cap, rfl, ?_, fun i t ht => ?_⟩
  · rcases h.2 with ⟨h', h0⟩ | ⟨g', cap', cur, h', _, _, h2, _⟩
    · omega
    · injection h' with _ _ e3; omega
  · obtain ⟨g, rfl, _, _, hc⟩ := h.cell ht
    exact ⟨g, 0, rfl, by rw [Nat.zero_add]; exact hc⟩
theorem SView.nil (w : World) : SView w (.slice none 0 0) [] := ⟨none, 0, rfl, Nat.le_refl _, fun i t h => by simp at h⟩
theorem SView.block {w w' : World} {v : Value} {ts : List ByteArray} (h : SView w v ts) (hk : ∀ g, v.ownBlock = some g → w'.heap[g]? = w.heap[g]?) : SView w' v ts := by
  obtain ⟨ao, cap, rfl, hc, hr⟩ := h
  refine ⟨ao, cap, rfl, hc, fun i t ht => ?_⟩
  obtain ⟨g, k, rfl, hcell⟩ := hr i t ht
  exact ⟨g, k, rfl, (World.cell?_of_block (a := ⟨g, k + i, none⟩) (hk g rfl)).trans hcell⟩
theorem SView.drop {w : World} {ao : Option Addr} {n cap : Nat} {ts : List ByteArray} (h : SView w (.slice ao n cap) ts) {k : Nat} (hk : k < ts.length) : ∃ g j, ao = some ⟨g, j, none⟩ ∧ SView w (.slice (some ⟨g, j + k, none⟩) (n - k) (cap - k)) (ts.drop k) := by
  obtain ⟨ao', cap', he, hc, hr⟩ := h
  injection he with e1 e2 e3
  subst e1; subst e2; subst e3
  obtain ⟨g, j, rfl, _⟩ := hr k ts[k] (List.getElem?_eq_getElem hk)
  refine ⟨g, j, rfl, some ⟨g, j + k, none⟩, cap - k, by rw [List.length_drop], by rw [List.length_drop]; omega, fun i t ht => ?_⟩
  rw [List.getElem?_drop] at ht
  obtain ⟨g', j', e, hcell⟩ := hr (k + i) t ht
  injection e with e
  injection e with e1 e2
  subst e1; subst e2
  exact ⟨g, j + k, rfl, by rw [Nat.add_assoc]; exact hcell⟩

/-- The number that a chain's first version has; 0: there never was any. -/
def firstN (x : Chn) : Nat := if x.texts = [] then 0 else x.gone + 1

theorem getE_has {s : Vlt} {c : Nat} {z : Int} (hc : c < 4) (h : hasB (s.ch c) z = true) : getE s (c : Int) z = 0 := by
  unfold getE; rw [if_neg (by omega), show ((c : Int)).toNat = c by omega, if_pos h]
theorem getE_none {s : Vlt} {c : Nat} {z : Int} (hc : c < 4) (h : hasB (s.ch c) z = false) : getE s (c : Int) z = 5 := by
  unfold getE; rw [if_neg (by omega), show ((c : Int)).toNat = c by omega, if_neg (by rw [h]; decide)]
theorem getT_at {s : Vlt} {c i : Nat} {z : Int} {t : ByteArray} (hc : c < 4) (hz : z = ((s.ch c).gone : Int) + 1 + i) (h : (s.ch c).texts[i]? = some t) : getE s (c : Int) z = 0 ∧ getT s (c : Int) z = t := by
  have hlt := (List.getElem?_eq_some_iff.1 h).1
  have hh : hasB (s.ch c) z = true := hasB_iff.2 (by unfold Chn.has Chn.last; omega)
  have hE := getE_has hc hh
  refine ⟨hE, ?_⟩
  unfold getT
  rw [if_pos hE, show ((c : Int)).toNat = c by omega, show (z - ((s.ch c).gone : Int) - 1).toNat = i by omega, h]; rfl

set_option maxHeartbeats 4000000 in
/-- A vault's chain has just these texts. -/
theorem kversions_none (p c : Nat) (z : Int) (lv v : Value) (tv : Nat → Value) (s : Vlt) (w : World) (hv : VaultAt w p lv tv s) (hok : s.Ok) (hc : c < 4) (h0 : (s.ch c).texts = []) (hvw : SView w v []) :
    Calls Tryz.prog 26 #[.pointer (some ⟨p, 0, none⟩), .int .i64 c, .int .i64 z, v] w fun e w' => e = .returned (.bool true) ∧ Below w.heap.size w w' := by
  obtain ⟨ao, cap, rfl, _, _⟩ := hvw
  have hg := hok.none c h0
  have HC : Hid (Calls Tryz.prog 17 #[.pointer (some ⟨p, 0, none⟩), .int .i64 c] w fun e w' => e = .returned (.tuple #[.int .i64 0, .int .i64 0, .int .i64 0]) ∧ Still w w') := by
    have := cversions_any p c lv tv s w hv hok
    have e1 : verA s (c : Int) = 0 := by unfold verA; rw [if_pos (by omega), show ((c : Int)).toNat = c by omega]; unfold Chn.first Chn.last; rw [h0, hg]; rfl
    have e2 : verB s (c : Int) = 0 := by unfold verB; rw [if_pos (by omega), show ((c : Int)).toNat = c by omega]; unfold Chn.last; rw [h0, hg]; rfl
    have e3 : verE (c : Int) = 0 := by unfold verE; rw [if_pos (by omega)]
    rw [e1, e2, e3] at this; exact this
  clear hv hok h0 hg
  go_enter Tryz.func26, Tryz.ntmps26
  go_wp2_with fail
  refine HC.out.mono ?_
  rintro e w1 ⟨rfl, st⟩
  go_wp2
  go_ret
  exact ⟨rfl, st.below _⟩

set_option maxHeartbeats 8000000 in
theorem kversions_some (p c : Nat) (lv v : Value) (tv : Nat → Value) (s : Vlt) (w : World) (hv : VaultAt w p lv tv s) (hok : s.Ok) (hc : c < 4) (h0 : (s.ch c).texts ≠ []) (hvw : SView w v (s.ch c).texts) (hb : ∀ g, v.ownBlock = some g → g < w.heap.size) :
    Calls Tryz.prog 26 #[.pointer (some ⟨p, 0, none⟩), .int .i64 c, .int .i64 (((s.ch c).gone + 1 : Nat) : Int), v] w fun e w' => e = .returned (.bool true) ∧ Below w.heap.size w w' := by
  have hlast : (s.ch c).gone + (s.ch c).texts.length ≤ 2147483647 := hok.last c
  have hpos : 0 < (s.ch c).texts.length := List.length_pos_iff.2 h0
  have hcv := cversions_any p c lv tv s w hv hok
  have e1 : verA s (c : Int) = (((s.ch c).gone + 1 : Nat) : Int) := by unfold verA; rw [if_pos (by omega), show ((c : Int)).toNat = c by omega]; unfold Chn.first Chn.last; omega
  have e2 : verB s (c : Int) = (((s.ch c).gone + (s.ch c).texts.length : Nat) : Int) := by unfold verB; rw [if_pos (by omega), show ((c : Int)).toNat = c by omega]; rfl
  have e3 : verE (c : Int) = 0 := by unfold verE; rw [if_pos (by omega)]
  rw [e1, e2, e3] at hcv
  have HV : Hid (VaultAt w p lv tv s) := hv
  have HO : Hid s.Ok := hok
  have HT : Hid (∀ W, Below w.heap.size w W → ∀ (i : Nat) (t : ByteArray), (s.ch c).texts[i]? = some t → ∀ z : Int, z = ((s.ch c).gone : Int) + 1 + i → Calls Tryz.prog 16 #[.pointer (some ⟨p, 0, none⟩), .int .i64 c, .int .i64 z] W fun e w' => e = .returned (.tuple #[.string t, .int .i64 0]) ∧ Below W.heap.size W w') := fun W hW i t ht z hz => by
    have := crestore_any p c z lv tv s W (HV.out.below hW) HO.out
    obtain ⟨a1, a2⟩ := getT_at (s := s) hc hz ht
    rw [a1, a2] at this; exact this
  have HN : Hid (∀ W, Below w.heap.size w W → ∀ z : Int, hasB (s.ch c) z = false → Calls Tryz.prog 16 #[.pointer (some ⟨p, 0, none⟩), .int .i64 c, .int .i64 z] W fun e w' => ∃ t, e = .returned (.tuple #[.string t, .int .i64 5]) ∧ Below W.heap.size W w') := fun W hW z hz => by
    have := crestore_any p c z lv tv s W (HV.out.below hW) HO.out
    rw [getE_none hc hz] at this
    exact this.mono fun e w' ⟨h1, h2⟩ => ⟨_, h1, h2⟩
  have HB1 : Hid (hasB (s.ch c) ((s.ch c).gone : Int) = false) := by unfold Hid hasB; simp
  have HB2 : Hid (hasB (s.ch c) (((s.ch c).gone + 1 + (s.ch c).texts.length : Nat) : Int) = false) := decide_eq_false (by unfold Chn.last; omega)
  have HCV : Hid (Calls Tryz.prog 17 #[.pointer (some ⟨p, 0, none⟩), .int .i64 c] w fun e w' => e = .returned (.tuple #[.int .i64 (((s.ch c).gone + 1 : Nat) : Int), .int .i64 (((s.ch c).gone + (s.ch c).texts.length : Nat) : Int), .int .i64 0]) ∧ Still w w') := hcv
  obtain ⟨ao, cap, rfl, hcap, hrow⟩ := hvw
  obtain ⟨g, k, hao, _⟩ := hrow 0 (s.ch c).texts[0] (List.getElem?_eq_getElem hpos)
  subst hao
  have HROW : Hid (∀ (i : Nat) (t : ByteArray), (s.ch c).texts[i]? = some t → w.cell? ⟨g, k + i, none⟩ = some (.string t)) := fun i t ht => by
    obtain ⟨g', k', e, hcell⟩ := hrow i t ht
    injection e with e
    injection e with e1 e2
    subst e1; subst e2
    exact hcell
  have hglt : g < w.heap.size := hb g rfl
  clear hv hok hcv e1 e2 e3 h0 hrow hb HV HO
  generalize s.ch c = x at *
  generalize hgn : x.gone = gn at *
  generalize hts : x.texts = ts at *
  clear hgn hts
  have q1 : IntKind.i64.wrap (((gn + 1 : Nat) : Int) + (ts.length : Int)) = ((gn + 1 + ts.length : Nat) : Int) := by rw [IntKind.wrap_i64]; omega
  have q2 : IntKind.i64.wrap (((gn + 1 + ts.length : Nat) : Int) - 1) = ((gn + ts.length : Nat) : Int) := by rw [IntKind.wrap_i64]; omega
  have q3 : IntKind.i64.wrap (((gn + 1 : Nat) : Int) - 1) = (gn : Int) := by rw [IntKind.wrap_i64]; omega
  have q4 : ((ts.length : Int) == 0) = false := beq_false_of_ne (by omega)
  have hMb : gn + 1 ≤ 2147483648 := by omega
  have hTb : ts.length ≤ 2147483647 := by omega
  generalize hM : gn + 1 = M at *
  have HM : Hid (gn + 1 = M) := hM
  clear hM
  generalize hL : gn + ts.length = L at *
  clear hL
  generalize hE : M + ts.length = E at *
  clear hE
  go_enter Tryz.func26, Tryz.ntmps26
  go_wp2_with fail
  refine HCV.out.mono ?_
  rintro e w1 ⟨rfl, st1⟩
  have B1 : Below w.heap.size w w1 := st1.below _
  clear st1 HCV
  go_wp2
  go_loopw [12] (fun i wr => ∃ j : Nat, i = .int .i64 j ∧ j ≤ ts.length ∧ Below w.heap.size w wr) (fun i _ => ts.length + 1 - (intOf i).toNat)
  case atStart => exact ⟨0, rfl, by omega, B1⟩
  case round =>
    obtain ⟨j, rfl, hj, hb⟩ := hrel
    by_cases hlt : j < ts.length
    · have hget : ts[j]? = some ts[j] := List.getElem?_eq_getElem hlt
      have q5 : IntKind.i64.wrap ((M : Int) + (j : Int)) = ((M + j : Nat) : Int) := by rw [IntKind.wrap_i64]; omega
      have HCR := HT.out wr hb j ts[j] hget ((M + j : Nat) : Int) (by have := HM.out; omega)
      have HCH : Hid (Calls Tryz.prog 16 #[.pointer (some ⟨p, 0, none⟩), .int .i64 c, .int .i64 ((M + j : Nat) : Int)] wr fun e w' => e = .returned (.tuple #[.string ts[j], .int .i64 0]) ∧ Below wr.heap.size wr w') := HCR
      have hcell := HROW.out j _ hget
      generalize ts[j] = t at *
      clear hget HCR
      generalize M + j = Mj at *
      go_wp2_with fail
      refine HCH.out.mono ?_
      rintro e w3 ⟨rfl, b3⟩
      have B3 : Below w.heap.size w w3 := hb.trans (b3.mono hb.size)
      have c3 : w3.cell? ⟨g, k + j, none⟩ = some (.string t) := (B3.cell (p := ⟨g, k + j, none⟩) hglt).trans hcell
      clear HCH b3
      go_wp2
      go_roundw
      case rel => exact ⟨j + 1, by go_num, by omega, B3⟩
      case measure => simp [intOf]; omega
    · obtain rfl : j = ts.length := by omega
      go_wp2_with fail
      refine (HN.out wr hb gn HB1.out).mono ?_
      rintro e w3 ⟨t3, rfl, b3⟩
      have B3 : Below w.heap.size w w3 := hb.trans (b3.mono hb.size)
      clear b3
      go_wp2_with fail
      refine (HN.out w3 B3 E HB2.out).mono ?_
      rintro e w4 ⟨t4, rfl, b4⟩
      have B4 : Below w.heap.size w w4 := B3.trans (b4.mono B3.size)
      go_wp2
      go_ret
      exact ⟨rfl, B4⟩
end Go.Proofs.YtabpiaaknjcnkabGreat
