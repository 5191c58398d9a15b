/- The texts OI, T8, K3, one behind the other. -/
import Derived.Test.YtabpiaaknjcnkaaWK
import Derived.ProofKit
import Derived.OpenShut
import Derived.SizedLaws
import Derived.Test.YtabpiaaknjcnkaaT7
/-
  Lists of numbers that come in, opened.
-/
namespace Go.Proofs.Ytabpiaaknjcnkaa
open Go.ChangeShapes Go.WideShapes Go.ChangeAt Go.RowKit
open Go.ChangeMaps (open_string)
set_option linter.unusedVariables false
set_option linter.unusedSimpArgs false

theorem Try.cellsIntI : Try.prog.cellsOf 3 = 1 := by kernel_rfl
theorem Try.bytesIntI : Try.prog.bytesOf 3 = 8 := by kernel_rfl

theorem cell_keptI {W w : World} (h : Below W.heap.size W w) {a : Addr} {v : Value} (ha : a.block < W.heap.size) (hc : W.cell? a = some v) : w.cell? a = some v := (h.cell ha).trans hc

/-- A list of numbers that came in: what turned does with it. -/
theorem turns_ofI {W : World} {b off cap : Nat} {zs : List Int} (hz : zs.length ≤ 1000000000000000) (hbw : b < W.heap.size)
    (hr : ∀ i z, zs[i]? = some z → W.cell? ⟨b, off + i, none⟩ = some (.int .i64 z)) (hw : ∀ z ∈ zs, -9223372036854775808 ≤ z ∧ z ≤ 9223372036854775807) : Turns (.slice (some ⟨b, off, none⟩) zs.length cap) W := by
  intro s most w' hs hm hb
  exact turned_any s b off cap zs most w' hs hm hz (by have := hb.size; omega) (fun i z h => cell_keptI hb (a := ⟨b, off + i, none⟩) hbw (hr i z h)) hw
theorem turns_nilI {W : World} {ao : Option Addr} {cap : Nat} : Turns (.slice ao 0 cap) W := fun s most w' hs hm hb => turned_nil s ao cap most w' hm

theorem wf_rangeI {z : Int} (h : (Lit.int .i64 z).wf = true) : -9223372036854775808 ≤ z ∧ z ≤ 9223372036854775807 := by
  have h1 : IntKind.i64.min = -9223372036854775808 := rfl
  have h2 : IntKind.i64.max = 9223372036854775807 := rfl
  simp only [Lit.wf, Bool.and_eq_true, decide_eq_true_eq] at h
  omega


theorem turns_open {W : World} {H : Type} {enc : TypeId × Value → H} {d : DataW H} {v : Value} {p : List MemPlace} {ao : Option Addr} {len cap : Nat} (hv : v = .slice ao len cap) (h2 : DataW.Trod enc Try.prog W 0 (fun _ => true) true 22 v d p)
    (hsz : ∀ n ∈ d.weights Try.prog 22, n ≤ reachBytes) (hlt : ∀ x ∈ p, x.block < W.heap.size) : Turns v W := by
  subst hv
  obtain ⟨fuel, hf⟩ := h2
  rcases open_ints Try.underlying22 Try.underlying3 Try.cellsIntI hf with ⟨hcs, hx⟩ | ⟨a, len', cap', zs, hcs, _, hl, hm, hz, hx, hcell, hwz⟩
  · simp [Value.cells] at hcs
    obtain ⟨rfl, rfl, rfl⟩ := hcs
    exact turns_nilI
  · simp [Value.cells] at hcs
    obtain ⟨rfl, rfl, rfl⟩ := hcs
    simp only [Prod.mk.injEq] at hx
    obtain ⟨rfl, hp2⟩ := hx
    simp only [if_true] at hz
    have hreach : len * 8 ≤ 140737488351232 := by
      have := hsz _ (by simp only [DataW.weights, Try.underlying22]; exact List.mem_cons_self)
      rw [Try.bytesIntI] at this
      simp only [lits, List.length_map, List.length_take, List.length_drop, reachBytes] at this
      omega
    by_cases hl0 : len = 0
    · subst hl0; exact turns_nilI
    · obtain ⟨b, off, spot⟩ := a
      have hspot : spot = none := by simpa [Addr.add] using World.cell?_spot (hcell 0 (by omega))
      subst hspot
      have hbW : b < W.heap.size := hlt (.cell b off) (by rw [hp2]; exact MemPlace.mem_row.2 ⟨0, by omega, by simp⟩)
      have hlen : (zs.take len).length = len := by rw [List.length_take]; omega
      have := turns_ofI (W := W) (b := b) (off := off) (cap := cap) (zs := zs.take len) (by omega) hbW (fun i z hz' => by
        have hi : i < len := by have := (List.getElem?_eq_some_iff.1 hz').1; omega
        have hc := hcell i (by omega)
        rw [List.getElem?_take_of_lt hi] at hz'
        rw [add_plain] at hc
        rw [hc, List.getD_eq_getElem?_getD, hz']; rfl) (fun z hz' => wf_rangeI (hwz z (List.mem_of_mem_take hz')))
      rw [hlen] at this
      exact this
end Go.Proofs.Ytabpiaaknjcnkaa

/-
  The walk over told of cofferkeep, of whatever numbers.
-/
namespace Go.Proofs.Ytabpiaaknjcnkaa
open Go.RowKit
open Go.ChangeShapes Go.WideShapes Go.ChangeAt
set_option linter.unusedVariables false
set_option linter.unusedSimpArgs false
set_option maxRecDepth 100000

set_option maxHeartbeats 8000000 in
theorem told_nil (text : ByteArray) (ao : Option Addr) (cap : Nat) (w : World) :
    Calls Try.prog 21 #[.string text, .slice ao 0 cap] w (ToldPost w) := by
  go_enter Try.func21, Try.ntmps21
  go_wp2_with fail
  refine (cnew_any _).mono ?_
  rintro e w1 ⟨rfl, hv1, b1⟩
  have HV1 : Hid (VaultAt w1 w.heap.size (.slice none 0 0) (fun _ => .slice none 0 0) noVault) := hv1
  clear hv1
  go_wp2_with fail
  refine (works_any _).mono ?_
  rintro e w3 ⟨rfl, b3⟩
  have hT0 := tale_begin HV1.out b1 (by simpa using b3)
  have HT0 : Hid (TaleAt w w3 w1.heap.size w.heap.size (fun _ => .slice none 0 0) (.slice none 0 0) (.slice none 0 0) (.slice none 0 0) (.slice none 0 0) (fun _ => .slice none 0 0) noVault [] []) := hT0
  have k0 := hT0.st.cells.1
  clear hT0 b3 HV1 b1
  generalize w1.heap.size = q at *
  generalize hp : w.heap.size = p at *
  clear hp
  go_wp2_with fail
  refine (notes_any q p (firstsOf noVault) _ _ _ _ _ _ noVault [] [] [] _ HT0.out.st (by simp) (by simp) (by simp) (fun i _ => ⟨_, _, _, rfl⟩)).mono ?_
  rintro e w4 ⟨rfl, a1, b1, c1, hs4, ho4, hl4⟩
  have HT1 : Hid (TaleAt w w4 q p _ a1 b1 c1 _ _ noVault [noVault] [_]) := HT0.out.noted hs4 ho4 hl4
  clear hs4 ho4 hl4 HT0 k0
  go_wp2
  go_loopw [8] (fun i wr => i = .int .i64 0 ∧ w4 = wr) (fun _ _ => 0)
  case atStart => exact ⟨rfl, rfl⟩
  case round =>
    obtain ⟨rfl, rfl⟩ := hrel
    go_wp2
    go_ret2
    exact ⟨q, p, rfl, _, a1, b1, c1, _, _, _, _, _, HT1.out, tale_first⟩

/-- Numbers that came in. -/
def RawIn (W : World) (v : Value) : Prop := (∃ ao cap, v = .slice ao 0 cap) ∨ ∃ (B off cap : Nat) (zs : List Int), v = .slice (some ⟨B, off, none⟩) zs.length cap ∧ zs.length ≤ 1000000000000000 ∧ B < W.heap.size ∧ zs.length ≤ cap ∧ (∀ (i : Nat) (z : Int), zs[i]? = some z → W.cell? ⟨B, off + i, none⟩ = some (.int .i64 z)) ∧ ∀ z ∈ zs, -9223372036854775808 ≤ z ∧ z ≤ 9223372036854775807
theorem RawIn.below {W W' : World} {v : Value} (h : RawIn W v) (hb : Below W.heap.size W W') : RawIn W' v := by
  rcases h with h | ⟨B, off, cap, zs, h1, h2, h3, h4, h5, h6⟩
  · exact .inl h
  · exact .inr ⟨B, off, cap, zs, h1, h2, Nat.lt_of_lt_of_le h3 hb.size, h4, fun i z hz => (hb.cell (p := ⟨B, off + i, none⟩) h3).trans (h5 i z hz), h6⟩
theorem told_any (text : ByteArray) (v : Value) (w : World) (ht : text.size ≤ 9223372036854775807) (hv : RawIn w v) : Calls Try.prog 21 #[.string text, v] w (ToldPost w) := by
  rcases hv with ⟨ao, cap, rfl⟩ | ⟨B, off, cap, zs, rfl, h2, h3, h4, h5, h6⟩
  · exact told_nil text ao cap w
  · exact told_long text B off cap zs w ht h2 h3 h5 h6 h4

theorem raw_open {W : World} {H : Type} {enc : TypeId × Value → H} {d : DataW H} {v : Value} {p : List MemPlace} {ao : Option Addr} {len cap : Nat} (hv : v = .slice ao len cap) (h2 : DataW.Trod enc Try.prog W 0 (fun _ => true) true 22 v d p)
    (hsz : ∀ n ∈ d.weights Try.prog 22, n ≤ reachBytes) (hlt : ∀ x ∈ p, x.block < W.heap.size) : RawIn W v := by
  subst hv
  obtain ⟨fuel, hf⟩ := h2
  rcases open_ints Try.underlying22 Try.underlying3 Try.cellsIntI hf with ⟨hcs, hx⟩ | ⟨a, len', cap', zs, hcs, _, hl, hm, hz, hx, hcell, hwz⟩
  · simp [Value.cells] at hcs
    obtain ⟨rfl, rfl, rfl⟩ := hcs
    exact .inl ⟨_, _, rfl⟩
  · simp [Value.cells] at hcs
    obtain ⟨rfl, rfl, rfl⟩ := hcs
    simp only [Prod.mk.injEq] at hx
    obtain ⟨rfl, hp2⟩ := hx
    simp only [if_true] at hz
    have hreach : len * 8 ≤ 140737488351232 := by
      have := hsz _ (by simp only [DataW.weights, Try.underlying22]; exact List.mem_cons_self)
      rw [Try.bytesIntI] at this
      simp only [lits, List.length_map, List.length_take, List.length_drop, reachBytes] at this
      omega
    by_cases hl0 : len = 0
    · subst hl0; exact .inl ⟨_, _, rfl⟩
    · obtain ⟨b, off, spot⟩ := a
      have hspot : spot = none := by simpa [Addr.add] using World.cell?_spot (hcell 0 (by omega))
      subst hspot
      have hbW : b < W.heap.size := hlt (.cell b off) (by rw [hp2]; exact MemPlace.mem_row.2 ⟨0, by omega, by simp⟩)
      have hlen : (zs.take len).length = len := by rw [List.length_take]; omega
      refine .inr ⟨b, off, cap, zs.take len, by rw [hlen], by omega, hbW, by omega, fun i z hz' => ?_, fun z hz' => wf_rangeI (hwz z (List.mem_of_mem_take hz'))⟩
      have hi : i < len := by have := (List.getElem?_eq_some_iff.1 hz').1; omega
      have hc := hcell i (by omega)
      rw [List.getElem?_take_of_lt hi] at hz'
      rw [add_plain] at hc
      rw [hc, List.getD_eq_getElem?_getD, hz']; rfl
end Go.Proofs.Ytabpiaaknjcnkaa

/-
  The walk over Kept.
-/
namespace Go.Proofs.Ytabpiaaknjcnkaa
open Go.RowKit
set_option linter.unusedVariables false
set_option linter.unusedSimpArgs false
set_option maxRecDepth 100000

/-- The log of a vault of a tale, as a text. -/
def logB (v : Vlt) : ByteArray := ⟨v.log.toArray⟩
theorem logB_data (v : Vlt) : (logB v).data.toList = v.log := by simp [logB]
theorem logB_size (v : Vlt) : (logB v).size = v.log.length := by rw [Lib.size_eq, logB_data]
theorem next_logs {a b : Vlt} (h : Next a b) : (logB a).size < (logB b).size ∧ (logB b).extract 0 (logB a).size = logB a := by
  obtain ⟨l, e, h1⟩ := h
  have hp := h1.pos
  refine ⟨by rw [logB_size, logB_size, e, List.length_append]; omega, bytes_ext ?_⟩
  rw [mid_data, logB_data, logB_data, logB_size, e, List.drop_zero, Nat.sub_zero, List.take_left]

/-- What holds is asked, of a tale. -/
theorem tale_holds {w0 w : World} {q p : Nat} {cur : Nat → Value} {a b c lv : Value} {tv : Nat → Value} {s : Vlt} {vs : List Vlt} {rs : List (Nat → Value)} (h : TaleAt w0 w q p cur a b c lv tv s vs rs) (hk : TaleOk s vs) {p2 : Nat} {lv2 : Value} {tv2 : Nat → Value} {s2 : Vlt} (hv2 : VaultAt w p2 lv2 tv2 s2) (hok : s2.Ok)
    {k : Nat} {v : Vlt} (hv : vs[k]? = some v) (hch : ∀ i, i < 4 → s2.ch i = v.ch i) :
    Calls Try.prog 22 #[.pointer (some ⟨q, 0, none⟩), .pointer (some ⟨p2, 0, none⟩), .int .i64 k] w fun e w' => e = .returned (.bool true) ∧ Below w.heap.size w w' := by
  have hlt := (List.getElem?_eq_some_iff.1 hv).1
  have hm := hk.many
  have hl := h.len
  obtain ⟨r, hr⟩ : ∃ r, rs[k]? = some r := ⟨rs[k]'(by omega), List.getElem?_eq_getElem (by omega)⟩
  refine holds_any q p (firstsOf s) cur a b c lv tv s _ _ rs w h.st p2 lv2 tv2 s2 hv2 hok k (firstsOf v) r (by rw [List.getElem?_map, hv]; rfl) hr (by rw [List.length_map]; omega) (by omega) (fun i hi h0 => ?_) (fun i hi => ?_)
  · rw [hch i hi] at h0 ⊢
    unfold firstsOf firstN; rw [if_neg h0]
  · rw [hch i hi]
    have := h.ahead k v r hv hr i hi
    exact ⟨this.1, fun g hg => (this.2 g hg).1⟩

set_option maxHeartbeats 8000000 in
theorem kept_any (text : ByteArray) (v : Value) (w : World) (ht : text.size ≤ 9223372036854775807) (hv : RawIn w v) (hsl : ∃ ao n cap, v = .slice ao n cap) :
    Calls Try.prog 7 #[.string text, v] w fun e w' => e = .returned (.bool true) ∧ Below w.heap.size w w' := by
  have HTO : Hid (Calls Try.prog 21 #[.string text, v] w (ToldPost w)) := told_any text v w ht hv
  obtain ⟨rao, rn, rcap, rfl⟩ := hsl
  clear hv
  go_enter Try.func7, Try.ntmps7
  go_wp2_with fail
  refine HTO.out.mono ?_
  rintro e w1 ⟨q, p, rfl, cur, a, b, c, lv, tv, s, vs, rs, hT, hK⟩
  have HT : Hid (TaleAt w w1 q p cur a b c lv tv s vs rs) := hT
  have HK : Hid (TaleOk s vs) := hK
  have hpos := hK.pos
  have hmany := hK.many
  have k0 := hT.st.cells.1
  have k9 := hT.st.cells.2.1
  obtain ⟨ga, ca, hav, hga, hcells⟩ := row_cell hT.st.logs (by rw [List.length_map]; exact hpos)
  rw [List.length_map] at hav
  rw [hav] at k9
  have HC : Hid (∀ (k : Nat) (v : Vlt), vs[k]? = some v → w1.cell? ⟨ga, k, none⟩ = some (.string (logB v))) := fun k v hv => hcells k _ (by rw [List.getElem?_map, List.getElem?_map, hv]; rfl)
  have HB : Hid (Below w.heap.size w w1) := hT.below
  have HH : Hid (∀ m : Nat, vs.length = m + 1 → Calls Try.prog 22 #[.pointer (some ⟨q, 0, none⟩), .pointer (some ⟨p, 0, none⟩), .int .i64 m] (w1.drewN 1) fun e w' => e = .returned (.bool true) ∧ Below (w1.drewN 1).heap.size (w1.drewN 1) w') := fun m hm => by
    have hT1 := hT.belowed (w' := w1.drewN 1) (below_drewN0 _ _ _)
    exact tale_holds hT1 hK hT1.st.vault (hK.ok s hK.mem).1 (by have := hK.last; rw [hm] at this; exact this) (fun i _ => rfl)
  have HN : Hid (∀ (k : Nat) (x y : Vlt), vs[k]? = some x → vs[k + 1]? = some y → (logB x).size < (logB y).size ∧ (logB y).extract 0 (logB x).size = logB x) := fun k x y hx hy => next_logs (hK.told.2 k x y hx hy)
  have HS : Hid (∀ (k : Nat) (x : Vlt), vs[k]? = some x → (logB x).size ≤ 20000) := fun k x hx => by rw [logB_size]; exact (hK.ok x (List.mem_of_getElem? hx)).1.log
  obtain ⟨m, hm⟩ : ∃ m, vs.length = m + 1 := ⟨vs.length - 1, by omega⟩
  have HM := HH.out m hm
  have HMH : Hid (Calls Try.prog 22 #[.pointer (some ⟨q, 0, none⟩), .pointer (some ⟨p, 0, none⟩), .int .i64 m] (w1.drewN 1) fun e w' => e = .returned (.bool true) ∧ Below (w1.drewN 1).heap.size (w1.drewN 1) w') := HM
  rw [hm] at k9 hmany
  have hmI : IntKind.i64.wrap (m : Int) = (m : Int) := by rw [IntKind.wrap_i64]; omega
  have HL : Hid (vs.length = m + 1) := hm
  clear HM hT hK hcells hm HH hpos hav
  go_wp2
  go_loopw [7] (fun i wr => ∃ j : Nat, i = .int .i64 ((j : Int) + 1) ∧ j + 1 ≤ m + 1 ∧ w1 = wr) (fun i _ => m + 3 - (intOf i).toNat)
  case atStart => exact ⟨0, rfl, by omega, rfl⟩
  case round =>
    obtain ⟨j, rfl, hj, rfl⟩ := hrel
    by_cases hlt : j < m
    · have c1 : (j : Int) + 1 < (m : Int) + 1 := by omega
      have hx := List.getElem?_eq_getElem (show j < vs.length by have := HL.out; omega)
      have hy := List.getElem?_eq_getElem (show j + 1 < vs.length by have := HL.out; omega)
      have x1 := HC.out j _ hx
      have y1 := HC.out (j + 1) _ hy
      obtain ⟨n1, n2⟩ := HN.out j _ _ hx hy
      have n3 := HS.out (j + 1) _ hy
      generalize vs[j]'(by have := HL.out; omega) = vx at *
      generalize vs[j + 1]'(by have := HL.out; omega) = vy at *
      generalize logB vx = A at *
      generalize logB vy = Y at *
      have wj : IntKind.i64.wrap (j : Int) = (j : Int) := by rw [IntKind.wrap_i64]; omega
      have d1 : (j : Int) < (m : Int) + 1 := by omega
      have d2 : ¬ (Y.size : Int) ≤ (A.size : Int) := by omega
      have d3 : (A.size : Int) ≤ (Y.size : Int) := by omega
      have w2 : IntKind.i64.wrap ((j : Int) + 1 + 1) = (j : Int) + 1 + 1 := by rw [IntKind.wrap_i64]; omega
      clear hx hy
      go_wp2
      go_roundw
      case rel => exact ⟨j + 1, by go_num, by omega, by first | rfl | trivial⟩
      case measure => simp [intOf]; omega
    · obtain rfl : j = m := by omega
      have c1 : ¬ (j : Int) + 1 < (j : Int) + 1 := by omega
      go_wp2_with fail
      go_region_held3 (fun w' => w'.cell? ⟨q, 0, none⟩ = some (.pointer (some ⟨p, 0, none⟩)) ∧ w'.cell? ⟨q, 9, none⟩ = some (.slice (some ⟨ga, 0, none⟩) (j + 1) ca)) (go_keep)
        (first | (go_at_call 22; refine HMH.out.mono ?_; rintro e w3 ⟨rfl, b3⟩; have e0 := (b3.cell (p := ⟨q, 0, none⟩) HT.out.st.lt).trans k0; have e1 := (b3.cell (p := ⟨q, 9, none⟩) HT.out.st.lt).trans k9))
      all_goals
        have R := HB.out.trans (((below_drewN0 _ w1 1).trans b3).mono HB.out.size)
        go_wp2
        go_ret
        exact ⟨rfl, R⟩
end Go.Proofs.Ytabpiaaknjcnkaa
