/-
  The walk over Kept.
-/
import Derived.Test.YtabpiaaknjcnkaaT8
namespace Go.Proofs.Ytabpiaaknjcnkaa
open Go.RowKit
set_option linter.unusedVariables false
set_option linter.unusedSimpArgs false
set_option maxRecDepth 100000

/-- The log of a vault of a tale, as a text. -/
def logB (v : Vlt) : ByteArray := ⟨v.log.toArray⟩
theorem logB_data (v : Vlt) : (logB v).data.toList = v.log := by simp [logB]
theorem logB_size (v : Vlt) : (logB v).size = v.log.length := by rw [Lib.size_eq, logB_data]
theorem next_logs {a b : Vlt} (h : Next a b) : (logB a).size < (logB b).size ∧ (logB b).extract 0 (logB a).size = logB a := by
  obtain ⟨l, e, h1⟩ := h
  have hp := h1.pos
  refine ⟨by rw [logB_size, logB_size, e, List.length_append]; omega, bytes_ext ?_⟩
  rw [mid_data, logB_data, logB_data, logB_size, e, List.drop_zero, Nat.sub_zero, List.take_left]

/-- What holds is asked, of a tale. -/
theorem tale_holds {w0 w : World} {q p : Nat} {cur : Nat → Value} {a b c lv : Value} {tv : Nat → Value} {s : Vlt} {vs : List Vlt} {rs : List (Nat → Value)} (h : TaleAt w0 w q p cur a b c lv tv s vs rs) (hk : TaleOk s vs) {p2 : Nat} {lv2 : Value} {tv2 : Nat → Value} {s2 : Vlt} (hv2 : VaultAt w p2 lv2 tv2 s2) (hok : s2.Ok)
    {k : Nat} {v : Vlt} (hv : vs[k]? = some v) (hch : ∀ i, i < 4 → s2.ch i = v.ch i) :
    Calls Try.prog 22 #[.pointer (some ⟨q, 0, none⟩), .pointer (some ⟨p2, 0, none⟩), .int .i64 k] w fun e w' => e = .returned (.bool true) ∧ Below w.heap.size w w' := by
  have hlt := (List.getElem?_eq_some_iff.1 hv).1
  have hm := hk.many
  have hl := h.len
  obtain ⟨r, hr⟩ : ∃ r, rs[k]? = some r := ⟨rs[k]'(by omega), List.getElem?_eq_getElem (by omega)⟩
  refine holds_any q p (firstsOf s) cur a b c lv tv s _ _ rs w h.st p2 lv2 tv2 s2 hv2 hok k (firstsOf v) r (by rw [List.getElem?_map, hv]; rfl) hr (by rw [List.length_map]; omega) (by omega) (fun i hi h0 => ?_) (fun i hi => ?_)
  · rw [hch i hi] at h0 ⊢
    unfold firstsOf firstN; rw [if_neg h0]
  · rw [hch i hi]
    have := h.ahead k v r hv hr i hi
    exact ⟨this.1, fun g hg => (this.2 g hg).1⟩

set_option maxHeartbeats 8000000 in
theorem kept_any (text : ByteArray) (v : Value) (w : World) (ht : text.size ≤ 9223372036854775807) (hv : RawIn w v) (hsl : ∃ ao n cap, v = .slice ao n cap) :
    Calls Try.prog 7 #[.string text, v] w fun e w' => e = .returned (.bool true) ∧ Below w.heap.size w w' := by
  have HTO : Hid (Calls Try.prog 21 #[.string text, v] w (ToldPost w)) := told_any text v w ht hv
  obtain ⟨rao, rn, rcap, rfl⟩ := hsl
  clear hv
  go_enter Try.func7, Try.ntmps7
  go_wp2_with fail
  refine HTO.out.mono ?_
  rintro e w1 ⟨q, p, rfl, cur, a, b, c, lv, tv, s, vs, rs, hT, hK⟩
  have HT : Hid (TaleAt w w1 q p cur a b c lv tv s vs rs) := hT
  have HK : Hid (TaleOk s vs) := hK
  have hpos := hK.pos
  have hmany := hK.many
  have k0 := hT.st.cells.1
  have k9 := hT.st.cells.2.1
  obtain ⟨ga, ca, hav, hga, hcells⟩ := row_cell hT.st.logs (by rw [List.length_map]; exact hpos)
  rw [List.length_map] at hav
  rw [hav] at k9
  have HC : Hid (∀ (k : Nat) (v : Vlt), vs[k]? = some v → w1.cell? ⟨ga, k, none⟩ = some (.string (logB v))) := fun k v hv => hcells k _ (by rw [List.getElem?_map, List.getElem?_map, hv]; rfl)
  have HB : Hid (Below w.heap.size w w1) := hT.below
  have HH : Hid (∀ m : Nat, vs.length = m + 1 → Calls Try.prog 22 #[.pointer (some ⟨q, 0, none⟩), .pointer (some ⟨p, 0, none⟩), .int .i64 m] (w1.drewN 1) fun e w' => e = .returned (.bool true) ∧ Below (w1.drewN 1).heap.size (w1.drewN 1) w') := fun m hm => by
    have hT1 := hT.belowed (w' := w1.drewN 1) (below_drewN0 _ _ _)
    exact tale_holds hT1 hK hT1.st.vault (hK.ok s hK.mem).1 (by have := hK.last; rw [hm] at this; exact this) (fun i _ => rfl)
  have HN : Hid (∀ (k : Nat) (x y : Vlt), vs[k]? = some x → vs[k + 1]? = some y → (logB x).size < (logB y).size ∧ (logB y).extract 0 (logB x).size = logB x) := fun k x y hx hy => next_logs (hK.told.2 k x y hx hy)
  have HS : Hid (∀ (k : Nat) (x : Vlt), vs[k]? = some x → (logB x).size ≤ 20000) := fun k x hx => by rw [logB_size]; exact (hK.ok x (List.mem_of_getElem? hx)).1.log
  obtain ⟨m, hm⟩ : ∃ m, vs.length = m + 1 := ⟨vs.length - 1, by omega⟩
  have HM := HH.out m hm
  have HMH : Hid (Calls Try.prog 22 #[.pointer (some ⟨q, 0, none⟩), .pointer (some ⟨p, 0, none⟩), .int .i64 m] (w1.drewN 1) fun e w' => e = .returned (.bool true) ∧ Below (w1.drewN 1).heap.size (w1.drewN 1) w') := HM
  rw [hm] at k9 hmany
  have hmI : IntKind.i64.wrap (m : Int) = (m : Int) := by rw [IntKind.wrap_i64]; omega
  have HL : Hid (vs.length = m + 1) := hm
  clear HM hT hK hcells hm HH hpos hav
  go_wp2
  go_loopw [7] (fun i wr => ∃ j : Nat, i = .int .i64 ((j : Int) + 1) ∧ j + 1 ≤ m + 1 ∧ w1 = wr) (fun i _ => m + 3 - (intOf i).toNat)
  case atStart => exact ⟨0, rfl, by omega, rfl⟩
  case round =>
    obtain ⟨j, rfl, hj, rfl⟩ := hrel
    by_cases hlt : j < m
    · have c1 : (j : Int) + 1 < (m : Int) + 1 := by omega
      have hx := List.getElem?_eq_getElem (show j < vs.length by have := HL.out; omega)
      have hy := List.getElem?_eq_getElem (show j + 1 < vs.length by have := HL.out; omega)
      have x1 := HC.out j _ hx
      have y1 := HC.out (j + 1) _ hy
      obtain ⟨n1, n2⟩ := HN.out j _ _ hx hy
      have n3 := HS.out (j + 1) _ hy
      generalize vs[j]'(by have := HL.out; omega) = vx at *
      generalize vs[j + 1]'(by have := HL.out; omega) = vy at *
      generalize logB vx = A at *
      generalize logB vy = Y at *
      have wj : IntKind.i64.wrap (j : Int) = (j : Int) := by rw [IntKind.wrap_i64]; omega
      have d1 : (j : Int) < (m : Int) + 1 := by omega
      have d2 : ¬ (Y.size : Int) ≤ (A.size : Int) := by omega
      have d3 : (A.size : Int) ≤ (Y.size : Int) := by omega
      have w2 : IntKind.i64.wrap ((j : Int) + 1 + 1) = (j : Int) + 1 + 1 := by rw [IntKind.wrap_i64]; omega
      clear hx hy
      go_wp2
      go_roundw
      case rel => exact ⟨j + 1, by go_num, by omega, by first | rfl | trivial⟩
      case measure => simp [intOf]; omega
    · obtain rfl : j = m := by omega
      have c1 : ¬ (j : Int) + 1 < (j : Int) + 1 := by omega
      go_wp2_with fail
      go_region_held3 (fun w' => w'.cell? ⟨q, 0, none⟩ = some (.pointer (some ⟨p, 0, none⟩)) ∧ w'.cell? ⟨q, 9, none⟩ = some (.slice (some ⟨ga, 0, none⟩) (j + 1) ca)) (go_keep)
        (first | (go_at_call 22; refine HMH.out.mono ?_; rintro e w3 ⟨rfl, b3⟩; have e0 := (b3.cell (p := ⟨q, 0, none⟩) HT.out.st.lt).trans k0; have e1 := (b3.cell (p := ⟨q, 9, none⟩) HT.out.st.lt).trans k9))
      all_goals
        have R := HB.out.trans (((below_drewN0 _ w1 1).trans b3).mono HB.out.size)
        go_wp2
        go_ret
        exact ⟨rfl, R⟩
end Go.Proofs.Ytabpiaaknjcnkaa
