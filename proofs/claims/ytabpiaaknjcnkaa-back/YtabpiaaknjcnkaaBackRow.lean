/- Proved here: for every base, next and raw, cofferkeep.Back returns true, and its arguments read behind the call as before. No condition. -/
import Derived.Test.YtabpiaaknjcnkaaWK
import Derived.ProofKit
import Derived.OpenShut
import Derived.SizedLaws
namespace Go.Proofs.Ytabpiaaknjcnkaa
open Go.ChangeShapes Go.WideShapes Go.ChangeAt Go.RowKit
open Go.ChangeMaps (open_string)
set_option linter.unusedVariables false
set_option linter.unusedSimpArgs false

theorem Try.own : ownKnob Try.prog.godebug = none := by kernel_rfl
theorem Try.laidOut : laidOutB Try.prog = true := by kernel_rfl
theorem Try.cellsInt : Try.prog.cellsOf 3 = 1 := by kernel_rfl
theorem Try.bytesInt : Try.prog.bytesOf 3 = 8 := by kernel_rfl

theorem cell_kept {W w : World} (h : Below W.heap.size W w) {a : Addr} {v : Value} (ha : a.block < W.heap.size) (hc : W.cell? a = some v) : w.cell? a = some v := (h.cell ha).trans hc

/-- A list of numbers that came in: what turned does with it. -/
theorem turns_of {W : World} {b off cap : Nat} {zs : List Int} (hz : zs.length ≤ 1000000000000000) (hbw : b < W.heap.size)
    (hr : ∀ i z, zs[i]? = some z → W.cell? ⟨b, off + i, none⟩ = some (.int .i64 z)) (hw : ∀ z ∈ zs, -9223372036854775808 ≤ z ∧ z ≤ 9223372036854775807) : Turns (.slice (some ⟨b, off, none⟩) zs.length cap) W := by
  intro s most w' hs hm hb
  exact turned_any s b off cap zs most w' hs hm hz (by have := hb.size; omega) (fun i z h => cell_kept hb (a := ⟨b, off + i, none⟩) hbw (hr i z h)) hw
theorem turns_nil {W : World} {ao : Option Addr} {cap : Nat} : Turns (.slice ao 0 cap) W := fun s most w' hs hm hb => turned_nil s ao cap most w' hm

theorem wf_range {z : Int} (h : (Lit.int .i64 z).wf = true) : -9223372036854775808 ≤ z ∧ z ≤ 9223372036854775807 := by
  have h1 : IntKind.i64.min = -9223372036854775808 := rfl
  have h2 : IntKind.i64.max = 9223372036854775807 := rfl
  simp only [Lit.wf, Bool.and_eq_true, decide_eq_true_eq] at h
  omega

set_option maxRecDepth 100000 in
theorem back_lifted (os : Os) (started : os.Started) (H : Type) (enc : TypeId × Value → H) :
    ReturnsInHanded {} Try.checked os 3 .any (Rows.backSpec.pre6 enc Try.prog Try.f3 Rows.backRow.domain false) (Rows.backSpec.post enc Try.prog Try.f3 false true false false) := by
  refine returnsInHanded_of_change_sized (C := Try.checked) Try.own started (by kernel_rfl) Try.func3
    (ChangeSpec.witness6 (enc := enc) (C := Try.checked) false ⟨#[], #[.string ByteArray.empty, .string ByteArray.empty, .slice none 0 0], []⟩ 8 (by kernel_rfl) (by kernel_rfl) (by kernel_rfl) (by kernel_rfl)) ?_
  intro W base args ds gs before hval0 hW _ hsz0 _
  have hsz : (DataW.weightsEach Try.prog (Try.f3.params.toList ++ Rows.backSpec.plain.varTypes Try.prog) (ds ++ gs)).all (· ≤ reachBytes) = true := hsz0
  clear hsz0
  have hval : ∀ (j : Nat) t v, Try.f3.params[j]? = some t → args[j]? = some v → Value.okWide Try.prog W .any base t v := hval0
  have hW' := hW
  obtain ⟨p, q, hA0, hV, rfl, _, _⟩ := hW
  have hA : DataW.TrodAll enc Try.prog W 0 (fun _ => true) true Try.f3.params.toList args.toList ds p := hA0
  rw [Try.params3] at hA hval hsz
  obtain ⟨v0, v1, v2, d0, d1, d2, p0, p1, p2, rfl, rfl, rfl, h0, h1, h2⟩ := trodAll_three hA
  obtain ⟨rfl, rfl⟩ := trodVars_none hV
  clear hA0 hval0
  simp only [List.append_nil] at hW'
  have hlt : ∀ x ∈ p0 ++ p1 ++ p2, x.block < W.heap.size := fun x hx => by simpa using hW'.lt x hx
  have fin : ∀ (e : Ending) (W' : World), e = .returned (.bool true) → Below W.heap.size W W' → ∃ v, e = Ending.returned v ∧ Rows.backSpec.post enc Try.prog Try.f3 false true false false W #[v0, v1, v2] v W' := by
    intro e W' he hnx
    have a0 := Below.trod Try.laidOut (by kernel_rfl) (of_decide_eq_true (by kernel_rfl)) h0 hnx (fun x hx => hlt x (by simp [hx]))
    have a1 := Below.trod Try.laidOut (by kernel_rfl) (of_decide_eq_true (by kernel_rfl)) h1 hnx (fun x hx => hlt x (by simp [hx]))
    have a2 := Below.trod Try.laidOut (by kernel_rfl) (of_decide_eq_true (by kernel_rfl)) h2 hnx (fun x hx => hlt x (by simp [hx]))
    refine ⟨_, he, _, _, _, [], p0 ++ (p1 ++ p2), [], hW', ?_, ?_, rfl, hnx.frame _, fun h => by cases h⟩
    · exact trodAll_mk1 (shut_bool Try.underlying4 _)
    · exact trodAll_mk3 a0 a1 a2
  obtain ⟨s0, hv0, hd0, _, ws0⟩ := open_string Try.underlying9 (hval 0 9 v0 rfl rfl) h0
  obtain ⟨s1, hv1, hd1, _, ws1⟩ := open_string Try.underlying9 (hval 1 9 v1 rfl rfl) h1
  obtain ⟨ao, len, cap, hv2⟩ := okWide_slice Try.underlying22 (hval 2 22 v2 rfl rfl)
  unfold maxLen at ws0 ws1
  have hT : Turns v2 W := by
    subst hv2
    have h2k := h2
    obtain ⟨fuel, hf⟩ := h2
    rcases open_ints Try.underlying22 Try.underlying3 Try.cellsInt hf with ⟨hcs, hx⟩ | ⟨a, len', cap', zs, hcs, _, hl, hm, hz, hx, hcell, hwz⟩
    · simp [Value.cells] at hcs
      obtain ⟨rfl, rfl, rfl⟩ := hcs
      exact turns_nil
    · simp [Value.cells] at hcs
      obtain ⟨rfl, rfl, rfl⟩ := hcs
      simp only [Prod.mk.injEq] at hx
      obtain ⟨rfl, hp2⟩ := hx
      simp only [if_true] at hz
      have hreach : len * 8 ≤ 140737488351232 := by
        have := sized_slice hsz (j := 2) (t := 22) (e := 3) rfl rfl Try.underlying22
        rw [Try.bytesInt] at this
        simp only [lits, List.length_map, List.length_take, List.length_drop, reachBytes] at this
        omega
      by_cases hl0 : len = 0
      · subst hl0; exact turns_nil
      · obtain ⟨b, off, spot⟩ := a
        have hspot : spot = none := by simpa [Addr.add] using World.cell?_spot (hcell 0 (by omega))
        subst hspot
        have hbW : b < W.heap.size := hlt (.cell b off) (by simp only [List.mem_append]; exact .inr (by rw [hp2]; exact MemPlace.mem_row.2 ⟨0, by omega, by simp⟩))
        have hlen : (zs.take len).length = len := by rw [List.length_take]; omega
        have := turns_of (W := W) (b := b) (off := off) (cap := cap) (zs := zs.take len) (by omega) hbW (fun i z hz' => by
          have hi : i < len := by have := (List.getElem?_eq_some_iff.1 hz').1; omega
          have hc := hcell i (by omega)
          rw [List.getElem?_take_of_lt hi] at hz'
          rw [add_plain] at hc
          rw [hc, List.getD_eq_getElem?_getD, hz']; rfl) (fun z hz' => wf_range (hwz z (List.mem_of_mem_take hz')))
        rw [hlen] at this
        exact this
  subst hv0
  subst hv1
  refine (back_any s0 s1 v2 W ws0 ws1 hT).mono fun e W' ⟨he, hb⟩ => fin e W' he hb

theorem back_holds : Rows.BackSaid :=
  OpenClaim.holds_of_wide 3 Try.f3 rfl rfl rfl rfl rfl rfl rfl ⟨rfl, rfl, rfl, rfl, rfl⟩ rfl rfl rfl rfl rfl (by kernel_rfl) Try.func3 (by kernel_rfl)
    (of_decide_eq_true (by kernel_rfl)) (by unfold Func.isWrapper; first | (rw [if_pos (by decide +kernel)]; kernel_rfl) | (rw [if_neg (by decide +kernel)]; exact ⟨rfl, rfl⟩))
    (fun os started H enc _ => back_lifted os started H enc)

#print axioms back_holds
end Go.Proofs.Ytabpiaaknjcnkaa
