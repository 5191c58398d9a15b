/- Proved here: for every text, raw and other, cofferkeep.Apart returns true, and its arguments read behind the call as before. No condition. -/
import Derived.Test.YtabpiaaknjcnkabKA
namespace Go.Proofs.Ytabpiaaknjcnkab
open Go.ChangeShapes Go.WideShapes Go.ChangeAt Go.RowKit
open Go.ChangeMaps (open_string)
set_option linter.unusedVariables false
set_option linter.unusedSimpArgs false

theorem Try.ownAp : ownKnob Try.prog.godebug = none := by kernel_rfl
theorem Try.laidOutAp : laidOutB Try.prog = true := by kernel_rfl

set_option maxRecDepth 100000 in
theorem apart_lifted (os : Os) (started : os.Started) (H : Type) (enc : TypeId × Value → H) :
    ReturnsInHanded {} Try.checked os 4 .any (Rows.apartSpec.pre6 enc Try.prog Try.f4 Rows.apartRow.domain false) (Rows.apartSpec.post enc Try.prog Try.f4 false true false false) := by
  refine returnsInHanded_of_change_sized (C := Try.checked) Try.ownAp started (by kernel_rfl) Try.func4
    (ChangeSpec.witness6 (enc := enc) (C := Try.checked) false ⟨#[], #[.string ByteArray.empty, .slice none 0 0, .slice none 0 0], []⟩ 8 (by kernel_rfl) (by kernel_rfl) (by kernel_rfl) (by kernel_rfl)) ?_
  intro W base args ds gs before hval0 hW _ hsz0 _
  have hsz : (DataW.weightsEach Try.prog (Try.f4.params.toList ++ Rows.apartSpec.plain.varTypes Try.prog) (ds ++ gs)).all (· ≤ reachBytes) = true := hsz0
  clear hsz0
  have hval : ∀ (j : Nat) t v, Try.f4.params[j]? = some t → args[j]? = some v → Value.okWide Try.prog W .any base t v := hval0
  have hW' := hW
  obtain ⟨p, q, hA0, hV, rfl, _, _⟩ := hW
  have hA : DataW.TrodAll enc Try.prog W 0 (fun _ => true) true Try.f4.params.toList args.toList ds p := hA0
  rw [Try.params4] at hA hval hsz
  obtain ⟨v0, v1, v2, d0, d1, d2, p0, p1, p2, rfl, rfl, rfl, h0, h1, h2⟩ := trodAll_three hA
  obtain ⟨rfl, rfl⟩ := trodVars_none hV
  clear hA0 hval0
  simp only [List.append_nil] at hW'
  have hlt : ∀ x ∈ p0 ++ p1 ++ p2, x.block < W.heap.size := fun x hx => by simpa using hW'.lt x hx
  have fin : ∀ (e : Ending) (W' : World), e = .returned (.bool true) → Below W.heap.size W W' → ∃ v, e = Ending.returned v ∧ Rows.apartSpec.post enc Try.prog Try.f4 false true false false W #[v0, v1, v2] v W' := by
    intro e W' he hnx
    have a0 := Below.trod Try.laidOutAp (by kernel_rfl) (of_decide_eq_true (by kernel_rfl)) h0 hnx (fun x hx => hlt x (by simp [hx]))
    have a1 := Below.trod Try.laidOutAp (by kernel_rfl) (of_decide_eq_true (by kernel_rfl)) h1 hnx (fun x hx => hlt x (by simp [hx]))
    have a2 := Below.trod Try.laidOutAp (by kernel_rfl) (of_decide_eq_true (by kernel_rfl)) h2 hnx (fun x hx => hlt x (by simp [hx]))
    refine ⟨_, he, _, _, _, [], p0 ++ (p1 ++ p2), [], hW', ?_, ?_, rfl, hnx.frame _, fun h => by cases h⟩
    · exact trodAll_mk1 (shut_bool Try.underlying4 _)
    · exact trodAll_mk3 a0 a1 a2
  obtain ⟨s0, hv0, hd0, _, ws0⟩ := open_string Try.underlying9 (hval 0 9 v0 rfl rfl) h0
  obtain ⟨o1, l1, c1, hv1⟩ := okWide_slice Try.underlying37 (hval 1 37 v1 rfl rfl)
  obtain ⟨o2, l2, c2, hv2⟩ := okWide_slice Try.underlying37 (hval 2 37 v2 rfl rfl)
  unfold maxLen at ws0
  have t1 : RawIn W v1 := raw_open hv1 h1 (fun n hn => by simpa using List.all_eq_true.1 hsz n (DataW.weights_mem_each (j := 1) (t := 37) rfl rfl n hn)) (fun x hx => hlt x (by simp [hx]))
  have t2 : RawIn W v2 := raw_open hv2 h2 (fun n hn => by simpa using List.all_eq_true.1 hsz n (DataW.weights_mem_each (j := 2) (t := 37) rfl rfl n hn)) (fun x hx => hlt x (by simp [hx]))
  have z0 : s0.size ≤ 1000000000000000 := by
    have := List.all_eq_true.1 hsz s0.data.toList.length (DataW.weights_mem_each (j := 0) (t := 9) (d := d0) rfl rfl _ (by rw [hd0]; simp [DataW.weights]))
    have h2 : s0.data.toList.length ≤ reachBytes := of_decide_eq_true this
    unfold reachBytes at h2
    rw [Lib.size_eq]; omega
  subst hv0
  refine (apart_any s0 v1 v2 W z0 t1 t2 ⟨o1, l1, c1, hv1⟩ ⟨o2, l2, c2, hv2⟩).mono fun e W' ⟨he, hb⟩ => fin e W' he hb

theorem apart_holds : Rows.ApartSaid :=
  OpenClaim.holds_of_wide 4 Try.f4 rfl rfl rfl rfl rfl rfl rfl ⟨rfl, rfl, rfl, rfl, rfl⟩ rfl rfl rfl rfl rfl (by kernel_rfl) Try.func4 (by kernel_rfl)
    (of_decide_eq_true (by kernel_rfl)) (by unfold Func.isWrapper; first | (rw [if_pos (by decide +kernel)]; kernel_rfl) | (rw [if_neg (by decide +kernel)]; exact ⟨rfl, rfl⟩))
    (fun os started H enc _ => apart_lifted os started H enc)

#print axioms apart_holds
end Go.Proofs.Ytabpiaaknjcnkab
