/- Proved here: for every script, cofferlaw.All returns true, and the script reads behind the call as before. No condition. -/
import Derived.Test.YtabpiaaknjcnkaaGreatOD
import Derived.Test.YtabpiaaknjcnkaaGreatXZQaZQcZRZZ
namespace Go.Proofs.YtabpiaaknjcnkaaGreat
open Go.ChangeShapes Go.WideShapes Go.ChangeAt Go.RowKit
set_option linter.unusedVariables false
set_option linter.unusedSimpArgs false
set_option maxRecDepth 100000

theorem Tryz.ownA : ownKnob Tryz.prog.godebug = none := by kernel_rfl
theorem Tryz.laidOutA : laidOutB Tryz.prog = true := by kernel_rfl

theorem sop_ints {B0 : Nat} {w : World} {o : SOp} (h : SOpOk B0 w o) : Ints o.ys :=
  ⟨by have := h.raw.hy; omega, fun p hp => (h.wide p (List.mem_append_right _ hp)).2.1.2, fun p hp => by have := (h.wide p (List.mem_append_right _ hp)).2.2; omega⟩

set_option maxHeartbeats 1000000 in
theorem all_any (w : World) (ao : Option Addr) (cap : Nat) (L : List SOp) (hL : L.length ≤ 1256600000000) (hsc : Script w ao L) (hys : ∀ o ∈ L, Ints o.ys) (hra : ∀ o ∈ L, Raw64 o.a ∧ Raw64 o.b ∧ Raw64 o.c) :
    Calls Tryz.prog 6 #[.slice ao L.length cap] w fun e w' => e = .returned (.bool true) ∧ Below w.heap.size w w' := by
  have HC := plays_all w ao cap L hL hsc hys hra
  have HH : Hid (Calls Tryz.prog 9 #[.slice ao L.length cap, .int .i64 15] w fun e w' => e = .returned (.bool true) ∧ Below w.heap.size w w') := HC
  clear HC hsc hys hra
  go_enter Tryz.func6, Tryz.ntmps6
  go_wp2_with fail
  refine HH.out.mono ?_
  rintro e w1 ⟨rfl, hb⟩
  go_wp2
  go_ret
  exact ⟨rfl, hb⟩

theorem all_lifted (os : Os) (started : os.Started) (H : Type) (enc : TypeId × Value → H) :
    ReturnsInHanded {} Tryz.checked os 6 .any (Rows.allSpec.pre6 enc Tryz.prog Tryz.f6 Rows.allRow.domain false) (Rows.allSpec.post enc Tryz.prog Tryz.f6 false true false false) := by
  refine returnsInHanded_of_change_sized (C := Tryz.checked) Tryz.ownA started (by kernel_rfl) Tryz.func6
    (ChangeSpec.witness6 (enc := enc) (C := Tryz.checked) false ⟨#[], #[.slice none 0 0], []⟩ 8 (by kernel_rfl) (by kernel_rfl) (by kernel_rfl) (by kernel_rfl)) ?_
  intro W base args ds gs before hval0 hW _ hsz0 _
  have hsz : (DataW.weightsEach Tryz.prog (Tryz.f6.params.toList ++ Rows.allSpec.plain.varTypes Tryz.prog) (ds ++ gs)).all (· ≤ reachBytes) = true := hsz0
  clear hsz0
  have hval : ∀ (j : Nat) t v, Tryz.f6.params[j]? = some t → args[j]? = some v → Value.okWide Tryz.prog W .any base t v := hval0
  have hW' := hW
  obtain ⟨p, q, hA0, hV, rfl, _, _⟩ := hW
  have hA : DataW.TrodAll enc Tryz.prog W 0 (fun _ => true) true Tryz.f6.params.toList args.toList ds p := hA0
  rw [Tryz.params6] at hA hval hsz
  obtain ⟨v0, d0, rfl, rfl, h0⟩ := trodAll_one hA
  obtain ⟨rfl, rfl⟩ := trodVars_none hV
  clear hA0 hval0
  simp only [List.append_nil] at hW'
  have hlt : ∀ x ∈ p, x.block < W.heap.size := fun x hx => by simpa using hW'.lt x (by simpa using hx)
  have fin : ∀ (e : Ending) (W' : World), e = .returned (.bool true) → Below W.heap.size W W' → ∃ v, e = Ending.returned v ∧ Rows.allSpec.post enc Tryz.prog Tryz.f6 false true false false W #[v0] v W' := by
    intro e W' he hnx
    have a0 := Below.trod Tryz.laidOutA (by kernel_rfl) (of_decide_eq_true (by kernel_rfl)) h0 hnx (fun x hx => hlt x hx)
    refine ⟨_, he, _, _, _, [], p, [], hW', ?_, ?_, rfl, hnx.frame _, fun h => by cases h⟩
    · exact trodAll_mk1 (shut_bool Tryz.underlying4 _)
    · exact trodAll_mk1 a0
  obtain ⟨ao, len, cap, hv0⟩ := okWide_slice Tryz.underlying22 (hval 0 22 v0 rfl rfl)
  obtain ⟨L, rfl, hL, hs, hok⟩ := script_open hv0 h0 (fun n hn => by
    have := List.all_eq_true.1 hsz n (DataW.weights_mem_each (j := 0) (t := 22) rfl rfl n hn)
    simpa using this)
  subst hv0
  exact (all_any W ao cap L hL hs (fun o ho => sop_ints (hok o ho)) (fun o ho => ⟨(hok o ho).ra, (hok o ho).rb, (hok o ho).rc⟩)).mono fun e W' ⟨he, hb⟩ => fin e W' he hb

theorem all_holds : Rows.AllSaid :=
  OpenClaim.holds_of_wide 6 Tryz.f6 rfl rfl rfl rfl rfl rfl rfl ⟨rfl, rfl, rfl, rfl, rfl⟩ rfl rfl rfl rfl rfl (by kernel_rfl) Tryz.func6 (by kernel_rfl)
    (of_decide_eq_true (by kernel_rfl)) (by unfold Func.isWrapper; first | (rw [if_pos (by decide +kernel)]; kernel_rfl) | (rw [if_neg (by decide +kernel)]; exact ⟨rfl, rfl⟩))
    (fun os started H enc _ => all_lifted os started H enc)

#print axioms all_holds
end Go.Proofs.YtabpiaaknjcnkaaGreat
