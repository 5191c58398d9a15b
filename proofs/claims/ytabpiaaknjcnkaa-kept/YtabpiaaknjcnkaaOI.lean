/-
  Lists of numbers that come in, opened.
-/
import Derived.Test.YtabpiaaknjcnkaaWK
import Derived.ProofKit
import Derived.OpenShut
import Derived.SizedLaws
namespace Go.Proofs.Ytabpiaaknjcnkaa
open Go.ChangeShapes Go.WideShapes Go.ChangeAt Go.RowKit
open Go.ChangeMaps (open_string)
set_option linter.unusedVariables false
set_option linter.unusedSimpArgs false

theorem Try.cellsIntI : Try.prog.cellsOf 3 = 1 := by kernel_rfl
theorem Try.bytesIntI : Try.prog.bytesOf 3 = 8 := by kernel_rfl

theorem cell_keptI {W w : World} (h : Below W.heap.size W w) {a : Addr} {v : Value} (ha : a.block < W.heap.size) (hc : W.cell? a = some v) : w.cell? a = some v := (h.cell ha).trans hc

/-- A list of numbers that came in: what turned does with it. -/
theorem turns_ofI {W : World} {b off cap : Nat} {zs : List Int} (hz : zs.length ≤ 1000000000000000) (hbw : b < W.heap.size)
    (hr : ∀ i z, zs[i]? = some z → W.cell? ⟨b, off + i, none⟩ = some (.int .i64 z)) (hw : ∀ z ∈ zs, -9223372036854775808 ≤ z ∧ z ≤ 9223372036854775807) : Turns (.slice (some ⟨b, off, none⟩) zs.length cap) W := by
  intro s most w' hs hm hb
  exact turned_any s b off cap zs most w' hs hm hz (by have := hb.size; omega) (fun i z h => cell_keptI hb (a := ⟨b, off + i, none⟩) hbw (hr i z h)) hw
theorem turns_nilI {W : World} {ao : Option Addr} {cap : Nat} : Turns (.slice ao 0 cap) W := fun s most w' hs hm hb => turned_nil s ao cap most w' hm

theorem wf_rangeI {z : Int} (h : (Lit.int .i64 z).wf = true) : -9223372036854775808 ≤ z ∧ z ≤ 9223372036854775807 := by
  have h1 : IntKind.i64.min = -9223372036854775808 := rfl
  have h2 : IntKind.i64.max = 9223372036854775807 := rfl
  simp only [Lit.wf, Bool.and_eq_true, decide_eq_true_eq] at h
  omega


theorem turns_open {W : World} {H : Type} {enc : TypeId × Value → H} {d : DataW H} {v : Value} {p : List MemPlace} {ao : Option Addr} {len cap : Nat} (hv : v = .slice ao len cap) (h2 : DataW.Trod enc Try.prog W 0 (fun _ => true) true 22 v d p)
    (hsz : ∀ n ∈ d.weights Try.prog 22, n ≤ reachBytes) (hlt : ∀ x ∈ p, x.block < W.heap.size) : Turns v W := by
  subst hv
  obtain ⟨fuel, hf⟩ := h2
  rcases open_ints Try.underlying22 Try.underlying3 Try.cellsIntI hf with ⟨hcs, hx⟩ | ⟨a, len', cap', zs, hcs, _, hl, hm, hz, hx, hcell, hwz⟩
  · simp [Value.cells] at hcs
    obtain ⟨rfl, rfl, rfl⟩ := hcs
    exact turns_nilI
  · simp [Value.cells] at hcs
    obtain ⟨rfl, rfl, rfl⟩ := hcs
    simp only [Prod.mk.injEq] at hx
    obtain ⟨rfl, hp2⟩ := hx
    simp only [if_true] at hz
    have hreach : len * 8 ≤ 140737488351232 := by
      have := hsz _ (by simp only [DataW.weights, Try.underlying22]; exact List.mem_cons_self)
      rw [Try.bytesIntI] at this
      simp only [lits, List.length_map, List.length_take, List.length_drop, reachBytes] at this
      omega
    by_cases hl0 : len = 0
    · subst hl0; exact turns_nilI
    · obtain ⟨b, off, spot⟩ := a
      have hspot : spot = none := by simpa [Addr.add] using World.cell?_spot (hcell 0 (by omega))
      subst hspot
      have hbW : b < W.heap.size := hlt (.cell b off) (by rw [hp2]; exact MemPlace.mem_row.2 ⟨0, by omega, by simp⟩)
      have hlen : (zs.take len).length = len := by rw [List.length_take]; omega
      have := turns_ofI (W := W) (b := b) (off := off) (cap := cap) (zs := zs.take len) (by omega) hbW (fun i z hz' => by
        have hi : i < len := by have := (List.getElem?_eq_some_iff.1 hz').1; omega
        have hc := hcell i (by omega)
        rw [List.getElem?_take_of_lt hi] at hz'
        rw [add_plain] at hc
        rw [hc, List.getD_eq_getElem?_getD, hz']; rfl) (fun z hz' => wf_rangeI (hwz z (List.mem_of_mem_take hz')))
      rw [hlen] at this
      exact this
end Go.Proofs.Ytabpiaaknjcnkaa
