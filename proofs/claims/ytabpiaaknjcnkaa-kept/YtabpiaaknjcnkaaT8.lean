/-
  The walk over told of cofferkeep, of whatever numbers.
-/
import Derived.Test.YtabpiaaknjcnkaaT7
import Derived.Test.YtabpiaaknjcnkaaOI
namespace Go.Proofs.Ytabpiaaknjcnkaa
open Go.RowKit
open Go.ChangeShapes Go.WideShapes Go.ChangeAt
set_option linter.unusedVariables false
set_option linter.unusedSimpArgs false
set_option maxRecDepth 100000

set_option maxHeartbeats 8000000 in
theorem told_nil (text : ByteArray) (ao : Option Addr) (cap : Nat) (w : World) :
    Calls Try.prog 21 #[.string text, .slice ao 0 cap] w (ToldPost w) := by
  go_enter Try.func21, Try.ntmps21
  go_wp2_with fail
  refine (cnew_any _).mono ?_
  rintro e w1 ⟨rfl, hv1, b1⟩
  have HV1 : Hid (VaultAt w1 w.heap.size (.slice none 0 0) (fun _ => .slice none 0 0) noVault) := hv1
  clear hv1
  go_wp2_with fail
  refine (works_any _).mono ?_
  rintro e w3 ⟨rfl, b3⟩
  have hT0 := tale_begin HV1.out b1 (by simpa using b3)
  have HT0 : Hid (TaleAt w w3 w1.heap.size w.heap.size (fun _ => .slice none 0 0) (.slice none 0 0) (.slice none 0 0) (.slice none 0 0) (.slice none 0 0) (fun _ => .slice none 0 0) noVault [] []) := hT0
  have k0 := hT0.st.cells.1
  clear hT0 b3 HV1 b1
  generalize w1.heap.size = q at *
  generalize hp : w.heap.size = p at *
  clear hp
  go_wp2_with fail
  refine (notes_any q p (firstsOf noVault) _ _ _ _ _ _ noVault [] [] [] _ HT0.out.st (by simp) (by simp) (by simp) (fun i _ => ⟨_, _, _, rfl⟩)).mono ?_
  rintro e w4 ⟨rfl, a1, b1, c1, hs4, ho4, hl4⟩
  have HT1 : Hid (TaleAt w w4 q p _ a1 b1 c1 _ _ noVault [noVault] [_]) := HT0.out.noted hs4 ho4 hl4
  clear hs4 ho4 hl4 HT0 k0
  go_wp2
  go_loopw [8] (fun i wr => i = .int .i64 0 ∧ w4 = wr) (fun _ _ => 0)
  case atStart => exact ⟨rfl, rfl⟩
  case round =>
    obtain ⟨rfl, rfl⟩ := hrel
    go_wp2
    go_ret2
    exact ⟨q, p, rfl, _, a1, b1, c1, _, _, _, _, _, HT1.out, tale_first⟩

/-- Numbers that came in. -/
def RawIn (W : World) (v : Value) : Prop := (∃ ao cap, v = .slice ao 0 cap) ∨ ∃ (B off cap : Nat) (zs : List Int), v = .slice (some ⟨B, off, none⟩) zs.length cap ∧ zs.length ≤ 1000000000000000 ∧ B < W.heap.size ∧ zs.length ≤ cap ∧ (∀ (i : Nat) (z : Int), zs[i]? = some z → W.cell? ⟨B, off + i, none⟩ = some (.int .i64 z)) ∧ ∀ z ∈ zs, -9223372036854775808 ≤ z ∧ z ≤ 9223372036854775807
theorem RawIn.below {W W' : World} {v : Value} (h : RawIn W v) (hb : Below W.heap.size W W') : RawIn W' v := by
  rcases h with h | ⟨B, off, cap, zs, h1, h2, h3, h4, h5, h6⟩
  · exact .inl h
  · exact .inr ⟨B, off, cap, zs, h1, h2, Nat.lt_of_lt_of_le h3 hb.size, h4, fun i z hz => (hb.cell (p := ⟨B, off + i, none⟩) h3).trans (h5 i z hz), h6⟩
theorem told_any (text : ByteArray) (v : Value) (w : World) (ht : text.size ≤ 9223372036854775807) (hv : RawIn w v) : Calls Try.prog 21 #[.string text, v] w (ToldPost w) := by
  rcases hv with ⟨ao, cap, rfl⟩ | ⟨B, off, cap, zs, rfl, h2, h3, h4, h5, h6⟩
  · exact told_nil text ao cap w
  · exact told_long text B off cap zs w ht h2 h3 h5 h6 h4

theorem raw_open {W : World} {H : Type} {enc : TypeId × Value → H} {d : DataW H} {v : Value} {p : List MemPlace} {ao : Option Addr} {len cap : Nat} (hv : v = .slice ao len cap) (h2 : DataW.Trod enc Try.prog W 0 (fun _ => true) true 22 v d p)
    (hsz : ∀ n ∈ d.weights Try.prog 22, n ≤ reachBytes) (hlt : ∀ x ∈ p, x.block < W.heap.size) : RawIn W v := by
  subst hv
  obtain ⟨fuel, hf⟩ := h2
  rcases open_ints Try.underlying22 Try.underlying3 Try.cellsIntI hf with ⟨hcs, hx⟩ | ⟨a, len', cap', zs, hcs, _, hl, hm, hz, hx, hcell, hwz⟩
  · simp [Value.cells] at hcs
    obtain ⟨rfl, rfl, rfl⟩ := hcs
    exact .inl ⟨_, _, rfl⟩
  · simp [Value.cells] at hcs
    obtain ⟨rfl, rfl, rfl⟩ := hcs
    simp only [Prod.mk.injEq] at hx
    obtain ⟨rfl, hp2⟩ := hx
    simp only [if_true] at hz
    have hreach : len * 8 ≤ 140737488351232 := by
      have := hsz _ (by simp only [DataW.weights, Try.underlying22]; exact List.mem_cons_self)
      rw [Try.bytesIntI] at this
      simp only [lits, List.length_map, List.length_take, List.length_drop, reachBytes] at this
      omega
    by_cases hl0 : len = 0
    · subst hl0; exact .inl ⟨_, _, rfl⟩
    · obtain ⟨b, off, spot⟩ := a
      have hspot : spot = none := by simpa [Addr.add] using World.cell?_spot (hcell 0 (by omega))
      subst hspot
      have hbW : b < W.heap.size := hlt (.cell b off) (by rw [hp2]; exact MemPlace.mem_row.2 ⟨0, by omega, by simp⟩)
      have hlen : (zs.take len).length = len := by rw [List.length_take]; omega
      refine .inr ⟨b, off, cap, zs.take len, by rw [hlen], by omega, hbW, by omega, fun i z hz' => ?_, fun z hz' => wf_rangeI (hwz z (List.mem_of_mem_take hz'))⟩
      have hi : i < len := by have := (List.getElem?_eq_some_iff.1 hz').1; omega
      have hc := hcell i (by omega)
      rw [List.getElem?_take_of_lt hi] at hz'
      rw [add_plain] at hc
      rw [hc, List.getD_eq_getElem?_getD, hz']; rfl
end Go.Proofs.Ytabpiaaknjcnkaa
