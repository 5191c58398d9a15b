/- The texts WK, OI, T8, K3, one behind the other. -/
import Derived.Test.YtabpiaaknjcnkabGreatXWCL1L2
import Derived.Test.YtabpiaaknjcnkabGreatXW1W3W4
import Derived.Test.YtabpiaaknjcnkabGreatXW9K2
import Derived.ProofKit
import Derived.OpenShut
import Derived.SizedLaws
import Derived.Test.YtabpiaaknjcnkabGreatT7
/-
  The walk over Back.
-/
namespace Go.Proofs.YtabpiaaknjcnkabGreat
open Go.RowKit
set_option linter.unusedVariables false
set_option linter.unusedSimpArgs false
set_option maxRecDepth 100000

/-- What turned does with a list of numbers, in whatever later world. -/
def Turns (rv : Value) (w : World) : Prop :=
  ∀ (s : ByteArray) (most : Nat) (w' : World), s.size ≤ 700 → most ≤ 700 → Below w.heap.size w w' →
    Calls Tryz.prog 23 #[.string s, rv, .int .i64 most] w' fun e w'' => (∃ t : ByteArray, e = .returned (.string t) ∧ t.size ≤ most) ∧ Below w'.heap.size w' w''

theorem self_reads {S : ByteArray} {w : World} {b : Nat} {v : Value} (h : OwnOps w b v (diffF S S)) (h8 : 8 ≤ S.size) (h7 : S.size ≤ 700) :
    ∃ g cap, v = .slice (some ⟨g, 0, none⟩) 1 cap ∧ w.cell? ⟨g, 0, none⟩ = some (.int .i64 0) ∧ w.cell? ⟨g, 1, none⟩ = some (.int .i64 S.size) := by
  rw [diffF_desc _ _ h7, descF_self _ h8] at h
  rcases reads_of_own h with ⟨hv, hD⟩ | ⟨g, cap, hv, hg, _, hr⟩
  · simp at hD
  · obtain ⟨r0, r1, r2⟩ := hr 0 _ rfl
    exact ⟨g, cap, hv, by simpa using r0, by simpa using r1⟩

end Go.Proofs.YtabpiaaknjcnkabGreat

/-
  Lists of numbers that come in, opened.
-/
namespace Go.Proofs.YtabpiaaknjcnkabGreat
open Go.ChangeShapes Go.WideShapes Go.ChangeAt Go.RowKit
open Go.ChangeMaps (open_string)
set_option linter.unusedVariables false
set_option linter.unusedSimpArgs false

theorem Tryz.cellsIntI : Tryz.prog.cellsOf 3 = 1 := by kernel_rfl
theorem Tryz.bytesIntI : Tryz.prog.bytesOf 3 = 8 := by kernel_rfl

theorem cell_keptI {W w : World} (h : Below W.heap.size W w) {a : Addr} {v : Value} (ha : a.block < W.heap.size) (hc : W.cell? a = some v) : w.cell? a = some v := (h.cell ha).trans hc

/-- A list of numbers that came in: what turned does with it. -/
theorem turns_ofI {W : World} {b off cap : Nat} {zs : List Int} (hz : zs.length ≤ 1000000000000000) (hbw : b < W.heap.size)
    (hr : ∀ i z, zs[i]? = some z → W.cell? ⟨b, off + i, none⟩ = some (.int .i64 z)) (hw : ∀ z ∈ zs, -9223372036854775808 ≤ z ∧ z ≤ 9223372036854775807) : Turns (.slice (some ⟨b, off, none⟩) zs.length cap) W := by
  intro s most w' hs hm hb
  exact turned_any s b off cap zs most w' hs hm hz (by have := hb.size; omega) (fun i z h => cell_keptI hb (a := ⟨b, off + i, none⟩) hbw (hr i z h)) hw
theorem turns_nilI {W : World} {ao : Option Addr} {cap : Nat} : Turns (.slice ao 0 cap) W := fun s most w' hs hm hb => turned_nil s ao cap most w' hm

theorem wf_rangeI {z : Int} (h : (Lit.int .i64 z).wf = true) : -9223372036854775808 ≤ z ∧ z ≤ 9223372036854775807 := by
  have h1 : IntKind.i64.min = -9223372036854775808 := rfl
  have h2 : IntKind.i64.max = 9223372036854775807 := rfl
  simp only [Lit.wf, Bool.and_eq_true, decide_eq_true_eq] at h
  omega


theorem turns_open {W : World} {H : Type} {enc : TypeId × Value → H} {d : DataW H} {v : Value} {p : List MemPlace} {ao : Option Addr} {len cap : Nat} (hv : v = .slice ao len cap) (h2 : DataW.Trod enc Tryz.prog W 0 (fun _ => true) true 22 v d p)
    (hsz : ∀ n ∈ d.weights Tryz.prog 22, n ≤ reachBytes) (hlt : ∀ x ∈ p, x.block < W.heap.size) : Turns v W := by
  subst hv
  obtain ⟨fuel, hf⟩ := h2
  rcases open_ints Tryz.underlying22 Tryz.underlying3 Tryz.cellsIntI hf with ⟨hcs, hx⟩ | ⟨a, len', cap', zs, hcs, _, hl, hm, hz, hx, hcell, hwz⟩
  · simp [Value.cells] at hcs
    obtain ⟨rfl, rfl, rfl⟩ := hcs
    exact turns_nilI
  · simp [Value.cells] at hcs
    obtain ⟨rfl, rfl, rfl⟩ := hcs
    simp only [Prod.mk.injEq] at hx
    obtain ⟨rfl, hp2⟩ := hx
    simp only [if_true] at hz
    have hreach : len * 8 ≤ 140737488351232 := by
      have := hsz _ (by simp only [DataW.weights, Tryz.underlying22]; exact List.mem_cons_self)
      rw [Tryz.bytesIntI] at this
      simp only [lits, List.length_map, List.length_take, List.length_drop, reachBytes] at this
      omega
    by_cases hl0 : len = 0
    · subst hl0; exact turns_nilI
    · obtain ⟨b, off, spot⟩ := a
      have hspot : spot = none := by simpa [Addr.add] using World.cell?_spot (hcell 0 (by omega))
      subst hspot
      have hbW : b < W.heap.size := hlt (.cell b off) (by rw [hp2]; exact MemPlace.mem_row.2 ⟨0, by omega, by simp⟩)
      have hlen : (zs.take len).length = len := by rw [List.length_take]; omega
      have := turns_ofI (W := W) (b := b) (off := off) (cap := cap) (zs := zs.take len) (by omega) hbW (fun i z hz' => by
        have hi : i < len := by have := (List.getElem?_eq_some_iff.1 hz').1; omega
        have hc := hcell i (by omega)
        rw [List.getElem?_take_of_lt hi] at hz'
        rw [add_plain] at hc
        rw [hc, List.getD_eq_getElem?_getD, hz']; rfl) (fun z hz' => wf_rangeI (hwz z (List.mem_of_mem_take hz')))
      rw [hlen] at this
      exact this
end Go.Proofs.YtabpiaaknjcnkabGreat

/-
  The walk over told of cofferkeep, of whatever numbers.
-/
namespace Go.Proofs.YtabpiaaknjcnkabGreat
open Go.RowKit
open Go.ChangeShapes Go.WideShapes Go.ChangeAt
set_option linter.unusedVariables false
set_option linter.unusedSimpArgs false
set_option maxRecDepth 100000

set_option maxHeartbeats 8000000 in
theorem told_nil (text : ByteArray) (ao : Option Addr) (cap : Nat) (w : World) :
    Calls Tryz.prog 5 #[.string text, .slice ao 0 cap] w (ToldPost w) := by
  go_enter Tryz.func5, Tryz.ntmps5
  go_wp2_with fail
  refine (cnew_any _).mono ?_
  rintro e w1 ⟨rfl, hv1, b1⟩
  have HV1 : Hid (VaultAt w1 w.heap.size (.slice none 0 0) (fun _ => .slice none 0 0) noVault) := hv1
  clear hv1
  go_wp2_with fail
  refine (works_any _).mono ?_
  rintro e w3 ⟨rfl, b3⟩
  have hT0 := tale_begin HV1.out b1 (by simpa using b3)
  have HT0 : Hid (TaleAt w w3 w1.heap.size w.heap.size (fun _ => .slice none 0 0) (.slice none 0 0) (.slice none 0 0) (.slice none 0 0) (.slice none 0 0) (fun _ => .slice none 0 0) noVault [] []) := hT0
  have k0 := hT0.st.cells.1
  clear hT0 b3 HV1 b1
  generalize w1.heap.size = q at *
  generalize hp : w.heap.size = p at *
  clear hp
  go_wp2_with fail
  refine (notes_any q p (firstsOf noVault) _ _ _ _ _ _ noVault [] [] [] _ HT0.out.st (by simp) (by simp) (by simp) (fun i _ => ⟨_, _, _, rfl⟩)).mono ?_
  rintro e w4 ⟨rfl, a1, b1, c1, hs4, ho4, hl4⟩
  have HT1 : Hid (TaleAt w w4 q p _ a1 b1 c1 _ _ noVault [noVault] [_]) := HT0.out.noted hs4 ho4 hl4
  clear hs4 ho4 hl4 HT0 k0
  go_wp2
  go_loopw [8] (fun i wr => i = .int .i64 0 ∧ w4 = wr) (fun _ _ => 0)
  case atStart => exact ⟨rfl, rfl⟩
  case round =>
    obtain ⟨rfl, rfl⟩ := hrel
    go_wp2
    go_ret2
    exact ⟨q, p, rfl, _, a1, b1, c1, _, _, _, _, _, HT1.out, tale_first⟩

/-- Numbers that came in. -/
def RawIn (W : World) (v : Value) : Prop := (∃ ao cap, v = .slice ao 0 cap) ∨ ∃ (B off cap : Nat) (zs : List Int), v = .slice (some ⟨B, off, none⟩) zs.length cap ∧ zs.length ≤ 1000000000000000 ∧ B < W.heap.size ∧ zs.length ≤ cap ∧ (∀ (i : Nat) (z : Int), zs[i]? = some z → W.cell? ⟨B, off + i, none⟩ = some (.int .i64 z)) ∧ ∀ z ∈ zs, -9223372036854775808 ≤ z ∧ z ≤ 9223372036854775807
theorem RawIn.below {W W' : World} {v : Value} (h : RawIn W v) (hb : Below W.heap.size W W') : RawIn W' v := by
  rcases h with h | ⟨B, off, cap, zs, h1, h2, h3, h4, h5, h6⟩
  · exact .inl h
  · exact .inr ⟨B, off, cap, zs, h1, h2, Nat.lt_of_lt_of_le h3 hb.size, h4, fun i z hz => (hb.cell (p := ⟨B, off + i, none⟩) h3).trans (h5 i z hz), h6⟩
theorem told_any (text : ByteArray) (v : Value) (w : World) (ht : text.size ≤ 9223372036854775807) (hv : RawIn w v) : Calls Tryz.prog 5 #[.string text, v] w (ToldPost w) := by
  rcases hv with ⟨ao, cap, rfl⟩ | ⟨B, off, cap, zs, rfl, h2, h3, h4, h5, h6⟩
  · exact told_nil text ao cap w
  · exact told_long text B off cap zs w ht h2 h3 h5 h6 h4

theorem raw_open {W : World} {H : Type} {enc : TypeId × Value → H} {d : DataW H} {v : Value} {p : List MemPlace} {ao : Option Addr} {len cap : Nat} (hv : v = .slice ao len cap) (h2 : DataW.Trod enc Tryz.prog W 0 (fun _ => true) true 22 v d p)
    (hsz : ∀ n ∈ d.weights Tryz.prog 22, n ≤ reachBytes) (hlt : ∀ x ∈ p, x.block < W.heap.size) : RawIn W v := by
  subst hv
  obtain ⟨fuel, hf⟩ := h2
  rcases open_ints Tryz.underlying22 Tryz.underlying3 Tryz.cellsIntI hf with ⟨hcs, hx⟩ | ⟨a, len', cap', zs, hcs, _, hl, hm, hz, hx, hcell, hwz⟩
  · simp [Value.cells] at hcs
    obtain ⟨rfl, rfl, rfl⟩ := hcs
    exact .inl ⟨_, _, rfl⟩
  · simp [Value.cells] at hcs
    obtain ⟨rfl, rfl, rfl⟩ := hcs
    simp only [Prod.mk.injEq] at hx
    obtain ⟨rfl, hp2⟩ := hx
    simp only [if_true] at hz
    have hreach : len * 8 ≤ 140737488351232 := by
      have := hsz _ (by simp only [DataW.weights, Tryz.underlying22]; exact List.mem_cons_self)
      rw [Tryz.bytesIntI] at this
      simp only [lits, List.length_map, List.length_take, List.length_drop, reachBytes] at this
      omega
    by_cases hl0 : len = 0
    · subst hl0; exact .inl ⟨_, _, rfl⟩
    · obtain ⟨b, off, spot⟩ := a
      have hspot : spot = none := by simpa [Addr.add] using World.cell?_spot (hcell 0 (by omega))
      subst hspot
      have hbW : b < W.heap.size := hlt (.cell b off) (by rw [hp2]; exact MemPlace.mem_row.2 ⟨0, by omega, by simp⟩)
      have hlen : (zs.take len).length = len := by rw [List.length_take]; omega
      refine .inr ⟨b, off, cap, zs.take len, by rw [hlen], by omega, hbW, by omega, fun i z hz' => ?_, fun z hz' => wf_rangeI (hwz z (List.mem_of_mem_take hz'))⟩
      have hi : i < len := by have := (List.getElem?_eq_some_iff.1 hz').1; omega
      have hc := hcell i (by omega)
      rw [List.getElem?_take_of_lt hi] at hz'
      rw [add_plain] at hc
      rw [hc, List.getD_eq_getElem?_getD, hz']; rfl
end Go.Proofs.YtabpiaaknjcnkabGreat

/-
  The walk over Kept.
-/
namespace Go.Proofs.YtabpiaaknjcnkabGreat
open Go.RowKit
set_option linter.unusedVariables false
set_option linter.unusedSimpArgs false
set_option maxRecDepth 100000

/-- The log of a vault of a tale, as a text. -/
def logB (v : Vlt) : ByteArray := ⟨v.log.toArray⟩
theorem logB_data (v : Vlt) : (logB v).data.toList = v.log := by simp [logB]
theorem logB_size (v : Vlt) : (logB v).size = v.log.length := by rw [Lib.size_eq, logB_data]
theorem next_logs {a b : Vlt} (h : Next a b) : (logB a).size < (logB b).size ∧ (logB b).extract 0 (logB a).size = logB a := by
  obtain ⟨l, e, h1⟩ := h
  have hp := h1.pos
  refine ⟨by rw [logB_size, logB_size, e, List.length_append]; omega, bytes_ext ?_⟩
  rw [mid_data, logB_data, logB_data, logB_size, e, List.drop_zero, Nat.sub_zero, List.take_left]

/-- What holds is asked, of a tale. -/
theorem tale_holds {w0 w : World} {q p : Nat} {cur : Nat → Value} {a b c lv : Value} {tv : Nat → Value} {s : Vlt} {vs : List Vlt} {rs : List (Nat → Value)} (h : TaleAt w0 w q p cur a b c lv tv s vs rs) (hk : TaleOk s vs) {p2 : Nat} {lv2 : Value} {tv2 : Nat → Value} {s2 : Vlt} (hv2 : VaultAt w p2 lv2 tv2 s2) (hok : s2.Ok)
    {k : Nat} {v : Vlt} (hv : vs[k]? = some v) (hch : ∀ i, i < 4 → s2.ch i = v.ch i) :
    Calls Tryz.prog 8 #[.pointer (some ⟨q, 0, none⟩), .pointer (some ⟨p2, 0, none⟩), .int .i64 k] w fun e w' => e = .returned (.bool true) ∧ Below w.heap.size w w' := by
  have hlt := (List.getElem?_eq_some_iff.1 hv).1
  have hm := hk.many
  have hl := h.len
  obtain ⟨r, hr⟩ : ∃ r, rs[k]? = some r := ⟨rs[k]'(by omega), List.getElem?_eq_getElem (by omega)⟩
  refine holds_any q p (firstsOf s) cur a b c lv tv s _ _ rs w h.st p2 lv2 tv2 s2 hv2 hok k (firstsOf v) r (by rw [List.getElem?_map, hv]; rfl) hr (by rw [List.length_map]; omega) (by omega) (fun i hi h0 => ?_) (fun i hi => ?_)
  · rw [hch i hi] at h0 ⊢
    unfold firstsOf firstN; rw [if_neg h0]
  · rw [hch i hi]
    have := h.ahead k v r hv hr i hi
    exact ⟨this.1, fun g hg => (this.2 g hg).1⟩

end Go.Proofs.YtabpiaaknjcnkabGreat
