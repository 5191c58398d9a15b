/-
  The walk over holds of cofferkeep.
-/
import Derived.Test.YtabpiaaknjcnkaaT4
namespace Go.Proofs.Ytabpiaaknjcnkaa
open Go.RowKit
set_option linter.unusedVariables false
set_option linter.unusedSimpArgs false
set_option maxRecDepth 100000

theorem kversions_any (p c : Nat) (z : Nat) (lv v : Value) (tv : Nat → Value) (s : Vlt) (w : World) (hv : VaultAt w p lv tv s) (hok : s.Ok) (hc : c < 4) (hz : (s.ch c).texts ≠ [] → z = (s.ch c).gone + 1) (hvw : SView w v (s.ch c).texts) (hb : ∀ g, v.ownBlock = some g → g < w.heap.size) :
    Calls Try.prog 38 #[.pointer (some ⟨p, 0, none⟩), .int .i64 c, .int .i64 z, v] w fun e w' => e = .returned (.bool true) ∧ Below w.heap.size w w' := by
  by_cases h0 : (s.ch c).texts = []
  · rw [h0] at hvw
    exact kversions_none p c z lv v tv s w hv hok hc h0 hvw
  · rw [hz h0]
    exact kversions_some p c lv v tv s w hv hok hc h0 hvw hb

/-- A cell of the k-th of a row of fours. -/
theorem four_cell {α : Type} {f : α → List Value} (hf : ∀ x, (f x).length = 4) : ∀ (l : List α) (k n : Nat) (x : α), l[k]? = some x → n < 4 → (l.flatMap f)[k * 4 + n]? = (f x)[n]?
  | [], k, n, x, h, hn => by simp at h
  | y :: l, 0, n, x, h, hn => by
    simp only [List.getElem?_cons_zero, Option.some.injEq] at h
    subst h
    rw [List.flatMap_cons, Nat.zero_mul, Nat.zero_add, List.getElem?_append_left (by rw [hf]; exact hn)]
  | y :: l, k + 1, n, x, h, hn => by
    rw [List.flatMap_cons, List.getElem?_append_right (by rw [hf]; omega), hf, show (k + 1) * 4 + n - 4 = k * 4 + n by omega]
    exact four_cell hf l k n x (by simpa using h) hn
theorem row_cell {w : World} {b : Nat} {e : TypeId} {size n : Nat} {v : Value} {xs : List Value} (h : w.ownsRow b e size v n xs) (hn : 0 < n) : ∃ g cap, v = .slice (some ⟨g, 0, none⟩) n cap ∧ g < w.heap.size ∧ ∀ i u, xs[i]? = some u → w.cell? ⟨g, i, none⟩ = some u := by
  obtain ⟨g, cap, hv, _, hlt⟩ := h.form hn
  refine ⟨g, cap, hv, hlt, fun i u hu => ?_⟩
  have := h.cells (g := g) (by rw [hv]; rfl) i u hu
  rw [show (⟨g, 0, none⟩ : Addr).add i = ⟨g, i, none⟩ from by unfold Addr.add; split <;> simp_all] at this
  exact this

set_option maxHeartbeats 4000000 in
theorem holds_any (q p : Nat) (fi : Nat → Nat) (cur : Nat → Value) (a b c lv : Value) (tv : Nat → Value) (s : Vlt) (sl : List (List UInt8)) (sf : List (Nat → Nat)) (sr : List (Nat → Value)) (w : World) (h : StoryAt w q p fi cur a b c lv tv s sl sf sr)
    (p2 : Nat) (lv2 : Value) (tv2 : Nat → Value) (s2 : Vlt) (hv2 : VaultAt w p2 lv2 tv2 s2) (hok : s2.Ok) (k : Nat) (f : Nat → Nat) (r : Nat → Value) (hf : sf[k]? = some f) (hr : sr[k]? = some r) (hl : sf.length ≤ 1000) (hl2 : sr.length ≤ 1000)
    (hz : ∀ i, i < 4 → (s2.ch i).texts ≠ [] → f i = (s2.ch i).gone + 1) (hvw : ∀ i, i < 4 → SView w (r i) (s2.ch i).texts ∧ ∀ g, (r i).ownBlock = some g → g < w.heap.size) :
    Calls Try.prog 22 #[.pointer (some ⟨q, 0, none⟩), .pointer (some ⟨p2, 0, none⟩), .int .i64 k] w fun e w' => e = .returned (.bool true) ∧ Below w.heap.size w w' := by
  have hkf := (List.getElem?_eq_some_iff.1 hf).1
  have hkr := (List.getElem?_eq_some_iff.1 hr).1
  obtain ⟨gb, bc, hbv, hgb, hcb⟩ := row_cell h.firsts (by omega)
  obtain ⟨gc, cc, hcv, hgc, hcc⟩ := row_cell h.all (by omega)
  have HB : Hid (∀ n, n < 4 → w.cell? ⟨gb, k * 4 + n, none⟩ = some (.int .i64 (f n))) := fun n hn => hcb _ _ (by
    rw [four_cell (f := i4) (fun _ => rfl) sf k n f hf hn]
    match n, hn with
    | 0, _ => rfl
    | 1, _ => rfl
    | 2, _ => rfl
    | 3, _ => rfl)
  have HCC : Hid (∀ n, n < 4 → w.cell? ⟨gc, k * 4 + n, none⟩ = some (r n)) := fun n hn => hcc _ _ (by
    rw [four_cell (f := s4) (fun _ => rfl) sr k n r hr hn]
    match n, hn with
    | 0, _ => rfl
    | 1, _ => rfl
    | 2, _ => rfl
    | 3, _ => rfl)
  have k10 := h.cells.2.2.1
  have k11 := h.cells.2.2.2.1
  rw [hbv] at k10
  rw [hcv] at k11
  have hq := h.lt
  have HKV : Hid (∀ W, Below w.heap.size w W → ∀ n : Nat, n < 4 → Calls Try.prog 38 #[.pointer (some ⟨p2, 0, none⟩), .int .i64 n, .int .i64 (f n), r n] W fun e w' => e = .returned (.bool true) ∧ Below W.heap.size W w') := fun W hW n hn =>
    kversions_any p2 n (f n) lv2 (r n) tv2 s2 W (hv2.below hW) hok hn (hz n hn) ((hvw n hn).1.block (fun g hg => hW.block g ((hvw n hn).2 g hg))) (fun g hg => Nat.lt_of_lt_of_le ((hvw n hn).2 g hg) hW.size)
  have n1 : (k : Int) < (sf.length : Int) := by omega
  have n2 : (k : Int) < (sr.length : Int) := by omega
  clear h hcb hcc hf hr hz hvw hv2 hok
  go_enter Try.func22, Try.ntmps22
  go_wp2
  go_loopw [7] (fun i wr => ∃ j : Nat, i = .int .i64 j ∧ j ≤ 4 ∧ Below w.heap.size w wr) (fun i _ => 5 - (intOf i).toNat)
  case atStart => exact ⟨0, rfl, by omega, Below.refl _ _⟩
  case round =>
    obtain ⟨j, rfl, hj, hb⟩ := hrel
    by_cases hlt : j < 4
    · have c10 := (hb.cell (p := ⟨q, 10, none⟩) hq).trans k10
      have c11 := (hb.cell (p := ⟨q, 11, none⟩) hq).trans k11
      have cb := (hb.cell (p := ⟨gb, k * 4 + j, none⟩) hgb).trans (HB.out j hlt)
      have cd := (hb.cell (p := ⟨gc, k * 4 + j, none⟩) hgc).trans (HCC.out j hlt)
      have HV := fun W hW => HKV.out W hW j hlt
      have HVH : Hid (∀ W, Below w.heap.size w W → Calls Try.prog 38 #[.pointer (some ⟨p2, 0, none⟩), .int .i64 j, .int .i64 (f j), r j] W fun e w' => e = .returned (.bool true) ∧ Below W.heap.size W w') := HV
      have hjj : (j : Int) < 4 := by omega
      clear HV HKV HB HCC
      generalize f j = fj at *
      generalize r j = rj at *
      have hqr : q < wr.heap.size := Nat.lt_of_lt_of_le hq hb.size
      have hgbr : gb < wr.heap.size := Nat.lt_of_lt_of_le hgb hb.size
      have hgcr : gc < wr.heap.size := Nat.lt_of_lt_of_le hgc hb.size
      go_wp2_with fail
      go_region_with (first | (go_at_call 38; refine (HVH.out _ (below_drewN1 hb 1)).mono ?_; rintro e w3 ⟨rfl, b3⟩))
      all_goals
        have R := (below_drewN1 hb 1).trans (b3.mono hb.size)
        clear b3
        go_wp2
        go_roundw
        case rel => exact ⟨j + 1, by go_num, by omega, R⟩
        case measure => simp [intOf]; omega
    · obtain rfl : j = 4 := by omega
      go_wp2
      go_ret
      exact ⟨rfl, hb⟩
end Go.Proofs.Ytabpiaaknjcnkaa
