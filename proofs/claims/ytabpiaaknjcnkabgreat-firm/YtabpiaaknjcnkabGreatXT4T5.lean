/- The texts T4, T5, one behind the other. -/
import Derived.Test.YtabpiaaknjcnkabGreatT3
/-
  The walk over works of cofferkeep.
-/
namespace Go.Proofs.YtabpiaaknjcnkabGreat
open Go.RowKit
set_option linter.unusedVariables false
set_option linter.unusedSimpArgs false
set_option maxRecDepth 100000

theorem works_put (T : ByteArray) (hT : T.size = 9) : putE noVault 2 T = 0 ∧ putN noVault 2 T = 1 ∧ putS noVault 2 T = noVault.put 2 T := by
  have hl := (recL_len (b := bodyF 2 T.data.toList) (by have := (bodyF_len 2 T (by omega) (by omega)).2; omega)).1
  have hb := (bodyF_len 2 T (by omega) (by omega)).2
  have hE : putE noVault 2 T = 0 := by
    unfold putE
    rw [if_neg (by omega), if_neg (by omega), if_neg]
    rintro (h | h)
    · simp only [noVault, List.length_nil, Nat.zero_add] at h
      have : (2 : Int).toNat = 2 := rfl
      rw [this] at h
      omega
    · simp [noVault, Chn.last] at h
  refine ⟨hE, ?_, ?_⟩
  · unfold putN; rw [if_pos hE]; rfl
  · unfold putS; rw [if_pos hE]; rfl
theorem works_log (T : ByteArray) : (noVault.put 2 T).log = recL (bodyF 2 T.data.toList) := by
  simp [Vlt.put, noVault, addedL]
/-- The log of a vault with that text. -/
def wL (T : ByteArray) : ByteArray := ⟨(recL (bodyF 2 T.data.toList)).toArray⟩
theorem works_ch (T : ByteArray) : (noVault.put 2 T).ch 2 = ⟨0, [T]⟩ := by simp [Vlt.put, noVault]
theorem works_ok (T : ByteArray) (hT : T.size = 9) : (noVault.put 2 T).Ok := by
  have := putS_ok noVault_ok 2 T
  rw [(works_put T hT).2.2] at this; exact this

set_option maxHeartbeats 8000000 in
theorem works_any (w : World) : Calls Tryz.prog 20 #[] w fun e w' => e = .returned (.bool true) ∧ Below w.heap.size w w' := by
  have HB : Hid (∀ (T : ByteArray) (W : World), T.size = 9 → VaultAt W w.heap.size (.slice none 0 0) (fun _ => .slice none 0 0) noVault → Calls Tryz.prog 15 #[.pointer (some ⟨w.heap.size, 0, none⟩), .int .i64 2, .string T] W fun e w' => e = .returned (.tuple #[.int .i64 1, .int .i64 0]) ∧ Hid (Moves w.heap.size (.slice none 0 0) (fun _ => .slice none 0 0) (noVault.put 2 T) W w')) := fun T W hT hV => by
    have := cbackup_any w.heap.size 2 _ _ noVault T W hV noVault_ok (by omega)
    obtain ⟨h1, h2, h3⟩ := works_put T hT
    rw [h1, h2, h3] at this; exact this
  have HG : Hid (∀ (T : ByteArray) (p : Nat) (lv : Value) (tv : Nat → Value) (W : World), VaultAt W p lv tv (noVault.put 2 T) → Calls Tryz.prog 7 #[.pointer (some ⟨p, 0, none⟩)] W fun e w' => e = .returned (.string (wL T)) ∧ W = w') := fun T p lv tv W hV => by
    have := clog_any p lv tv _ W hV
    rw [works_log] at this; exact this
  have HU : Hid (∀ W : World, Calls Tryz.prog 37 #[.int .i64 2] W fun e w' => e = .returned (.string ⟨(uN 2).toArray⟩) ∧ Below W.heap.size W w') := fun W => ku_any 2 W (by omega)
  have HK : Hid (∀ (T B : ByteArray) (W : World), T.size = 9 → B.data.toList = bodyF 2 T.data.toList → Calls Tryz.prog 36 #[.string B] W fun e w' => e = .returned (.string (wL T)) ∧ Below W.heap.size W w') := fun T B W hT hB => by
    have hb := (bodyF_len 2 T (by omega) (by omega)).2
    have := krecord_any B W (by rw [Lib.size_eq, hB]; omega)
    rw [hB] at this; exact this
  have HKV : Hid (∀ (T : ByteArray) (p : Nat) (lv v : Value) (tv : Nat → Value) (W : World), T.size = 9 → VaultAt W p lv tv (noVault.put 2 T) → SView W v [T] → (∀ g, v.ownBlock = some g → g < W.heap.size) → Calls Tryz.prog 26 #[.pointer (some ⟨p, 0, none⟩), .int .i64 2, .int .i64 1, v] W fun e w' => e = .returned (.bool true) ∧ Below W.heap.size W w') := fun T p lv v tv W hT hV hs hb => by
    have hch := works_ch T
    have := kversions_some p 2 lv v tv _ W hV (works_ok T hT) (by omega) (by rw [hch]; simp) (by rw [hch]; exact hs) hb
    rw [hch] at this; exact this
  go_enter Tryz.func20, Tryz.ntmps20
  go_wp2_with fail
  refine (cnew_any _).mono ?_
  rintro e w1 ⟨rfl, hv1, b1⟩
  have HV1 : Hid (VaultAt w1 w.heap.size (.slice none 0 0) (fun _ => .slice none 0 0) noVault) := hv1
  clear hv1
  go_wp2_with fail
  refine (HB.out _ _ ?_ HV1.out).mono ?_
  · rfl
  rintro e w2 ⟨rfl, HM⟩
  obtain ⟨lv2, tv2, hv2, ho2, hf2⟩ := HM.out
  have HV2 : Hid (VaultAt w2 w.heap.size lv2 tv2 _) := hv2
  have B2 : Below w.heap.size w w2 := ⟨ho2.os.trans b1.os, ho2.tape.trans b1.tape, ho2.output.trans b1.output, Nat.le_trans b1.size ho2.size, fun q hq => (ho2.block q (Nat.lt_of_lt_of_le hq b1.size) (by
    rintro (e | e | ⟨i, hi, e⟩)
    · omega
    · cases e
    · cases e)).trans (b1.block q hq)⟩
  clear hv2 ho2 hf2 HM b1
  go_wp2_with fail
  refine (HG.out _ _ lv2 tv2 _ HV2.out).mono ?_
  rintro e w3 ⟨rfl, rfl⟩
  go_wp2_with fail
  refine (HU.out _).mono ?_
  rintro e w3 ⟨rfl, b3⟩
  have hs2 := B2.size
  have HV3 : Hid (VaultAt w3 w.heap.size lv2 tv2 _) := HV2.out.below b3
  have B3 : Below w.heap.size w w3 := B2.trans (b3.mono hs2)
  clear b3 B2 HV2 HV1
  go_wp2_with fail
  refine (HK.out ⟨#[115, 111, 109, 101, 32, 116, 101, 120, 116]⟩ _ _ rfl ?_).mono ?_
  · rw [app_bytes, app_bytes]; simp [bodyF]
  rintro e w4 ⟨rfl, b4⟩
  have hs3 := B3.size
  have HV4 : Hid (VaultAt w4 w.heap.size lv2 tv2 _) := HV3.out.below b4
  have B4 : Below w.heap.size w w4 := B3.trans (b4.mono hs3)
  have hs4 := B4.size
  clear b4 B3 HV3
  go_wp2_with fail
  refine (HKV.out _ _ lv2 _ tv2 _ rfl (HV4.out.below ((Below.refl _ _).alloc (Nat.le_refl _) _)) ?_ ?_).mono ?_
  · refine ⟨_, _, rfl, by simp, fun i t ht => ?_⟩
    match i, ht with
    | 0, ht => simp at ht; subst ht; exact ⟨_, 0, rfl, by simp⟩
    | i + 1, ht => simp at ht
  · intro g hg; simp [Value.ownBlock] at hg; subst hg; simp
  rintro e w5 ⟨rfl, b5⟩
  have R : Below w.heap.size w w5 := (B4.alloc hs4 _).trans (b5.mono (by simp; omega))
  go_wp2
  go_ret
  exact ⟨rfl, R⟩
end Go.Proofs.YtabpiaaknjcnkabGreat

/-
  The walk over holds of cofferkeep.
-/
namespace Go.Proofs.YtabpiaaknjcnkabGreat
open Go.RowKit
set_option linter.unusedVariables false
set_option linter.unusedSimpArgs false
set_option maxRecDepth 100000

theorem kversions_any (p c : Nat) (z : Nat) (lv v : Value) (tv : Nat → Value) (s : Vlt) (w : World) (hv : VaultAt w p lv tv s) (hok : s.Ok) (hc : c < 4) (hz : (s.ch c).texts ≠ [] → z = (s.ch c).gone + 1) (hvw : SView w v (s.ch c).texts) (hb : ∀ g, v.ownBlock = some g → g < w.heap.size) :
    Calls Tryz.prog 26 #[.pointer (some ⟨p, 0, none⟩), .int .i64 c, .int .i64 z, v] w fun e w' => e = .returned (.bool true) ∧ Below w.heap.size w w' := by
  by_cases h0 : (s.ch c).texts = []
  · rw [h0] at hvw
    exact kversions_none p c z lv v tv s w hv hok hc h0 hvw
  · rw [hz h0]
    exact kversions_some p c lv v tv s w hv hok hc h0 hvw hb

/-- A cell of the k-th of a row of fours. -/
theorem four_cell {α : Type} {f : α → List Value} (hf : ∀ x, (f x).length = 4) : ∀ (l : List α) (k n : Nat) (x : α), l[k]? = some x → n < 4 → (l.flatMap f)[k * 4 + n]? = (f x)[n]?
  | [], k, n, x, h, hn => by simp at h
  | y :: l, 0, n, x, h, hn => by
    simp only [List.getElem?_cons_zero, Option.some.injEq] at h
    subst h
    rw [List.flatMap_cons, Nat.zero_mul, Nat.zero_add, List.getElem?_append_left (by rw [hf]; exact hn)]
  | y :: l, k + 1, n, x, h, hn => by
    rw [List.flatMap_cons, List.getElem?_append_right (by rw [hf]; omega), hf, show (k + 1) * 4 + n - 4 = k * 4 + n by omega]
    exact four_cell hf l k n x (by simpa using h) hn
theorem row_cell {w : World} {b : Nat} {e : TypeId} {size n : Nat} {v : Value} {xs : List Value} (h : w.ownsRow b e size v n xs) (hn : 0 < n) : ∃ g cap, v = .slice (some ⟨g, 0, none⟩) n cap ∧ g < w.heap.size ∧ ∀ i u, xs[i]? = some u → w.cell? ⟨g, i, none⟩ = some u := by
  obtain ⟨g, cap, hv, _, hlt⟩ := h.form hn
  refine ⟨g, cap, hv, hlt, fun i u hu => ?_⟩
  have := h.cells (g := g) (by rw [hv]; rfl) i u hu
  rw [show (⟨g, 0, none⟩ : Addr).add i = ⟨g, i, none⟩ from by unfold Addr.add; split <;> simp_all] at this
  exact this

set_option maxHeartbeats 4000000 in
theorem holds_any (q p : Nat) (fi : Nat → Nat) (cur : Nat → Value) (a b c lv : Value) (tv : Nat → Value) (s : Vlt) (sl : List (List UInt8)) (sf : List (Nat → Nat)) (sr : List (Nat → Value)) (w : World) (h : StoryAt w q p fi cur a b c lv tv s sl sf sr)
    (p2 : Nat) (lv2 : Value) (tv2 : Nat → Value) (s2 : Vlt) (hv2 : VaultAt w p2 lv2 tv2 s2) (hok : s2.Ok) (k : Nat) (f : Nat → Nat) (r : Nat → Value) (hf : sf[k]? = some f) (hr : sr[k]? = some r) (hl : sf.length ≤ 1000) (hl2 : sr.length ≤ 1000)
    (hz : ∀ i, i < 4 → (s2.ch i).texts ≠ [] → f i = (s2.ch i).gone + 1) (hvw : ∀ i, i < 4 → SView w (r i) (s2.ch i).texts ∧ ∀ g, (r i).ownBlock = some g → g < w.heap.size) :
    Calls Tryz.prog 8 #[.pointer (some ⟨q, 0, none⟩), .pointer (some ⟨p2, 0, none⟩), .int .i64 k] w fun e w' => e = .returned (.bool true) ∧ Below w.heap.size w w' := by
  have hkf := (List.getElem?_eq_some_iff.1 hf).1
  have hkr := (List.getElem?_eq_some_iff.1 hr).1
  obtain ⟨gb, bc, hbv, hgb, hcb⟩ := row_cell h.firsts (by omega)
  obtain ⟨gc, cc, hcv, hgc, hcc⟩ := row_cell h.all (by omega)
  have HB : Hid (∀ n, n < 4 → w.cell? ⟨gb, k * 4 + n, none⟩ = some (.int .i64 (f n))) := fun n hn => hcb _ _ (by
    rw [four_cell (f := i4) (fun _ => rfl) sf k n f hf hn]
    match n, hn with
    | 0, _ => rfl
    | 1, _ => rfl
    | 2, _ => rfl
    | 3, _ => rfl)
  have HCC : Hid (∀ n, n < 4 → w.cell? ⟨gc, k * 4 + n, none⟩ = some (r n)) := fun n hn => hcc _ _ (by
    rw [four_cell (f := s4) (fun _ => rfl) sr k n r hr hn]
    match n, hn with
    | 0, _ => rfl
    | 1, _ => rfl
    | 2, _ => rfl
    | 3, _ => rfl)
  have k10 := h.cells.2.2.1
  have k11 := h.cells.2.2.2.1
  rw [hbv] at k10
  rw [hcv] at k11
  have hq := h.lt
  have HKV : Hid (∀ W, Below w.heap.size w W → ∀ n : Nat, n < 4 → Calls Tryz.prog 26 #[.pointer (some ⟨p2, 0, none⟩), .int .i64 n, .int .i64 (f n), r n] W fun e w' => e = .returned (.bool true) ∧ Below W.heap.size W w') := fun W hW n hn =>
    kversions_any p2 n (f n) lv2 (r n) tv2 s2 W (hv2.below hW) hok hn (hz n hn) ((hvw n hn).1.block (fun g hg => hW.block g ((hvw n hn).2 g hg))) (fun g hg => Nat.lt_of_lt_of_le ((hvw n hn).2 g hg) hW.size)
  have n1 : (k : Int) < (sf.length : Int) := by omega
  have n2 : (k : Int) < (sr.length : Int) := by omega
  clear h hcb hcc hf hr hz hvw hv2 hok
  go_enter Tryz.func8, Tryz.ntmps8
  go_wp2
  go_loopw [7] (fun i wr => ∃ j : Nat, i = .int .i64 j ∧ j ≤ 4 ∧ Below w.heap.size w wr) (fun i _ => 5 - (intOf i).toNat)
  case atStart => exact ⟨0, rfl, by omega, Below.refl _ _⟩
  case round =>
    obtain ⟨j, rfl, hj, hb⟩ := hrel
    by_cases hlt : j < 4
    · have c10 := (hb.cell (p := ⟨q, 10, none⟩) hq).trans k10
      have c11 := (hb.cell (p := ⟨q, 11, none⟩) hq).trans k11
      have cb := (hb.cell (p := ⟨gb, k * 4 + j, none⟩) hgb).trans (HB.out j hlt)
      have cd := (hb.cell (p := ⟨gc, k * 4 + j, none⟩) hgc).trans (HCC.out j hlt)
      have HV := fun W hW => HKV.out W hW j hlt
      have HVH : Hid (∀ W, Below w.heap.size w W → Calls Tryz.prog 26 #[.pointer (some ⟨p2, 0, none⟩), .int .i64 j, .int .i64 (f j), r j] W fun e w' => e = .returned (.bool true) ∧ Below W.heap.size W w') := HV
      have hjj : (j : Int) < 4 := by omega
      clear HV HKV HB HCC
      generalize f j = fj at *
      generalize r j = rj at *
      have hqr : q < wr.heap.size := Nat.lt_of_lt_of_le hq hb.size
      have hgbr : gb < wr.heap.size := Nat.lt_of_lt_of_le hgb hb.size
      have hgcr : gc < wr.heap.size := Nat.lt_of_lt_of_le hgc hb.size
      go_wp2_with fail
      go_region_with (first | (go_at_call 26; refine (HVH.out _ (below_drewN1 hb 1)).mono ?_; rintro e w3 ⟨rfl, b3⟩))
      all_goals
        have R := (below_drewN1 hb 1).trans (b3.mono hb.size)
        clear b3
        go_wp2
        go_roundw
        case rel => exact ⟨j + 1, by go_num, by omega, R⟩
        case measure => simp [intOf]; omega
    · obtain rfl : j = 4 := by omega
      go_wp2
      go_ret
      exact ⟨rfl, hb⟩
end Go.Proofs.YtabpiaaknjcnkabGreat
