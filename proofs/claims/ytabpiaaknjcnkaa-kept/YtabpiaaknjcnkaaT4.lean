/-
  The walk over works of cofferkeep.
-/
import Derived.Test.YtabpiaaknjcnkaaT3
namespace Go.Proofs.Ytabpiaaknjcnkaa
open Go.RowKit
set_option linter.unusedVariables false
set_option linter.unusedSimpArgs false
set_option maxRecDepth 100000

theorem works_put (T : ByteArray) (hT : T.size = 9) : putE noVault 2 T = 0 ∧ putN noVault 2 T = 1 ∧ putS noVault 2 T = noVault.put 2 T := by
  have hl := (recL_len (b := bodyF 2 T.data.toList) (by have := (bodyF_len 2 T (by omega) (by omega)).2; omega)).1
  have hb := (bodyF_len 2 T (by omega) (by omega)).2
  have hE : putE noVault 2 T = 0 := by
    unfold putE
    rw [if_neg (by omega), if_neg (by omega), if_neg]
    rintro (h | h)
    · simp only [noVault, List.length_nil, Nat.zero_add] at h
      have : (2 : Int).toNat = 2 := rfl
      rw [this] at h
      omega
    · simp [noVault, Chn.last] at h
  refine ⟨hE, ?_, ?_⟩
  · unfold putN; rw [if_pos hE]; rfl
  · unfold putS; rw [if_pos hE]; rfl
theorem works_log (T : ByteArray) : (noVault.put 2 T).log = recL (bodyF 2 T.data.toList) := by
  simp [Vlt.put, noVault, addedL]
/-- The log of a vault with that text. -/
def wL (T : ByteArray) : ByteArray := ⟨(recL (bodyF 2 T.data.toList)).toArray⟩
theorem works_ch (T : ByteArray) : (noVault.put 2 T).ch 2 = ⟨0, [T]⟩ := by simp [Vlt.put, noVault]
theorem works_ok (T : ByteArray) (hT : T.size = 9) : (noVault.put 2 T).Ok := by
  have := putS_ok noVault_ok 2 T
  rw [(works_put T hT).2.2] at this; exact this

set_option maxHeartbeats 8000000 in
theorem works_any (w : World) : Calls Try.prog 35 #[] w fun e w' => e = .returned (.bool true) ∧ Below w.heap.size w w' := by
  have HB : Hid (∀ (T : ByteArray) (W : World), T.size = 9 → VaultAt W w.heap.size (.slice none 0 0) (fun _ => .slice none 0 0) noVault → Calls Try.prog 27 #[.pointer (some ⟨w.heap.size, 0, none⟩), .int .i64 2, .string T] W fun e w' => e = .returned (.tuple #[.int .i64 1, .int .i64 0]) ∧ Hid (Moves w.heap.size (.slice none 0 0) (fun _ => .slice none 0 0) (noVault.put 2 T) W w')) := fun T W hT hV => by
    have := cbackup_any w.heap.size 2 _ _ noVault T W hV noVault_ok (by omega)
    obtain ⟨h1, h2, h3⟩ := works_put T hT
    rw [h1, h2, h3] at this; exact this
  have HG : Hid (∀ (T : ByteArray) (p : Nat) (lv : Value) (tv : Nat → Value) (W : World), VaultAt W p lv tv (noVault.put 2 T) → Calls Try.prog 26 #[.pointer (some ⟨p, 0, none⟩)] W fun e w' => e = .returned (.string (wL T)) ∧ W = w') := fun T p lv tv W hV => by
    have := clog_any p lv tv _ W hV
    rw [works_log] at this; exact this
  have HU : Hid (∀ W : World, Calls Try.prog 25 #[.int .i64 2] W fun e w' => e = .returned (.string ⟨(uN 2).toArray⟩) ∧ Below W.heap.size W w') := fun W => ku_any 2 W (by omega)
  have HK : Hid (∀ (T B : ByteArray) (W : World), T.size = 9 → B.data.toList = bodyF 2 T.data.toList → Calls Try.prog 24 #[.string B] W fun e w' => e = .returned (.string (wL T)) ∧ Below W.heap.size W w') := fun T B W hT hB => by
    have hb := (bodyF_len 2 T (by omega) (by omega)).2
    have := krecord_any B W (by rw [Lib.size_eq, hB]; omega)
    rw [hB] at this; exact this
  have HKV : Hid (∀ (T : ByteArray) (p : Nat) (lv v : Value) (tv : Nat → Value) (W : World), T.size = 9 → VaultAt W p lv tv (noVault.put 2 T) → SView W v [T] → (∀ g, v.ownBlock = some g → g < W.heap.size) → Calls Try.prog 38 #[.pointer (some ⟨p, 0, none⟩), .int .i64 2, .int .i64 1, v] W fun e w' => e = .returned (.bool true) ∧ Below W.heap.size W w') := fun T p lv v tv W hT hV hs hb => by
    have hch := works_ch T
    have := kversions_some p 2 lv v tv _ W hV (works_ok T hT) (by omega) (by rw [hch]; simp) (by rw [hch]; exact hs) hb
    rw [hch] at this; exact this
  go_enter Try.func35, Try.ntmps35
  go_wp2_with fail
  refine (cnew_any _).mono ?_
  rintro e w1 ⟨rfl, hv1, b1⟩
  have HV1 : Hid (VaultAt w1 w.heap.size (.slice none 0 0) (fun _ => .slice none 0 0) noVault) := hv1
  clear hv1
  go_wp2_with fail
  refine (HB.out _ _ ?_ HV1.out).mono ?_
  · rfl
  rintro e w2 ⟨rfl, HM⟩
  obtain ⟨lv2, tv2, hv2, ho2, hf2⟩ := HM.out
  have HV2 : Hid (VaultAt w2 w.heap.size lv2 tv2 _) := hv2
  have B2 : Below w.heap.size w w2 := ⟨ho2.os.trans b1.os, ho2.tape.trans b1.tape, ho2.output.trans b1.output, Nat.le_trans b1.size ho2.size, fun q hq => (ho2.block q (Nat.lt_of_lt_of_le hq b1.size) (by
    rintro (e | e | ⟨i, hi, e⟩)
    · omega
    · cases e
    · cases e)).trans (b1.block q hq)⟩
  clear hv2 ho2 hf2 HM b1
  go_wp2_with fail
  refine (HG.out _ _ lv2 tv2 _ HV2.out).mono ?_
  rintro e w3 ⟨rfl, rfl⟩
  go_wp2_with fail
  refine (HU.out _).mono ?_
  rintro e w3 ⟨rfl, b3⟩
  have hs2 := B2.size
  have HV3 : Hid (VaultAt w3 w.heap.size lv2 tv2 _) := HV2.out.below b3
  have B3 : Below w.heap.size w w3 := B2.trans (b3.mono hs2)
  clear b3 B2 HV2 HV1
  go_wp2_with fail
  refine (HK.out ⟨#[115, 111, 109, 101, 32, 116, 101, 120, 116]⟩ _ _ rfl ?_).mono ?_
  · rw [app_bytes, app_bytes]; simp [bodyF]
  rintro e w4 ⟨rfl, b4⟩
  have hs3 := B3.size
  have HV4 : Hid (VaultAt w4 w.heap.size lv2 tv2 _) := HV3.out.below b4
  have B4 : Below w.heap.size w w4 := B3.trans (b4.mono hs3)
  have hs4 := B4.size
  clear b4 B3 HV3
  go_wp2_with fail
  refine (HKV.out _ _ lv2 _ tv2 _ rfl (HV4.out.below ((Below.refl _ _).alloc (Nat.le_refl _) _)) ?_ ?_).mono ?_
  · refine ⟨_, _, rfl, by simp, fun i t ht => ?_⟩
    match i, ht with
    | 0, ht => simp at ht; subst ht; exact ⟨_, 0, rfl, by simp⟩
    | i + 1, ht => simp at ht
  · intro g hg; simp [Value.ownBlock] at hg; subst hg; simp
  rintro e w5 ⟨rfl, b5⟩
  have R : Below w.heap.size w w5 := (B4.alloc hs4 _).trans (b5.mono (by simp; omega))
  go_wp2
  go_ret
  exact ⟨rfl, R⟩
end Go.Proofs.Ytabpiaaknjcnkaa
