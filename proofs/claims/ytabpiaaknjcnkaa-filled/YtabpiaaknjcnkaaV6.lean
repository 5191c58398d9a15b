/-
  The walks over package store: Backup.
-/
import Derived.Test.YtabpiaaknjcnkaaV5
import Derived.Test.YtabpiaaknjcnkaaPK
namespace Go.Proofs.Ytabpiaaknjcnkaa
open Go.RowKit
set_option linter.unusedVariables false
set_option linter.unusedSimpArgs false
set_option maxRecDepth 100000

theorem ret_two {a b c d : Int} (h1 : a = c) (h2 : b = d) : Ending.returned (.tuple #[.int .i64 a, .int .i64 b]) = Ending.returned (.tuple #[.int .i64 c, .int .i64 d]) := by rw [h1, h2]
theorem below_drewN1 {B : Nat} {w w' : World} (h : Below B w w') (k : Nat) : Below B w (w'.drewN k) := ⟨h.os, h.tape, h.output, h.size, h.block⟩

set_option maxHeartbeats 2000000 in
theorem sbackup_chain (p : Nat) (c : Int) (t : ByteArray) (w : World) (hc : ¬ (0 ≤ c ∧ c < 4)) :
    Calls Try.prog 40 #[.pointer (some ⟨p, 0, none⟩), .int .i64 c, .string t] w fun e w' => e = .returned (.tuple #[.int .i64 0, .int .i64 4]) ∧ w = w' := by
  have hd : decide (0 ≤ c ∧ c < 4) = false := by simpa using hc
  clear hc
  go_enter Try.func40, Try.ntmps40
  go_wp2_with fail
  refine (ischain_any c _).mono ?_
  rintro e w1 ⟨rfl, rfl⟩
  rw [hd]
  go_wp2
  go_ret2
  exact ⟨rfl, rfl⟩

set_option maxHeartbeats 2000000 in
theorem sbackup_long (p c : Nat) (t : ByteArray) (w : World) (hc : c < 4) (ht : 2000 < t.size) (hs : t.size ≤ 9223372036854775807) :
    Calls Try.prog 40 #[.pointer (some ⟨p, 0, none⟩), .int .i64 c, .string t] w fun e w' => e = .returned (.tuple #[.int .i64 0, .int .i64 1]) ∧ w = w' := by
  have hd : decide (0 ≤ (c : Int) ∧ (c : Int) < 4) = true := by simp; omega
  go_enter Try.func40, Try.ntmps40
  go_wp2_with fail
  refine (ischain_any c _).mono ?_
  rintro e w1 ⟨rfl, rfl⟩
  rw [hd]
  go_wp2
  go_ret2
  exact ⟨rfl, rfl⟩

set_option maxHeartbeats 2000000 in
/-- The record of a text as a whole. -/
theorem sfull_any (c : Nat) (t : ByteArray) (w : World) (hc : c < 128) (ht : t.size ≤ 2000) :
    Calls Try.prog 60 #[.int .i64 c, .string t] w fun e w' => ∃ v, e = .returned v ∧ OwnBytes w' w.heap.size v (recL (bodyF c t.data.toList)) ∧ Below w.heap.size w w' := by
  go_enter Try.func60, Try.ntmps60
  go_wp2_with fail
  refine (recfull_any c t _).mono ?_
  rintro e w1 ⟨rfl, rfl⟩
  go_wp2_with fail
  refine (recbytes_full c t _ hc ht).mono ?_
  rintro e w1 ⟨v1, rfl, o1, b1⟩
  have HO : Hid (OwnBytes w1 w.heap.size v1 (recL (bodyF c t.data.toList))) := o1
  clear o1
  go_wp2
  go_ret
  exact ⟨v1, rfl, HO.out, b1⟩

set_option maxHeartbeats 2000000 in
/-- The record of a text behind another one. -/
theorem further_any (c : Nat) (b t : ByteArray) (w : World) (hc : c < 128) (hb : b.size ≤ 2000) (ht : t.size ≤ 2000) :
    Calls Try.prog 63 #[.int .i64 c, .string b, .string t] w fun e w' => ∃ v, e = .returned v ∧ OwnBytes w' w.heap.size v (addedL c (some b) t) ∧ Below w.heap.size w w' := by
  have HE : Hid (addedL c (some b) t = if (recL (bodyD c (diffF b t))).length < (recL (bodyF c t.data.toList)).length then recL (bodyD c (diffF b t)) else recL (bodyF c t.data.toList)) := rfl
  have HF : Hid (∀ W : World, Calls Try.prog 60 #[.int .i64 c, .string t] W fun e w' => ∃ v, e = .returned v ∧ OwnBytes w' W.heap.size v (recL (bodyF c t.data.toList)) ∧ Below W.heap.size W w') := fun W => sfull_any c t W hc ht
  have HD : Hid (∀ W : World, Calls Try.prog 88 #[.int .i64 c, .string b, .string t] W fun e w' => ∃ v, e = .returned v ∧ OwnBytes w' W.heap.size v (recL (bodyD c (diffF b t))) ∧ Below W.heap.size W w') := fun W => sdiff_any c b t W hc hb ht
  generalize addedL c (some b) t = R at *
  generalize recL (bodyD c (diffF b t)) = D at *
  generalize recL (bodyF c t.data.toList) = F at *
  go_enter Try.func63, Try.ntmps63
  go_wp2_with fail
  refine (HF.out _).mono ?_
  rintro e w1 ⟨v1, rfl, o1, b1⟩
  have hs1 := b1.size
  obtain ⟨a1, c1, hv1⟩ := o1.slice
  subst hv1
  have HO1 : Hid (OwnBytes w1 w.heap.size (.slice a1 F.length c1) F) := o1
  clear o1
  go_wp2_with fail
  refine (HD.out _).mono ?_
  rintro e w2 ⟨v2, rfl, o2, b2⟩
  obtain ⟨a2, c2, hv2⟩ := o2.slice
  subst hv2
  have HO2 : Hid (OwnBytes w2 w.heap.size (.slice a2 D.length c2) D) := OwnBytes.wide o2 hs1
  have HO3 : Hid (OwnBytes w2 w.heap.size (.slice a1 F.length c1) F) := own_kept HO1.out b2 (fun g hg => row_own_lt HO1.out hg)
  have B2 : Below w.heap.size w w2 := b1.trans (b2.mono hs1)
  clear o2 b2 HO1
  go_wp2_with fail
  refine (shorter_any a1 a2 F.length c1 D.length c2 _).mono ?_
  rintro e w3 ⟨rfl, rfl⟩
  by_cases h : D.length < F.length
  · rw [if_pos h]
    have HR : Hid (R = D) := by rw [if_pos h] at HE; exact HE
    go_wp2
    go_ret
    exact ⟨_, rfl, by rw [HR.out]; exact HO2.out, B2⟩
  · rw [if_neg h]
    have HR : Hid (R = F) := by rw [if_neg h] at HE; exact HE
    go_wp2
    go_ret
    exact ⟨_, rfl, by rw [HR.out]; exact HO3.out, B2⟩

set_option maxHeartbeats 4000000 in
theorem sbackup_full (p c : Nat) (lv : Value) (tv : Nat → Value) (s : Vlt) (t : ByteArray) (w : World) (hv : VaultAt w p lv tv s) (hok : s.Ok) (hc : c < 4) (ht : t.size ≤ 2000) (hfull : s.full c t) :
    Calls Try.prog 40 #[.pointer (some ⟨p, 0, none⟩), .int .i64 c, .string t] w fun e w' => e = .returned (.tuple #[.int .i64 0, .int .i64 6]) ∧ Below w.heap.size w w' := by
  have hd : decide (0 ≤ (c : Int) ∧ (c : Int) < 4) = true := by simp; omega
  have hlog := hok.log
  have hlast := hok.last c
  obtain ⟨lo, lc, hlv⟩ := hv.log.slice
  obtain ⟨to, tc, htv⟩ := (hv.row c hc).slice
  have HV : Hid (VaultAt w p lv tv s) := hv
  have hrl := (recL_len (b := bodyF c t.data.toList) (by have := (bodyF_len c t (by omega) ht).2; omega)).1
  have hbl := (bodyF_len c t (by omega) ht).2
  have HF0 : Hid (∀ W : World, Calls Try.prog 60 #[.int .i64 c, .string t] W fun e w' => ∃ v, e = .returned v ∧ OwnBytes w' W.heap.size v (recL (bodyF c t.data.toList)) ∧ Below W.heap.size W w') := fun W => sfull_any c t W (by omega) ht
  generalize hR : recL (bodyF c t.data.toList) = R at *
  have HF : Hid (20000 < s.log.length + R.length ∨ (s.ch c).last = 2147483647) := by
    unfold Vlt.full at hfull; rw [hR] at hfull; exact hfull
  have hlL : (s.ch c).last = (s.ch c).gone + (s.ch c).texts.length := rfl
  generalize hLA : (s.ch c).last = la at *
  clear hR hv hok hfull hLA
  go_enter Try.func40, Try.ntmps40
  go_wp2_with fail
  refine (ischain_any c _).mono ?_
  rintro e w1 ⟨rfl, rfl⟩
  rw [hd]
  go_wp2_with fail
  refine (HF0.out _).mono ?_
  rintro e w1 ⟨v1, rfl, o1, b1⟩
  obtain ⟨ao, ac, hv1⟩ := o1.slice
  subst hv1
  have HV1 : Hid (VaultAt w1 p lv tv s) := HV.out.below b1
  have HL : Hid (Calls Try.prog 61 #[.pointer (some ⟨p, 1 + c * 2, none⟩)] w1 fun e w' => e = .returned (.int .i64 la) ∧ Still w1 w') := by
    have k2 := HV1.out.cellT c hc
    rw [htv] at k2
    have := vlast_st p (1 + c * 2) _ _ _ _ _ (HV1.out.cellG c hc) k2 (by omega)
    rw [← hlL] at this; exact this
  clear o1 hlL
  go_wp2_with fail
  refine HL.out.mono ?_
  rintro e w2 ⟨rfl, hst⟩
  have k0 : w2.cell? ⟨p, 0, none⟩ = some (.slice lo s.log.length lc) := by rw [← hlv]; exact (HV1.out.still hst).cell0
  have B2 : Below w.heap.size w w2 := b1.trans (hst.below _)
  clear HL hst HV1 b1
  go_wp2_with fail
  refine (hasroom_any p s.log.length lc R.length ac lo ao _ k0 (by omega) (by omega)).mono ?_
  rintro e w3 ⟨rfl, rfl⟩
  by_cases hr : s.log.length + R.length ≤ 20000
  · rw [show decide (s.log.length + R.length ≤ 20000) = true from by simpa using hr]
    obtain rfl : la = 2147483647 := by
      rcases HF.out with h | h
      · omega
      · exact h
    go_wp2
    go_ret2
    exact ⟨rfl, B2⟩
  · rw [show decide (s.log.length + R.length ≤ 20000) = false from by simpa using hr]
    go_wp2
    go_ret2
    exact ⟨rfl, B2⟩

end Go.Proofs.Ytabpiaaknjcnkaa
