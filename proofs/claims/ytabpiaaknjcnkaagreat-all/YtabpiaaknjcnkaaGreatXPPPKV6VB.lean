/- The texts PP, PK, V6, VB, one behind the other. -/
import Derived.Test.YtabpiaaknjcnkaaGreatXPRPO
import Derived.Test.YtabpiaaknjcnkaaGreatXV5ZLZC
/-
  Plain facts: which part of a log counts.
-/
namespace Go.Proofs.YtabpiaaknjcnkaaGreat
set_option linter.unusedVariables false
set_option linter.unusedSimpArgs false

theorem mid_data (s : ByteArray) (a b : Nat) : (s.extract a b).data.toList = (s.data.toList.drop a).take (b - a) := by
  rw [ByteArray.data_extract, Array.toList_extract, List.extract_eq_take_drop]
/-- Nothing counts from here on. -/
def Stops0 (log : ByteArray) (at_ : Nat) (ch : Nat → Chn) : Prop := ∀ f, openGo log f at_ ch = (ch, at_)
theorem stop_end {log : ByteArray} {at_ : Nat} {ch : Nat → Chn} (h : log.size ≤ at_) : Stops0 log at_ ch := by
  intro f
  cases f with
  | zero => rfl
  | succ f => rw [openGo, if_neg (by omega)]
theorem stop_num {log : ByteArray} {at_ p : Nat} {ch : Nat → Chn} (h : numF log at_ = .inl p) : Stops0 log at_ ch := by
  intro f
  cases f with
  | zero => rfl
  | succ f =>
    rw [openGo]
    split
    · rw [h]
    · rfl
theorem stop_short {log : ByteArray} {at_ n body : Nat} {ch : Nat → Chn} (h : numF log at_ = .inr (n, body)) (hs : log.size < body + n + 4) : Stops0 log at_ ch := by
  intro f
  cases f with
  | zero => rfl
  | succ f =>
    rw [openGo]
    split
    · rw [h]; simp only [if_pos hs]
    · rfl
theorem stop_sum {log : ByteArray} {at_ n body : Nat} {ch : Nat → Chn} (h : numF log at_ = .inr (n, body)) (hs : recL (log.extract body (body + n)).data.toList ≠ (log.extract at_ (body + n + 4)).data.toList) : Stops0 log at_ ch := by
  intro f
  cases f with
  | zero => rfl
  | succ f =>
    rw [openGo]
    split
    · rw [h]
      simp only
      split
      · rfl
      · simp only [if_pos hs]
    · rfl
theorem stop_does {log : ByteArray} {at_ n body : Nat} {ch : Nat → Chn} (h : numF log at_ = .inr (n, body)) (hs : doesF ch (log.extract body (body + n)) = none) : Stops0 log at_ ch := by
  intro f
  cases f with
  | zero => rfl
  | succ f =>
    rw [openGo]
    split
    · rw [h]
      simp only
      split
      · rfl
      · split
        · rfl
        · rw [hs]
    · rfl
theorem go_rec {log : ByteArray} {at_ n body f : Nat} {ch ch' : Nat → Chn} (hlt : at_ < log.size) (h : numF log at_ = .inr (n, body)) (hs : ¬ log.size < body + n + 4)
    (hr : recL (log.extract body (body + n)).data.toList = (log.extract at_ (body + n + 4)).data.toList) (hd : doesF ch (log.extract body (body + n)) = some ch') : openGo log (f + 1) at_ ch = openGo log f (body + n + 4) ch' := by
  rw [openGo, if_pos hlt, h]
  simp only
  rw [if_neg hs, if_neg (by rw [hr]; simp), hd]

theorem recL_pos (b : List UInt8) : 5 ≤ (recL b).length := by have := recL_length b; have := uN_pos b.length; omega
/-- What every vault that is opened keeps to. -/
structure ChOk (ch : Nat → Chn) : Prop where
  last : ∀ i, (ch i).last ≤ 2147483647
  size : ∀ i, ∀ t ∈ (ch i).texts, t.size ≤ 2000
  none : ∀ i, (ch i).texts = [] → (ch i).gone = 0
  out : ∀ i, 4 ≤ i → ch i = ⟨0, []⟩
theorem noCh_ok : ChOk noCh := ⟨fun i => by simp [noCh, Chn.last], fun i t h => by simp [noCh] at h, fun i _ => rfl, fun i _ => rfl⟩
theorem ChOk.ok {log : List UInt8} {ch : Nat → Chn} (h : ChOk ch) (hl : log.length ≤ 20000) : Vlt.Ok ⟨log, ch⟩ := ⟨hl, h.last, h.size, h.none⟩
theorem set_ok {ch : Nat → Chn} (h : ChOk ch) {c : Nat} (hc : c < 4) {x : Chn} (h1 : x.last ≤ 2147483647) (h2 : ∀ t ∈ x.texts, t.size ≤ 2000) (h3 : x.texts = [] → x.gone = 0) : ChOk (setCh ch c x) := by
  refine ⟨fun i => ?_, fun i t ht => ?_, fun i hi => ?_, fun i hi => ?_⟩
  · unfold setCh; split
    · exact h1
    · exact h.last i
  · unfold setCh at ht; split at ht
    · exact h2 t ht
    · exact h.size i t ht
  · unfold setCh at hi ⊢
    by_cases hh : i = c
    · rw [if_pos hh] at hi ⊢; exact h3 hi
    · rw [if_neg hh] at hi ⊢; exact h.none i hi
  · unfold setCh; rw [if_neg (by omega)]; exact h.out i hi
theorem more_ok {ch ch' : Nat → Chn} (h : ChOk ch) {c : Nat} (hc : c < 4) {t : ByteArray} (hd : moreF ch c t = some ch') : ChOk ch' := by
  unfold moreF at hd
  split at hd
  · rename_i hh
    simp only [Option.some.injEq] at hd
    subst hd
    refine set_ok h hc ?_ ?_ ?_
    · unfold Chn.last at *; simp; omega
    · intro u hu
      simp only [List.mem_append, List.mem_singleton] at hu
      rcases hu with hu | rfl
      · exact h.size c u hu
      · exact hh.1
    · intro h0; simp at h0
  · cases hd
theorem does_ok {ch ch' : Nat → Chn} (h : ChOk ch) {b : ByteArray} (hb1 : 1 ≤ b.size) (hd : doesF ch b = some ch') : ChOk ch' := by
  unfold doesF at hd
  split at hd
  · cases hd
  · split at hd
    · cases hd
    · rename_i c at_ h1
      have k1 := numF_ok hb1 h1
      split at hd
      · cases hd
      · rename_i h3
        split at hd
        · exact more_ok h (by omega) hd
        · split at hd
          · unfold codeF at hd
            split at hd
            · split at hd
              · cases hd
              · exact more_ok h (by omega) hd
            · cases hd
          · split at hd
            · cases hd
            · rename_i n nx h4
              have k2 := numF_ok k1.2.2 h4
              split at hd
              · unfold baseF at hd
                split at hd
                · rename_i hh
                  simp only [Option.some.injEq] at hd
                  subst hd
                  refine set_ok h (by omega) ?_ ?_ ?_
                  · unfold Chn.last; simp; omega
                  · intro u hu
                    obtain rfl : u = _ := by simpa using hu
                    exact hh.2.2
                  · intro h0; simp at h0
                · cases hd
              · split at hd
                · unfold pruneF at hd
                  split at hd
                  · rename_i hh
                    simp only [Option.some.injEq] at hd
                    subst hd
                    have := h.last c
                    unfold Chn.last at hh this
                    refine set_ok h (by omega) ?_ ?_ ?_
                    · unfold Chn.last; simp; omega
                    · intro u hu
                      exact h.size c u (List.mem_of_mem_drop hu)
                    · intro h0; simp at h0; omega
                  · cases hd
                · cases hd
theorem does_size {ch ch' : Nat → Chn} {b : ByteArray} (hd : doesF ch b = some ch') : 1 ≤ b.size := by
  unfold doesF at hd
  split at hd
  · cases hd
  · rename_i L hh
    rw [Lib.size_eq]
    cases hl : b.data.toList with
    | nil => rw [hl] at hh; cases hh
    | cons x r => simp
/-- The log that is squashed. -/
def restL (c : Nat) : ByteArray → List ByteArray → List UInt8
  | _, [] => []
  | p, t :: r => addedL c (some p) t ++ restL c t r
def chainL (c : Nat) (x : Chn) : List UInt8 :=
  match x.texts with
  | [] => []
  | t :: r => recL (bodyB c (x.gone + 1) t.data.toList) ++ restL c t r
def squashL (ch : Nat → Chn) : List UInt8 := chainL 0 (ch 0) ++ chainL 1 (ch 1) ++ chainL 2 (ch 2) ++ chainL 3 (ch 3)
def Vlt.squash (s : Vlt) : Vlt := ⟨if (squashL s.ch).length ≤ s.log.length then squashL s.ch else s.log, s.ch⟩
theorem squash_le (s : Vlt) : s.squash.log.length ≤ s.log.length := by
  unfold Vlt.squash
  simp only
  split
  · assumption
  · exact Nat.le_refl _
theorem setCh_set (ch : Nat → Chn) (c : Nat) (x y : Chn) : setCh (setCh ch c x) c y = setCh ch c y := by
  funext i; unfold setCh; split <;> rfl
theorem setCh_at (ch : Nat → Chn) (c : Nat) (x : Chn) : setCh ch c x c = x := by simp [setCh]
end Go.Proofs.YtabpiaaknjcnkaaGreat

/-
  Plain facts: a row of vaults, each by one record more: a log that is cut off, or of which a byte is another one.
-/
namespace Go.Proofs.YtabpiaaknjcnkaaGreat
set_option linter.unusedVariables false
set_option linter.unusedSimpArgs false

/-- One record, that leads from these chains to those. -/
def One (l : List UInt8) (ch ch' : Nat → Chn) : Prop := ∃ b : ByteArray, l = recL b.data.toList ∧ b.size ≤ 2147483647 ∧ doesF ch b = some ch'
theorem One.leads {l : List UInt8} {ch ch' : Nat → Chn} (h : One l ch ch') : Leads l ch ch' := by
  obtain ⟨b, rfl, hs, hd⟩ := h
  exact Leads.one rfl (by rw [← Lib.size_eq]; exact hs) hd
theorem One.of {l : List UInt8} {ch ch' : Nat → Chn} {b : List UInt8} (hl : l = recL b) (hs : b.length ≤ 2147483647) (hd : ∀ x : ByteArray, x.data.toList = b → doesF ch x = some ch') : One l ch ch' :=
  ⟨⟨b.toArray⟩, by rw [hl, bytes_of], by rw [Lib.size_eq, bytes_of]; exact hs, hd _ (bytes_of _)⟩
end Go.Proofs.YtabpiaaknjcnkaaGreat

/-
  The walks over package store: Backup.
-/
namespace Go.Proofs.YtabpiaaknjcnkaaGreat
open Go.RowKit
set_option linter.unusedVariables false
set_option linter.unusedSimpArgs false
set_option maxRecDepth 100000

theorem ret_two {a b c d : Int} (h1 : a = c) (h2 : b = d) : Ending.returned (.tuple #[.int .i64 a, .int .i64 b]) = Ending.returned (.tuple #[.int .i64 c, .int .i64 d]) := by rw [h1, h2]
theorem below_drewN1 {B : Nat} {w w' : World} (h : Below B w w') (k : Nat) : Below B w (w'.drewN k) := ⟨h.os, h.tape, h.output, h.size, h.block⟩

set_option maxHeartbeats 2000000 in
theorem sbackup_chain (p : Nat) (c : Int) (t : ByteArray) (w : World) (hc : ¬ (0 ≤ c ∧ c < 4)) :
    Calls Tryz.prog 28 #[.pointer (some ⟨p, 0, none⟩), .int .i64 c, .string t] w fun e w' => e = .returned (.tuple #[.int .i64 0, .int .i64 4]) ∧ w = w' := by
  have hd : decide (0 ≤ c ∧ c < 4) = false := by simpa using hc
  clear hc
  go_enter Tryz.func28, Tryz.ntmps28
  go_wp2_with fail
  refine (ischain_any c _).mono ?_
  rintro e w1 ⟨rfl, rfl⟩
  rw [hd]
  go_wp2
  go_ret2
  exact ⟨rfl, rfl⟩

set_option maxHeartbeats 2000000 in
theorem sbackup_long (p c : Nat) (t : ByteArray) (w : World) (hc : c < 4) (ht : 2000 < t.size) (hs : t.size ≤ 9223372036854775807) :
    Calls Tryz.prog 28 #[.pointer (some ⟨p, 0, none⟩), .int .i64 c, .string t] w fun e w' => e = .returned (.tuple #[.int .i64 0, .int .i64 1]) ∧ w = w' := by
  have hd : decide (0 ≤ (c : Int) ∧ (c : Int) < 4) = true := by simp; omega
  go_enter Tryz.func28, Tryz.ntmps28
  go_wp2_with fail
  refine (ischain_any c _).mono ?_
  rintro e w1 ⟨rfl, rfl⟩
  rw [hd]
  go_wp2
  go_ret2
  exact ⟨rfl, rfl⟩

set_option maxHeartbeats 2000000 in
/-- The record of a text as a whole. -/
theorem sfull_any (c : Nat) (t : ByteArray) (w : World) (hc : c < 128) (ht : t.size ≤ 2000) :
    Calls Tryz.prog 47 #[.int .i64 c, .string t] w fun e w' => ∃ v, e = .returned v ∧ OwnBytes w' w.heap.size v (recL (bodyF c t.data.toList)) ∧ Below w.heap.size w w' := by
  go_enter Tryz.func47, Tryz.ntmps47
  go_wp2_with fail
  refine (recfull_any c t _).mono ?_
  rintro e w1 ⟨rfl, rfl⟩
  go_wp2_with fail
  refine (recbytes_full c t _ hc ht).mono ?_
  rintro e w1 ⟨v1, rfl, o1, b1⟩
  have HO : Hid (OwnBytes w1 w.heap.size v1 (recL (bodyF c t.data.toList))) := o1
  clear o1
  go_wp2
  go_ret
  exact ⟨v1, rfl, HO.out, b1⟩

set_option maxHeartbeats 2000000 in
/-- The record of a text behind another one. -/
theorem further_any (c : Nat) (b t : ByteArray) (w : World) (hc : c < 128) (hb : b.size ≤ 2000) (ht : t.size ≤ 2000) :
    Calls Tryz.prog 50 #[.int .i64 c, .string b, .string t] w fun e w' => ∃ v, e = .returned v ∧ OwnBytes w' w.heap.size v (addedL c (some b) t) ∧ Below w.heap.size w w' := by
  have HE : Hid (addedL c (some b) t = if (recL (bodyD c (diffF b t))).length < (recL (bodyF c t.data.toList)).length then recL (bodyD c (diffF b t)) else recL (bodyF c t.data.toList)) := rfl
  have HF : Hid (∀ W : World, Calls Tryz.prog 47 #[.int .i64 c, .string t] W fun e w' => ∃ v, e = .returned v ∧ OwnBytes w' W.heap.size v (recL (bodyF c t.data.toList)) ∧ Below W.heap.size W w') := fun W => sfull_any c t W hc ht
  have HD : Hid (∀ W : World, Calls Tryz.prog 91 #[.int .i64 c, .string b, .string t] W fun e w' => ∃ v, e = .returned v ∧ OwnBytes w' W.heap.size v (recL (bodyD c (diffF b t))) ∧ Below W.heap.size W w') := fun W => sdiff_any c b t W hc hb ht
  generalize addedL c (some b) t = R at *
  generalize recL (bodyD c (diffF b t)) = D at *
  generalize recL (bodyF c t.data.toList) = F at *
  go_enter Tryz.func50, Tryz.ntmps50
  go_wp2_with fail
  refine (HF.out _).mono ?_
  rintro e w1 ⟨v1, rfl, o1, b1⟩
  have hs1 := b1.size
  obtain ⟨a1, c1, hv1⟩ := o1.slice
  subst hv1
  have HO1 : Hid (OwnBytes w1 w.heap.size (.slice a1 F.length c1) F) := o1
  clear o1
  go_wp2_with fail
  refine (HD.out _).mono ?_
  rintro e w2 ⟨v2, rfl, o2, b2⟩
  obtain ⟨a2, c2, hv2⟩ := o2.slice
  subst hv2
  have HO2 : Hid (OwnBytes w2 w.heap.size (.slice a2 D.length c2) D) := OwnBytes.wide o2 hs1
  have HO3 : Hid (OwnBytes w2 w.heap.size (.slice a1 F.length c1) F) := own_kept HO1.out b2 (fun g hg => row_own_lt HO1.out hg)
  have B2 : Below w.heap.size w w2 := b1.trans (b2.mono hs1)
  clear o2 b2 HO1
  go_wp2_with fail
  refine (shorter_any a1 a2 F.length c1 D.length c2 _).mono ?_
  rintro e w3 ⟨rfl, rfl⟩
  by_cases h : D.length < F.length
  · rw [if_pos h]
    have HR : Hid (R = D) := by rw [if_pos h] at HE; exact HE
    go_wp2
    go_ret
    exact ⟨_, rfl, by rw [HR.out]; exact HO2.out, B2⟩
  · rw [if_neg h]
    have HR : Hid (R = F) := by rw [if_neg h] at HE; exact HE
    go_wp2
    go_ret
    exact ⟨_, rfl, by rw [HR.out]; exact HO3.out, B2⟩

set_option maxHeartbeats 4000000 in
theorem sbackup_full (p c : Nat) (lv : Value) (tv : Nat → Value) (s : Vlt) (t : ByteArray) (w : World) (hv : VaultAt w p lv tv s) (hok : s.Ok) (hc : c < 4) (ht : t.size ≤ 2000) (hfull : s.full c t) :
    Calls Tryz.prog 28 #[.pointer (some ⟨p, 0, none⟩), .int .i64 c, .string t] w fun e w' => e = .returned (.tuple #[.int .i64 0, .int .i64 6]) ∧ Below w.heap.size w w' := by
  have hd : decide (0 ≤ (c : Int) ∧ (c : Int) < 4) = true := by simp; omega
  have hlog := hok.log
  have hlast := hok.last c
  obtain ⟨lo, lc, hlv⟩ := hv.log.slice
  obtain ⟨tq, tc, htv⟩ := (hv.row c hc).slice
  have HV : Hid (VaultAt w p lv tv s) := hv
  have hrl := (recL_len (b := bodyF c t.data.toList) (by have := (bodyF_len c t (by omega) ht).2; omega)).1
  have hbl := (bodyF_len c t (by omega) ht).2
  have HF0 : Hid (∀ W : World, Calls Tryz.prog 47 #[.int .i64 c, .string t] W fun e w' => ∃ v, e = .returned v ∧ OwnBytes w' W.heap.size v (recL (bodyF c t.data.toList)) ∧ Below W.heap.size W w') := fun W => sfull_any c t W (by omega) ht
  generalize hR : recL (bodyF c t.data.toList) = R at *
  have HF : Hid (20000 < s.log.length + R.length ∨ (s.ch c).last = 2147483647) := by
    unfold Vlt.full at hfull; rw [hR] at hfull; exact hfull
  have hlL : (s.ch c).last = (s.ch c).gone + (s.ch c).texts.length := rfl
  generalize hLA : (s.ch c).last = la at *
  clear hR hv hok hfull hLA
  go_enter Tryz.func28, Tryz.ntmps28
  go_wp2_with fail
  refine (ischain_any c _).mono ?_
  rintro e w1 ⟨rfl, rfl⟩
  rw [hd]
  go_wp2_with fail
  refine (HF0.out _).mono ?_
  rintro e w1 ⟨v1, rfl, o1, b1⟩
  obtain ⟨ao, ac, hv1⟩ := o1.slice
  subst hv1
  have HV1 : Hid (VaultAt w1 p lv tv s) := HV.out.below b1
  have HL : Hid (Calls Tryz.prog 48 #[.pointer (some ⟨p, 1 + c * 2, none⟩)] w1 fun e w' => e = .returned (.int .i64 la) ∧ Still w1 w') := by
    have k2 := HV1.out.cellT c hc
    rw [htv] at k2
    have := vlast_st p (1 + c * 2) _ _ _ _ _ (HV1.out.cellG c hc) k2 (by omega)
    rw [← hlL] at this; exact this
  clear o1 hlL
  go_wp2_with fail
  refine HL.out.mono ?_
  rintro e w2 ⟨rfl, hst⟩
  have k0 : w2.cell? ⟨p, 0, none⟩ = some (.slice lo s.log.length lc) := by rw [← hlv]; exact (HV1.out.still hst).cell0
  have B2 : Below w.heap.size w w2 := b1.trans (hst.below _)
  clear HL hst HV1 b1
  go_wp2_with fail
  refine (hasroom_any p s.log.length lc R.length ac lo ao _ k0 (by omega) (by omega)).mono ?_
  rintro e w3 ⟨rfl, rfl⟩
  by_cases hr : s.log.length + R.length ≤ 20000
  · rw [show decide (s.log.length + R.length ≤ 20000) = true from by simpa using hr]
    obtain rfl : la = 2147483647 := by
      rcases HF.out with h | h
      · omega
      · exact h
    go_wp2
    go_ret2
    exact ⟨rfl, B2⟩
  · rw [show decide (s.log.length + R.length ≤ 20000) = false from by simpa using hr]
    go_wp2
    go_ret2
    exact ⟨rfl, B2⟩

end Go.Proofs.YtabpiaaknjcnkaaGreat

/-
  The walks over package store: Backup adds a version.
-/
namespace Go.Proofs.YtabpiaaknjcnkaaGreat
open Go.RowKit
set_option linter.unusedVariables false
set_option linter.unusedSimpArgs false
set_option maxRecDepth 100000

set_option maxHeartbeats 16000000 in
theorem sbackup_ok (p c : Nat) (lv : Value) (tv : Nat → Value) (s : Vlt) (t : ByteArray) (w : World) (hv : VaultAt w p lv tv s) (hok : s.Ok) (hc : c < 4) (ht : t.size ≤ 2000) (hfull : ¬ s.full c t) :
    Calls Tryz.prog 28 #[.pointer (some ⟨p, 0, none⟩), .int .i64 c, .string t] w fun e w' => e = .returned (.tuple #[.int .i64 (((s.ch c).last + 1 : Nat) : Int), .int .i64 0]) ∧ Moves p lv tv (s.put c t) w w' := by
  have hd : decide (0 ≤ (c : Int) ∧ (c : Int) < 4) = true := by simp; omega
  obtain ⟨i0, hi, hz0, hz1, hz2⟩ := info_parts Tryz.infoByte
  have hlog := hok.log
  have hlast := hok.last c
  have HSZ : Hid (∀ x ∈ (s.ch c).texts, x.size ≤ 2000) := hok.size c
  have HNO : Hid ((s.ch c).texts = [] → (s.ch c).gone = 0) := hok.none c
  obtain ⟨lo, lc, hlv⟩ := hv.log.slice
  obtain ⟨tq, tc, htv⟩ := (hv.row c hc).slice
  have HV : Hid (VaultAt w p lv tv s) := hv
  have hrl := recL_len (b := bodyF c t.data.toList) (by have := (bodyF_len c t (by omega) ht).2; omega)
  have hbl := (bodyF_len c t (by omega) ht).2
  have HF0 : Hid (∀ W : World, Calls Tryz.prog 47 #[.int .i64 c, .string t] W fun e w' => ∃ v, e = .returned v ∧ OwnBytes w' W.heap.size v (recL (bodyF c t.data.toList)) ∧ Below W.heap.size W w') := fun W => sfull_any c t W (by omega) ht
  have HAL : Hid ((addedL c (s.ch c).texts.getLast? t).length ≤ (recL (bodyF c t.data.toList)).length ∧ 0 < (addedL c (s.ch c).texts.getLast? t).length) := ⟨addedL_le _ _ _, by
    unfold addedL
    split
    · have := recL_pos (bodyF c t.data.toList); omega
    · split
      · have := recL_pos (bodyD c (diffF (by assumption) t)); omega
      · have := recL_pos (bodyF c t.data.toList); omega⟩
  have HA0 : Hid ((s.ch c).texts = [] → addedL c (s.ch c).texts.getLast? t = recL (bodyF c t.data.toList)) := fun h => by rw [h]; rfl
  have HA1 : Hid (∀ b, (s.ch c).texts.getLast? = some b → addedL c (s.ch c).texts.getLast? t = addedL c (some b) t) := fun b h => by rw [h]
  have HPUT : Hid (s.put c t = ⟨s.log ++ addedL c (s.ch c).texts.getLast? t, fun i => if i = c then ⟨(s.ch c).gone, (s.ch c).texts ++ [t]⟩ else s.ch i⟩) := rfl
  generalize hAA : addedL c (s.ch c).texts.getLast? t = AA at *
  generalize hR : recL (bodyF c t.data.toList) = R at *
  have hF : ¬ (20000 < s.log.length + R.length ∨ (s.ch c).last = 2147483647) := by
    unfold Vlt.full at hfull; rw [hR] at hfull; exact hfull
  have hroom : s.log.length + R.length ≤ 20000 := by omega
  have hne : ¬ (s.ch c).last = 2147483647 := by omega
  have hAle : AA.length ≤ R.length := HAL.out.1
  have hApos : 0 < AA.length := HAL.out.2
  have hlL : (s.ch c).last = (s.ch c).gone + (s.ch c).texts.length := rfl
  generalize hLA : (s.ch c).last = la at *
  have hne2 : ¬ (la : Int) = 2147483647 := by omega
  have hlen : (s.ch c).gone + (s.ch c).texts.length < 2147483647 := by omega
  have HLL : Hid (la = (s.ch c).gone + (s.ch c).texts.length) := hlL
  clear hR hv hok hfull hF hne hLA HAL hAA hlL
  go_enter Tryz.func28, Tryz.ntmps28
  go_wp2_with fail
  refine (ischain_any c _).mono ?_
  rintro e w1 ⟨rfl, rfl⟩
  rw [hd]
  go_wp2_with fail
  refine (HF0.out _).mono ?_
  rintro e w1 ⟨v1, rfl, o1, b1⟩
  have hs1 := b1.size
  obtain ⟨ag, ac, hv1, hag, hag1⟩ := own_form o1 (by omega)
  subst hv1
  have HV1 : Hid (VaultAt w1 p lv tv s) := HV.out.below b1
  have HL : Hid (Calls Tryz.prog 48 #[.pointer (some ⟨p, 1 + c * 2, none⟩)] w1 fun e w' => e = .returned (.int .i64 la) ∧ Still w1 w') := by
    have k2 := HV1.out.cellT c hc
    rw [htv] at k2
    have := vlast_st p (1 + c * 2) _ _ _ _ _ (HV1.out.cellG c hc) k2 (by omega)
    rw [← HLL.out] at this; exact this
  have HR1 : Hid (OwnBytes w1 w.heap.size (.slice (some ⟨ag, 0, none⟩) R.length ac) R) := o1
  clear o1
  go_wp2_with fail
  refine HL.out.mono ?_
  rintro e w2 ⟨rfl, hst⟩
  have HV2 : Hid (VaultAt w2 p lv tv s) := HV1.out.still hst
  have k0 : w2.cell? ⟨p, 0, none⟩ = some (.slice lo s.log.length lc) := by rw [← hlv]; exact HV2.out.cell0
  have B2 : Below w.heap.size w w2 := b1.trans (hst.below _)
  have HR2 : Hid (OwnBytes w2 w.heap.size (.slice (some ⟨ag, 0, none⟩) R.length ac) R) := own_still HR1.out hst
  have hs2 := B2.size
  have hag2 : ag < w2.heap.size := by rw [hst.size]; exact hag1
  clear HL hst HV1 b1 HR1 hag1 HV
  go_wp2_with fail
  refine (hasroom_any p s.log.length lc R.length ac lo (some ⟨ag, 0, none⟩) _ k0 (by omega) (by omega)).mono ?_
  rintro e w3 ⟨rfl, rfl⟩
  rw [show decide (s.log.length + R.length ≤ 20000) = true from by simpa using hroom]
  have key : ∃ b : Option ByteArray, (b = none → la = 0 ∧ R = AA) ∧ ∀ x, b = some x → 0 < la ∧ (s.ch c).texts.getLast? = some x := by
    cases hg : (s.ch c).texts.getLast? with
    | none =>
      have h0 : (s.ch c).texts = [] := List.getLast?_eq_none_iff.1 hg
      refine ⟨none, fun _ => ⟨?_, (HA0.out h0).symm⟩, fun x h => by cases h⟩
      have h1 := HNO.out h0
      rw [HLL.out, h1, h0]; rfl
    | some x =>
      refine ⟨some x, fun h => by (cases h), fun y h => ?_⟩
      have hmem := List.mem_of_mem_getLast? hg
      have hpos := List.length_pos_of_mem hmem
      exact ⟨by have := HLL.out; omega, by rw [← h]⟩
  obtain ⟨b, hb0, hb1⟩ := key
  cases b
  case' none =>
    obtain ⟨hla, hRA⟩ := hb0 rfl
    have hla0 : ¬ (0 : Int) < (la : Int) := by omega
    rw [hRA] at HR2
    rw [hRA]
    have HVk : Hid (VaultAt w2 p lv tv s) := HV2
    have HA : Hid (OwnBytes w2 w.heap.size (.slice (some ⟨ag, 0, none⟩) AA.length ac) AA) := HR2
    have Bk : Below w.heap.size w w2 := B2
    have hagk : ag < w2.heap.size := hag2
    clear hla HV2 HR2 B2 hag2 HA0 HA1 HNO HSZ hb0 hb1 k0 hRA hs2
    generalize w2 = WK at *
  case' some x =>
    obtain ⟨hpos, hgl⟩ := hb1 x rfl
    have hla0 : (0 : Int) < (la : Int) := by omega
    have hgi : (s.ch c).texts[(s.ch c).texts.length - 1]? = some x := by rw [← List.getLast?_eq_getElem?]; exact hgl
    have hlp := (List.getElem?_eq_some_iff.1 hgi).1
    have hx2 : x.size ≤ 2000 := HSZ.out x (List.mem_of_mem_getLast? hgl)
    have HADD : Hid (AA = addedL c (some x) t) := HA1.out x hgl
    have HTX : Hid (Calls Tryz.prog 51 #[.pointer (some ⟨p, 1 + c * 2, none⟩), .int .i64 la] w2 fun e w' => e = .returned (.string x) ∧ Still w2 w') := by
      have k2 := HV2.out.cellT c hc
      have hrow := HV2.out.row c hc
      rw [htv] at k2 hrow
      exact vtext_st p (1 + c * 2) _ ((s.ch c).texts.length - 1) _ _ _ x w2 (HV2.out.cellG c hc) k2 hrow hgi (by omega) la (by have := HLL.out; omega)
    clear hb0 hb1 hgl hgi HA0 HA1 HNO HSZ k0 hlp
    go_wp2_with fail
    refine HTX.out.mono ?_
    rintro e w4 ⟨rfl, st4⟩
    go_wp2_with fail
    refine (further_any c x t _ (by omega) hx2 ht).mono ?_
    rintro e WK ⟨v5, rfl, o5, b5⟩
    rw [← HADD.out] at o5
    have hs4 := st4.size
    have HVk : Hid (VaultAt WK p lv tv s) := (HV2.out.still st4).below b5
    have HO5 : Hid (OwnBytes WK w.heap.size v5 AA) := OwnBytes.wide o5 (by omega)
    have Bk : Below w.heap.size w WK := (B2.trans (st4.below _)).trans (b5.mono (by omega))
    clear o5 b5 st4 hs4 HTX HADD HV2 HR2 B2 hag2 hs2 hag
    obtain ⟨ag, ac, hv5, hag, hagk⟩ := own_form HO5.out hApos
    rw [hv5] at HO5 ⊢
    have HA : Hid (OwnBytes WK w.heap.size (.slice (some ⟨ag, 0, none⟩) AA.length ac) AA) := HO5
    clear HO5 hv5
  all_goals
    have k0 : WK.cell? ⟨p, 0, none⟩ = some (.slice lo s.log.length lc) := by rw [← hlv]; exact HVk.out.cell0
    have f0 : WK.frozen? ⟨p, 0, none⟩ = false := HVk.out.frozen 0
    have HLG : Hid (OwnBytes WK 0 (.slice lo s.log.length lc) s.log) := by rw [← hlv]; exact HVk.out.log
    have hpk := HVk.out.lt
    have hnp : (Value.slice lo s.log.length lc).ownBlock ≠ some p := by rw [← hlv]; exact HVk.out.logp
    go_wp2_with (first | (at_builtin; refine wpList_append_lies _ rfl _ _ 48 rfl 0 5 i0 (.int .u8 0) 1 1 Tryz.underlying48 hi hz0 hz1 hz2 rfl (by decide) (.slice lo s.log.length lc) s.log.length (s.log.map byteV) rfl HLG.out ⟨ag, 0, none⟩ AA.length ac (AA.map byteV) rfl ?c1 ?c2 ?c3 ?c4 ?c5 ?c6 ?c7 _ rfl ?_))
    case c1 => simp
    case c2 => exact own_news HA.out rfl
    case c3 => intro u hu; obtain ⟨x, _, rfl⟩ := List.mem_map.1 hu; rfl
    case c4 => exact hApos
    case c5 => unfold maxLen; omega
    case c6 => omega
    case c7 => exact Nat.zero_le _
    intro g5 cap5 w5 hown5 hgr5 hat5 hlt5
    have e5 := (World.cell?_of_block (a := ⟨p, 0, none⟩) (hgr5.block p hpk (Ne.symm hnp))).trans k0
    have f5 := (World.frozen?_of_block (a := ⟨p, 0, none⟩) (hgr5.block p hpk (Ne.symm hnp))).trans f0
    have hLG := HVk.out.logged (w2 := w5) (lv' := .slice (some ⟨g5, 0, none⟩) (s.log.length + AA.length) cap5) (bs := s.log ++ AA) (by rw [hlv]; exact hgr5) (by unfold OwnBytes; rw [List.map_append, List.length_append]; exact hown5) (by
      rw [hlv]
      rcases hat5 with x | x
      · exact .inl (by rw [x]; rfl)
      · exact .inr ⟨g5, rfl, by omega⟩)
    obtain ⟨hV6, hO6, hS6⟩ := hLG
    have HV6 : Hid (VaultAt (w5.setCell ⟨p, 0, none⟩ (.slice (some ⟨g5, 0, none⟩) (s.log.length + AA.length) cap5)) p (.slice (some ⟨g5, 0, none⟩) (s.log.length + AA.length) cap5) tv ⟨s.log ++ AA, s.ch⟩) := hV6
    have HAD : Hid (Calls Tryz.prog 52 #[.pointer (some ⟨p, 1 + c * 2, none⟩), .string t] (w5.setCell ⟨p, 0, none⟩ (.slice (some ⟨g5, 0, none⟩) (s.log.length + AA.length) cap5)) _) := vadd_any p (1 + c * 2) (s.ch c).gone (tv c) (s.ch c).texts t _ hV6.lt (hV6.cellG c hc) (hV6.cellT c hc) (hV6.frozen _) (hV6.row c hc) (hV6.rowp c hc) hlen ht
    clear hV6 hown5 hgr5 hat5 HLG k0 f0 HA
    go_wp2_with fail
    refine HAD.out.mono ?_
    rintro e w7 ⟨rfl, v7, w8, rfl, o7, g7, at7⟩
    have hT := HV6.out.turned (w2 := w8) (w3 := w8.setCell ⟨p, 1 + c * 2 + 1, none⟩ v7) (g' := (s.ch c).gone) hc g7 o7 (fun g hg => by
      rcases at7 with x | ⟨g', x, hge⟩
      · exact .inl (by rw [← x]; exact hg)
      · rw [x] at hg; injection hg with hg; exact .inr (by omega)) (vset_one hc ((g7.block p HV6.out.lt (Ne.symm (HV6.out.rowp c hc))).trans HV6.out.blk)) (fun q hq => Below.heap_setCell _ _ _ _ hq) (by simp [World.setCell]) ⟨rfl, rfl, rfl⟩
    obtain ⟨hV8, hO8, hS8⟩ := hT
    have HR8 : Hid (Moves p lv tv (s.put c t) w (w8.setCell ⟨p, 1 + c * 2 + 1, none⟩ v7)) := by
      have hV9 := hV8
      rw [← HPUT.out] at hV9
      refine ⟨_, _, hV9, (Out.of_below Bk).trans (hO6.trans hO8 hS6) (fun q hq => .inl hq), fun q hq => ?_⟩
      have s1 := Bk.size
      have s2 := hO6.size
      rcases hS8 q hq with x | x
      · rcases hS6 q x with y | y
        · exact .inl y
        · exact .inr (by omega)
      · exact .inr (by omega)
    obtain ⟨vo, vc, hv7⟩ := o7.slice
    simp only [List.length_append, List.length_cons, List.length_nil, Nat.zero_add] at hv7
    have k1 := hV8.cellG c hc
    have k2 := hV8.cellT c hc
    simp only [if_true] at k1 k2
    rw [hv7] at k2 HR8 k1 ⊢
    have HLA : Hid (Calls Tryz.prog 48 #[.pointer (some ⟨p, 1 + c * 2, none⟩)] (w8.setCell ⟨p, 1 + c * 2 + 1, none⟩ (.slice vo ((s.ch c).texts.length + 1) vc)) _) := vlast_st p (1 + c * 2) _ _ _ _ _ k1 k2 (by omega)
    clear hV8 hO8 hS8 k1 k2 hO6 hS6 HV6 o7 g7 at7 HAD e5 f5
    go_wp2_with fail
    refine HLA.out.mono ?_
    rintro e w9 ⟨rfl, st9⟩
    go_wp2
    go_ret2
    refine ⟨ret_two (by have := HLL.out; omega) rfl, ?_⟩
    obtain ⟨lv9, tv9, h1, h2, h3⟩ := HR8.out
    exact ⟨lv9, tv9, h1.still st9, h2.trans (Out.of_below (F := fun _ => False) (st9.below _)) (fun q hq => hq.elim), h3⟩
end Go.Proofs.YtabpiaaknjcnkaaGreat
