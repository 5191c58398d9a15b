/- The texts VG, VH, one behind the other. -/
import Derived.Test.YtabpiaaknjcnkaaGreatVF
import Derived.Test.YtabpiaaknjcnkaaGreatXP1W1W3W4
import Derived.Test.YtabpiaaknjcnkaaGreatXVCYJZU
import Derived.Test.YtabpiaaknjcnkaaGreatXR4L7L8P4S1S2L9LBLP
/-
  The walks over package record: a record of a log is read.
-/
namespace Go.Proofs.YtabpiaaknjcnkaaGreat
open Go.RowKit
set_option linter.unusedVariables false
set_option linter.unusedSimpArgs false
set_option maxRecDepth 100000

theorem RecV.wide {w : World} {base b : Nat} {v : Value} {r : Rec} (h : RecV w base v r) (hb : b ≤ base) : RecV w b v r := by
  rcases h with h | ⟨h1, ao, n, cap, h2, h3⟩ | h | h
  · exact .inl h
  · exact .inr (.inl ⟨h1, ao, n, cap, h2, h3.wide hb⟩)
  · exact .inr (.inr (.inl h))
  · exact .inr (.inr (.inr h))

/-- What Read does. -/
def RecReadPost (rb : Nat) (log : ByteArray) (at_ : Nat) (w : World) (e : Ending) (w' : World) : Prop :=
  ((∃ p, e = gaveUp p ∧ ∀ ch, Stops0 log at_ ch) ∨
    ∃ (n body : Nat) (r : Rec) (v : Value), numF log at_ = .inr (n, body) ∧ body + n + 4 ≤ log.size ∧ recL (log.extract body (body + n)).data.toList = (log.extract at_ (body + n + 4)).data.toList ∧ recOf (log.extract body (body + n)) = some r ∧ e = .returned v ∧ RecV w' w.heap.size v r ∧ RAt w' rb log (body + n + 4)) ∧ Moved rb w w'

theorem bytes_four {x : ByteArray} {l : List UInt8} : x.data.toList = l ↔ x = ⟨l.toArray⟩ := by
  constructor
  · intro h; exact bytes_ext (by rw [h])
  · intro h; rw [h]

set_option maxHeartbeats 8000000 in
theorem recread_any (rb : Nat) (log : ByteArray) (at_ : Nat) (w : World) (h : RAt w rb log at_) (hle : at_ ≤ log.size) (hs : log.size ≤ 20000) :
    Calls Tryz.prog 113 #[.pointer (some ⟨rb, 0, none⟩)] w (RecReadPost rb log at_ w) := by
  have hrb : rb < w.heap.size := lt_of_block h
  have HR : Hid (RAt w rb log at_) := h
  clear h
  go_enter Tryz.func113, Tryz.ntmps113
  go_wp2_with fail
  refine (at_any rb log at_ _ HR.out).mono ?_
  rintro e w1 ⟨rfl, rfl⟩
  go_wp2_with fail
  refine (number_any rb log at_ _ HR.out hle (by omega)).mono ?_
  rintro e w2 ⟨hcase, m2⟩
  have HM2 : Hid (Moved rb w w2) := m2
  clear m2 HR
  rcases hcase with ⟨p, hp, rfl⟩ | ⟨n, body, hp, rfl, r2⟩
  · have HS : Hid (∀ ch, Stops0 log at_ ch) := fun ch => stop_num hp
    clear hp
    go_wp2
    exact ⟨rfl, .inl ⟨p, rfl, HS.out⟩, HM2.out⟩
  · have HP : Hid (numF log at_ = .inr (n, body)) := hp
    obtain ⟨hn, _, hbody⟩ := numF_ok hle hp
    have HR2 : Hid (RAt w2 rb log body) := r2
    clear hp r2
    by_cases h1 : log.size < body + n
    · have HS : Hid (∀ ch, Stops0 log at_ ch) := fun ch => stop_short HP.out (by omega)
      go_wp2_with fail
      refine (text_end2 rb log body n _ HR2.out hbody h1 (by omega) hn).mono ?_
      rintro e w3 ⟨rfl, m3⟩
      have R : Moved rb w w3 := HM2.out.trans m3
      clear m3
      go_wp2
      exact ⟨rfl, .inl ⟨_, rfl, HS.out⟩, R⟩
    · have HT : Hid (Calls Tryz.prog 135 #[.pointer (some ⟨rb, 0, none⟩), .int .i64 n] w2 fun e w' => e = .returned (.string (log.extract body (body + n))) ∧ RAt w' rb log (body + n) ∧ Moved rb w2 w') := text_some2 rb log body n w2 HR2.out (by omega) (by omega) (by omega)
      have hBz : (log.extract body (body + n)).size = n := by rw [size_ext _ _ _ (by omega)]; omega
      have HB0 : Hid (∀ x, x = log.extract body (body + n) → recOf x = recOf (log.extract body (body + n))) := fun x hx => by rw [hx]
      obtain ⟨B, hB⟩ : ∃ B, B = log.extract body (body + n) := ⟨_, rfl⟩
      rw [← hB] at HT hBz
      have HB : Hid (B = log.extract body (body + n)) := hB
      clear hB HB0
      go_wp2_with fail
      refine HT.out.mono ?_
      rintro e w3 ⟨rfl, r3, m3⟩
      have HR3 : Hid (RAt w3 rb log (body + n)) := r3
      have HM3 : Hid (Moved rb w w3) := HM2.out.trans m3
      clear r3 m3 HM2 HR2 HT
      by_cases h2 : log.size < body + n + 4
      · have HS : Hid (∀ ch, Stops0 log at_ ch) := fun ch => stop_short HP.out h2
        go_wp2_with fail
        refine (text_end2 rb log (body + n) 4 _ HR3.out (by omega) (by omega) (by omega) (by omega)).mono ?_
        rintro e w4 ⟨rfl, m4⟩
        have R : Moved rb w w4 := HM3.out.trans m4
        clear m4
        go_wp2
        exact ⟨rfl, .inl ⟨_, rfl, HS.out⟩, R⟩
      · have HT : Hid (Calls Tryz.prog 135 #[.pointer (some ⟨rb, 0, none⟩), .int .i64 4] w3 fun e w' => e = .returned (.string (log.extract (body + n) (body + n + 4))) ∧ RAt w' rb log (body + n + 4) ∧ Moved rb w3 w') := text_some2 rb log (body + n) 4 w3 HR3.out (by omega) (by omega) (by omega)
        have HSM := rec_sum HP.out (show body + n + 4 ≤ log.size by omega)
        rw [← HB.out, bytes_four] at HSM
        have HSU : Hid (∀ W, Calls Tryz.prog 133 #[.string B] W fun e w' => e = .returned (.string ⟨(le4 (sumL B.data.toList)).toArray⟩) ∧ Below W.heap.size W w') := fun W => sumof4_any B W (by omega)
        have HSMH : Hid (recL B.data.toList = (log.extract at_ (body + n + 4)).data.toList ↔ log.extract (body + n) (body + n + 4) = ⟨(le4 (sumL B.data.toList)).toArray⟩) := HSM
        clear HSM
        generalize log.extract (body + n) (body + n + 4) = S4 at *
        generalize (⟨(le4 (sumL B.data.toList)).toArray⟩ : ByteArray) = T4 at *
        go_wp2_with fail
        refine HT.out.mono ?_
        rintro e w4 ⟨rfl, r4, m4⟩
        have HR4 : Hid (RAt w4 rb log (body + n + 4)) := r4
        have HM4 : Hid (Moved rb w w4) := HM3.out.trans m4
        clear r4 m4 HM3 HR3 HT
        go_wp2_with fail
        refine (HSU.out _).mono ?_
        rintro e w5 ⟨rfl, b5⟩
        have HR5 : Hid (RAt w5 rb log (body + n + 4)) := HR4.out.kept b5
        have HM5 : Hid (Moved rb w w5) := HM4.out.trans (Moved.of_below b5)
        have hs5 := HM5.out.size
        clear b5 HR4 HM4 HSU
        by_cases hsum : S4 = T4
        · have HEQ : Hid (recL B.data.toList = (log.extract at_ (body + n + 4)).data.toList) := HSMH.out.2 hsum
          subst hsum
          go_wp2_with fail
          refine (readbody_any B _ (by omega)).mono ?_
          rintro e w6 ⟨hcase, b6⟩
          have HR6 : Hid (RAt w6 rb log (body + n + 4)) := HR5.out.kept b6
          have HM6 : Hid (Moved rb w w6) := HM5.out.trans (Moved.of_below b6)
          clear b6 HR5 HM5
          rcases hcase with ⟨p, rfl, hno⟩ | ⟨r, v, rfl, hyes, hv⟩
          · have HS : Hid (∀ ch, Stops0 log at_ ch) := fun ch => stop_does HP.out (by rw [← HB.out, doesF_rec, hno]; rfl)
            clear hno
            go_wp2
            exact ⟨rfl, .inl ⟨p, rfl, HS.out⟩, HM6.out⟩
          · have HV : Hid (RecV w6 w.heap.size v r) := hv.wide hs5
            have HY : Hid (recOf B = some r) := hyes
            clear hyes hv
            go_wp2
            go_ret
            exact ⟨.inr ⟨n, body, r, v, HP.out, by omega, by rw [← HB.out]; exact HEQ.out, by rw [← HB.out]; exact HY.out, rfl, HV.out, HR6.out⟩, HM6.out⟩
        · have HS : Hid (∀ ch, Stops0 log at_ ch) := fun ch => stop_sum HP.out (fun he => hsum (HSMH.out.1 (by rw [HB.out]; exact he)))
          have hs1 : (S4.toList == T4.toList) = false := by
            cases hx : (S4.toList == T4.toList)
            · rfl
            · exact absurd (eq_of_beq_toList hx) hsum
          go_wp2_with fail
          refine (giveup_any at_ _).mono ?_
          rintro e w6 ⟨rfl, rfl⟩
          go_wp2
          exact ⟨rfl, .inl ⟨_, rfl, HS.out⟩, HM5.out⟩
end Go.Proofs.YtabpiaaknjcnkaaGreat

/-
  The walks over package history, in a vault: a text more, those ahead go, a first one; what the kinds do.
-/
namespace Go.Proofs.YtabpiaaknjcnkaaGreat
open Go.RowKit
set_option linter.unusedVariables false
set_option linter.unusedSimpArgs false
set_option maxRecDepth 100000

theorem apply_any {base : ByteArray} {v : Value} {xs : List DOp} {w : World} (hs : base.size ≤ 9223372036854775807) (hx : xs.length ≤ 5000000000000) (hv : View w v xs) (hl : ∀ o ∈ xs, o.len ≤ 9223372036854775807) :
    Calls Tryz.prog 95 #[.string base, v] w fun e w' => e = .returned (.tuple #[.string (appS base xs), .int .i64 (appE base xs), .int .i64 (appP base xs)]) ∧ Below w.heap.size w w' := by
  unfold appS appE appP
  by_cases h : 2000 < base.size
  · simp only [if_pos h]
    exact (apply_long base v w h hs).mono (fun e w' ⟨a, b⟩ => ⟨a, by rw [b]; exact Below.refl _ _⟩)
  · simp only [if_neg h]
    rcases hv with ⟨rfl, ao, cap, rfl⟩ | ⟨b, off, cap, rfl, hbw, hr⟩
    · exact apply_nil base ao cap w (by omega)
    · by_cases hf : faultF xs base.size < xs.length
      · simp only [if_pos hf]
        exact apply_fault base b off cap xs w (by omega) hx hr hl hbw hf
      · simp only [if_neg hf]
        exact apply_ok base b off cap xs w (by omega) hx hr hl hbw (by have := faultF_le xs base.size; omega)

/-- What a call on a chain leaves: what it does, or nothing. -/
def DoPost (p : Nat) (lv : Value) (tv : Nat → Value) (s : Vlt) (o : Option (Nat → Chn)) (w : World) (e : Ending) (w' : World) : Prop :=
  (o = none ∧ e = .returned (.bool false) ∧ Moves p lv tv s w w') ∨ ∃ ch, o = some ch ∧ e = .returned (.bool true) ∧ Moves p lv tv ⟨s.log, ch⟩ w w'

theorem chain_add (p c : Nat) (lv : Value) (tv : Nat → Value) (s : Vlt) (t : ByteArray) (w : World) (hv : VaultAt w p lv tv s) (hc : c < 4) (hl : (s.ch c).last ≤ 2147483647) (ht : t.size ≤ 2000) :
    Calls Tryz.prog 52 #[.pointer (some ⟨p, 1 + c * 2, none⟩), .string t] w (DoPost p lv tv s (moreF s.ch c t) w) := by
  have hlast : (s.ch c).last = (s.ch c).gone + (s.ch c).texts.length := rfl
  by_cases hm : (s.ch c).last < 2147483647
  · have hE : moreF s.ch c t = some (setCh s.ch c ⟨(s.ch c).gone, (s.ch c).texts ++ [t]⟩) := by unfold moreF; rw [if_pos ⟨ht, hm⟩]
    refine (vadd_any p (1 + c * 2) (s.ch c).gone (tv c) (s.ch c).texts t w hv.lt (hv.cellG c hc) (hv.cellT c hc) (hv.frozen _) (hv.row c hc) (hv.rowp c hc) (by omega) ht).mono ?_
    rintro e w' ⟨rfl, v7, w8, rfl, o7, g7, at7⟩
    refine .inr ⟨_, hE, rfl, ?_⟩
    obtain ⟨h1, h2, h3⟩ := hv.turned (w2 := w8) (w3 := w8.setCell ⟨p, 1 + c * 2 + 1, none⟩ v7) (g' := (s.ch c).gone) hc g7 o7 (fun g hg => by
      rcases at7 with x | ⟨g', x, hge⟩
      · exact .inl (by rw [← x]; exact hg)
      · rw [x] at hg; injection hg with hg; exact .inr (by omega)) (vset_one hc ((g7.block p hv.lt (Ne.symm (hv.rowp c hc))).trans hv.blk)) (fun q hq => Below.heap_setCell _ _ _ _ hq) (by simp [World.setCell]) ⟨rfl, rfl, rfl⟩
    exact ⟨_, _, h1, h2, h3⟩
  · have hE : moreF s.ch c t = none := by unfold moreF; rw [if_neg (fun h => hm h.2)]
    obtain ⟨ao, cap, htv⟩ := (hv.row c hc).slice
    have k2 := hv.cellT c hc
    rw [htv] at k2
    refine (vadd_full p (1 + c * 2) (s.ch c).gone cap ao (s.ch c).texts.length t w (hv.cellG c hc) k2 (by omega)).mono ?_
    rintro e w' ⟨rfl, k, rfl⟩
    exact .inl ⟨hE, rfl, Moves.stays hv (below_drewN0 _ _ _)⟩

theorem chain_drop (p c n : Nat) (lv : Value) (tv : Nat → Value) (s : Vlt) (w : World) (hv : VaultAt w p lv tv s) (hc : c < 4) (hl : (s.ch c).last ≤ 2147483647) :
    Calls Tryz.prog 86 #[.pointer (some ⟨p, 1 + c * 2, none⟩), .int .i64 n] w (DoPost p lv tv s (pruneF s.ch c n) w) := by
  have hlast : (s.ch c).last = (s.ch c).gone + (s.ch c).texts.length := rfl
  obtain ⟨ao, cap, htv⟩ := (hv.row c hc).slice
  have k2 := hv.cellT c hc
  have hrow := hv.row c hc
  rw [htv] at k2 hrow
  by_cases hm : (s.ch c).gone < n ∧ n ≤ (s.ch c).last
  · obtain ⟨k, hk⟩ : ∃ k : Nat, n = (s.ch c).gone + k + 1 := ⟨n - (s.ch c).gone - 1, by omega⟩
    have hE : pruneF s.ch c n = some (setCh s.ch c ⟨(s.ch c).gone + k, (s.ch c).texts.drop k⟩) := by
      unfold pruneF; rw [if_pos hm, show n - 1 = (s.ch c).gone + k by omega, show n - (s.ch c).gone - 1 = k by omega]
    have hz : (n : Int) = ((s.ch c).gone : Int) + k + 1 := by omega
    rw [hz]
    refine (vdrop_any p (1 + c * 2) (s.ch c).gone k cap ao (s.ch c).texts w hv.lt (hv.cellG c hc) k2 (fun j => hv.frozen j) hrow (by omega) (by omega)).mono ?_
    rintro e w' ⟨rfl, v7, w8, rfl, o7, b7⟩
    refine .inr ⟨_, hE, rfl, ?_⟩
    obtain ⟨h1, h2, h3⟩ := hv.turned (w2 := w8) (w3 := (w8.setCell ⟨p, 1 + c * 2 + 1, none⟩ v7).setCell ⟨p, 1 + c * 2, none⟩ (.int .i64 (((s.ch c).gone + k : Nat) : Int))) (g' := (s.ch c).gone + k) (ts := (s.ch c).texts.drop k) hc (grown_below b7) (strs_wide o7) (fun g hg => .inr (row_own_ge o7 hg)) (vset_two hc ((b7.block p hv.lt).trans hv.blk)) (fun q hq => (Below.heap_setCell _ _ _ _ hq).trans (Below.heap_setCell _ _ _ _ hq)) (by simp [World.setCell]) ⟨rfl, rfl, rfl⟩
    exact ⟨_, _, h1, h2, h3⟩
  · have hE : pruneF s.ch c n = none := by unfold pruneF; rw [if_neg hm]
    refine (vdrop_none p (1 + c * 2) (s.ch c).gone (s.ch c).texts.length cap ao n w (hv.cellG c hc) k2 (by omega) (by omega)).mono ?_
    rintro e w' ⟨rfl, k, rfl⟩
    exact .inl ⟨hE, rfl, Moves.stays hv (below_drewN0 _ _ _)⟩

theorem vset_gone {w : World} {p c g' : Nat} {lv : Value} {tv : Nat → Value} {s : Vlt} (hc : c < 4) (hb : w.heap[p]? = some (.cells (vcells lv tv s) 81 (0, 0))) :
    (w.setCell ⟨p, 1 + c * 2, none⟩ (.int .i64 g')).heap[p]? = some (.cells (vcells lv tv ⟨s.log, setCh s.ch c ⟨g', (s.ch c).texts⟩⟩) 81 (0, 0)) := by
  rw [Lib.heap_setCell_same hb]
  match c, hc with
  | 0, _ => rfl
  | 1, _ => rfl
  | 2, _ => rfl
  | 3, _ => rfl
/-- The number of those that are gone is another one. -/
theorem VaultAt.setGone {w : World} {p : Nat} {lv : Value} {tv : Nat → Value} {s : Vlt} (h : VaultAt w p lv tv s) {c g' : Nat} (hc : c < 4) : VaultAt (w.setCell ⟨p, 1 + c * 2, none⟩ (.int .i64 g')) p lv tv ⟨s.log, setCh s.ch c ⟨g', (s.ch c).texts⟩⟩ ∧ Out (foot p lv tv) w (w.setCell ⟨p, 1 + c * 2, none⟩ (.int .i64 g')) := by
  have hk : ∀ q, q ≠ p → (w.setCell ⟨p, 1 + c * 2, none⟩ (.int .i64 (g' : Int))).heap[q]? = w.heap[q]? := fun q hq => Below.heap_setCell _ _ _ _ hq
  refine ⟨⟨vset_gone hc h.blk, row_block h.log (fun g hg => hk g (fun e => h.logp (by rw [hg, e]))), fun i hi => ?_, h.apart⟩, ⟨rfl, rfl, rfl, by simp [World.setCell], fun q _ hn => hk q (fun e => hn (.inl e))⟩⟩
  have hrow := row_block (h.row i hi) (fun g hg => hk g (fun e => h.rowp i hi (by rw [hg, e])))
  have e : (setCh s.ch c ⟨g', (s.ch c).texts⟩ i).texts = (s.ch i).texts := by
    unfold setCh; split
    · rename_i e; rw [e]
    · rfl
  show OwnStrs _ 0 (tv i) (setCh s.ch c ⟨g', (s.ch c).texts⟩ i).texts
  rw [e]; exact hrow

set_option maxHeartbeats 4000000 in
theorem chain_begin (p c n : Nat) (lv : Value) (tv : Nat → Value) (s : Vlt) (t : ByteArray) (w : World) (hv : VaultAt w p lv tv s) (hc : c < 4) (hl : (s.ch c).last ≤ 2147483647) (hn : 0 < n) (hn2 : n ≤ 2147483647) (ht : t.size ≤ 2000) :
    Calls Tryz.prog 183 #[.pointer (some ⟨p, 1 + c * 2, none⟩), .int .i64 n, .string t] w (DoPost p lv tv s (baseF s.ch c n t) w) := by
  have hlast : (s.ch c).last = (s.ch c).gone + (s.ch c).texts.length := rfl
  obtain ⟨ao, cap, htv⟩ := (hv.row c hc).slice
  have k1 := hv.cellG c hc
  have k2 := hv.cellT c hc
  have kf := hv.frozen (1 + c * 2)
  rw [htv] at k2
  have HL : Hid (Calls Tryz.prog 48 #[.pointer (some ⟨p, 1 + c * 2, none⟩)] w fun e w' => e = .returned (.int .i64 ((s.ch c).last : Nat)) ∧ ∃ k, w' = w.drewN k) := vlast_any p (1 + c * 2) (s.ch c).gone (s.ch c).texts.length cap ao w k1 k2 (by omega)
  by_cases h0 : (s.ch c).last = 0
  · have hE : baseF s.ch c n t = some (setCh s.ch c ⟨n - 1, [t]⟩) := by unfold baseF; rw [if_pos ⟨hn, h0, ht⟩]
    have hte : (s.ch c).texts = [] := List.eq_nil_of_length_eq_zero (by omega)
    obtain ⟨m, hm⟩ : ∃ m, n = m + 1 := ⟨n - 1, by omega⟩
    subst hm
    have HADD : Hid (∀ k, Calls Tryz.prog 52 #[.pointer (some ⟨p, 1 + c * 2, none⟩), .string t] ((w.drewN k).setCell ⟨p, 1 + c * 2, none⟩ (.int .i64 (m : Int))) fun e w' => e = .returned (.bool true) ∧ Hid (Moves p lv tv ⟨s.log, setCh s.ch c ⟨m, [t]⟩⟩ w w')) := fun k => by
      obtain ⟨hv2, o2⟩ := (hv.drewN k).setGone (g' := m) hc
      have hcc : (setCh s.ch c ⟨m, (s.ch c).texts⟩) c = ⟨m, []⟩ := by rw [setCh_at, hte]
      refine (chain_add p c lv tv _ t _ hv2 hc (by show (setCh s.ch c ⟨m, (s.ch c).texts⟩ c).last ≤ _; rw [hcc]; simp [Chn.last]; omega) ht).mono ?_
      rintro e w' (⟨hno, _⟩ | ⟨ch, hyes, rfl, hmv⟩)
      · unfold moreF at hno
        rw [if_pos ⟨ht, by show (setCh s.ch c ⟨m, (s.ch c).texts⟩ c).last < _; rw [hcc]; simp [Chn.last]; omega⟩] at hno
        cases hno
      · have hch : ch = setCh s.ch c ⟨m, [t]⟩ := by
          unfold moreF at hyes
          rw [if_pos ⟨ht, by show (setCh s.ch c ⟨m, (s.ch c).texts⟩ c).last < _; rw [hcc]; simp [Chn.last]; omega⟩] at hyes
          simp only [Option.some.injEq] at hyes
          rw [← hyes]
          show setCh (setCh s.ch c ⟨m, (s.ch c).texts⟩) c ⟨((setCh s.ch c ⟨m, (s.ch c).texts⟩) c).gone, ((setCh s.ch c ⟨m, (s.ch c).texts⟩) c).texts ++ [t]⟩ = _
          rw [hcc, setCh_set]; rfl
        subst hch
        obtain ⟨lv', tv', a1, a2, a3⟩ := hmv
        have o2' : Out (foot p lv tv) w ((w.drewN k).setCell ⟨p, 1 + c * 2, none⟩ (.int .i64 (m : Int))) := ⟨o2.os, o2.tape, o2.output, o2.size, o2.block⟩
        refine ⟨rfl, lv', tv', a1, o2'.trans a2 (fun q hq => .inl hq), fun q hq => ?_⟩
        rcases a3 q hq with x | x
        · exact .inl x
        · exact .inr (by simpa [World.setCell] using x)
    have hw1 : IntKind.i64.wrap (m : Int) = (m : Int) := by rw [IntKind.wrap_i64]; omega
    rw [h0] at HL
    have HEE : Hid (baseF s.ch c (m + 1) t = some (setCh s.ch c ⟨m, [t]⟩)) := hE
    clear hE hlast h0 hl htv hte
    go_enter Tryz.func183, Tryz.ntmps183
    go_wp2_with fail
    refine HL.out.mono ?_
    rintro e w1 ⟨rfl, k, rfl⟩
    go_wp2_with fail
    refine (HADD.out k).mono ?_
    rintro e w2 ⟨rfl, HM⟩
    go_wp2
    go_ret
    exact .inr ⟨_, HEE.out, rfl, HM.out⟩
  · have HE : Hid (baseF s.ch c n t = none) := by unfold baseF Hid; rw [if_neg (fun h => h0 h.2.1)]
    have hpos : (0 : Int) < ((s.ch c).last : Int) := by omega
    have HV : Hid (VaultAt w p lv tv s) := hv
    clear hv
    generalize (s.ch c).last = la at *
    clear hlast
    go_enter Tryz.func183, Tryz.ntmps183
    go_wp2_with fail
    refine HL.out.mono ?_
    rintro e w1 ⟨rfl, k, rfl⟩
    go_wp2
    go_ret
    exact .inl ⟨HE.out, rfl, Moves.stays HV.out (below_drewN0 _ _ _)⟩
end Go.Proofs.YtabpiaaknjcnkaaGreat
