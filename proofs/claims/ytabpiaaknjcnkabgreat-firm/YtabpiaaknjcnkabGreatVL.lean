/-
  The walk over Replay.
-/
import Derived.Test.YtabpiaaknjcnkabGreatXVIVJVK
namespace Go.Proofs.YtabpiaaknjcnkabGreat
open Go.RowKit
set_option linter.unusedVariables false
set_option linter.unusedSimpArgs false
set_option maxRecDepth 100000

/-- How far a log was done. -/
structure Done (log : ByteArray) (p : Nat) (lv : Value) (tv : Nat → Value) (w : World) (rb : Nat) (wr : World) (at_ : Nat) (ch : Nat → Chn) (lv' : Value) (tv' : Nat → Value) : Prop where
  rd : RAt wr rb log at_
  le : at_ ≤ log.size
  vault : VaultAt wr p lv' tv' ⟨log.data.toList.take at_, ch⟩
  out : Out (foot p lv tv) w wr
  new : ∀ q, foot p lv' tv' q → foot p lv tv q ∨ w.heap.size ≤ q
  ok : ChOk ch
  go : ∃ f, openF log = openGo log f at_ ch ∧ log.size ≤ f + at_
/-- What Replay leaves, whether it gave up or came to the end. -/
def ReplayPost (log : ByteArray) (p : Nat) (lv : Value) (tv : Nat → Value) (w : World) (e : Ending) (w' : World) : Prop :=
  (e = .returned (.tuple #[]) ∨ ∃ q, e = gaveUp q) ∧ ∃ n ch, openF log = (ch, n) ∧ n ≤ log.size ∧ ChOk ch ∧ Moves p lv tv ⟨log.data.toList.take n, ch⟩ w w'
theorem Done.stops {log : ByteArray} {p : Nat} {lv : Value} {tv : Nat → Value} {w : World} {rb : Nat} {wr w' : World} {at_ : Nat} {ch : Nat → Chn} {lv' : Value} {tv' : Nat → Value} (h : Done log p lv tv w rb wr at_ ch lv' tv') (hs : Stops0 log at_ ch) {lv2 : Value} {tv2 : Nat → Value} (hv : VaultAt w' p lv2 tv2 ⟨log.data.toList.take at_, ch⟩) (ho : Out (foot p lv tv) w w') (hn : ∀ q, foot p lv2 tv2 q → foot p lv tv q ∨ w.heap.size ≤ q) :
    ∃ n ch, openF log = (ch, n) ∧ n ≤ log.size ∧ ChOk ch ∧ Moves p lv tv ⟨log.data.toList.take n, ch⟩ w w' := by
  obtain ⟨f, hf, _⟩ := h.go
  exact ⟨at_, ch, by rw [hf]; exact hs f, h.le, h.ok, lv2, tv2, hv, ho, hn⟩
/-- A record more is done. -/
theorem Done.more {log : ByteArray} {p : Nat} {lv : Value} {tv : Nat → Value} {w : World} {rb : Nat} {wr w' : World} {at_ n body : Nat} {ch ch2 : Nat → Chn} {lv' : Value} {tv' : Nat → Value} {r : Rec} (h : Done log p lv tv w rb wr at_ ch lv' tv') (hlt : at_ < log.size) (hn : numF log at_ = .inr (n, body)) (hsz : body + n + 4 ≤ log.size) (hrec : recL (log.extract body (body + n)).data.toList = (log.extract at_ (body + n + 4)).data.toList)
    (hrr : recOf (log.extract body (body + n)) = some r) (hdo : r.does ch = some ch2) (hr : RAt w' rb log (body + n + 4)) {lv2 : Value} {tv2 : Nat → Value} (hv : VaultAt w' p lv2 tv2 ⟨log.data.toList.take at_ ++ (log.extract at_ (body + n + 4)).data.toList, ch2⟩) (ho : Out (foot p lv tv) w w') (hnew : ∀ q, foot p lv2 tv2 q → foot p lv tv q ∨ w.heap.size ≤ q) :
    Done log p lv tv w rb w' (body + n + 4) ch2 lv2 tv2 := by
  obtain ⟨f, hf, hfl⟩ := h.go
  have hd : doesF ch (log.extract body (body + n)) = some ch2 := by rw [doesF_rec, hrr]; exact hdo
  have hbody := (numF_ok h.le hn).2.1
  have hpre : log.data.toList.take at_ ++ (log.extract at_ (body + n + 4)).data.toList = log.data.toList.take (body + n + 4) := by
    rw [mid_data, ← List.take_add, show at_ + (body + n + 4 - at_) = body + n + 4 by omega]
  rw [hpre] at hv
  refine ⟨hr, hsz, hv, ho, hnew, does_ok h.ok (does_size hd) hd, f - 1, ?_, by omega⟩
  rw [hf, show f = (f - 1) + 1 by omega, go_rec hlt hn (by omega) hrec hd, show f - 1 + 1 - 1 = f - 1 by omega]
/-- A round's end. -/
structure DoneR (log : ByteArray) (p : Nat) (lv : Value) (tv : Nat → Value) (w : World) (rb : Nat) (wr : World) : Prop where
  ex : ∃ at_ ch lv' tv', Done log p lv tv w rb wr at_ ch lv' tv'
theorem done_first {log : ByteArray} {p : Nat} {lv : Value} {tv : Nat → Value} {w : World} (hv : VaultAt w p lv tv noVault) : Done log p lv tv w w.heap.size (w.alloc (.cells #[.string log, .int .i64 0] 144)) 0 noCh lv tv := by
  have hb : Below w.heap.size w (w.alloc (.cells #[.string log, .int .i64 0] 144)) := (Below.refl _ _).alloc (Nat.le_refl _) _
  exact ⟨heap_alloc_new _ _, Nat.zero_le _, by rw [List.take_zero]; exact hv.below hb, Out.of_below hb, fun q hq => .inl hq, noCh_ok, ⟨log.size, rfl, Nat.le_refl _⟩⟩
theorem Done.moved {log : ByteArray} {p : Nat} {lv : Value} {tv : Nat → Value} {w : World} {rb : Nat} {wr w' : World} {at_ : Nat} {ch : Nat → Chn} {lv' : Value} {tv' : Nat → Value} (h : Done log p lv tv w rb wr at_ ch lv' tv') (hrb : w.heap.size ≤ rb) (hm : Moved rb wr w') : VaultAt w' p lv' tv' ⟨log.data.toList.take at_, ch⟩ ∧ Out (foot p lv tv) w w' := by
  refine ⟨h.vault.moved h.rd hm, ⟨hm.os.trans h.out.os, hm.tape.trans h.out.tape, hm.output.trans h.out.output, Nat.le_trans h.out.size hm.size, fun q hq hn => (hm.block q (Nat.lt_of_lt_of_le hq h.out.size) (by omega)).trans (h.out.block q hq hn)⟩⟩

set_option maxHeartbeats 16000000 in
theorem replay_any (log : ByteArray) (p : Nat) (lv : Value) (tv : Nat → Value) (w : World) (hv : VaultAt w p lv tv noVault) (hs : log.size ≤ 20000) :
    Calls Tryz.prog 67 #[.pointer (some ⟨p, 0, none⟩), .string log] w (ReplayPost log p lv tv w) := by
  have HD0 : Hid (Done log p lv tv w w.heap.size (w.alloc (.cells #[.string log, .int .i64 0] 144)) 0 noCh lv tv) := done_first hv
  clear hv
  go_enter Tryz.func67, Tryz.ntmps67
  go_wp2_with fail
  refine (newreader_any log _).mono ?_
  rintro e w1 ⟨rfl, rfl⟩
  generalize (w.alloc (.cells #[.string log, .int .i64 0] 144)) = W1 at *
  generalize hrb : w.heap.size = rb at *
  have HRB : Hid (w.heap.size ≤ rb) := by unfold Hid; omega
  clear hrb
  go_wp2
  go_loopw [5] (fun _ wr => DoneR log p lv tv w rb wr) (fun _ wr => log.size + 1 - atOf wr rb)
  case atStart => exact ⟨_, _, _, _, HD0.out⟩
  case round =>
    obtain ⟨at_, ch, lv', tv', hd⟩ := hrel.ex
    have HD : Hid (Done log p lv tv w rb wr at_ ch lv' tv') := hd
    have HR : Hid (RAt wr rb log at_) := hd.rd
    have hle := hd.le
    clear hrel hd HD0
    go_wp2_with fail
    refine (atend_any rb log at_ _ HR.out).mono ?_
    rintro e w2 ⟨rfl, k, rfl⟩
    by_cases hend : at_ = log.size
    · rw [show decide (at_ = log.size) = true from by simpa using hend]
      have HP : Hid (∃ n ch, openF log = (ch, n) ∧ n ≤ log.size ∧ ChOk ch ∧ Moves p lv tv ⟨log.data.toList.take n, ch⟩ w (wr.drewN k)) := HD.out.stops (stop_end (by omega)) (HD.out.vault.drewN k) (HD.out.out.drewN k) HD.out.new
      go_wp2
      (try simp only [Exit.inBlock, Exit.then])
      first | refine bodyPost_ret (results_none rfl _ _ _) rfl ?_ | refine bodyPost_end (results_none rfl _ _ _) rfl ?_
      exact ⟨.inl rfl, HP.out⟩
    · rw [show decide (at_ = log.size) = false from by simpa using hend]
      go_wp2_with fail
      refine (at_any rb log at_ _ (HR.out.drewN k)).mono ?_
      rintro e w3 ⟨rfl, rfl⟩
      go_wp2_with fail
      refine (recread_any rb log at_ _ (HR.out.drewN k) hle hs).mono ?_
      rintro e w3 ⟨hcase, m3⟩
      have HM3 : Hid (Moved rb wr w3) := (Moved.of_below (below_drewN0 _ _ k)).trans m3
      clear m3
      rcases hcase with ⟨q, rfl, hst⟩ | ⟨n, body, r, v, hn, hsz, hrec, hrr, rfl, hv3, r3⟩
      · have HP : Hid (∃ n ch, openF log = (ch, n) ∧ n ≤ log.size ∧ ChOk ch ∧ Moves p lv tv ⟨log.data.toList.take n, ch⟩ w w3) := HD.out.stops (hst ch) (HD.out.moved HRB.out HM3.out).1 (HD.out.moved HRB.out HM3.out).2 HD.out.new
        clear hst
        go_wp2
        exact ⟨rfl, .inr ⟨q, rfl⟩, HP.out⟩
      · have hrok := recOf_ok hrr
        obtain ⟨T, x, KD, z, hvx, hdoer⟩ := rec_doer hv3 hrok
        subst hvx
        have hc4 := hrok.1
        have HV3 : Hid (VaultAt w3 p lv' tv' ⟨log.data.toList.take at_, ch⟩) := (HD.out.moved HRB.out HM3.out).1
        have HO3 : Hid (Out (foot p lv tv) w w3) := (HD.out.moved HRB.out HM3.out).2
        have HR3 : Hid (RAt w3 rb log (body + n + 4)) := r3
        have HOK : Hid (Vlt.Ok ⟨log.data.toList.take at_, ch⟩) := HD.out.ok.ok (by rw [List.length_take, ← Lib.size_eq]; omega)
        have hmC := hdoer.chain
        have hmD := hdoer.do_
        have hfD := hdoer.enter
        have hnA := hdoer.ahead
        have HDO : Hid (∀ W, Below w3.heap.size w3 W → Calls Tryz.prog KD #[x, .pointer (some ⟨p, 1 + r.c * 2, none⟩)] W fun e w' => ∃ b, e = .returned (.bool b) ∧ Hid (DoPost p lv' tv' ⟨log.data.toList.take at_, ch⟩ (r.does ch) w3 (.returned (.bool b)) w')) := fun W hW => (hdoer.does W p lv' tv' _ hW (HV3.out.below hW) HOK.out).mono fun e w' h => by
          obtain ⟨b, rfl⟩ := h.bool
          exact ⟨b, rfl, h.ahead hW⟩
        have HF : Hid (numF log at_ = .inr (n, body) ∧ body + n + 4 ≤ log.size ∧ recL (log.extract body (body + n)).data.toList = (log.extract at_ (body + n + 4)).data.toList ∧ recOf (log.extract body (body + n)) = some r) := ⟨hn, hsz, hrec, hrr⟩
        have hmf : ∀ (fn : Fn) (first cap : Array Value) (w : World), (Instr.makeFunc fn first cap).run Tryz.prog w = .ok (.func fn first cap) w := fun _ _ _ _ => rfl
        have hcI : (r.c : Int) < 4 := by omega
        clear hn hrec hrr hv3 r3 hdoer hrok
        generalize r.c = rc at *
        go_upto_region 4 with fail
        go_cut [27] (fun vb wx => ∃ b, vb = .bool (!b) ∧ Hid (DoPost p lv' tv' ⟨log.data.toList.take at_, ch⟩ (r.does ch) w3 (.returned (.bool b)) wx))
        case first =>
          go_region_with (first | (go_at_call 125; refine (hchain_any z rc _).mono ?_; rintro e w4 ⟨rfl, b4⟩) | (refine (HDO.out w4 ((Below.refl _ _).drew.trans b4)).mono ?_; rintro e w5 ⟨b, rfl, HP5⟩))
          all_goals
            clear b4
            go_wp2_with fail
            go_meet
            exact ⟨b, rfl, HP5⟩
        case rest =>
          obtain ⟨b, rfl, HP⟩ := hcut
          generalize wc = W5 at *
          clear hmC hmD hfD hnA hmf HDO
          rcases HP.out with ⟨hno, hb, hm⟩ | ⟨ch2, hyes, hb, hm⟩
          · injection hb with hb
            injection hb with hb
            subst hb
            obtain ⟨lv5, tv5, v5, o5, n5⟩ := hm
            have HPP : Hid (∃ n ch, openF log = (ch, n) ∧ n ≤ log.size ∧ ChOk ch ∧ Moves p lv tv ⟨log.data.toList.take n, ch⟩ w W5) := HD.out.stops (stop_does HF.out.1 (by rw [doesF_rec, HF.out.2.2.2]; exact hno)) v5 (HO3.out.trans o5 HD.out.new) (fun q hq => by
              have := HO3.out.size
              rcases n5 q hq with y | y
              · exact HD.out.new q y
              · exact .inr (by omega))
            clear v5 o5 n5 hno HP
            go_wp2_with fail
            refine (giveup_any at_ _).mono ?_
            rintro e w6 ⟨rfl, rfl⟩
            go_wp2
            exact ⟨rfl, .inr ⟨at_, rfl⟩, HPP.out⟩
          · injection hb with hb
            injection hb with hb
            subst hb
            obtain ⟨lv5, tv5, v5, o5, n5⟩ := hm
            have HV5 : Hid (VaultAt W5 p lv5 tv5 ⟨log.data.toList.take at_, ch2⟩) := v5
            have HR5 : Hid (RAt W5 rb log (body + n + 4)) := HR3.out.out HV3.out o5
            have HO5 : Hid (Out (foot p lv tv) w W5) := HO3.out.trans o5 HD.out.new
            have HN5 : Hid (∀ q, foot p lv5 tv5 q → foot p lv tv q ∨ w.heap.size ≤ q) := fun q hq => by
              have := HO3.out.size
              rcases n5 q hq with y | y
              · exact HD.out.new q y
              · exact .inr (by omega)
            have HY : Hid (r.does ch = some ch2) := hyes
            have k0 := v5.cell0
            have f0 := v5.frozen 0
            have hp5 := v5.lt
            have hlp := v5.logp
            have hlog5 := v5.log
            obtain ⟨lo, lc, hlv⟩ := hlog5.slice
            have hLL : (log.data.toList.take at_).length = at_ := by rw [List.length_take, ← Lib.size_eq]; omega
            rw [hLL] at hlv
            rw [hlv] at k0 hlp hlog5
            have HLG : Hid (OwnBytes W5 0 (.slice lo at_ lc) (log.data.toList.take at_)) := hlog5
            have hbody := (numF_ok hle HF.out.1).2.1
            have hE : (log.extract at_ (body + n + 4)).size = body + n + 4 - at_ := size_ext _ _ _ (by omega)
            have hEp : 0 < (log.extract at_ (body + n + 4)).size := by omega
            have hEl : (log.data.toList.take at_).length + (log.extract at_ (body + n + 4)).size ≤ 1000000 := by omega
            have s1 : (0 : Int) ≤ (at_ : Int) := by omega
            have s2 : (at_ : Int) ≤ ((body + n + 4 : Nat) : Int) := by omega
            have s3 : ((body + n + 4 : Nat) : Int) ≤ (log.size : Int) := by omega
            have HME : Hid (at_ < log.size) := by unfold Hid; omega
            have HDM := fun (w' : World) (lv2 : Value) (tv2 : Nat → Value) (hr : RAt w' rb log (body + n + 4)) (hv : VaultAt w' p lv2 tv2 ⟨log.data.toList.take at_ ++ (log.extract at_ (body + n + 4)).data.toList, ch2⟩) (ho : Out (foot p lv tv) w w') (hnew : ∀ q, foot p lv2 tv2 q → foot p lv tv q ∨ w.heap.size ≤ q) => HD.out.more HME.out HF.out.1 HF.out.2.1 HF.out.2.2.1 HF.out.2.2.2 HY.out hr hv ho hnew
            have HDMH : Hid (∀ (w' : World) (lv2 : Value) (tv2 : Nat → Value), RAt w' rb log (body + n + 4) → VaultAt w' p lv2 tv2 ⟨log.data.toList.take at_ ++ (log.extract at_ (body + n + 4)).data.toList, ch2⟩ → Out (foot p lv tv) w w' → (∀ q, foot p lv2 tv2 q → foot p lv tv q ∨ w.heap.size ≤ q) → Done log p lv tv w rb w' (body + n + 4) ch2 lv2 tv2) := HDM
            have hat2 : at_ < body + n + 4 := by omega
            have HL6 : Hid ((log.data.toList.take at_ ++ (log.extract at_ (body + n + 4)).data.toList).length = body + n + 4) := by unfold Hid; rw [List.length_append, hLL, ← Lib.size_eq, hE]; omega
            clear v5 o5 n5 hyes HP hlog5 HDM hE HO3 HV3 HR3 HM3 HR HOK
            generalize body + n + 4 = at2 at *
            go_wp2_with fail
            go_region_law
              (first | (go_simp; go_at_call 85; refine (at_any rb log at2 _ (HR5.out.drewN 1)).mono ?_; rintro e w6 ⟨rfl, rfl⟩) | (refine step_str_lies rfl (.tmp 34) (.tmp 39) rfl 0 (.slice lo at_ lc) (log.data.toList.take at_) (by simp [Act.eval, Act.put]) HLG.out (log.extract at_ at2) (by simp [Act.eval, Act.put]) hEp hEl (Nat.zero_le _) ?_; intro v6 w6 o6 g6 a6; obtain ⟨ao6, cp6, hv6⟩ := o6.slice; rw [HL6.out] at hv6; subst hv6; have e6 := (World.cell?_of_block (a := ⟨p, 0, none⟩) (g6.block p hp5 (Ne.symm hlp))).trans k0; have f6 := (World.frozen?_of_block (a := ⟨p, 0, none⟩) (g6.block p hp5 (Ne.symm hlp))).trans f0))
            all_goals
              have hLG := HV5.out.logged (w2 := w6) (lv' := .slice ao6 at2 cp6) (bs := log.data.toList.take at_ ++ (log.extract at_ at2).data.toList) (by rw [hlv]; exact ⟨g6.os, g6.tape, g6.output, g6.size, g6.block⟩) o6 (by
                rw [hlv]
                rcases a6 with y | y
                · exact .inl y
                · exact .inr ⟨_, y, Nat.le_refl _⟩)
              obtain ⟨hV6, hO6, hS6⟩ := hLG
              have HDN : Hid (Done log p lv tv w rb (w6.setCell ⟨p, 0, none⟩ (.slice ao6 at2 cp6)) at2 ch2 (.slice ao6 at2 cp6) tv5) := HDMH.out _ _ _ (HR5.out.out HV5.out hO6) hV6 (HO5.out.trans hO6 HN5.out) (fun q hq => by
                have := HO5.out.size
                rcases hS6 q hq with y | y
                · exact HN5.out q y
                · exact .inr (by omega))
              have hA1 : atOf wr rb = at_ := HD.out.rd.at_of
              have hA2 : atOf (w6.setCell ⟨p, 0, none⟩ (.slice ao6 at2 cp6)) rb = at2 := HDN.out.rd.at_of
              have hA3 := HME.out
              have HA : Hid (log.size + 1 - atOf (w6.setCell ⟨p, 0, none⟩ (.slice ao6 at2 cp6)) rb < log.size + 1 - atOf wr rb) := by unfold Hid; rw [hA1, hA2]; omega
              clear hV6 hO6 hS6 o6 g6 a6 e6 f6 hA1 hA2
              go_wp2
              go_roundw
              case rel => exact ⟨_, _, _, _, HDN.out⟩
              case measure => exact HA.out
end Go.Proofs.YtabpiaaknjcnkabGreat
