/- The texts VL, VM, ZQ, one behind the other. -/
import Derived.Test.YtabpiaaknjcnkaaGreatXYPVK
import Derived.Test.YtabpiaaknjcnkaaGreatXV7YC
import Derived.Defers
import Derived.Recover
import Derived.Test.YtabpiaaknjcnkaaGreatXYKZVZX
/-
  The walk over Replay.
-/
namespace Go.Proofs.YtabpiaaknjcnkaaGreat
open Go.RowKit
set_option linter.unusedVariables false
set_option linter.unusedSimpArgs false
set_option maxRecDepth 100000

/-- How far a log was done. -/
structure Done (log : ByteArray) (p : Nat) (lv : Value) (tv : Nat → Value) (w : World) (rb : Nat) (wr : World) (at_ : Nat) (ch : Nat → Chn) (lv' : Value) (tv' : Nat → Value) : Prop where
  rd : RAt wr rb log at_
  le : at_ ≤ log.size
  vault : VaultAt wr p lv' tv' ⟨log.data.toList.take at_, ch⟩
  out : Out (foot p lv tv) w wr
  new : ∀ q, foot p lv' tv' q → foot p lv tv q ∨ w.heap.size ≤ q
  ok : ChOk ch
  go : ∃ f, openF log = openGo log f at_ ch ∧ log.size ≤ f + at_
/-- What Replay leaves, whether it gave up or came to the end. -/
def ReplayPost (log : ByteArray) (p : Nat) (lv : Value) (tv : Nat → Value) (w : World) (e : Ending) (w' : World) : Prop :=
  (e = .returned (.tuple #[]) ∨ ∃ q, e = gaveUp q) ∧ ∃ n ch, openF log = (ch, n) ∧ n ≤ log.size ∧ ChOk ch ∧ Moves p lv tv ⟨log.data.toList.take n, ch⟩ w w'
theorem Done.stops {log : ByteArray} {p : Nat} {lv : Value} {tv : Nat → Value} {w : World} {rb : Nat} {wr w' : World} {at_ : Nat} {ch : Nat → Chn} {lv' : Value} {tv' : Nat → Value} (h : Done log p lv tv w rb wr at_ ch lv' tv') (hs : Stops0 log at_ ch) {lv2 : Value} {tv2 : Nat → Value} (hv : VaultAt w' p lv2 tv2 ⟨log.data.toList.take at_, ch⟩) (ho : Out (foot p lv tv) w w') (hn : ∀ q, foot p lv2 tv2 q → foot p lv tv q ∨ w.heap.size ≤ q) :
    ∃ n ch, openF log = (ch, n) ∧ n ≤ log.size ∧ ChOk ch ∧ Moves p lv tv ⟨log.data.toList.take n, ch⟩ w w' := by
  obtain ⟨f, hf, _⟩ := h.go
  exact ⟨at_, ch, by rw [hf]; exact hs f, h.le, h.ok, lv2, tv2, hv, ho, hn⟩
/-- A record more is done. -/
theorem Done.more {log : ByteArray} {p : Nat} {lv : Value} {tv : Nat → Value} {w : World} {rb : Nat} {wr w' : World} {at_ n body : Nat} {ch ch2 : Nat → Chn} {lv' : Value} {tv' : Nat → Value} {r : Rec} (h : Done log p lv tv w rb wr at_ ch lv' tv') (hlt : at_ < log.size) (hn : numF log at_ = .inr (n, body)) (hsz : body + n + 4 ≤ log.size) (hrec : recL (log.extract body (body + n)).data.toList = (log.extract at_ (body + n + 4)).data.toList)
    (hrr : recOf (log.extract body (body + n)) = some r) (hdo : r.does ch = some ch2) (hr : RAt w' rb log (body + n + 4)) {lv2 : Value} {tv2 : Nat → Value} (hv : VaultAt w' p lv2 tv2 ⟨log.data.toList.take at_ ++ (log.extract at_ (body + n + 4)).data.toList, ch2⟩) (ho : Out (foot p lv tv) w w') (hnew : ∀ q, foot p lv2 tv2 q → foot p lv tv q ∨ w.heap.size ≤ q) :
    Done log p lv tv w rb w' (body + n + 4) ch2 lv2 tv2 := by
  obtain ⟨f, hf, hfl⟩ := h.go
  have hd : doesF ch (log.extract body (body + n)) = some ch2 := by rw [doesF_rec, hrr]; exact hdo
  have hbody := (numF_ok h.le hn).2.1
  have hpre : log.data.toList.take at_ ++ (log.extract at_ (body + n + 4)).data.toList = log.data.toList.take (body + n + 4) := by
    rw [mid_data, ← List.take_add, show at_ + (body + n + 4 - at_) = body + n + 4 by omega]
  rw [hpre] at hv
  refine ⟨hr, hsz, hv, ho, hnew, does_ok h.ok (does_size hd) hd, f - 1, ?_, by omega⟩
  rw [hf, show f = (f - 1) + 1 by omega, go_rec hlt hn (by omega) hrec hd, show f - 1 + 1 - 1 = f - 1 by omega]
/-- A round's end. -/
structure DoneR (log : ByteArray) (p : Nat) (lv : Value) (tv : Nat → Value) (w : World) (rb : Nat) (wr : World) : Prop where
  ex : ∃ at_ ch lv' tv', Done log p lv tv w rb wr at_ ch lv' tv'
theorem done_first {log : ByteArray} {p : Nat} {lv : Value} {tv : Nat → Value} {w : World} (hv : VaultAt w p lv tv noVault) : Done log p lv tv w w.heap.size (w.alloc (.cells #[.string log, .int .i64 0] 177)) 0 noCh lv tv := by
  have hb : Below w.heap.size w (w.alloc (.cells #[.string log, .int .i64 0] 177)) := (Below.refl _ _).alloc (Nat.le_refl _) _
  exact ⟨heap_alloc_new _ _, Nat.zero_le _, by rw [List.take_zero]; exact hv.below hb, Out.of_below hb, fun q hq => .inl hq, noCh_ok, ⟨log.size, rfl, Nat.le_refl _⟩⟩
theorem Done.moved {log : ByteArray} {p : Nat} {lv : Value} {tv : Nat → Value} {w : World} {rb : Nat} {wr w' : World} {at_ : Nat} {ch : Nat → Chn} {lv' : Value} {tv' : Nat → Value} (h : Done log p lv tv w rb wr at_ ch lv' tv') (hrb : w.heap.size ≤ rb) (hm : Moved rb wr w') : VaultAt w' p lv' tv' ⟨log.data.toList.take at_, ch⟩ ∧ Out (foot p lv tv) w w' := by
  refine ⟨h.vault.moved h.rd hm, ⟨hm.os.trans h.out.os, hm.tape.trans h.out.tape, hm.output.trans h.out.output, Nat.le_trans h.out.size hm.size, fun q hq hn => (hm.block q (Nat.lt_of_lt_of_le hq h.out.size) (by omega)).trans (h.out.block q hq hn)⟩⟩

set_option maxHeartbeats 16000000 in
theorem replay_any (log : ByteArray) (p : Nat) (lv : Value) (tv : Nat → Value) (w : World) (hv : VaultAt w p lv tv noVault) (hs : log.size ≤ 20000) :
    Calls Tryz.prog 88 #[.pointer (some ⟨p, 0, none⟩), .string log] w (ReplayPost log p lv tv w) := by
  have HD0 : Hid (Done log p lv tv w w.heap.size (w.alloc (.cells #[.string log, .int .i64 0] 177)) 0 noCh lv tv) := done_first hv
  clear hv
  go_enter Tryz.func88, Tryz.ntmps88
  go_wp2_with fail
  refine (newreader_any log _).mono ?_
  rintro e w1 ⟨rfl, rfl⟩
  generalize (w.alloc (.cells #[.string log, .int .i64 0] 177)) = W1 at *
  generalize hrb : w.heap.size = rb at *
  have HRB : Hid (w.heap.size ≤ rb) := by unfold Hid; omega
  clear hrb
  go_wp2
  go_loopw [5] (fun _ wr => DoneR log p lv tv w rb wr) (fun _ wr => log.size + 1 - atOf wr rb)
  case atStart => exact ⟨_, _, _, _, HD0.out⟩
  case round =>
    obtain ⟨at_, ch, lv', tv', hd⟩ := hrel.ex
    have HD : Hid (Done log p lv tv w rb wr at_ ch lv' tv') := hd
    have HR : Hid (RAt wr rb log at_) := hd.rd
    have hle := hd.le
    clear hrel hd HD0
    go_wp2_with fail
    refine (atend_any rb log at_ _ HR.out).mono ?_
    rintro e w2 ⟨rfl, k, rfl⟩
    by_cases hend : at_ = log.size
    · rw [show decide (at_ = log.size) = true from by simpa using hend]
      have HP : Hid (∃ n ch, openF log = (ch, n) ∧ n ≤ log.size ∧ ChOk ch ∧ Moves p lv tv ⟨log.data.toList.take n, ch⟩ w (wr.drewN k)) := HD.out.stops (stop_end (by omega)) (HD.out.vault.drewN k) (HD.out.out.drewN k) HD.out.new
      go_wp2
      (try simp only [Exit.inBlock, Exit.then])
      first | refine bodyPost_ret (results_none rfl _ _ _) rfl ?_ | refine bodyPost_end (results_none rfl _ _ _) rfl ?_
      exact ⟨.inl rfl, HP.out⟩
    · rw [show decide (at_ = log.size) = false from by simpa using hend]
      go_wp2_with fail
      refine (at_any rb log at_ _ (HR.out.drewN k)).mono ?_
      rintro e w3 ⟨rfl, rfl⟩
      go_wp2_with fail
      refine (recread_any rb log at_ _ (HR.out.drewN k) hle hs).mono ?_
      rintro e w3 ⟨hcase, m3⟩
      have HM3 : Hid (Moved rb wr w3) := (Moved.of_below (below_drewN0 _ _ k)).trans m3
      clear m3
      rcases hcase with ⟨q, rfl, hst⟩ | ⟨n, body, r, v, hn, hsz, hrec, hrr, rfl, hv3, r3⟩
      · have HP : Hid (∃ n ch, openF log = (ch, n) ∧ n ≤ log.size ∧ ChOk ch ∧ Moves p lv tv ⟨log.data.toList.take n, ch⟩ w w3) := HD.out.stops (hst ch) (HD.out.moved HRB.out HM3.out).1 (HD.out.moved HRB.out HM3.out).2 HD.out.new
        clear hst
        go_wp2
        exact ⟨rfl, .inr ⟨q, rfl⟩, HP.out⟩
      · have hrok := recOf_ok hrr
        obtain ⟨T, x, KD, z, hvx, hdoer⟩ := rec_doer hv3 hrok
        subst hvx
        have hc4 := hrok.1
        have HV3 : Hid (VaultAt w3 p lv' tv' ⟨log.data.toList.take at_, ch⟩) := (HD.out.moved HRB.out HM3.out).1
        have HO3 : Hid (Out (foot p lv tv) w w3) := (HD.out.moved HRB.out HM3.out).2
        have HR3 : Hid (RAt w3 rb log (body + n + 4)) := r3
        have HOK : Hid (Vlt.Ok ⟨log.data.toList.take at_, ch⟩) := HD.out.ok.ok (by rw [List.length_take, ← Lib.size_eq]; omega)
        have hmC := hdoer.chain
        have hmD := hdoer.do_
        have hfD := hdoer.enter
        have hnA := hdoer.ahead
        have HDO : Hid (∀ W, Below w3.heap.size w3 W → Calls Tryz.prog KD #[x, .pointer (some ⟨p, 1 + r.c * 2, none⟩)] W fun e w' => ∃ b, e = .returned (.bool b) ∧ Hid (DoPost p lv' tv' ⟨log.data.toList.take at_, ch⟩ (r.does ch) w3 (.returned (.bool b)) w')) := fun W hW => (hdoer.does W p lv' tv' _ hW (HV3.out.below hW) HOK.out).mono fun e w' h => by
          obtain ⟨b, rfl⟩ := h.bool
          exact ⟨b, rfl, h.ahead hW⟩
        have HF : Hid (numF log at_ = .inr (n, body) ∧ body + n + 4 ≤ log.size ∧ recL (log.extract body (body + n)).data.toList = (log.extract at_ (body + n + 4)).data.toList ∧ recOf (log.extract body (body + n)) = some r) := ⟨hn, hsz, hrec, hrr⟩
        have hmf : ∀ (fn : Fn) (first cap : Array Value) (w : World), (Instr.makeFunc fn first cap).run Tryz.prog w = .ok (.func fn first cap) w := fun _ _ _ _ => rfl
        have hcI : (r.c : Int) < 4 := by omega
        clear hn hrec hrr hv3 r3 hdoer hrok
        generalize r.c = rc at *
        go_upto_region 4 with fail
        go_cut [27] (fun vb wx => ∃ b, vb = .bool (!b) ∧ Hid (DoPost p lv' tv' ⟨log.data.toList.take at_, ch⟩ (r.does ch) w3 (.returned (.bool b)) wx))
        case first =>
          go_region_with (first | (go_at_call 172; refine (hchain_any z rc _).mono ?_; rintro e w4 ⟨rfl, b4⟩) | (refine (HDO.out w4 ((Below.refl _ _).drew.trans b4)).mono ?_; rintro e w5 ⟨b, rfl, HP5⟩))
          all_goals
            clear b4
            go_wp2_with fail
            go_meet
            exact ⟨b, rfl, HP5⟩
        case rest =>
          obtain ⟨b, rfl, HP⟩ := hcut
          generalize wc = W5 at *
          clear hmC hmD hfD hnA hmf HDO
          rcases HP.out with ⟨hno, hb, hm⟩ | ⟨ch2, hyes, hb, hm⟩
          · injection hb with hb
            injection hb with hb
            subst hb
            obtain ⟨lv5, tv5, v5, o5, n5⟩ := hm
            have HPP : Hid (∃ n ch, openF log = (ch, n) ∧ n ≤ log.size ∧ ChOk ch ∧ Moves p lv tv ⟨log.data.toList.take n, ch⟩ w W5) := HD.out.stops (stop_does HF.out.1 (by rw [doesF_rec, HF.out.2.2.2]; exact hno)) v5 (HO3.out.trans o5 HD.out.new) (fun q hq => by
              have := HO3.out.size
              rcases n5 q hq with y | y
              · exact HD.out.new q y
              · exact .inr (by omega))
            clear v5 o5 n5 hno HP
            go_wp2_with fail
            refine (giveup_any at_ _).mono ?_
            rintro e w6 ⟨rfl, rfl⟩
            go_wp2
            exact ⟨rfl, .inr ⟨at_, rfl⟩, HPP.out⟩
          · injection hb with hb
            injection hb with hb
            subst hb
            obtain ⟨lv5, tv5, v5, o5, n5⟩ := hm
            have HV5 : Hid (VaultAt W5 p lv5 tv5 ⟨log.data.toList.take at_, ch2⟩) := v5
            have HR5 : Hid (RAt W5 rb log (body + n + 4)) := HR3.out.out HV3.out o5
            have HO5 : Hid (Out (foot p lv tv) w W5) := HO3.out.trans o5 HD.out.new
            have HN5 : Hid (∀ q, foot p lv5 tv5 q → foot p lv tv q ∨ w.heap.size ≤ q) := fun q hq => by
              have := HO3.out.size
              rcases n5 q hq with y | y
              · exact HD.out.new q y
              · exact .inr (by omega)
            have HY : Hid (r.does ch = some ch2) := hyes
            have k0 := v5.cell0
            have f0 := v5.frozen 0
            have hp5 := v5.lt
            have hlp := v5.logp
            have hlog5 := v5.log
            obtain ⟨lo, lc, hlv⟩ := hlog5.slice
            have hLL : (log.data.toList.take at_).length = at_ := by rw [List.length_take, ← Lib.size_eq]; omega
            rw [hLL] at hlv
            rw [hlv] at k0 hlp hlog5
            have HLG : Hid (OwnBytes W5 0 (.slice lo at_ lc) (log.data.toList.take at_)) := hlog5
            have hbody := (numF_ok hle HF.out.1).2.1
            have hE : (log.extract at_ (body + n + 4)).size = body + n + 4 - at_ := size_ext _ _ _ (by omega)
            have hEp : 0 < (log.extract at_ (body + n + 4)).size := by omega
            have hEl : (log.data.toList.take at_).length + (log.extract at_ (body + n + 4)).size ≤ 1000000 := by omega
            have s1 : (0 : Int) ≤ (at_ : Int) := by omega
            have s2 : (at_ : Int) ≤ ((body + n + 4 : Nat) : Int) := by omega
            have s3 : ((body + n + 4 : Nat) : Int) ≤ (log.size : Int) := by omega
            have HME : Hid (at_ < log.size) := by unfold Hid; omega
            have HDM := fun (w' : World) (lv2 : Value) (tv2 : Nat → Value) (hr : RAt w' rb log (body + n + 4)) (hv : VaultAt w' p lv2 tv2 ⟨log.data.toList.take at_ ++ (log.extract at_ (body + n + 4)).data.toList, ch2⟩) (ho : Out (foot p lv tv) w w') (hnew : ∀ q, foot p lv2 tv2 q → foot p lv tv q ∨ w.heap.size ≤ q) => HD.out.more HME.out HF.out.1 HF.out.2.1 HF.out.2.2.1 HF.out.2.2.2 HY.out hr hv ho hnew
            have HDMH : Hid (∀ (w' : World) (lv2 : Value) (tv2 : Nat → Value), RAt w' rb log (body + n + 4) → VaultAt w' p lv2 tv2 ⟨log.data.toList.take at_ ++ (log.extract at_ (body + n + 4)).data.toList, ch2⟩ → Out (foot p lv tv) w w' → (∀ q, foot p lv2 tv2 q → foot p lv tv q ∨ w.heap.size ≤ q) → Done log p lv tv w rb w' (body + n + 4) ch2 lv2 tv2) := HDM
            have hat2 : at_ < body + n + 4 := by omega
            have HL6 : Hid ((log.data.toList.take at_ ++ (log.extract at_ (body + n + 4)).data.toList).length = body + n + 4) := by unfold Hid; rw [List.length_append, hLL, ← Lib.size_eq, hE]; omega
            clear v5 o5 n5 hyes HP hlog5 HDM hE HO3 HV3 HR3 HM3 HR HOK
            generalize body + n + 4 = at2 at *
            go_wp2_with fail
            go_region_law
              (first | (go_simp; go_at_call 112; refine (at_any rb log at2 _ (HR5.out.drewN 1)).mono ?_; rintro e w6 ⟨rfl, rfl⟩) | (refine step_str_lies rfl (.tmp 34) (.tmp 39) rfl 0 (.slice lo at_ lc) (log.data.toList.take at_) (by simp [Act.eval, Act.put]) HLG.out (log.extract at_ at2) (by simp [Act.eval, Act.put]) hEp hEl (Nat.zero_le _) ?_; intro v6 w6 o6 g6 a6; obtain ⟨ao6, cp6, hv6⟩ := o6.slice; rw [HL6.out] at hv6; subst hv6; have e6 := (World.cell?_of_block (a := ⟨p, 0, none⟩) (g6.block p hp5 (Ne.symm hlp))).trans k0; have f6 := (World.frozen?_of_block (a := ⟨p, 0, none⟩) (g6.block p hp5 (Ne.symm hlp))).trans f0))
            all_goals
              have hLG := HV5.out.logged (w2 := w6) (lv' := .slice ao6 at2 cp6) (bs := log.data.toList.take at_ ++ (log.extract at_ at2).data.toList) (by rw [hlv]; exact ⟨g6.os, g6.tape, g6.output, g6.size, g6.block⟩) o6 (by
                rw [hlv]
                rcases a6 with y | y
                · exact .inl y
                · exact .inr ⟨_, y, Nat.le_refl _⟩)
              obtain ⟨hV6, hO6, hS6⟩ := hLG
              have HDN : Hid (Done log p lv tv w rb (w6.setCell ⟨p, 0, none⟩ (.slice ao6 at2 cp6)) at2 ch2 (.slice ao6 at2 cp6) tv5) := HDMH.out _ _ _ (HR5.out.out HV5.out hO6) hV6 (HO5.out.trans hO6 HN5.out) (fun q hq => by
                have := HO5.out.size
                rcases hS6 q hq with y | y
                · exact HN5.out q y
                · exact .inr (by omega))
              have hA1 : atOf wr rb = at_ := HD.out.rd.at_of
              have hA2 : atOf (w6.setCell ⟨p, 0, none⟩ (.slice ao6 at2 cp6)) rb = at2 := HDN.out.rd.at_of
              have hA3 := HME.out
              have HA : Hid (log.size + 1 - atOf (w6.setCell ⟨p, 0, none⟩ (.slice ao6 at2 cp6)) rb < log.size + 1 - atOf wr rb) := by unfold Hid; rw [hA1, hA2]; omega
              clear hV6 hO6 hS6 o6 g6 a6 e6 f6 hA1 hA2
              go_wp2
              go_roundw
              case rel => exact ⟨_, _, _, _, HDN.out⟩
              case measure => exact HA.out
end Go.Proofs.YtabpiaaknjcnkaaGreat

/-
  The walks over replay, open and Open of package coffer.
-/
namespace Go.Proofs.YtabpiaaknjcnkaaGreat
open Go.RowKit
set_option linter.unusedVariables false
set_option linter.unusedSimpArgs false
set_option maxRecDepth 100000

theorem assert_nil (xT : TypeId) (w : World) : (Instr.typeAssert .nilIface xT 128 true).run Tryz.prog w = .ok (.tuple #[.agg #[.int .i64 0], .bool false]) w := by
  kernel_rfl

set_option maxHeartbeats 2000000 in
theorem replay_idle (w : World) :
    CallsD Tryz.prog 87 #[] .returning w fun e u' w' => e = .returned (.tuple #[]) ∧ u' = .returning ∧ w' = w := by
  have hta := assert_nil
  refine callsD_of_wpS Tryz.func87 rfl fun c₀ cs hu => ?_
  apply wpS_seq
  apply wpS_region
  simp [wpOpsS, go_sem, recoverD, hu, Tryz.ntmps87, Exit.thenS]
  refine wpS_of_wp ?_
  go_wp2
  cases c₀
  simp_all [bodyPostS, results, Tryz.results87]

set_option maxHeartbeats 2000000 in
theorem replay_catch (p : Nat) (older : List PanicEntry) (w : World) :
    CallsD Tryz.prog 87 #[] (.panicking ({ v := .iface 128 (.agg #[.int .i64 p]), recovered := false } :: older)) w fun e u' w' =>
      e = .returned (.tuple #[]) ∧ u' = .panicking ({ v := .iface 128 (.agg #[.int .i64 p]), recovered := true } :: older) ∧ w' = w := by
  have hta := assert_fault
  refine callsD_of_wpS Tryz.func87 rfl fun c₀ cs hu => ?_
  apply wpS_seq
  apply wpS_region
  simp [wpOpsS, go_sem, recoverD, hu, Tryz.ntmps87, Exit.thenS]
  refine wpS_of_wp ?_
  go_wp2
  cases c₀
  simp_all [bodyPostS, results, Tryz.results87]

/-- What replay leaves. -/
def OpenedAt (log : ByteArray) (p : Nat) (lv : Value) (tv : Nat → Value) (w w' : World) : Prop := ∃ n ch, openF log = (ch, n) ∧ n ≤ log.size ∧ ChOk ch ∧ Moves p lv tv ⟨log.data.toList.take n, ch⟩ w w'

set_option maxHeartbeats 4000000 in
theorem creplay_any (log : ByteArray) (p : Nat) (lv : Value) (tv : Nat → Value) (w : World) (hv : VaultAt w p lv tv noVault) (hs : log.size ≤ 20000) :
    Calls Tryz.prog 45 #[.pointer (some ⟨p, 0, none⟩), .string log] w fun e w' => e = .returned (.tuple #[]) ∧ OpenedAt log p lv tv w w' := by
  have hmf : ∀ (fn : Fn) (first cap : Array Value) (w : World), (Instr.makeFunc fn first cap).run Tryz.prog w = .ok (.func fn first cap) w := fun _ _ _ _ => rfl
  have HC : Hid (Calls Tryz.prog 88 #[.pointer (some ⟨p, 0, none⟩), .string log] w (ReplayPost log p lv tv w)) := replay_any log p lv tv w hv hs
  clear hv
  go_enter_defers Tryz.func45, Tryz.ntmps45
  go_wp2_with fail
  refine HC.out.mono ?_
  rintro e w1 ⟨he, hO⟩
  have HO : Hid (OpenedAt log p lv tv w w1) := hO
  clear hO HC
  rcases he with rfl | ⟨q, rfl⟩
  · go_wp2
    refine leaves_cons (f := 87) (args := #[]) (by simp) (by simp [go_sem]) ?_
    refine (replay_idle _).mono ?_
    rintro e u' w'' ⟨rfl, rfl, rfl⟩
    simp [Leaves, settle, results, Tryz.results45, go_sem]
    exact HO.out
  · go_wp2
    refine leaves_cons (f := 87) (args := #[]) (by simp) (by simp [go_sem]) ?_
    refine (replay_catch q [] _).mono ?_
    rintro e u' w'' ⟨rfl, rfl, rfl⟩
    simp [Leaves, settle, results, Tryz.results45, go_sem]
    exact HO.out

/-- What Open does. -/
def OpenPost (log : ByteArray) (w : World) (e : Ending) (w' : World) : Prop :=
  ((20000 < log.size ∧ e = .returned (.tuple #[.pointer none, .int .i64 1, .int .i64 0])) ∨
    (log.size ≤ 20000 ∧ ∃ n ch lv tv, openF log = (ch, n) ∧ n ≤ log.size ∧ ChOk ch ∧ e = .returned (.tuple #[.pointer (some ⟨w.heap.size, 0, none⟩), .int .i64 0, .int .i64 n]) ∧ VaultAt w' w.heap.size lv tv ⟨log.data.toList.take n, ch⟩ ∧ ∀ q, foot w.heap.size lv tv q → w.heap.size ≤ q)) ∧ Below w.heap.size w w'

set_option maxHeartbeats 4000000 in
theorem open_any (log : ByteArray) (w : World) (hl : log.size ≤ 9223372036854775807) : Calls Tryz.prog 25 #[.string log] w (OpenPost log w) := by
  by_cases h : 20000 < log.size
  · go_enter Tryz.func25, Tryz.ntmps25
    go_wp2
    go_ret3
    exact ⟨.inl ⟨h, rfl⟩, Below.refl _ _⟩
  · have hs : log.size ≤ 20000 := by omega
    go_enter Tryz.func25, Tryz.ntmps25
    go_wp2_with fail
    refine (cnew_any _).mono ?_
    rintro e w1 ⟨rfl, hv1, b1⟩
    have HV1 : Hid (VaultAt w1 w.heap.size (.slice none 0 0) (fun _ => .slice none 0 0) noVault) := hv1
    have hs1 := b1.size
    clear hv1
    go_wp2_with fail
    refine (creplay_any log w.heap.size _ _ _ HV1.out hs).mono ?_
    rintro e w2 ⟨rfl, n, ch, hO, hn, hok, lv2, tv2, hv2, ho2, hn2⟩
    have hfoot : ∀ q, foot w.heap.size (.slice none 0 0) (fun _ => .slice none 0 0) q → w.heap.size ≤ q := by
      rintro q (e | e | ⟨i, hi, e⟩)
      · omega
      · cases e
      · cases e
    have HV2 : Hid (VaultAt w2 w.heap.size lv2 tv2 ⟨log.data.toList.take n, ch⟩) := hv2
    have HB2 : Hid (Below w.heap.size w w2) := ⟨ho2.os.trans b1.os, ho2.tape.trans b1.tape, ho2.output.trans b1.output, Nat.le_trans hs1 ho2.size, fun q hq => (ho2.block q (by omega) (fun hf => by have := hfoot q hf; omega)).trans (b1.block q hq)⟩
    have HF2 : Hid (∀ q, foot w.heap.size lv2 tv2 q → w.heap.size ≤ q) := fun q hq => by
      rcases hn2 q hq with y | y
      · exact hfoot q y
      · omega
    have HO : Hid (openF log = (ch, n) ∧ ChOk ch) := ⟨hO, hok⟩
    have HLG : Hid (Calls Tryz.prog 13 #[.pointer (some ⟨w.heap.size, 0, none⟩)] w2 fun e w' => e = .returned (.string ⟨(log.data.toList.take n).toArray⟩) ∧ w2 = w') := clog_any w.heap.size lv2 tv2 _ w2 hv2
    have hLz : (⟨(log.data.toList.take n).toArray⟩ : ByteArray).size = n := by rw [Lib.size_eq, bytes_of, List.length_take, ← Lib.size_eq]; omega
    generalize (⟨(log.data.toList.take n).toArray⟩ : ByteArray) = LL at *
    clear hv2 ho2 hn2 hO hok HV1 b1 hfoot
    go_wp2_with fail
    refine HLG.out.mono ?_
    rintro e w3 ⟨rfl, rfl⟩
    go_wp2
    go_ret3
    refine ⟨.inr ⟨hs, n, ch, lv2, tv2, HO.out.1, hn, HO.out.2, ?_, HV2.out, HF2.out⟩, HB2.out⟩
    simp [hLz]

set_option maxHeartbeats 2000000 in
theorem copen_any (log : ByteArray) (w : World) (hl : log.size ≤ 9223372036854775807) : Calls Tryz.prog 12 #[.string log] w (OpenPost log w) := by
  have HC : Hid (Calls Tryz.prog 25 #[.string log] w (OpenPost log w)) := open_any log w hl
  go_enter Tryz.func12, Tryz.ntmps12
  go_wp2_with fail
  refine HC.out.mono ?_
  rintro e w1 ⟨hcase, hb⟩
  rcases hcase with ⟨h1, rfl⟩ | ⟨h1, n, ch, lv, tv, h2, h3, h4, rfl, h5, h6⟩
  · go_wp2
    go_ret3
    exact ⟨.inl ⟨h1, rfl⟩, hb⟩
  · have HV : Hid (VaultAt w1 w.heap.size lv tv ⟨log.data.toList.take n, ch⟩ ∧ openF log = (ch, n) ∧ ChOk ch ∧ ∀ q, foot w.heap.size lv tv q → w.heap.size ≤ q) := ⟨h5, h2, h4, h6⟩
    clear h2 h4 h5 h6
    go_wp2
    go_ret3
    exact ⟨.inr ⟨h1, n, ch, lv, tv, HV.out.2.1, h3, HV.out.2.2.1, rfl, HV.out.1, HV.out.2.2.2⟩, hb⟩
end Go.Proofs.YtabpiaaknjcnkaaGreat

/-
  A vault more, by Open.
-/
namespace Go.Proofs.YtabpiaaknjcnkaaGreat
open Go.RowKit
set_option linter.unusedVariables false
set_option linter.unusedSimpArgs false
set_option maxRecDepth 100000

set_option maxHeartbeats 8000000 in
theorem opened_any {w : World} {B0 Wb : Nat} {xv yv bv : Value} {es : List Entry} {xs : List XV} {ys : List YV} {κ : Nat → Col} (h : WorldAt w B0 Wb xv yv bv es xs ys κ) (hsame : xs.map (·.s) = ys.map (·.s)) (h4 : xs.length ≤ 4) (log : ByteArray) (hls : log.size ≤ 9223372036854775807) :
    Calls Tryz.prog 31 #[.pointer (some ⟨Wb, 0, none⟩), .string log] w (Went B0 Wb es.length w) := by
  have HF : Hid (∀ w', Below w.heap.size w w' → Went B0 Wb es.length w (.returned (.bool true)) w') := fun w' hb => ⟨rfl, ⟨xv, yv, bv, es, xs, ys, κ, Nat.le_refl _, hsame, h4, h.below hb⟩, hb.mono h.low0⟩
  obtain ⟨i1, hi1, hj0, hj1, hj2⟩ := info_parts Tryz.infoVP
  obtain ⟨i2, hi2, hk0, hk1, hk2⟩ := info_parts Tryz.infoYP
  have hl : ys.length = xs.length := by have := congrArg List.length hsame; simpa using this.symm
  have kX := h.cellX
  have kY := h.cellY
  have hWb := h.lt
  have hB0 := h.low0
  have hfx := h.frozen 0
  have hfy := h.frozen 1
  obtain ⟨xo, xc, hxv⟩ := row_slice1 h.xrow
  obtain ⟨yo, yc, hyv⟩ := row_slice1 h.yrow
  have HW : Hid (WorldAt w B0 Wb xv yv bv es xs ys κ) := h
  have HS : Hid (xs.map (·.s) = ys.map (·.s)) := hsame
  have HL : Hid (ys.length = xs.length) := hl
  rw [hxv] at kX
  rw [hyv, hl] at kY
  rw [hl] at hyv
  have HXV : Hid (xv = .slice xo xs.length xc) := hxv
  have HYV : Hid (yv = .slice yo xs.length yc) := hyv
  clear h hsame hl hxv hyv
  obtain ⟨N, hN⟩ : ∃ N, N = xs.length := ⟨_, rfl⟩
  rw [← hN] at kX kY h4 HXV HYV HL
  have HN : Hid (xs.length = N) := hN.symm
  clear hN
  go_enter Tryz.func31, Tryz.ntmps31
  go_wp2_with fail
  refine (copen_any log _ hls).mono ?_
  rintro e w1 ⟨hcase, b1⟩
  have HO1 : Hid (Below w.heap.size w w1) := b1
  rcases hcase with ⟨hbig, rfl⟩ | ⟨hle, n, ch, lv, tv, hop, hnl, hco, rfl, hx, hxf⟩
  · clear b1
    go_wp2_with fail
    refine (yopen_any log _ hls).mono ?_
    rintro e w2 ⟨hcase2, b2⟩
    rcases hcase2 with ⟨_, rfl⟩ | ⟨hle2, _⟩
    · have B2 : Below w.heap.size w w2 := HO1.out.trans (b2.mono HO1.out.size)
      clear b2 kX kY hfx hfy
      go_wp2
      go_ret
      exact HF.out _ B2
    · omega
  · have HX1 : Hid (VaultAt w1 w.heap.size lv tv ⟨log.data.toList.take n, ch⟩ ∧ ∀ q, foot w.heap.size lv tv q → w.heap.size ≤ q) := ⟨hx, hxf⟩
    have HOP : Hid (openF log = (ch, n) ∧ ChOk ch) := ⟨hop, hco⟩
    clear b1 hx hxf hop hco
    go_wp2_with fail
    refine (yopen_any log _ hls).mono ?_
    rintro e w2 ⟨hcase2, b2⟩
    rcases hcase2 with ⟨hbig2, _⟩ | ⟨_, n', ch', yt, hop2, hnl2, hco2, rfl, hy, hyf⟩
    · omega
    · obtain ⟨rfl, rfl⟩ : ch' = ch ∧ n' = n := by
        have := HOP.out.1
        rw [hop2] at this
        injection this with e1 e2
        exact ⟨e1, e2⟩
      have HY2 : Hid (YAt w2 w1.heap.size yt ⟨log.data.toList.take n', ch'⟩ ∧ ∀ q, yfoot w1.heap.size yt q → w1.heap.size ≤ q) := ⟨hy, hyf⟩
      have HOK : Hid (Vlt.Ok ⟨log.data.toList.take n', ch'⟩) := HOP.out.2.ok (by rw [List.length_take]; omega)
      have HB2 : Hid (Below w1.heap.size w1 w2) := b2
      have B2 : Below w.heap.size w w2 := HO1.out.trans (b2.mono HO1.out.size)
      clear hy hyf hop2 hco2 b2
      have kX2 := (B2.cell (p := ⟨Wb, 0, none⟩) hWb).trans kX
      have kY2 := (B2.cell (p := ⟨Wb, 1, none⟩) hWb).trans kY
      have hWb2 := Nat.lt_of_lt_of_le hWb B2.size
      have hs2 := B2.size
      by_cases h44 : N = 4
      · have h4I : ¬ (N : Int) < 4 := by omega
        clear kX kY hfx hfy
        go_wp2
        go_ret
        exact HF.out _ B2
      · have h4I : (N : Int) < 4 := by omega
        have H1 : Hid (WorldAt w1 B0 Wb xv yv bv es xs ys (paint κ w.heap.size (3, xs.length))) := HW.out.fresh HO1.out (by simp) (by simp) (by simp) (fun i x hx => by have := (List.getElem?_eq_some_iff.1 hx).1; simp; omega) (fun i y hy => by simp)
        have H2 : Hid (WorldAt w2 B0 Wb xv yv bv es xs ys (paint (paint κ w.heap.size (3, xs.length)) w1.heap.size (4, ys.length))) := H1.out.fresh HB2.out (by simp) (by simp) (by simp) (fun i x hx => by simp) (fun i y hy => by have := (List.getElem?_eq_some_iff.1 hy).1; simp; omega)
        have HXF : Hid (∀ b, foot w.heap.size lv tv b → (paint (paint κ w.heap.size (3, xs.length)) w1.heap.size (4, ys.length)) b = (3, xs.length)) := fun b hb => by
          rw [paint_old (HX1.out.1.foot_lt b hb), paint_new (HX1.out.2 b hb)]
        have HYF : Hid (∀ b, yfoot w1.heap.size yt b → (paint (paint κ w.heap.size (3, xs.length)) w1.heap.size (4, ys.length)) b = (4, ys.length)) := fun b hb => paint_new (HY2.out.2 b hb)
        have fx2 := H2.out.frozen 0
        have fy2 := H2.out.frozen 1
        have HR1 : Hid ((w2.alloc (.cells #[.pointer (some ⟨w.heap.size, 0, none⟩)] 29)).ownsRow B0 29 1 (.slice xo N xc) N (xs.map XV.ptr)) := by
          have hx := H2.out.xrow
          rw [HXV.out, HN.out] at hx
          exact row_block hx (fun g hg => heap_alloc_old _ _ (row_own_lt hx hg))
        have HBB2 : Hid (Below w.heap.size w w2) := B2
        clear kX kY hfx hfy B2 HF h44
        go_wp2_with (first | (at_builtin; refine wpList_append_lies _ rfl _ _ 51 rfl B0 29 i1 (.pointer none) 1 8 Tryz.underlying51 hi1 hj0 hj1 hj2 rfl (by decide) (.slice xo N xc) N (xs.map XV.ptr) rfl HR1.out ⟨w2.heap.size, 0, none⟩ 1 1 [.pointer (some ⟨w.heap.size, 0, none⟩)] rfl rfl ?c2 ?c3 (by decide) ?c4 ?c5 ?c6 (w2.heap.size + 1) alloc_size1 ?_))
        case c2 => exact World.news_of_block (cs := #[.pointer (some ⟨w.heap.size, 0, none⟩)]) (heap_alloc_new _ _)
        case c3 => intro u hu; obtain rfl := List.mem_singleton.1 hu; rfl
        case c4 => unfold maxLen; omega
        case c5 => omega
        case c6 => rw [alloc_size1]; omega
        intro g2 cap2 w3 ho2 hg2 hat2 hlt2
        have O2 : Out (fun q => (paint (paint κ w.heap.size (3, xs.length)) w1.heap.size (4, ys.length)) q = (1, 0)) w2 w3 := (Out.of_below ((Below.refl w2.heap.size w2).alloc (Nat.le_refl _) _)).trans (Out.of_grown (F := fun q => (paint (paint κ w.heap.size (3, xs.length)) w1.heap.size (4, ys.length)) q = (1, 0)) hg2 (fun g e => H2.out.xcol g (by rw [HXV.out]; exact e))) (fun q hq => .inl hq)
        have hrow2 : w3.ownsRow B0 29 1 (.slice (some ⟨g2, 0, none⟩) (N + 1) cap2) (xs.length + 1) (xs.map XV.ptr ++ [(⟨w.heap.size, lv, tv, ⟨log.data.toList.take n', ch'⟩⟩ : XV).ptr]) := by rw [HN.out]; exact ho2
        have hat2' : (Value.slice (some ⟨g2, 0, none⟩) (N + 1) cap2).ownBlock = xv.ownBlock ∨ ∃ g, (Value.slice (some ⟨g2, 0, none⟩) (N + 1) cap2).ownBlock = some g ∧ w2.heap.size ≤ g := by
          rcases hat2 with e | e
          · exact .inl (by rw [HXV.out, e]; rfl)
          · exact .inr ⟨g2, rfl, by omega⟩
        have H3 : Hid (Below B0 w2 (w3.setCell ⟨Wb, 0, none⟩ (.slice (some ⟨g2, 0, none⟩) (N + 1) cap2)) ∧ WorldAt (w3.setCell ⟨Wb, 0, none⟩ (.slice (some ⟨g2, 0, none⟩) (N + 1) cap2)) B0 Wb (.slice (some ⟨g2, 0, none⟩) (N + 1) cap2) yv bv es (xs ++ [⟨w.heap.size, lv, tv, ⟨log.data.toList.take n', ch'⟩⟩]) ys (paint (paint (paint κ w.heap.size (3, xs.length)) w1.heap.size (4, ys.length)) w2.heap.size (1, 0))) := H2.out.turnX (x := ⟨w.heap.size, lv, tv, ⟨log.data.toList.take n', ch'⟩⟩) O2 hrow2 hat2' (HX1.out.1.below HB2.out) HXF.out HOK.out
        have HY3 : Hid (YAt (w3.setCell ⟨Wb, 0, none⟩ (.slice (some ⟨g2, 0, none⟩) (N + 1) cap2)) w1.heap.size yt ⟨log.data.toList.take n', ch'⟩) := by
          have hWc : (paint (paint κ w.heap.size (3, xs.length)) w1.heap.size (4, ys.length)) Wb = (0, 0) := H2.out.book.wbB.2
          refine HY2.out.1.kept (fun b hb => ?_) (by simpa using O2.size)
          have hc := HYF.out b hb
          exact (far1 (fun e => by rw [e, hWc] at hc; simp at hc)).trans (O2.block b (HY2.out.1.foot_lt b hb) (by rw [hc]; simp))
        have HYF3 : Hid (∀ b, yfoot w1.heap.size yt b → (paint (paint (paint κ w.heap.size (3, xs.length)) w1.heap.size (4, ys.length)) w2.heap.size (1, 0)) b = (4, ys.length)) := fun b hb => by rw [paint_old (HY2.out.1.foot_lt b hb)]; exact HYF.out b hb
        have e2 : w3.heap[Wb]? = w2.heap[Wb]? := O2.block Wb hWb2 (by rw [H2.out.book.wbB.2]; decide)
        have kX3 := (World.cell?_of_block (a := ⟨Wb, 0, none⟩) e2).trans kX2
        have kY3' := (World.cell?_of_block (a := ⟨Wb, 1, none⟩) e2).trans kY2
        have fx3 := (World.frozen?_of_block (a := ⟨Wb, 0, none⟩) e2).trans fx2
        have fy3' := (World.frozen?_of_block (a := ⟨Wb, 1, none⟩) e2).trans fy2
        have hWb3 : Wb < w3.heap.size := Nat.lt_of_lt_of_le hWb2 O2.size
        have kY3 : (w3.setCell ⟨Wb, 0, none⟩ (.slice (some ⟨g2, 0, none⟩) (N + 1) cap2)).cell? ⟨Wb, 1, none⟩ = some (.slice yo N yc) := (World.cell?_setCell_other _ _ _ _ (by simp)).trans kY3'
        have fy3 : (w3.setCell ⟨Wb, 0, none⟩ (.slice (some ⟨g2, 0, none⟩) (N + 1) cap2)).frozen? ⟨Wb, 1, none⟩ = false := H3.out.2.frozen 1
        have hs3 := O2.size
        have hz3 : (w3.setCell ⟨Wb, 0, none⟩ (.slice (some ⟨g2, 0, none⟩) (N + 1) cap2)).heap.size = w3.heap.size := by simp
        have HR4 : Hid (((w3.setCell ⟨Wb, 0, none⟩ (.slice (some ⟨g2, 0, none⟩) (N + 1) cap2)).alloc (.cells #[.pointer (some ⟨w1.heap.size, 0, none⟩)] 70)).ownsRow B0 70 1 (.slice yo N yc) N (ys.map YV.ptr)) := by
          have hx := H3.out.2.yrow
          rw [HYV.out, HL.out] at hx
          exact row_block hx (fun g hg => heap_alloc_old _ _ (row_own_lt hx hg))
        have hA4 : ((w3.setCell ⟨Wb, 0, none⟩ (.slice (some ⟨g2, 0, none⟩) (N + 1) cap2)).alloc (.cells #[.pointer (some ⟨w1.heap.size, 0, none⟩)] 70)).heap.size = w3.heap.size + 1 := by simp
        clear O2 hrow2 hat2 hat2' ho2 hg2 e2 kX2 kY2 fx2 fy2 HR1
        go_wp2_with (first | (at_builtin; refine wpList_append_lies _ rfl _ _ 52 rfl B0 70 i2 (.pointer none) 1 8 Tryz.underlying52 hi2 hk0 hk1 hk2 rfl (by decide) (.slice yo N yc) N (ys.map YV.ptr) rfl HR4.out ⟨w3.heap.size, 0, none⟩ 1 1 [.pointer (some ⟨w1.heap.size, 0, none⟩)] rfl rfl ?c2 ?c3 (by decide) ?c4 ?c5 ?c6 (w3.heap.size + 1) hA4 ?_))
        case c2 => exact World.news_of_block (cs := #[.pointer (some ⟨w1.heap.size, 0, none⟩)]) (alloc_at hz3)
        case c3 => intro u hu; obtain rfl := List.mem_singleton.1 hu; rfl
        case c4 => unfold maxLen; omega
        case c5 => omega
        case c6 => rw [hA4]; omega
        intro g5 cap5 w5 ho5 hg5 hat5 hlt5
        have O5 : Out (fun q => (paint (paint (paint κ w.heap.size (3, xs.length)) w1.heap.size (4, ys.length)) w2.heap.size (1, 0)) q = (2, 0)) (w3.setCell ⟨Wb, 0, none⟩ (.slice (some ⟨g2, 0, none⟩) (N + 1) cap2)) w5 := (Out.of_below ((Below.refl _ _).alloc (Nat.le_refl _) _)).trans (Out.of_grown (F := fun q => (paint (paint (paint κ w.heap.size (3, xs.length)) w1.heap.size (4, ys.length)) w2.heap.size (1, 0)) q = (2, 0)) hg5 (fun g e => H3.out.2.ycol g (by rw [HYV.out]; exact e))) (fun q hq => .inl hq)
        have hrow5 : w5.ownsRow B0 70 1 (.slice (some ⟨g5, 0, none⟩) (N + 1) cap5) (ys.length + 1) (ys.map YV.ptr ++ [(⟨w1.heap.size, yt, ⟨log.data.toList.take n', ch'⟩⟩ : YV).ptr]) := by rw [HL.out]; exact ho5
        have hat5' : (Value.slice (some ⟨g5, 0, none⟩) (N + 1) cap5).ownBlock = yv.ownBlock ∨ ∃ g, (Value.slice (some ⟨g5, 0, none⟩) (N + 1) cap5).ownBlock = some g ∧ (w3.setCell ⟨Wb, 0, none⟩ (.slice (some ⟨g2, 0, none⟩) (N + 1) cap2)).heap.size ≤ g := by
          rcases hat5 with e | e
          · exact .inl (by rw [HYV.out, e]; rfl)
          · exact .inr ⟨g5, rfl, by rw [hz3]; omega⟩
        have H6 : Hid (Below B0 (w3.setCell ⟨Wb, 0, none⟩ (.slice (some ⟨g2, 0, none⟩) (N + 1) cap2)) (w5.setCell ⟨Wb, 1, none⟩ (.slice (some ⟨g5, 0, none⟩) (N + 1) cap5)) ∧ WorldAt (w5.setCell ⟨Wb, 1, none⟩ (.slice (some ⟨g5, 0, none⟩) (N + 1) cap5)) B0 Wb (.slice (some ⟨g2, 0, none⟩) (N + 1) cap2) (.slice (some ⟨g5, 0, none⟩) (N + 1) cap5) bv es (xs ++ [⟨w.heap.size, lv, tv, ⟨log.data.toList.take n', ch'⟩⟩]) (ys ++ [(⟨w1.heap.size, yt, ⟨log.data.toList.take n', ch'⟩⟩ : YV)]) (paint (paint (paint (paint κ w.heap.size (3, xs.length)) w1.heap.size (4, ys.length)) w2.heap.size (1, 0)) (w3.setCell ⟨Wb, 0, none⟩ (.slice (some ⟨g2, 0, none⟩) (N + 1) cap2)).heap.size (2, 0))) := H3.out.2.turnY (y := (⟨w1.heap.size, yt, ⟨log.data.toList.take n', ch'⟩⟩ : YV)) O5 hrow5 hat5' HY3.out HYF3.out HOK.out
        have e5 : w5.heap[Wb]? = (w3.setCell ⟨Wb, 0, none⟩ (.slice (some ⟨g2, 0, none⟩) (N + 1) cap2)).heap[Wb]? := O5.block Wb (by rw [hz3]; exact hWb3) (by rw [H3.out.2.book.wbB.2]; decide)
        have kY5 := (World.cell?_of_block (a := ⟨Wb, 1, none⟩) e5).trans kY3
        have fy5 := (World.frozen?_of_block (a := ⟨Wb, 1, none⟩) e5).trans fy3
        have hWb5 : Wb < w5.heap.size := Nat.lt_of_lt_of_le (by rw [hz3]; exact hWb3) O5.size
        have HFIN : Hid (Went B0 Wb es.length w (.returned (.bool true)) (w5.setCell ⟨Wb, 1, none⟩ (.slice (some ⟨g5, 0, none⟩) (N + 1) cap5))) := by
          refine ⟨rfl, ⟨_, _, bv, es, _, _, _, Nat.le_refl _, ?_, ?_, H6.out.2⟩, ?_⟩
          · rw [List.map_append, List.map_append, HS.out]; rfl
          · rw [List.length_append, HN.out]; simp; omega
          · exact ((HBB2.out.mono hB0).trans H3.out.1).trans H6.out.1
        clear O5 hrow5 hat5 hat5' ho5 hg5 e5 kY3 fy3 HR4 H6 H3 hz3 hA4 H1 H2 HY3 HYF3 kX3 kY3' fx3 fy3'
        go_wp2
        go_ret
        exact HFIN.out
end Go.Proofs.YtabpiaaknjcnkaaGreat
