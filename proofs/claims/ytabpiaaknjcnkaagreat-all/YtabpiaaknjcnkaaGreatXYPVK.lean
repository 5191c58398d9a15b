/- The texts YP, VK, one behind the other. -/
import Derived.Test.YtabpiaaknjcnkaaGreatXYNdYNeYO
import Derived.Test.YtabpiaaknjcnkaaGreatXYKZVZX
import Derived.Test.YtabpiaaknjcnkaaGreatXVIVJYNbYNc
/-
  The document's Open.
-/
namespace Go.Proofs.YtabpiaaknjcnkaaGreat
open Go.RowKit
set_option linter.unusedVariables false
set_option linter.unusedSimpArgs false
set_option maxRecDepth 100000

/-- How far a log was done by the document. -/
structure YDone (log : ByteArray) (w wr : World) (at_ : Nat) (ch : Nat → Chn) (tv : Nat → Value) : Prop where
  le : at_ ≤ log.size
  vault : YAt wr w.heap.size tv ⟨[], ch⟩
  bel : Below w.heap.size w wr
  new : ∀ b, yfoot w.heap.size tv b → w.heap.size ≤ b
  ok : ChOk ch
  go : ∃ f, openF log = openGo log f at_ ch ∧ log.size ≤ f + at_
def YOpenPost (log : ByteArray) (w : World) (e : Ending) (w' : World) : Prop :=
  ((20000 < log.size ∧ e = .returned (.tuple #[.pointer none, .int .i64 1, .int .i64 0])) ∨
    (log.size ≤ 20000 ∧ ∃ n ch tv, openF log = (ch, n) ∧ n ≤ log.size ∧ ChOk ch ∧ e = .returned (.tuple #[.pointer (some ⟨w.heap.size, 0, none⟩), .int .i64 0, .int .i64 n]) ∧ YAt w' w.heap.size tv ⟨log.data.toList.take n, ch⟩ ∧ ∀ q, yfoot w.heap.size tv q → w.heap.size ≤ q)) ∧ Below w.heap.size w w'
theorem ydone_first (log : ByteArray) (w : World) : YDone log w (w.alloc (.cells #[.int .i64 0, .slice none 0 0, .int .i64 0, .slice none 0 0, .int .i64 0, .slice none 0 0, .int .i64 0, .slice none 0 0, .string ⟨#[]⟩] 69)) 0 noCh (fun _ => .slice none 0 0) := by
  refine ⟨Nat.zero_le _, yvault_new w, (Below.refl _ _).alloc (Nat.le_refl _) _, ?_, noCh_ok, ⟨log.size, rfl, Nat.le_refl _⟩⟩
  rintro b (rfl | ⟨i, hi, hb⟩)
  · exact Nat.le_refl _
  · cases hb
theorem YDone.below {log : ByteArray} {w wr w' : World} {at_ : Nat} {ch : Nat → Chn} {tv : Nat → Value} (h : YDone log w wr at_ ch tv) (hb : Below wr.heap.size wr w') : YDone log w w' at_ ch tv :=
  ⟨h.le, h.vault.below hb, h.bel.trans (hb.mono h.bel.size), h.new, h.ok, h.go⟩
theorem YDone.more {log : ByteArray} {w wr w' : World} {at_ n body : Nat} {ch ch2 : Nat → Chn} {tv : Nat → Value} (h : YDone log w wr at_ ch tv) (hlt : at_ < log.size) (hn : numF log at_ = .inr (n, body)) (hsz : body + n + 4 ≤ log.size) (hrec : recL (log.extract body (body + n)).data.toList = (log.extract at_ (body + n + 4)).data.toList)
    (hdo : doesF ch (log.extract body (body + n)) = some ch2) (hm : YMoves w.heap.size tv ⟨[], ch2⟩ wr w') : ∃ tv2, YDone log w w' (body + n + 4) ch2 tv2 := by
  obtain ⟨f, hf, hfl⟩ := h.go
  have hbody := (numF_ok h.le hn).2.1
  obtain ⟨tv2, h1, h2, h3⟩ := hm
  refine ⟨tv2, ⟨hsz, h1, ⟨h2.os.trans h.bel.os, h2.tape.trans h.bel.tape, h2.output.trans h.bel.output, Nat.le_trans h.bel.size h2.size, fun k hk => (h2.block k (Nat.lt_of_lt_of_le hk h.bel.size) (by omega)).trans (h.bel.block k hk)⟩, fun b hb => ?_, does_ok h.ok (does_size hdo) hdo, f - 1, ?_, by omega⟩⟩
  · rcases h3 b hb with x | x
    · exact h.new b x
    · have := h.bel.size; omega
  · rw [hf, show f = (f - 1) + 1 by omega, go_rec hlt hn (by omega) hrec hdo, show f - 1 + 1 - 1 = f - 1 by omega]
/-- The end. -/
theorem YDone.stop {log : ByteArray} {w wr : World} {at_ : Nat} {ch : Nat → Chn} {tv : Nat → Value} (h : YDone log w wr at_ ch tv) (hl : log.size ≤ 20000) (hs : Stops0 log at_ ch) :
    YOpenPost log w (.returned (.tuple #[.pointer (some ⟨w.heap.size, 0, none⟩), .int .i64 0, .int .i64 at_])) (wr.setCell ⟨w.heap.size, 8, none⟩ (.string (log.extract 0 at_))) := by
  obtain ⟨f, hf, _⟩ := h.go
  have e : log.extract 0 at_ = ⟨(log.data.toList.take at_).toArray⟩ := bytes_ext (by rw [mid_data]; simp)
  rw [e]
  obtain ⟨h1, h2⟩ := h.vault.logged (log.data.toList.take at_)
  exact ⟨.inr ⟨hl, at_, ch, tv, by rw [hf]; exact hs f, h.le, h.ok, rfl, h1, h.new⟩, ⟨h2.os.trans h.bel.os, h2.tape.trans h.bel.tape, h2.output.trans h.bel.output, Nat.le_trans h.bel.size h2.size, fun k hk => (h2.block k (Nat.lt_of_lt_of_le hk h.bel.size) (by omega)).trans (h.bel.block k hk)⟩⟩

set_option maxHeartbeats 16000000 in
theorem yopen_any (log : ByteArray) (w : World) (hl : log.size ≤ 9223372036854775807) : Calls Tryz.prog 71 #[.string log] w (YOpenPost log w) := by
  by_cases h : 20000 < log.size
  · go_enter Tryz.func71, Tryz.ntmps71
    go_wp2
    go_ret3
    exact ⟨.inl ⟨h, rfl⟩, Below.refl _ _⟩
  · have h2 : log.size ≤ 20000 := by omega
    have HD0 : Hid (YDone log w (w.alloc (.cells #[.int .i64 0, .slice none 0 0, .int .i64 0, .slice none 0 0, .int .i64 0, .slice none 0 0, .int .i64 0, .slice none 0 0, .string ⟨#[]⟩] 69)) 0 noCh (fun _ => .slice none 0 0)) := ydone_first log w
    clear h
    go_enter Tryz.func71, Tryz.ntmps71
    go_wp2
    go_loopw [6] (fun c wr => ∃ (at_ : Nat) (ch : Nat → Chn) (tv : Nat → Value), at_ ≤ log.size ∧ c = .int .i64 at_ ∧ Hid (YDone log w wr at_ ch tv)) (fun c _ => log.size + 1 - (intOf c).toNat)
    case atStart => exact ⟨0, noCh, _, by omega, rfl, HD0⟩
    case round =>
      obtain ⟨at_, ch, tv, hle, rfl, HD⟩ := hrel
      clear HD0
      by_cases hlt : at_ < log.size
      · have hltI : (at_ : Int) < (log.size : Int) := by omega
        cases hn : numF log at_ with
        | inl q =>
          have HN : Hid (∀ W : World, Calls Tryz.prog 104 #[.string log, .int .i64 at_, .int .i64 2147483647] W fun e w' => e = .returned (.tuple #[.int .i64 0, .int .i64 0, .int .i64 q]) ∧ W = w') := fun W => by
            have := rnum_any log at_ 2147483647 W hle (by omega) (by omega)
            rw [numR_bad hn] at this; exact this
          have HSP : Hid (Stops0 log at_ ch) := stop_num hn
          clear hn
          go_wp2_with fail
          refine (HN.out _).mono ?_
          rintro e w0 ⟨rfl, rfl⟩
          have HST : Hid (YOpenPost log w (.returned (.tuple #[.pointer (some ⟨w.heap.size, 0, none⟩), .int .i64 0, .int .i64 at_])) (wr.setCell ⟨w.heap.size, 8, none⟩ (.string (log.extract 0 at_)))) := HD.out.stop h2 HSP.out
          have kz : wr.cell? ⟨w.heap.size, 8, none⟩ = some (.string ⟨#[]⟩) := HD.out.vault.cellL
          have fz : wr.frozen? ⟨w.heap.size, 8, none⟩ = false := HD.out.vault.frozen 8
          have hq : w.heap.size < wr.heap.size := HD.out.vault.lt
          have haI : (at_ : Int) ≤ (log.size : Int) := by omega
          go_wp2
          go_ret3
          exact HST.out
        | inr x =>
          obtain ⟨n, body⟩ := x
          obtain ⟨hn1, hn2, hn3⟩ := numF_ok hle hn
          have HN : Hid (∀ W : World, Calls Tryz.prog 104 #[.string log, .int .i64 at_, .int .i64 2147483647] W fun e w' => e = .returned (.tuple #[.int .i64 n, .int .i64 body, .int .i64 (-1)]) ∧ W = w') := fun W => by
            have := rnum_any log at_ 2147483647 W hle (by omega) (by omega)
            rw [numR_ok hn (by omega)] at this; exact this
          have u1 : IntKind.i64.wrap ((body : Int) + (n : Int)) = (body : Int) + (n : Int) := by rw [IntKind.wrap_i64]; omega
          have u2 : IntKind.i64.wrap ((body : Int) + (n : Int) + 4) = (body : Int) + (n : Int) + 4 := by rw [IntKind.wrap_i64]; omega
          have HNF : Hid (numF log at_ = .inr (n, body)) := hn
          clear hn
          by_cases hsz : log.size < body + n + 4
          · have hszI : (log.size : Int) < (body : Int) + (n : Int) + 4 := by omega
            have HSP : Hid (Stops0 log at_ ch) := stop_short HNF.out hsz
            clear HNF
            go_wp2_with fail
            refine (HN.out _).mono ?_
            rintro e w0 ⟨rfl, rfl⟩
            have HST : Hid (YOpenPost log w (.returned (.tuple #[.pointer (some ⟨w.heap.size, 0, none⟩), .int .i64 0, .int .i64 at_])) (wr.setCell ⟨w.heap.size, 8, none⟩ (.string (log.extract 0 at_)))) := HD.out.stop h2 HSP.out
            have kz : wr.cell? ⟨w.heap.size, 8, none⟩ = some (.string ⟨#[]⟩) := HD.out.vault.cellL
            have fz : wr.frozen? ⟨w.heap.size, 8, none⟩ = false := HD.out.vault.frozen 8
            have hq : w.heap.size < wr.heap.size := HD.out.vault.lt
            have haI : (at_ : Int) ≤ (log.size : Int) := by omega
            go_wp2
            go_ret3
            exact HST.out
          · have hszI : ¬ (log.size : Int) < (body : Int) + (n : Int) + 4 := by omega
            have HR : Hid (∀ W : World, Calls Tryz.prog 74 #[.string (log.extract body (body + n))] W fun e w' => e = .returned (.string ⟨(recL (log.extract body (body + n)).data.toList).toArray⟩) ∧ Below W.heap.size W w') := fun W => yrecord_any _ W (by rw [ByteArray.size_extract]; omega)
            have e1 : ((body : Int) + (n : Int)).toNat = body + n := by omega
            have e2 : ((body : Int) + (n : Int) + 4).toNat = body + n + 4 := by omega
            have i1 : (body : Int) ≤ (body : Int) + (n : Int) := by omega
            have i2 : (body : Int) + (n : Int) ≤ (log.size : Int) := by omega
            have i3 : (at_ : Int) ≤ (body : Int) + (n : Int) + 4 := by omega
            have i4 : (body : Int) + (n : Int) + 4 ≤ (log.size : Int) := by omega
            obtain ⟨RB, hRB⟩ : ∃ RB : ByteArray, RB = ⟨(recL (log.extract body (body + n)).data.toList).toArray⟩ := ⟨_, rfl⟩
            have hRD : RB.data.toList = recL (log.extract body (body + n)).data.toList := by rw [hRB]
            rw [← hRB] at HR
            by_cases hc : recL (log.extract body (body + n)).data.toList = (log.extract at_ (body + n + 4)).data.toList
            · have hcm : (RB.toList == (log.extract at_ (body + n + 4)).toList) = true := by rw [ByteArray.toList_eq, ByteArray.toList_eq, hRD, hc]; simp
              have HC : Hid (recL (log.extract body (body + n)).data.toList = (log.extract at_ (body + n + 4)).data.toList) := hc
              have HDO : Hid (∀ W : World, Below wr.heap.size wr W → Calls Tryz.prog 105 #[.pointer (some ⟨w.heap.size, 0, none⟩), .string (log.extract body (body + n))] W (YDoes w.heap.size tv ⟨[], ch⟩ (doesF ch (log.extract body (body + n))) W)) := fun W hW => ydoes_any _ _ tv ⟨[], ch⟩ W ((HD.out.below hW).vault) (HD.out.ok.ok (by simp)) (by rw [ByteArray.size_extract]; omega)
              clear hRB hRD hc
              go_wp2_with fail
              refine (HN.out _).mono ?_
              rintro e w0 ⟨rfl, rfl⟩
              go_wp2_with fail
              go_region_with (first | (go_at_call 74; refine (HR.out _).mono ?_; rintro e w3 ⟨rfl, b3⟩))
              all_goals
                have B3 : Below wr.heap.size wr w3 := (Below.refl _ _).drew.trans b3
                have HD3 : Hid (YDone log w w3 at_ ch tv) := HD.out.below B3
                have HD4 := HDO.out w3 B3
                have HD5 : Hid (Calls Tryz.prog 105 #[.pointer (some ⟨w.heap.size, 0, none⟩), .string (log.extract body (body + n))] w3 (YDoes w.heap.size tv ⟨[], ch⟩ (doesF ch (log.extract body (body + n))) w3)) := HD4
                clear b3 B3 HD4 HDO hcm
                go_wp2_with fail
                refine HD5.out.mono ?_
                rintro e w4 hdo
                rcases hdo with ⟨hr, rfl, b4⟩ | ⟨ch2, hr, rfl, hm⟩
                · have HD6 : Hid (YDone log w w4 at_ ch tv) := HD3.out.below b4
                  have HSP : Hid (Stops0 log at_ ch) := stop_does HNF.out hr
                  clear b4 hr HD5 HD3 HNF HC
                  have HST : Hid (YOpenPost log w (.returned (.tuple #[.pointer (some ⟨w.heap.size, 0, none⟩), .int .i64 0, .int .i64 at_])) (w4.setCell ⟨w.heap.size, 8, none⟩ (.string (log.extract 0 at_)))) := HD6.out.stop h2 HSP.out
                  have kz : w4.cell? ⟨w.heap.size, 8, none⟩ = some (.string ⟨#[]⟩) := HD6.out.vault.cellL
                  have fz : w4.frozen? ⟨w.heap.size, 8, none⟩ = false := HD6.out.vault.frozen 8
                  have hq : w.heap.size < w4.heap.size := HD6.out.vault.lt
                  have haI : (at_ : Int) ≤ (log.size : Int) := by omega
                  go_wp2
                  go_ret3
                  exact HST.out
                · obtain ⟨tv2, hd2⟩ := HD3.out.more hlt HNF.out (by omega) HC.out hr hm
                  have HD6 : Hid (YDone log w w4 (body + n + 4) ch2 tv2) := hd2
                  clear hm hr hd2 HD5 HD3 HNF HC
                  go_wp2
                  go_roundw
                  case rel => exact ⟨body + n + 4, ch2, tv2, by omega, by go_num, HD6⟩
                  case measure => simp [intOf]; omega
            · have hcm : (RB.toList == (log.extract at_ (body + n + 4)).toList) = false := by
                rw [ByteArray.toList_eq, ByteArray.toList_eq, hRD]; exact beq_false_of_ne hc
              have HSP : Hid (Stops0 log at_ ch) := stop_sum HNF.out hc
              clear hRB hRD hc HNF
              go_wp2_with fail
              refine (HN.out _).mono ?_
              rintro e w0 ⟨rfl, rfl⟩
              go_wp2_with fail
              go_region_with (first | (go_at_call 74; refine (HR.out _).mono ?_; rintro e w3 ⟨rfl, b3⟩))
              all_goals
                have B3 : Below wr.heap.size wr w3 := (Below.refl _ _).drew.trans b3
                have HD3 : Hid (YDone log w w3 at_ ch tv) := HD.out.below B3
                clear b3 B3
                have HST : Hid (YOpenPost log w (.returned (.tuple #[.pointer (some ⟨w.heap.size, 0, none⟩), .int .i64 0, .int .i64 at_])) (w3.setCell ⟨w.heap.size, 8, none⟩ (.string (log.extract 0 at_)))) := HD3.out.stop h2 HSP.out
                have kz : w3.cell? ⟨w.heap.size, 8, none⟩ = some (.string ⟨#[]⟩) := HD3.out.vault.cellL
                have fz : w3.frozen? ⟨w.heap.size, 8, none⟩ = false := HD3.out.vault.frozen 8
                have hq : w.heap.size < w3.heap.size := HD3.out.vault.lt
                have haI : (at_ : Int) ≤ (log.size : Int) := by omega
                go_wp2
                go_ret3
                exact HST.out
      · have hltI : ¬ (at_ : Int) < (log.size : Int) := by omega
        have HSP : Hid (Stops0 log at_ ch) := stop_end (by omega)
        have HST : Hid (YOpenPost log w (.returned (.tuple #[.pointer (some ⟨w.heap.size, 0, none⟩), .int .i64 0, .int .i64 at_])) (wr.setCell ⟨w.heap.size, 8, none⟩ (.string (log.extract 0 at_)))) := HD.out.stop h2 HSP.out
        have kz : wr.cell? ⟨w.heap.size, 8, none⟩ = some (.string ⟨#[]⟩) := HD.out.vault.cellL
        have fz : wr.frozen? ⟨w.heap.size, 8, none⟩ = false := HD.out.vault.frozen 8
        have hq : w.heap.size < wr.heap.size := HD.out.vault.lt
        have haI : (at_ : Int) ≤ (log.size : Int) := by omega
        go_wp2
        go_ret3
        exact HST.out
end Go.Proofs.YtabpiaaknjcnkaaGreat

/-
  A string's bytes behind a row of bytes, and where the new row lies.
-/
namespace Go.Proofs.YtabpiaaknjcnkaaGreat
open Go.RowKit
set_option linter.unusedVariables false
set_option linter.unusedSimpArgs false
set_option maxRecDepth 100000

theorem run_str_lies (w : World) (base : Nat) (ty : TypeId) (v : Value) (bs : List UInt8) (s : ByteArray) (hown : OwnBytes w base v bs) (hs : 0 < s.size) (hl : bs.length + s.size ≤ 1000000) (hbase : base ≤ w.heap.size) :
    ∃ v' w', (Builtin.append_ #[48, 9] ty #[v, .string s]).run Tryz.prog w = .ok v' w' ∧ OwnBytes w' base v' (bs ++ s.data.toList) ∧ w.grownBy w' v.ownBlock ∧ (v'.ownBlock = v.ownBlock ∨ v'.ownBlock = some w.heap.size) := by
  obtain ⟨i0, hi, hz0, hz1, hz2⟩ := info_parts Tryz.infoByte
  obtain ⟨v', w', hr, h2, h3, h4⟩ := Lib.run_append_own_string (P := Tryz.prog) w base 48 9 ty 5 i0 Tryz.underlying48 Tryz.underlying9 hi hz0 hz1 hz2 v bs.length (bs.map byteV) hown s (by unfold maxLen; omega) (by omega) hbase
  refine ⟨v', w', hr, ?_, h3, ?_⟩
  · unfold OwnBytes
    rw [List.map_append, List.length_append, ← Lib.size_eq]
    exact h2
  · rcases hown.2 with ⟨rfl, h0⟩ | ⟨g, cap, cur, rfl, hbg, hg, hnc, hcm, hcs, htake⟩
    · have hr2 := run_append_nil_string (P := Tryz.prog) w 48 9 ty 5 i0 (.int .u8 0) Tryz.underlying48 Tryz.underlying9 hi hz0 s hs (by omega) (by rw [hz2]; omega)
      have e := hr.symm.trans hr2
      injection e with e1 e2
      rw [e1]; exact .inr rfl
    · by_cases hroom : bs.length + s.size ≤ cap
      · have hcs' : cur.size = cap := by simpa using hcs
        have hr2 := Lib.run_append_room_string (P := Tryz.prog) w 48 9 ty 5 i0 Tryz.underlying48 Tryz.underlying9 hi hz1 g bs.length cap cur hg s hroom (by omega)
        have e := hr.symm.trans hr2
        injection e with e1 e2
        rw [e1]; exact .inl rfl
      · have holds : ∀ j u, (bs.map byteV)[j]? = some u → w.cell? ((⟨g, 0, none⟩ : Addr).add j) = some u := hown.cells (g := g) rfl
        have hr2 := Lib.run_append_grow_string (P := Tryz.prog) w 48 9 ty 5 i0 (.int .u8 0) Tryz.underlying48 Tryz.underlying9 hi hz0 ⟨g, 0, none⟩ bs.length cap (bs.map byteV) (by rw [hz1]; simp) holds s (by omega) (by omega) (by rw [hz2]; exact growslice_fits (by omega) (by omega))
        have e := hr.symm.trans hr2
        injection e with e1 e2
        rw [e1]; exact .inr rfl

/-- At a step of a region that draws its order. -/
theorem step_str_lies {w : World} {ops : Array Oper} {o : Oper} {a : Act} {K : Act → World → Prop} {Q : Exit → Act → World → Prop} {E : Prop} (hgd : o.guard = none) (sl x : Operand)
    (ho : o.op = .call { callee := .builtin .append, args := #[sl, x], argTypes := #[48, 9] })
    (base : Nat) (v : Value) (bs : List UInt8) (hs : a.eval sl = v) (hown : OwnBytes w base v bs) (s : ByteArray) (hx : a.eval x = .string s) (hp : 0 < s.size) (hl : bs.length + s.size ≤ 1000000) (hbase : base ≤ w.heap.size)
    (h : ∀ v' w', OwnBytes w' base v' (bs ++ s.data.toList) → w.grownBy w' v.ownBlock → (v'.ownBlock = v.ownBlock ∨ v'.ownBlock = some w.heap.size) → K (a.put o.dst v') w') :
    if Region.wanted o (yielded ops a.tmps) = true then Oper.wp Tryz.prog o a w K Q else E := by
  have hw : Region.wanted o (yielded ops a.tmps) = true := by simp [Region.wanted, hgd]
  rw [if_pos hw]
  obtain ⟨v', w', hr, h2, h3, h4⟩ := run_str_lies w base o.type v bs s hown hp hl hbase
  unfold Oper.wp execOp
  simp only [ho, resolve, invoke, builtin, Sem.run_bind, Sem.run_pure, Result.andThen_ok, List.map_toArray, List.map_cons, List.map_nil, hs, hx, hr]
  exact h v' w' h2 h3 h4

/-- A reader lies in no block of a vault. -/
theorem RAt.far {w : World} {rb at_ p : Nat} {l : ByteArray} {lv : Value} {tv : Nat → Value} {s : Vlt} (hr : RAt w rb l at_) (hv : VaultAt w p lv tv s) : ¬ foot p lv tv rb := by
  rintro (e | e | ⟨i, hi, e⟩)
  · have := hv.blk; rw [← e] at this; unfold RAt at hr; rw [hr] at this; simp at this
  · exact row_type hv.log hr (by decide) e
  · exact row_type (hv.row i hi) hr (by decide) e
theorem VaultAt.moved {w w' : World} {rb at_ p : Nat} {l : ByteArray} {lv : Value} {tv : Nat → Value} {s : Vlt} (hv : VaultAt w p lv tv s) (hr : RAt w rb l at_) (hm : Moved rb w w') : VaultAt w' p lv tv s :=
  hv.kept (fun q hq => hm.block q (hv.foot_lt q hq) (fun e => hr.far hv (by rw [← e]; exact hq)))
theorem RAt.out {w w' : World} {rb at_ p : Nat} {l : ByteArray} {lv : Value} {tv : Nat → Value} {s : Vlt} (hr : RAt w rb l at_) (hv : VaultAt w p lv tv s) (ho : Out (foot p lv tv) w w') : RAt w' rb l at_ := (ho.block rb (lt_of_block hr) (hr.far hv)).trans hr
/-- Where a reader stands. -/
def atOf (w : World) (rb : Nat) : Nat := match w.cell? ⟨rb, 1, none⟩ with
  | some (.int _ z) => z.toNat
  | _ => 0
theorem RAt.at_of {w : World} {rb at_ : Nat} {l : ByteArray} (hr : RAt w rb l at_) : atOf w rb = at_ := by
  unfold atOf
  rw [hr.cells.2.1]
  simp

set_option maxHeartbeats 1000000 in
theorem hchain_any (z : Int) (c : Nat) (w : World) : Calls Tryz.prog 172 #[.agg #[.int .u8 z, .int .i64 c]] w fun e w' => e = .returned (.int .i64 c) ∧ Below w.heap.size w w' := by
  go_enter Tryz.func172, Tryz.ntmps172
  go_wp2
  go_ret
  exact ⟨rfl, (Below.refl _ _).alloc (Nat.le_refl _) _⟩

/-- A record that was read, as the interface's value that does it. -/
structure Doer (W0 : World) (r : Rec) (T : TypeId) (x : Value) (KD : FuncId) (z : Int) : Prop where
  chain : ∀ W : World, (method 313 T x "Chain").run Tryz.prog W = .ok (172, .agg #[.int .u8 z, .int .i64 r.c]) W
  do_ : ∀ W : World, (method 313 T x "Do").run Tryz.prog W = .ok (KD, x) W
  ahead : ∀ W : World, (nilAhead 313 T x "Do").run Tryz.prog W = .ok (some false) W
  enter : ∀ (W : World) (a : Value), (callFunc KD #[x, a]).run Tryz.prog W = .ok (.enter KD #[x, a]) W
  does : ∀ (W : World) (p : Nat) (lv : Value) (tv : Nat → Value) (s : Vlt), Below W0.heap.size W0 W → VaultAt W p lv tv s → s.Ok → Calls Tryz.prog KD #[x, .pointer (some ⟨p, 1 + r.c * 2, none⟩)] W (DoPost p lv tv s (r.does s.ch) W)
theorem rec_doer {W0 : World} {base : Nat} {v : Value} {r : Rec} (h : RecV W0 base v r) (hr : r.Ok) : ∃ T x KD z, v = .iface T x ∧ Doer W0 r T x KD z := by
  obtain ⟨hc, hn, ht, hx, hL⟩ := hr
  rcases h with ⟨h1, h2⟩ | ⟨h1, ao, n, cap, h2, h3⟩ | ⟨h1, h2⟩ | ⟨h1, h2⟩
  · refine ⟨_, _, 176, 70, h2, fun W => by kernel_rfl, fun W => by kernel_rfl, fun W => by kernel_rfl, fun W a => by kernel_rfl, fun W p lv tv s _ hv hok => ?_⟩
    have e : r.does s.ch = moreF s.ch r.c r.t := by unfold Rec.does; rw [if_pos h1]
    rw [e]
    exact fdo_any p r.c lv tv s r.t W hv hc (hok.last _) ht
  · refine ⟨_, _, 179, 68, h2, fun W => by kernel_rfl, fun W => by kernel_rfl, fun W => by kernel_rfl, fun W a => by kernel_rfl, fun W p lv tv s hW hv hok => ?_⟩
    have e : r.does s.ch = codeDo s.ch r.c r.xs := by
      unfold Rec.does codeDo
      rw [if_neg (by rw [h1]; decide), if_pos h1]
      rfl
    rw [e]
    exact ddo_any p r.c lv tv s ao n cap r.xs W hv hok hc ((View.of_own h3).kept hW) hx
  · have hn0 : 0 < r.n := by
      rcases hL with x | x | x | x
      · rw [h1] at x; exact absurd x (by decide)
      · rw [h1] at x; exact absurd x (by decide)
      · exact x.2
      · rw [h1] at x; exact absurd x (by decide)
    refine ⟨_, _, 181, 66, h2, fun W => by kernel_rfl, fun W => by kernel_rfl, fun W => by kernel_rfl, fun W a => by kernel_rfl, fun W p lv tv s _ hv hok => ?_⟩
    have e : r.does s.ch = baseF s.ch r.c r.n r.t := by
      unfold Rec.does
      rw [if_neg (by rw [h1]; decide), if_neg (by rw [h1]; decide), if_pos h1]
    rw [e]
    exact bdo_any p r.c r.n lv tv s r.t W hv hc (hok.last _) hn0 hn ht
  · refine ⟨_, _, 173, 80, h2, fun W => by kernel_rfl, fun W => by kernel_rfl, fun W => by kernel_rfl, fun W a => by kernel_rfl, fun W p lv tv s _ hv hok => ?_⟩
    have e : r.does s.ch = pruneF s.ch r.c r.n := by
      unfold Rec.does
      rw [if_neg (by rw [h1]; decide), if_neg (by rw [h1]; decide), if_neg (by rw [h1]; decide)]
    rw [e]
    exact pdo_any p r.c r.n lv tv s W hv hc (hok.last _)
end Go.Proofs.YtabpiaaknjcnkaaGreat
