/- The texts VC, YJ, ZU, one behind the other. -/
import Derived.Test.YtabpiaaknjcnkaaGreatXV7YC
import Derived.Test.YtabpiaaknjcnkaaGreatYH
import Derived.Test.YtabpiaaknjcnkaaGreatYI
import Derived.Test.YtabpiaaknjcnkaaGreatXZTZSZTaZTbZTcYA
/-
  The walks over package store: Prune.
-/
namespace Go.Proofs.YtabpiaaknjcnkaaGreat
open Go.RowKit
set_option linter.unusedVariables false
set_option linter.unusedSimpArgs false
set_option maxRecDepth 100000

theorem grown_below {w w' : World} {row : Option Nat} (h : Below w.heap.size w w') : w.grownBy w' row := ⟨h.os, h.tape, h.output, h.size, fun q hq _ => h.block q hq⟩
theorem strs_wide {w : World} {b : Nat} {v : Value} {ts : List ByteArray} (h : OwnStrs w b v ts) : OwnStrs w 0 v ts := by
  refine ⟨h.1, ?_⟩
  rcases h.2 with h' | ⟨g, cap, cur, rfl, hg, hr⟩
  · exact .inl h'
  · exact .inr ⟨g, cap, cur, rfl, Nat.zero_le _, hr⟩

/-- What Prune tells. -/
def cutE (s : Vlt) (c z : Int) : Int := if ¬ (0 ≤ c ∧ c < 4) then 4 else if hasB (s.ch c.toNat) z = true then (if 20000 < s.log.length + (recL (bodyP c.toNat z.toNat)).length then 6 else 0) else 5
def cutS (s : Vlt) (c z : Int) : Vlt := if cutE s c z = 0 then s.drop c.toNat z.toNat else s
theorem cutS_ok {s : Vlt} (h : s.Ok) (c z : Int) : (cutS s c z).Ok := by
  unfold cutS
  split
  · rename_i hE
    unfold cutE at hE
    split at hE
    · exact absurd hE (by decide)
    · split at hE
      · rename_i hh
        split at hE
        · exact absurd hE (by decide)
        · rename_i hr
          have hh' := hasB_iff.1 hh
          have hz : ((z.toNat : Nat) : Int) = z := by unfold Chn.has at hh'; omega
          exact drop_ok h (by rw [hz]; exact hh') hr
      · exact absurd hE (by decide)
  · exact h

set_option maxHeartbeats 4000000 in
theorem sprune_small (p : Nat) (c z : Int) (lv : Value) (tv : Nat → Value) (s : Vlt) (w : World) (hv : VaultAt w p lv tv s) (hok : s.Ok) (h : cutE s c z ≠ 0) :
    Calls Tryz.prog 44 #[.pointer (some ⟨p, 0, none⟩), .int .i64 c, .int .i64 z] w fun e w' => e = .returned (.int .i64 (cutE s c z)) ∧ Below w.heap.size w w' := by
  by_cases hc : 0 ≤ c ∧ c < 4
  · have hd : decide (0 ≤ c ∧ c < 4) = true := by simpa using hc
    obtain ⟨n, rfl⟩ : ∃ n : Nat, c = n := ⟨c.toNat, by omega⟩
    have hn : n < 4 := by omega
    have hlast : (s.ch n).gone + (s.ch n).texts.length ≤ 2147483647 := hok.last n
    have hlog := hok.log
    obtain ⟨tq, tc, htv⟩ := (hv.row n hn).slice
    obtain ⟨lo, lc, hlv⟩ := hv.log.slice
    have HV : Hid (VaultAt w p lv tv s) := hv
    have HH : Hid (Calls Tryz.prog 53 #[.pointer (some ⟨p, 1 + n * 2, none⟩), .int .i64 z] w fun e w' => e = .returned (.bool (hasB (s.ch n) z)) ∧ Still w w') := by
      have k1 := hv.cellG n hn
      have k2 := hv.cellT n hn
      rw [htv] at k2
      exact vhas_st p (1 + n * 2) _ _ _ _ z w k1 k2 (by omega)
    by_cases hh : hasB (s.ch n) z = true
    · have hh' := hasB_iff.1 hh
      unfold Chn.has Chn.last at hh'
      obtain ⟨m, rfl⟩ : ∃ m : Nat, z = m := ⟨z.toNat, by omega⟩
      have HE : Hid (cutE s (n : Int) (m : Int) = 6 ∧ 20000 < s.log.length + (recL (bodyP n m)).length) := by
        unfold cutE at h ⊢
        rw [if_neg (by omega), show ((n : Int)).toNat = n by omega, show ((m : Int)).toNat = m by omega, if_pos hh] at h ⊢
        by_cases hr : 20000 < s.log.length + (recL (bodyP n m)).length
        · rw [if_pos hr]; exact ⟨rfl, hr⟩
        · rw [if_neg hr] at h; exact absurd rfl h
      have hm : m < 34359738368 := by omega
      have hrl := recL_len (b := bodyP n m) (by have := (bodyP_len n m (by omega) hm).2; omega)
      have hbl := (bodyP_len n m (by omega) hm).2
      have HP : Hid (∀ W : World, Calls Tryz.prog 84 #[.iface 147 (.agg #[.int .u8 80, .int .i64 n, .int .i64 m])] W fun e w' => ∃ v, e = .returned v ∧ OwnBytes w' W.heap.size v (recL (bodyP n m)) ∧ Below W.heap.size W w') := fun W => recbytes_prune n m W (by omega) hm
      rw [hh] at HH
      generalize recL (bodyP n m) = R at *
      have hr : ¬ s.log.length + R.length ≤ 20000 := by have := HE.out.2; omega
      clear hh hh' hv hok h
      go_enter Tryz.func44, Tryz.ntmps44
      go_wp2_with fail
      refine (ischain_any n _).mono ?_
      rintro e w1 ⟨rfl, rfl⟩
      rw [hd]
      go_wp2_with fail
      refine HH.out.mono ?_
      rintro e w2 ⟨rfl, st2⟩
      go_wp2_with fail
      refine (recprune_any n m _).mono ?_
      rintro e w3 ⟨rfl, rfl⟩
      go_wp2_with fail
      refine (HP.out _).mono ?_
      rintro e w3 ⟨v3, rfl, o3, b3⟩
      obtain ⟨ao, ac, hv3⟩ := o3.slice
      subst hv3
      have HV3 : Hid (VaultAt w3 p lv tv s) := (HV.out.still st2).below b3
      have k0 : w3.cell? ⟨p, 0, none⟩ = some (.slice lo s.log.length lc) := by rw [← hlv]; exact HV3.out.cell0
      have B3 : Below w.heap.size w w3 := (st2.below _).trans (b3.mono (by rw [st2.size]; exact Nat.le_refl _))
      clear o3 b3 HV3 HV
      go_wp2_with fail
      refine (hasroom_any p s.log.length lc R.length ac lo ao _ k0 (by omega) (by omega)).mono ?_
      rintro e w4 ⟨rfl, rfl⟩
      rw [show decide (s.log.length + R.length ≤ 20000) = false from by simpa using hr]
      go_wp2
      go_ret
      exact ⟨ret_int HE.out.1.symm, B3⟩
    · have hf : hasB (s.ch n) z = false := by simpa using hh
      have HE : Hid (cutE s (n : Int) z = 5) := by show _ = _; unfold cutE; rw [if_neg (by omega)]; simp [hf]
      rw [hf] at HH
      clear hh hf hv h
      go_enter Tryz.func44, Tryz.ntmps44
      go_wp2_with fail
      refine (ischain_any n _).mono ?_
      rintro e w1 ⟨rfl, rfl⟩
      rw [hd]
      go_wp2_with fail
      refine HH.out.mono ?_
      rintro e w2 ⟨rfl, st2⟩
      go_wp2
      go_ret
      exact ⟨ret_int HE.out.symm, st2.below _⟩
  · have hd : decide (0 ≤ c ∧ c < 4) = false := by simpa using hc
    have HE : Hid (cutE s c z = 4) := by show _ = _; unfold cutE; rw [if_pos hc]
    clear hc hv h
    go_enter Tryz.func44, Tryz.ntmps44
    go_wp2_with fail
    refine (ischain_any c _).mono ?_
    rintro e w1 ⟨rfl, rfl⟩
    rw [hd]
    go_wp2
    go_ret
    exact ⟨ret_int HE.out.symm, Below.refl _ _⟩

set_option maxHeartbeats 8000000 in
theorem sprune_ok (p n m : Nat) (lv : Value) (tv : Nat → Value) (s : Vlt) (w : World) (hv : VaultAt w p lv tv s) (hok : s.Ok) (hn : n < 4) (hh : hasB (s.ch n) m = true) (hroom : s.log.length + (recL (bodyP n m)).length ≤ 20000) :
    Calls Tryz.prog 44 #[.pointer (some ⟨p, 0, none⟩), .int .i64 n, .int .i64 m] w fun e w' => e = .returned (.int .i64 0) ∧ Moves p lv tv (s.drop n m) w w' := by
  obtain ⟨i0, hi, hz0, hz1, hz2⟩ := info_parts Tryz.infoByte
  have hd : decide (0 ≤ (n : Int) ∧ (n : Int) < 4) = true := by simp; omega
  have hlast : (s.ch n).gone + (s.ch n).texts.length ≤ 2147483647 := hok.last n
  have hlog := hok.log
  obtain ⟨tq, tc, htv⟩ := (hv.row n hn).slice
  obtain ⟨lo, lc, hlv⟩ := hv.log.slice
  have HV : Hid (VaultAt w p lv tv s) := hv
  have HH : Hid (Calls Tryz.prog 53 #[.pointer (some ⟨p, 1 + n * 2, none⟩), .int .i64 m] w fun e w' => e = .returned (.bool (hasB (s.ch n) m)) ∧ Still w w') := by
    have k1 := hv.cellG n hn
    have k2 := hv.cellT n hn
    rw [htv] at k2
    exact vhas_st p (1 + n * 2) _ _ _ _ m w k1 k2 (by omega)
  have hh' := hasB_iff.1 hh
  unfold Chn.has Chn.last at hh'
  have hm : m < 34359738368 := by omega
  have hrl := recL_len (b := bodyP n m) (by have := (bodyP_len n m (by omega) hm).2; omega)
  have hbl := (bodyP_len n m (by omega) hm).2
  have HP : Hid (∀ W : World, Calls Tryz.prog 84 #[.iface 147 (.agg #[.int .u8 80, .int .i64 n, .int .i64 m])] W fun e w' => ∃ v, e = .returned v ∧ OwnBytes w' W.heap.size v (recL (bodyP n m)) ∧ Below W.heap.size W w') := fun W => recbytes_prune n m W (by omega) hm
  have HDR : Hid (s.drop n m = ⟨s.log ++ recL (bodyP n m), fun i => if i = n then ⟨m - 1, (s.ch n).texts.drop (m - (s.ch n).gone - 1)⟩ else s.ch i⟩) := rfl
  rw [hh] at HH
  generalize recL (bodyP n m) = AA at *
  obtain ⟨k, hk⟩ : ∃ k : Nat, m = (s.ch n).gone + k + 1 := ⟨m - (s.ch n).gone - 1, by omega⟩
  have hkl : k < (s.ch n).texts.length := by omega
  have HK : Hid ((m : Int) = ((s.ch n).gone : Int) + k + 1 ∧ m - 1 = (s.ch n).gone + k ∧ m - (s.ch n).gone - 1 = k) := ⟨by omega, by omega, by omega⟩
  have hApos : 0 < AA.length := by omega
  clear hh hh' hv hok hk
  go_enter Tryz.func44, Tryz.ntmps44
  go_wp2_with fail
  refine (ischain_any n _).mono ?_
  rintro e w1 ⟨rfl, rfl⟩
  rw [hd]
  go_wp2_with fail
  refine HH.out.mono ?_
  rintro e w2 ⟨rfl, st2⟩
  go_wp2_with fail
  refine (recprune_any n m _).mono ?_
  rintro e w3 ⟨rfl, rfl⟩
  go_wp2_with fail
  refine (HP.out _).mono ?_
  rintro e WK ⟨v3, rfl, o3, b3⟩
  obtain ⟨ag, ac, hv3, hag, hagk⟩ := own_form o3 hApos
  subst hv3
  have HVk : Hid (VaultAt WK p lv tv s) := (HV.out.still st2).below b3
  have k0 : WK.cell? ⟨p, 0, none⟩ = some (.slice lo s.log.length lc) := by rw [← hlv]; exact HVk.out.cell0
  have Bk : Below w.heap.size w WK := (st2.below _).trans (b3.mono (by rw [st2.size]; exact Nat.le_refl _))
  have HA : Hid (OwnBytes WK w2.heap.size (.slice (some ⟨ag, 0, none⟩) AA.length ac) AA) := o3
  clear o3 b3 HV st2 HP HH
  go_wp2_with fail
  refine (hasroom_any p s.log.length lc AA.length ac lo (some ⟨ag, 0, none⟩) _ k0 (by omega) (by omega)).mono ?_
  rintro e w4 ⟨rfl, rfl⟩
  rw [show decide (s.log.length + AA.length ≤ 20000) = true from by simpa using hroom]
  have f0 : WK.frozen? ⟨p, 0, none⟩ = false := HVk.out.frozen 0
  have HLG : Hid (OwnBytes WK 0 (.slice lo s.log.length lc) s.log) := by rw [← hlv]; exact HVk.out.log
  have hpk := HVk.out.lt
  have hnp : (Value.slice lo s.log.length lc).ownBlock ≠ some p := by rw [← hlv]; exact HVk.out.logp
  go_wp2_with (first | (at_builtin; refine wpList_append_lies _ rfl _ _ 48 rfl 0 5 i0 (.int .u8 0) 1 1 Tryz.underlying48 hi hz0 hz1 hz2 rfl (by decide) (.slice lo s.log.length lc) s.log.length (s.log.map byteV) rfl HLG.out ⟨ag, 0, none⟩ AA.length ac (AA.map byteV) rfl ?c1 ?c2 ?c3 ?c4 ?c5 ?c6 ?c7 _ rfl ?_))
  case c1 => simp
  case c2 => exact own_news HA.out rfl
  case c3 => intro u hu; obtain ⟨x, _, rfl⟩ := List.mem_map.1 hu; rfl
  case c4 => exact hApos
  case c5 => unfold maxLen; omega
  case c6 => omega
  case c7 => exact Nat.zero_le _
  intro g5 cap5 w5 hown5 hgr5 hat5 hlt5
  have e5 := (World.cell?_of_block (a := ⟨p, 0, none⟩) (hgr5.block p hpk (Ne.symm hnp))).trans k0
  have f5 := (World.frozen?_of_block (a := ⟨p, 0, none⟩) (hgr5.block p hpk (Ne.symm hnp))).trans f0
  have hLG := HVk.out.logged (w2 := w5) (lv' := .slice (some ⟨g5, 0, none⟩) (s.log.length + AA.length) cap5) (bs := s.log ++ AA) (by rw [hlv]; exact hgr5) (by unfold OwnBytes; rw [List.map_append, List.length_append]; exact hown5) (by
    rw [hlv]
    rcases hat5 with x | x
    · exact .inl (by rw [x]; rfl)
    · exact .inr ⟨g5, rfl, by omega⟩)
  obtain ⟨hV6, hO6, hS6⟩ := hLG
  have HV6 : Hid (VaultAt (w5.setCell ⟨p, 0, none⟩ (.slice (some ⟨g5, 0, none⟩) (s.log.length + AA.length) cap5)) p (.slice (some ⟨g5, 0, none⟩) (s.log.length + AA.length) cap5) tv ⟨s.log ++ AA, s.ch⟩) := hV6
  have hrow6 := hV6.row n hn
  have k26 := hV6.cellT n hn
  rw [htv] at hrow6 k26
  have HAD0 := vdrop_any p (1 + n * 2) (s.ch n).gone k tc tq (s.ch n).texts _ hV6.lt (hV6.cellG n hn) k26 (fun j => hV6.frozen j) hrow6 hkl hlast
  rw [← HK.out.1] at HAD0
  have HAD : Hid (Calls Tryz.prog 86 #[.pointer (some ⟨p, 1 + n * 2, none⟩), .int .i64 m] (w5.setCell ⟨p, 0, none⟩ (.slice (some ⟨g5, 0, none⟩) (s.log.length + AA.length) cap5)) _) := HAD0
  clear HAD0 hrow6 k26
  clear hV6 hown5 hgr5 hat5 HLG k0 f0 HA
  go_wp2_with fail
  refine HAD.out.mono ?_
  rintro e w7 ⟨rfl, v7, w8, rfl, o7, b7⟩
  have hp6 := HV6.out.lt
  have hT := HV6.out.turned (w2 := w8) (w3 := (w8.setCell ⟨p, 1 + n * 2 + 1, none⟩ v7).setCell ⟨p, 1 + n * 2, none⟩ (.int .i64 (((s.ch n).gone + k : Nat) : Int))) (g' := (s.ch n).gone + k) (ts := (s.ch n).texts.drop k) hn (grown_below b7) (strs_wide o7) (fun g hg => .inr (row_own_ge o7 hg)) (vset_two hn ((b7.block p hp6).trans HV6.out.blk)) (fun q hq => (Below.heap_setCell _ _ _ _ hq).trans (Below.heap_setCell _ _ _ _ hq)) (by simp [World.setCell]) ⟨rfl, rfl, rfl⟩
  obtain ⟨hV8, hO8, hS8⟩ := hT
  have HR8 : Hid (Moves p lv tv (s.drop n m) w ((w8.setCell ⟨p, 1 + n * 2 + 1, none⟩ v7).setCell ⟨p, 1 + n * 2, none⟩ (.int .i64 (((s.ch n).gone + k : Nat) : Int)))) := by
    have hV9 := hV8
    have e : s.drop n m = ⟨s.log ++ AA, fun i => if i = n then ⟨(s.ch n).gone + k, (s.ch n).texts.drop k⟩ else s.ch i⟩ := by rw [HDR.out, HK.out.2.1, HK.out.2.2]
    rw [← e] at hV9
    refine ⟨_, _, hV9, (Out.of_below Bk).trans (hO6.trans hO8 hS6) (fun q hq => .inl hq), fun q hq => ?_⟩
    have s1 := Bk.size
    have s2 := hO6.size
    rcases hS8 q hq with x | x
    · rcases hS6 q x with y | y
      · exact .inl y
      · exact .inr (by omega)
    · exact .inr (by omega)
  clear hV8 hO8 hS8 hO6 hS6 HV6 HAD e5 f5 b7 o7
  go_wp2
  go_ret
  exact ⟨rfl, HR8.out⟩

theorem sprune_any (p : Nat) (c z : Int) (lv : Value) (tv : Nat → Value) (s : Vlt) (w : World) (hv : VaultAt w p lv tv s) (hok : s.Ok) :
    Calls Tryz.prog 44 #[.pointer (some ⟨p, 0, none⟩), .int .i64 c, .int .i64 z] w fun e w' => e = .returned (.int .i64 (cutE s c z)) ∧ Moves p lv tv (cutS s c z) w w' := by
  by_cases h : cutE s c z = 0
  · have hS : cutS s c z = s.drop c.toNat z.toNat := by unfold cutS; rw [if_pos h]
    rw [hS, h]
    unfold cutE at h
    split at h
    · exact absurd h (by decide)
    · rename_i hc
      split at h
      · rename_i hh
        split at h
        · exact absurd h (by decide)
        · rename_i hr
          have hh' := hasB_iff.1 hh
          unfold Chn.has at hh'
          have e1 : c = ((c.toNat : Nat) : Int) := by omega
          have e2 : z = ((z.toNat : Nat) : Int) := by omega
          have := sprune_ok p c.toNat z.toNat lv tv s w hv hok (by omega) (by rw [← e2]; exact hh) (by omega)
          rw [← e1, ← e2] at this
          exact this
      · exact absurd h (by decide)
  · have hS : cutS s c z = s := by unfold cutS; rw [if_neg h]
    rw [hS]
    exact (sprune_small p c z lv tv s w hv hok h).mono fun e w' ⟨h1, h2⟩ => ⟨h1, Moves.stays hv h2⟩

set_option maxHeartbeats 2000000 in
theorem cprune_any (p : Nat) (c z : Int) (lv : Value) (tv : Nat → Value) (s : Vlt) (w : World) (hv : VaultAt w p lv tv s) (hok : s.Ok) :
    Calls Tryz.prog 22 #[.pointer (some ⟨p, 0, none⟩), .int .i64 c, .int .i64 z] w fun e w' => e = .returned (.int .i64 (cutE s c z)) ∧ Moves p lv tv (cutS s c z) w w' := by
  have HC : Hid (Calls Tryz.prog 44 #[.pointer (some ⟨p, 0, none⟩), .int .i64 c, .int .i64 z] w fun e w' => e = .returned (.int .i64 (cutE s c z)) ∧ Hid (Moves p lv tv (cutS s c z) w w')) := sprune_any p c z lv tv s w hv hok
  clear hv hok
  show Calls Tryz.prog 22 #[.pointer (some ⟨p, 0, none⟩), .int .i64 c, .int .i64 z] w fun e w' => e = .returned (.int .i64 (cutE s c z)) ∧ Hid (Moves p lv tv (cutS s c z) w w')
  generalize cutE s c z = b at *
  generalize cutS s c z = s' at *
  go_enter Tryz.func22, Tryz.ntmps22
  go_wp2_with fail
  refine HC.out.mono ?_
  rintro e w1 ⟨rfl, b1⟩
  go_wp2
  go_ret
  exact ⟨rfl, b1⟩
end Go.Proofs.YtabpiaaknjcnkaaGreat

/-
  The document's Prune; its Backup in one.
-/
namespace Go.Proofs.YtabpiaaknjcnkaaGreat
open Go.RowKit
set_option linter.unusedVariables false
set_option linter.unusedSimpArgs false
set_option maxRecDepth 100000

theorem ybackup_any (p : Nat) (c : Int) (tv : Nat → Value) (s : Vlt) (t : ByteArray) (w : World) (hv : YAt w p tv s) (hok : s.Ok) (ht : t.size ≤ 9223372036854775807) :
    Calls Tryz.prog 33 #[.pointer (some ⟨p, 0, none⟩), .int .i64 c, .string t] w fun e w' => e = .returned (.tuple #[.int .i64 (putN s c t), .int .i64 (putE s c t)]) ∧ YMoves p tv (putS s c t) w w' := by
  by_cases hc : 0 ≤ c ∧ c < 4
  · obtain ⟨n, rfl⟩ : ∃ n : Nat, c = n := ⟨c.toNat, by omega⟩
    have hn : n < 4 := by omega
    have en : ((n : Int)).toNat = n := by omega
    by_cases hl : 2000 < t.size
    · have hE : putE s n t = 1 := by unfold putE; rw [if_neg (by omega), if_pos hl]
      have hN : putN s n t = 0 := by unfold putN; rw [if_neg (by rw [hE]; decide)]
      have hS : putS s n t = s := by unfold putS; rw [if_neg (by rw [hE]; decide)]
      rw [hE, hN, hS]
      refine (ybackup_long p n t w hn hl ht).mono ?_
      rintro e w' ⟨rfl, rfl⟩
      exact ⟨rfl, YMoves.stays hv (Below.refl _ _)⟩
    · by_cases hf : s.full n t
      · have hE : putE s n t = 6 := by unfold putE; rw [if_neg (by omega), if_neg hl, en]; exact if_pos hf
        have hN : putN s n t = 0 := by unfold putN; rw [if_neg (by rw [hE]; decide)]
        have hS : putS s n t = s := by unfold putS; rw [if_neg (by rw [hE]; decide)]
        rw [hE, hN, hS]
        refine (ybackup_full p n tv s t w hv hok hn (by omega) hf).mono ?_
        rintro e w' ⟨rfl, hb⟩
        exact ⟨rfl, YMoves.stays hv hb⟩
      · have hE : putE s n t = 0 := by unfold putE; rw [if_neg (by omega), if_neg hl, en]; exact if_neg hf
        have hN : putN s n t = (((s.ch n).last + 1 : Nat) : Int) := by unfold putN; rw [if_pos hE, en]
        have hS : putS s n t = s.put n t := by unfold putS; rw [if_pos hE, en]
        rw [hE, hN, hS]
        by_cases h0 : (s.ch n).texts = []
        · exact ybackup_first p n tv s t w hv hok hn (by omega) hf h0
        · exact ybackup_next p n tv s t w hv hok hn (by omega) hf h0
  · have hE : putE s c t = 4 := by unfold putE; rw [if_pos hc]
    have hN : putN s c t = 0 := by unfold putN; rw [if_neg (by rw [hE]; decide)]
    have hS : putS s c t = s := by unfold putS; rw [if_neg (by rw [hE]; decide)]
    rw [hE, hN, hS]
    refine (ybackup_chain p c t w hc).mono ?_
    rintro e w' ⟨rfl, rfl⟩
    exact ⟨rfl, YMoves.stays hv (Below.refl _ _)⟩

theorem ydrop_moves {w w1 w2 w3 : World} {p n m : Nat} {tv : Nat → Value} {s : Vlt} {v' : Value} {l : List UInt8} {z : Int} (hv : YAt w p tv s) (hn : n < 4) (b1 : Below w.heap.size w w1) (hw2 : w2 = w1.setCell ⟨p, 8, none⟩ (.string ⟨(s.log ++ l).toArray⟩)) (b3 : Below w2.heap.size w2 w3)
    (hz : z = (m : Int)) (hm : 0 < m) (hr : YView w3 v' ((s.ch n).texts.drop (m - (s.ch n).gone - 1))) (hne : (s.ch n).texts.drop (m - (s.ch n).gone - 1) ≠ []) (hp : rowBlock v' = rowBlock (tv n)) (hl : l = recL (bodyP n m)) :
    YMoves p tv (s.drop n m) w ((w3.setCell ⟨p, n * 2, none⟩ (.int .i64 z)).setCell ⟨p, n * 2 + 1, none⟩ v') := by
  subst hw2
  have h1 := hv.below b1
  obtain ⟨h2, o2⟩ := h1.logged (s.log ++ l)
  have h3 := h2.below b3
  obtain ⟨h4, o4⟩ := h3.chained (c := n) (g' := m - 1) hn (hz.trans (by rw [Nat.sub_add_cancel hm])) hr hne (by rw [hp]; exact hv.own n hn)
  have e : s.drop n m = ⟨s.log ++ l, fun i => if i = n then ⟨m - 1, (s.ch n).texts.drop (m - (s.ch n).gone - 1)⟩ else s.ch i⟩ := by unfold Vlt.drop; rw [hl]
  rw [e]
  refine ⟨_, h4, (((Out.of_below b1).trans o2 (fun q hq => .inl hq)).trans (Out.of_below (F := (· = p)) b3) (fun q hq => .inl hq)).trans o4 (fun q hq => .inl hq), ?_⟩
  rintro b (rfl | ⟨i, hi, hb⟩)
  · exact .inl (.inl rfl)
  · by_cases e : i = n
    · simp only [e, if_true] at hb
      exact .inl (.inr ⟨n, hn, by rw [← hp]; exact hb⟩)
    · simp only [e, if_false] at hb
      exact .inl (.inr ⟨i, hi, hb⟩)

set_option maxHeartbeats 2000000 in
theorem yprune_chain (p : Nat) (c z : Int) (w : World) (hc : ¬ (0 ≤ c ∧ c < 4)) :
    Calls Tryz.prog 37 #[.pointer (some ⟨p, 0, none⟩), .int .i64 c, .int .i64 z] w fun e w' => e = .returned (.int .i64 4) ∧ w = w' := by
  by_cases h1 : c < 0
  · go_enter Tryz.func37, Tryz.ntmps37
    go_wp2
    go_ret
    exact ⟨rfl, rfl⟩
  · have h2 : 4 ≤ c := by omega
    clear hc
    go_enter Tryz.func37, Tryz.ntmps37
    go_wp2
    go_ret
    exact ⟨rfl, rfl⟩

theorem yhas_chain {s : Vlt} (hok : s.Ok) {n : Nat} {ao : Option Addr} {cap : Nat} (z : Int) (W : World) :
    Calls Tryz.prog 77 #[.agg #[.int .i64 (yF (s.ch n)), .slice ao (s.ch n).texts.length cap], .int .i64 z] W fun e w' => e = .returned (.bool (hasB (s.ch n) z)) ∧ Below W.heap.size W w' := by
  have hlast : (s.ch n).gone + (s.ch n).texts.length ≤ 2147483647 := hok.last n
  have hFle : yF (s.ch n) ≤ (s.ch n).gone + 1 := by unfold yF; split <;> omega
  have hYB : yhasB (yF (s.ch n)) (s.ch n).texts.length z = hasB (s.ch n) z := by
    unfold yhasB hasB yF Chn.last
    by_cases h0 : (s.ch n).texts = []
    · have := hok.none n h0
      rw [if_pos h0, h0, this]
      simp
    · have hpos : 0 < (s.ch n).texts.length := List.length_pos_iff.2 h0
      rw [if_neg h0]
      congr 1; apply propext; omega
  have := yhas_any (yF (s.ch n)) (s.ch n).texts.length cap ao z W (by omega)
  rw [hYB] at this; exact this

set_option maxHeartbeats 4000000 in
theorem yprune_none (p n : Nat) (z : Int) (tv : Nat → Value) (s : Vlt) (w : World) (hv : YAt w p tv s) (hok : s.Ok) (hn : n < 4) (hh : hasB (s.ch n) z = false) :
    Calls Tryz.prog 37 #[.pointer (some ⟨p, 0, none⟩), .int .i64 n, .int .i64 z] w fun e w' => e = .returned (.int .i64 5) ∧ Below w.heap.size w w' := by
  have k1 := hv.cellF n hn
  have k2 := hv.cellT n hn
  obtain ⟨ao, cap, htv, hcap, hrow⟩ := hv.row n hn
  rw [htv] at k2
  have hp := hv.lt
  have hnI : (n : Int) < 4 := by omega
  have HY : Hid (∀ W : World, Calls Tryz.prog 77 #[.agg #[.int .i64 (yF (s.ch n)), .slice ao (s.ch n).texts.length cap], .int .i64 z] W fun e w' => e = .returned (.bool false) ∧ Below W.heap.size W w') := fun W => by rw [← hh]; exact yhas_chain hok z W
  generalize yF (s.ch n) = F at *
  generalize (s.ch n).texts.length = L at *
  clear hv hok hrow htv hcap hh
  go_enter Tryz.func37, Tryz.ntmps37
  go_wp2_with fail
  refine (HY.out _).mono ?_
  rintro e w1 ⟨rfl, b1⟩
  go_wp2
  go_ret
  exact ⟨rfl, b1⟩

set_option maxHeartbeats 4000000 in
theorem yprune_full (p n m : Nat) (tv : Nat → Value) (s : Vlt) (w : World) (hv : YAt w p tv s) (hok : s.Ok) (hn : n < 4) (hh : hasB (s.ch n) m = true) (hroom : 20000 < s.log.length + (recL (bodyP n m)).length) :
    Calls Tryz.prog 37 #[.pointer (some ⟨p, 0, none⟩), .int .i64 n, .int .i64 m] w fun e w' => e = .returned (.int .i64 6) ∧ Below w.heap.size w w' := by
  have k1 := hv.cellF n hn
  have k2 := hv.cellT n hn
  have k8 := hv.cellL
  obtain ⟨ao, cap, htv, hcap, hrow⟩ := hv.row n hn
  rw [htv] at k2
  have hp := hv.lt
  have hlog := hok.log
  have hnI : (n : Int) < 4 := by omega
  have hm : m < 34359738368 := by
    have h1 := hasB_iff.1 hh
    have h2 := hok.last n
    unfold Chn.has at h1
    omega
  have HY : Hid (∀ W : World, Calls Tryz.prog 77 #[.agg #[.int .i64 (yF (s.ch n)), .slice ao (s.ch n).texts.length cap], .int .i64 m] W fun e w' => e = .returned (.bool true) ∧ Below W.heap.size W w') := fun W => by rw [← hh]; exact yhas_chain hok m W
  have HPB : Hid (∀ W : World, Calls Tryz.prog 79 #[.int .i64 n, .int .i64 m] W fun e w' => e = .returned (.string ⟨(bodyP n m).toArray⟩) ∧ Below W.heap.size W w') := fun W => yprunes_any n m W (by omega) hm
  have hbl := (bodyP_len n m (by omega) hm).2
  have hrl := (recL_len (b := bodyP n m) (by omega)).1
  have HRP : Hid (∀ W : World, Calls Tryz.prog 74 #[.string ⟨(bodyP n m).toArray⟩] W fun e w' => e = .returned (.string ⟨(recL (bodyP n m)).toArray⟩) ∧ Below W.heap.size W w') := fun W => yrecord_any _ W (by rw [lens_size]; omega)
  have hls : (⟨s.log.toArray⟩ : ByteArray).size ≤ 20000 := by rw [lens_size]; exact hlog
  have hx : (⟨(recL (bodyP n m)).toArray⟩ : ByteArray).size ≤ 100000 := by rw [lens_size]; omega
  have hf : 20000 < (⟨s.log.toArray⟩ : ByteArray).size + (⟨(recL (bodyP n m)).toArray⟩ : ByteArray).size := by rw [lens_size, lens_size]; exact hroom
  generalize (⟨(recL (bodyP n m)).toArray⟩ : ByteArray) = RP at *
  generalize (⟨(bodyP n m).toArray⟩ : ByteArray) = BP at *
  generalize (⟨s.log.toArray⟩ : ByteArray) = LG at *
  generalize yF (s.ch n) = F at *
  generalize (s.ch n).texts.length = L at *
  have q1 : IntKind.i64.wrap ((LG.size : Int) + (RP.size : Int)) = (LG.size : Int) + (RP.size : Int) := by rw [IntKind.wrap_i64]; omega
  have hfI : (20000 : Int) < (LG.size : Int) + (RP.size : Int) := by omega
  clear hv hok hrow htv hcap hh hroom hbl hrl hlog hm
  go_enter Tryz.func37, Tryz.ntmps37
  go_wp2_with fail
  refine (HY.out _).mono ?_
  rintro e w1 ⟨rfl, b1⟩
  have k81 := (b1.cell (p := ⟨p, 8, none⟩) hp).trans k8
  have hp1 := Nat.lt_of_lt_of_le hp b1.size
  clear k1 k2 k8
  go_wp2_with fail
  refine (HPB.out _).mono ?_
  rintro e w2 ⟨rfl, b2⟩
  go_wp2_with fail
  refine (HRP.out _).mono ?_
  rintro e w3 ⟨rfl, b3⟩
  have b23 := b2.trans (b3.mono b2.size)
  have k83 := (b23.cell (p := ⟨p, 8, none⟩) hp1).trans k81
  have hp3 := Nat.lt_of_lt_of_le hp1 b23.size
  have B3 : Below w.heap.size w w3 := b1.trans (b23.mono b1.size)
  clear b23 b1 b2 b3 k81
  go_wp2
  go_ret
  exact ⟨rfl, B3⟩
end Go.Proofs.YtabpiaaknjcnkaaGreat

/-
  The steps of Backup and Prune.
-/
namespace Go.Proofs.YtabpiaaknjcnkaaGreat
open Go.RowKit
set_option linter.unusedVariables false
set_option linter.unusedSimpArgs false
set_option maxRecDepth 100000

theorem set_same {xs : List XV} {ys : List YV} {i : Nat} {x : XV} {y : YV} (hs : xs.map (·.s) = ys.map (·.s)) (h : x.s = y.s) : (xs.set i x).map (·.s) = (ys.set i y).map (·.s) := by
  rw [List.map_set, List.map_set, hs, h]
/-- What a step leaves: the vaults of both sides say the same. -/
def Went (B0 Wb n : Nat) (w : World) (e : Ending) (w' : World) : Prop :=
  e = .returned (.bool true) ∧ (∃ xv yv bv es xs ys κ, es.length ≤ n ∧ xs.map (·.s) = ys.map (·.s) ∧ xs.length ≤ 4 ∧ WorldAt w' B0 Wb xv yv bv es xs ys κ) ∧ Below B0 w w'
set_option maxHeartbeats 4000000 in
theorem step_backup {w : World} {B0 Wb : Nat} {xv yv bv : Value} {es : List Entry} {xs : List XV} {ys : List YV} {κ : Nat → Col} (h : WorldAt w B0 Wb xv yv bv es xs ys κ) (hsame : xs.map (·.s) = ys.map (·.s)) (h0 : 0 < xs.length) (h4 : xs.length ≤ 4) (a b c : Int) (ha : -9223372036854775808 ≤ a ∧ a ≤ 9223372036854775807) (s t : ByteArray) (hs : s.size ≤ 9223372036854775807) (lo mo : Option Addr) (ln lc mn mc : Nat) :
    Calls Tryz.prog 17 #[.pointer (some ⟨Wb, 0, none⟩), .agg #[.int .i64 8, .int .i64 a, .int .i64 b, .int .i64 c, .string s, .string t, .slice lo ln lc, .slice mo mn mc]] w (Went B0 Wb es.length w) := by
  have hi := pickN_lt a xs.length h0
  have HPK : Hid (∀ W, Calls Tryz.prog 32 #[.int .i64 a, .int .i64 xs.length] W fun e w' => e = .returned (.int .i64 (pickN a xs.length)) ∧ W = w') := fun W => lpick_eq a xs.length W ha.1 ha.2 h0 (by omega)
  generalize pickN a xs.length = i at *
  obtain ⟨gx, cx, gy, cy, x, y, ex, ey, lx, ly, c1, c2, hx, hy, hxy⟩ := h.picks hsame hi
  obtain ⟨hX, hXc, hok⟩ := h.xat i x hx
  obtain ⟨hY, hYc, hok2⟩ := h.yat i y hy
  have HX : Hid (∀ W, Below w.heap.size w W → Calls Tryz.prog 15 #[.pointer (some ⟨x.p, 0, none⟩), .int .i64 b, .string s] W fun e w' => e = .returned (.tuple #[.int .i64 (putN x.s b s), .int .i64 (putE x.s b s)]) ∧ Below B0 W w' ∧ w.heap.size ≤ w'.heap.size ∧ (w.heap.size < W.heap.size → w'.heap[w.heap.size]? = W.heap[w.heap.size]?) ∧ Hid (∃ x' κ', x'.s = putS x.s b s ∧ WorldAt w' B0 Wb xv yv bv es (xs.set i x') ys κ')) := fun W hW => by
    have hWat := h.below hW
    obtain ⟨hXW, _, _⟩ := hWat.xat i x hx
    refine (cbackup_any x.p b x.lv x.tv x.s s W hXW hok hs).mono ?_
    rintro e w' ⟨he, hm⟩
    obtain ⟨hB, x', κ', e1, e2, hat⟩ := hWat.xmove hx hm (putS_ok hok _ _)
    refine ⟨he, hB, Nat.le_trans hW.size hB.size, ?_, x', κ', e1, hat⟩
    obtain ⟨_, _, _, hO, _⟩ := hm
    exact fun hlt => hO.block _ hlt (fun hf => by have := hX.foot_lt _ hf; omega)
  have HY : Hid (∀ W x' κ', x'.s = putS x.s b s → WorldAt W B0 Wb xv yv bv es (xs.set i x') ys κ' → Calls Tryz.prog 33 #[.pointer (some ⟨y.q, 0, none⟩), .int .i64 b, .string s] W fun e w' => e = .returned (.tuple #[.int .i64 (putN x.s b s), .int .i64 (putE x.s b s)]) ∧ Hid (Below B0 W w' ∧ ∃ xs' ys' κ', xs'.map (·.s) = ys'.map (·.s) ∧ xs'.length ≤ 4 ∧ WorldAt w' B0 Wb xv yv bv es xs' ys' κ')) := fun W x' κ' hx' hat => by
    obtain ⟨hYW, _, hok3⟩ := hat.yat i y hy
    rw [hxy]
    refine (ybackup_any y.q b y.tv y.s s W hYW hok3 hs).mono ?_
    rintro e w' ⟨he, hm⟩
    obtain ⟨hB, y', κ2, e1, e2, hat2⟩ := hat.ymove hy hm (putS_ok hok3 _ _)
    exact ⟨he, hB, _, _, κ2, set_same hsame (by rw [hx', e1, hxy]), by rw [List.length_set]; exact h4, hat2⟩
  have kX := h.cellX
  have kY := h.cellY
  rw [ex] at kX
  rw [ey] at kY
  have hWb := h.lt
  have hB0 := h.low0
  have hN0 : ¬ (xs.length : Int) = 0 := by omega
  have hiI : (i : Int) < (xs.length : Int) := by omega
  generalize putN x.s b s = N1 at *
  generalize putE x.s b s = E1 at *
  generalize x.p = p at *
  generalize y.q = q at *
  generalize hN : xs.length = N at *
  have HB0 : Hid (B0 ≤ w.heap.size) := hB0
  clear hx hy hxy hX hY hok h hsame ex ey ha hXc hYc hok2 h0 h4 hi hN hB0
  go_enter Tryz.func17, Tryz.ntmps17
  go_wp2
  go_region_with (first | (go_at_call 32; refine (HPK.out _).mono ?_; rintro e w' ⟨rfl, rfl⟩))
  all_goals
    go_wp2_with fail
    refine (HX.out _ (((Below.refl w.heap.size w).alloc (Nat.le_refl _) _).drew)).mono ?_
    rintro e w1 ⟨rfl, b1, hs1, o1, H1⟩
    have ob1 := (o1 (by simp)).trans (heap_alloc_new w _)
    have B1 : Below B0 w w1 := ((((Below.refl w.heap.size w).alloc (Nat.le_refl _) _).drew).mono HB0.out).trans b1
    have j2 : w1.cell? ⟨w.heap.size, 2, none⟩ = some (.int .i64 b) := by rw [Lib.cell_of_heap ob1]; rfl
    have j3 : w1.cell? ⟨w.heap.size, 3, none⟩ = some (.int .i64 c) := by rw [Lib.cell_of_heap ob1]; rfl
    have j4 : w1.cell? ⟨w.heap.size, 4, none⟩ = some (.string s) := by rw [Lib.cell_of_heap ob1]; rfl
    have hs1' : w.heap.size < w1.heap.size := lt_of_block ob1
    obtain ⟨x', κ', hx', hat⟩ := H1.out
    have HYC := HY.out w1 x' κ' hx' hat
    have HYD : Hid (Calls Tryz.prog 33 #[.pointer (some ⟨q, 0, none⟩), .int .i64 b, .string s] w1 fun e w' => e = .returned (.tuple #[.int .i64 (N1), .int .i64 (E1)]) ∧ Hid (Below B0 w1 w' ∧ ∃ xs' ys' κ', xs'.map (·.s) = ys'.map (·.s) ∧ xs'.length ≤ 4 ∧ WorldAt w' B0 Wb xv yv bv es xs' ys' κ')) := HYC
    clear ob1 b1 o1 c1 c2 kX kY H1 hat hx' HYC HX HY
    go_wp2_with fail
    refine HYD.out.mono ?_
    rintro e w2 ⟨rfl, H2⟩
    have HR : Hid (Below B0 w w2 ∧ ∃ xs' ys' κ', xs'.map (·.s) = ys'.map (·.s) ∧ xs'.length ≤ 4 ∧ WorldAt w2 B0 Wb xv yv bv es xs' ys' κ') := ⟨B1.trans H2.out.1, H2.out.2⟩
    clear HYD B1 j2 j3 j4 H2
    go_wp2
    go_ret
    obtain ⟨hb, xs', ys', κ2, e1, e2, hat2⟩ := HR.out
    exact ⟨rfl, ⟨xv, yv, bv, es, xs', ys', κ2, Nat.le_refl _, e1, e2, hat2⟩, hb⟩
end Go.Proofs.YtabpiaaknjcnkaaGreat
