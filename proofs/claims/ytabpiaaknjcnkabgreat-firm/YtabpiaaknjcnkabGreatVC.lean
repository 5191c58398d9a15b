/-
  The walks over package store: Prune.
-/
import Derived.Test.YtabpiaaknjcnkabGreatV7
namespace Go.Proofs.YtabpiaaknjcnkabGreat
open Go.RowKit
set_option linter.unusedVariables false
set_option linter.unusedSimpArgs false
set_option maxRecDepth 100000

theorem grown_below {w w' : World} {row : Option Nat} (h : Below w.heap.size w w') : w.grownBy w' row := ⟨h.os, h.tape, h.output, h.size, fun q hq _ => h.block q hq⟩
theorem strs_wide {w : World} {b : Nat} {v : Value} {ts : List ByteArray} (h : OwnStrs w b v ts) : OwnStrs w 0 v ts := by
  refine ⟨h.1, ?_⟩
  rcases h.2 with h' | ⟨g, cap, cur, rfl, hg, hr⟩
  · exact .inl h'
  · exact .inr ⟨g, cap, cur, rfl, Nat.zero_le _, hr⟩

/-- What Prune tells. -/
def cutE (s : Vlt) (c z : Int) : Int := if ¬ (0 ≤ c ∧ c < 4) then 4 else if hasB (s.ch c.toNat) z = true then (if 20000 < s.log.length + (recL (bodyP c.toNat z.toNat)).length then 6 else 0) else 5
def cutS (s : Vlt) (c z : Int) : Vlt := if cutE s c z = 0 then s.drop c.toNat z.toNat else s
theorem cutS_ok {s : Vlt} (h : s.Ok) (c z : Int) : (cutS s c z).Ok := by
  unfold cutS
  split
  · rename_i hE
    unfold cutE at hE
    split at hE
    · exact absurd hE (by decide)
    · split at hE
      · rename_i hh
        split at hE
        · exact absurd hE (by decide)
        · rename_i hr
          have hh' := hasB_iff.1 hh
          have hz : ((z.toNat : Nat) : Int) = z := by unfold Chn.has at hh'; omega
          exact drop_ok h (by rw [hz]; exact hh') hr
      · exact absurd hE (by decide)
  · exact h

set_option maxHeartbeats 4000000 in
theorem sprune_small (p : Nat) (c z : Int) (lv : Value) (tv : Nat → Value) (s : Vlt) (w : World) (hv : VaultAt w p lv tv s) (hok : s.Ok) (h : cutE s c z ≠ 0) :
    Calls Tryz.prog 35 #[.pointer (some ⟨p, 0, none⟩), .int .i64 c, .int .i64 z] w fun e w' => e = .returned (.int .i64 (cutE s c z)) ∧ Below w.heap.size w w' := by
  by_cases hc : 0 ≤ c ∧ c < 4
  · have hd : decide (0 ≤ c ∧ c < 4) = true := by simpa using hc
    obtain ⟨n, rfl⟩ : ∃ n : Nat, c = n := ⟨c.toNat, by omega⟩
    have hn : n < 4 := by omega
    have hlast : (s.ch n).gone + (s.ch n).texts.length ≤ 2147483647 := hok.last n
    have hlog := hok.log
    obtain ⟨to, tc, htv⟩ := (hv.row n hn).slice
    obtain ⟨lo, lc, hlv⟩ := hv.log.slice
    have HV : Hid (VaultAt w p lv tv s) := hv
    have HH : Hid (Calls Tryz.prog 57 #[.pointer (some ⟨p, 1 + n * 2, none⟩), .int .i64 z] w fun e w' => e = .returned (.bool (hasB (s.ch n) z)) ∧ Still w w') := by
      have k1 := hv.cellG n hn
      have k2 := hv.cellT n hn
      rw [htv] at k2
      exact vhas_st p (1 + n * 2) _ _ _ _ z w k1 k2 (by omega)
    by_cases hh : hasB (s.ch n) z = true
    · have hh' := hasB_iff.1 hh
      unfold Chn.has Chn.last at hh'
      obtain ⟨m, rfl⟩ : ∃ m : Nat, z = m := ⟨z.toNat, by omega⟩
      have HE : Hid (cutE s (n : Int) (m : Int) = 6 ∧ 20000 < s.log.length + (recL (bodyP n m)).length) := by
        unfold cutE at h ⊢
        rw [if_neg (by omega), show ((n : Int)).toNat = n by omega, show ((m : Int)).toNat = m by omega, if_pos hh] at h ⊢
        by_cases hr : 20000 < s.log.length + (recL (bodyP n m)).length
        · rw [if_pos hr]; exact ⟨rfl, hr⟩
        · rw [if_neg hr] at h; exact absurd rfl h
      have hm : m < 34359738368 := by omega
      have hrl := recL_len (b := bodyP n m) (by have := (bodyP_len n m (by omega) hm).2; omega)
      have hbl := (bodyP_len n m (by omega) hm).2
      have HP : Hid (∀ W : World, Calls Tryz.prog 60 #[.iface 129 (.agg #[.int .u8 80, .int .i64 n, .int .i64 m])] W fun e w' => ∃ v, e = .returned v ∧ OwnBytes w' W.heap.size v (recL (bodyP n m)) ∧ Below W.heap.size W w') := fun W => recbytes_prune n m W (by omega) hm
      rw [hh] at HH
      generalize recL (bodyP n m) = R at *
      have hr : ¬ s.log.length + R.length ≤ 20000 := by have := HE.out.2; omega
      clear hh hh' hv hok h
      go_enter Tryz.func35, Tryz.ntmps35
      go_wp2_with fail
      refine (ischain_any n _).mono ?_
      rintro e w1 ⟨rfl, rfl⟩
      rw [hd]
      go_wp2_with fail
      refine HH.out.mono ?_
      rintro e w2 ⟨rfl, st2⟩
      go_wp2_with fail
      refine (recprune_any n m _).mono ?_
      rintro e w3 ⟨rfl, rfl⟩
      go_wp2_with fail
      refine (HP.out _).mono ?_
      rintro e w3 ⟨v3, rfl, o3, b3⟩
      obtain ⟨ao, ac, hv3⟩ := o3.slice
      subst hv3
      have HV3 : Hid (VaultAt w3 p lv tv s) := (HV.out.still st2).below b3
      have k0 : w3.cell? ⟨p, 0, none⟩ = some (.slice lo s.log.length lc) := by rw [← hlv]; exact HV3.out.cell0
      have B3 : Below w.heap.size w w3 := (st2.below _).trans (b3.mono (by rw [st2.size]; exact Nat.le_refl _))
      clear o3 b3 HV3 HV
      go_wp2_with fail
      refine (hasroom_any p s.log.length lc R.length ac lo ao _ k0 (by omega) (by omega)).mono ?_
      rintro e w4 ⟨rfl, rfl⟩
      rw [show decide (s.log.length + R.length ≤ 20000) = false from by simpa using hr]
      go_wp2
      go_ret
      exact ⟨ret_int HE.out.1.symm, B3⟩
    · have hf : hasB (s.ch n) z = false := by simpa using hh
      have HE : Hid (cutE s (n : Int) z = 5) := by show _ = _; unfold cutE; rw [if_neg (by omega)]; simp [hf]
      rw [hf] at HH
      clear hh hf hv h
      go_enter Tryz.func35, Tryz.ntmps35
      go_wp2_with fail
      refine (ischain_any n _).mono ?_
      rintro e w1 ⟨rfl, rfl⟩
      rw [hd]
      go_wp2_with fail
      refine HH.out.mono ?_
      rintro e w2 ⟨rfl, st2⟩
      go_wp2
      go_ret
      exact ⟨ret_int HE.out.symm, st2.below _⟩
  · have hd : decide (0 ≤ c ∧ c < 4) = false := by simpa using hc
    have HE : Hid (cutE s c z = 4) := by show _ = _; unfold cutE; rw [if_pos hc]
    clear hc hv h
    go_enter Tryz.func35, Tryz.ntmps35
    go_wp2_with fail
    refine (ischain_any c _).mono ?_
    rintro e w1 ⟨rfl, rfl⟩
    rw [hd]
    go_wp2
    go_ret
    exact ⟨ret_int HE.out.symm, Below.refl _ _⟩

set_option maxHeartbeats 8000000 in
theorem sprune_ok (p n m : Nat) (lv : Value) (tv : Nat → Value) (s : Vlt) (w : World) (hv : VaultAt w p lv tv s) (hok : s.Ok) (hn : n < 4) (hh : hasB (s.ch n) m = true) (hroom : s.log.length + (recL (bodyP n m)).length ≤ 20000) :
    Calls Tryz.prog 35 #[.pointer (some ⟨p, 0, none⟩), .int .i64 n, .int .i64 m] w fun e w' => e = .returned (.int .i64 0) ∧ Moves p lv tv (s.drop n m) w w' := by
  obtain ⟨i0, hi, hz0, hz1, hz2⟩ := info_parts Tryz.infoByte
  have hd : decide (0 ≤ (n : Int) ∧ (n : Int) < 4) = true := by simp; omega
  have hlast : (s.ch n).gone + (s.ch n).texts.length ≤ 2147483647 := hok.last n
  have hlog := hok.log
  obtain ⟨to, tc, htv⟩ := (hv.row n hn).slice
  obtain ⟨lo, lc, hlv⟩ := hv.log.slice
  have HV : Hid (VaultAt w p lv tv s) := hv
  have HH : Hid (Calls Tryz.prog 57 #[.pointer (some ⟨p, 1 + n * 2, none⟩), .int .i64 m] w fun e w' => e = .returned (.bool (hasB (s.ch n) m)) ∧ Still w w') := by
    have k1 := hv.cellG n hn
    have k2 := hv.cellT n hn
    rw [htv] at k2
    exact vhas_st p (1 + n * 2) _ _ _ _ m w k1 k2 (by omega)
  have hh' := hasB_iff.1 hh
  unfold Chn.has Chn.last at hh'
  have hm : m < 34359738368 := by omega
  have hrl := recL_len (b := bodyP n m) (by have := (bodyP_len n m (by omega) hm).2; omega)
  have hbl := (bodyP_len n m (by omega) hm).2
  have HP : Hid (∀ W : World, Calls Tryz.prog 60 #[.iface 129 (.agg #[.int .u8 80, .int .i64 n, .int .i64 m])] W fun e w' => ∃ v, e = .returned v ∧ OwnBytes w' W.heap.size v (recL (bodyP n m)) ∧ Below W.heap.size W w') := fun W => recbytes_prune n m W (by omega) hm
  have HDR : Hid (s.drop n m = ⟨s.log ++ recL (bodyP n m), fun i => if i = n then ⟨m - 1, (s.ch n).texts.drop (m - (s.ch n).gone - 1)⟩ else s.ch i⟩) := rfl
  rw [hh] at HH
  generalize recL (bodyP n m) = AA at *
  obtain ⟨k, hk⟩ : ∃ k : Nat, m = (s.ch n).gone + k + 1 := ⟨m - (s.ch n).gone - 1, by omega⟩
  have hkl : k < (s.ch n).texts.length := by omega
  have HK : Hid ((m : Int) = ((s.ch n).gone : Int) + k + 1 ∧ m - 1 = (s.ch n).gone + k ∧ m - (s.ch n).gone - 1 = k) := ⟨by omega, by omega, by omega⟩
  have hApos : 0 < AA.length := by omega
  clear hh hh' hv hok hk
  go_enter Tryz.func35, Tryz.ntmps35
  go_wp2_with fail
  refine (ischain_any n _).mono ?_
  rintro e w1 ⟨rfl, rfl⟩
  rw [hd]
  go_wp2_with fail
  refine HH.out.mono ?_
  rintro e w2 ⟨rfl, st2⟩
  go_wp2_with fail
  refine (recprune_any n m _).mono ?_
  rintro e w3 ⟨rfl, rfl⟩
  go_wp2_with fail
  refine (HP.out _).mono ?_
  rintro e WK ⟨v3, rfl, o3, b3⟩
  obtain ⟨ag, ac, hv3, hag, hagk⟩ := own_form o3 hApos
  subst hv3
  have HVk : Hid (VaultAt WK p lv tv s) := (HV.out.still st2).below b3
  have k0 : WK.cell? ⟨p, 0, none⟩ = some (.slice lo s.log.length lc) := by rw [← hlv]; exact HVk.out.cell0
  have Bk : Below w.heap.size w WK := (st2.below _).trans (b3.mono (by rw [st2.size]; exact Nat.le_refl _))
  have HA : Hid (OwnBytes WK w2.heap.size (.slice (some ⟨ag, 0, none⟩) AA.length ac) AA) := o3
  clear o3 b3 HV st2 HP HH
  go_wp2_with fail
  refine (hasroom_any p s.log.length lc AA.length ac lo (some ⟨ag, 0, none⟩) _ k0 (by omega) (by omega)).mono ?_
  rintro e w4 ⟨rfl, rfl⟩
  rw [show decide (s.log.length + AA.length ≤ 20000) = true from by simpa using hroom]
  have f0 : WK.frozen? ⟨p, 0, none⟩ = false := HVk.out.frozen 0
  have HLG : Hid (OwnBytes WK 0 (.slice lo s.log.length lc) s.log) := by rw [← hlv]; exact HVk.out.log
  have hpk := HVk.out.lt
  have hnp : (Value.slice lo s.log.length lc).ownBlock ≠ some p := by rw [← hlv]; exact HVk.out.logp
  go_wp2_with (first | (at_builtin; refine wpList_append_lies _ rfl _ _ 41 rfl 0 5 i0 (.int .u8 0) 1 1 Tryz.underlying41 hi hz0 hz1 hz2 rfl (by decide) (.slice lo s.log.length lc) s.log.length (s.log.map byteV) rfl HLG.out ⟨ag, 0, none⟩ AA.length ac (AA.map byteV) rfl ?c1 ?c2 ?c3 ?c4 ?c5 ?c6 ?c7 _ rfl ?_))
  case c1 => simp
  case c2 => exact own_news HA.out rfl
  case c3 => intro u hu; obtain ⟨x, _, rfl⟩ := List.mem_map.1 hu; rfl
  case c4 => exact hApos
  case c5 => unfold maxLen; omega
  case c6 => omega
  case c7 => exact Nat.zero_le _
  intro g5 cap5 w5 hown5 hgr5 hat5 hlt5
  have e5 := (World.cell?_of_block (a := ⟨p, 0, none⟩) (hgr5.block p hpk (Ne.symm hnp))).trans k0
  have f5 := (World.frozen?_of_block (a := ⟨p, 0, none⟩) (hgr5.block p hpk (Ne.symm hnp))).trans f0
  have hLG := HVk.out.logged (w2 := w5) (lv' := .slice (some ⟨g5, 0, none⟩) (s.log.length + AA.length) cap5) (bs := s.log ++ AA) (by rw [hlv]; exact hgr5) (by unfold OwnBytes; rw [List.map_append, List.length_append]; exact hown5) (by
    rw [hlv]
    rcases hat5 with x | x
    · exact .inl (by rw [x]; rfl)
    · exact .inr ⟨g5, rfl, by omega⟩)
  obtain ⟨hV6, hO6, hS6⟩ := hLG
  have HV6 : Hid (VaultAt (w5.setCell ⟨p, 0, none⟩ (.slice (some ⟨g5, 0, none⟩) (s.log.length + AA.length) cap5)) p (.slice (some ⟨g5, 0, none⟩) (s.log.length + AA.length) cap5) tv ⟨s.log ++ AA, s.ch⟩) := hV6
  have hrow6 := hV6.row n hn
  have k26 := hV6.cellT n hn
  rw [htv] at hrow6 k26
  have HAD0 := vdrop_any p (1 + n * 2) (s.ch n).gone k tc to (s.ch n).texts _ hV6.lt (hV6.cellG n hn) k26 (fun j => hV6.frozen j) hrow6 hkl hlast
  rw [← HK.out.1] at HAD0
  have HAD : Hid (Calls Tryz.prog 62 #[.pointer (some ⟨p, 1 + n * 2, none⟩), .int .i64 m] (w5.setCell ⟨p, 0, none⟩ (.slice (some ⟨g5, 0, none⟩) (s.log.length + AA.length) cap5)) _) := HAD0
  clear HAD0 hrow6 k26
  clear hV6 hown5 hgr5 hat5 HLG k0 f0 HA
  go_wp2_with fail
  refine HAD.out.mono ?_
  rintro e w7 ⟨rfl, v7, w8, rfl, o7, b7⟩
  have hp6 := HV6.out.lt
  have hT := HV6.out.turned (w2 := w8) (w3 := (w8.setCell ⟨p, 1 + n * 2 + 1, none⟩ v7).setCell ⟨p, 1 + n * 2, none⟩ (.int .i64 (((s.ch n).gone + k : Nat) : Int))) (g' := (s.ch n).gone + k) (ts := (s.ch n).texts.drop k) hn (grown_below b7) (strs_wide o7) (fun g hg => .inr (row_own_ge o7 hg)) (vset_two hn ((b7.block p hp6).trans HV6.out.blk)) (fun q hq => (Below.heap_setCell _ _ _ _ hq).trans (Below.heap_setCell _ _ _ _ hq)) (by simp [World.setCell]) ⟨rfl, rfl, rfl⟩
  obtain ⟨hV8, hO8, hS8⟩ := hT
  have HR8 : Hid (Moves p lv tv (s.drop n m) w ((w8.setCell ⟨p, 1 + n * 2 + 1, none⟩ v7).setCell ⟨p, 1 + n * 2, none⟩ (.int .i64 (((s.ch n).gone + k : Nat) : Int)))) := by
    have hV9 := hV8
    have e : s.drop n m = ⟨s.log ++ AA, fun i => if i = n then ⟨(s.ch n).gone + k, (s.ch n).texts.drop k⟩ else s.ch i⟩ := by rw [HDR.out, HK.out.2.1, HK.out.2.2]
    rw [← e] at hV9
    refine ⟨_, _, hV9, (Out.of_below Bk).trans (hO6.trans hO8 hS6) (fun q hq => .inl hq), fun q hq => ?_⟩
    have s1 := Bk.size
    have s2 := hO6.size
    rcases hS8 q hq with x | x
    · rcases hS6 q x with y | y
      · exact .inl y
      · exact .inr (by omega)
    · exact .inr (by omega)
  clear hV8 hO8 hS8 hO6 hS6 HV6 HAD e5 f5 b7 o7
  go_wp2
  go_ret
  exact ⟨rfl, HR8.out⟩

theorem sprune_any (p : Nat) (c z : Int) (lv : Value) (tv : Nat → Value) (s : Vlt) (w : World) (hv : VaultAt w p lv tv s) (hok : s.Ok) :
    Calls Tryz.prog 35 #[.pointer (some ⟨p, 0, none⟩), .int .i64 c, .int .i64 z] w fun e w' => e = .returned (.int .i64 (cutE s c z)) ∧ Moves p lv tv (cutS s c z) w w' := by
  by_cases h : cutE s c z = 0
  · have hS : cutS s c z = s.drop c.toNat z.toNat := by unfold cutS; rw [if_pos h]
    rw [hS, h]
    unfold cutE at h
    split at h
    · exact absurd h (by decide)
    · rename_i hc
      split at h
      · rename_i hh
        split at h
        · exact absurd h (by decide)
        · rename_i hr
          have hh' := hasB_iff.1 hh
          unfold Chn.has at hh'
          have e1 : c = ((c.toNat : Nat) : Int) := by omega
          have e2 : z = ((z.toNat : Nat) : Int) := by omega
          have := sprune_ok p c.toNat z.toNat lv tv s w hv hok (by omega) (by rw [← e2]; exact hh) (by omega)
          rw [← e1, ← e2] at this
          exact this
      · exact absurd h (by decide)
  · have hS : cutS s c z = s := by unfold cutS; rw [if_neg h]
    rw [hS]
    exact (sprune_small p c z lv tv s w hv hok h).mono fun e w' ⟨h1, h2⟩ => ⟨h1, Moves.stays hv h2⟩

set_option maxHeartbeats 2000000 in
theorem cprune_any (p : Nat) (c z : Int) (lv : Value) (tv : Nat → Value) (s : Vlt) (w : World) (hv : VaultAt w p lv tv s) (hok : s.Ok) :
    Calls Tryz.prog 18 #[.pointer (some ⟨p, 0, none⟩), .int .i64 c, .int .i64 z] w fun e w' => e = .returned (.int .i64 (cutE s c z)) ∧ Moves p lv tv (cutS s c z) w w' := by
  have HC : Hid (Calls Tryz.prog 35 #[.pointer (some ⟨p, 0, none⟩), .int .i64 c, .int .i64 z] w fun e w' => e = .returned (.int .i64 (cutE s c z)) ∧ Hid (Moves p lv tv (cutS s c z) w w')) := sprune_any p c z lv tv s w hv hok
  clear hv hok
  show Calls Tryz.prog 18 #[.pointer (some ⟨p, 0, none⟩), .int .i64 c, .int .i64 z] w fun e w' => e = .returned (.int .i64 (cutE s c z)) ∧ Hid (Moves p lv tv (cutS s c z) w w')
  generalize cutE s c z = b at *
  generalize cutS s c z = s' at *
  go_enter Tryz.func18, Tryz.ntmps18
  go_wp2_with fail
  refine HC.out.mono ?_
  rintro e w1 ⟨rfl, b1⟩
  go_wp2
  go_ret
  exact ⟨rfl, b1⟩
end Go.Proofs.YtabpiaaknjcnkabGreat
