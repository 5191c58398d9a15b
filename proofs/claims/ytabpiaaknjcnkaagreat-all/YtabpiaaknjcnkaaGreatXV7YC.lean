/- The texts V7, YC, one behind the other. -/
import Derived.Test.YtabpiaaknjcnkaaGreatXPPPKV6VB
import Derived.Laws.BytesArg
import Derived.Test.YtabpiaaknjcnkaaGreatXZKYBPMPQ
/-
  The walks over package store and the face: Restore, Versions, Prune, Log, New.
-/
namespace Go.Proofs.YtabpiaaknjcnkaaGreat
open Go.RowKit
set_option linter.unusedVariables false
set_option linter.unusedSimpArgs false
set_option maxRecDepth 100000

theorem conv_all {w : World} {base : Nat} {v : Value} {bs : List UInt8} (h : OwnBytes w base v bs) : (convert 48 9 v).run Tryz.prog w = .ok (.string ⟨bs.toArray⟩) w := by
  by_cases hb : 0 < bs.length
  · exact conv_own h hb
  · have h0 : bs = [] := List.eq_nil_of_length_eq_zero (by omega)
    subst h0
    rcases h.2 with ⟨rfl, _⟩ | ⟨g, cap, cur, rfl, _, hbk, h1, h2, h3, h4⟩
    · exact run_convert_bytes_nil w 48 5 Tryz.underlying48 Tryz.underlying5 0 0 9 Tryz.underlying9
    · exact run_convert_bytes_back (P := Tryz.prog) w 48 9 5 ⟨g, 0, none⟩ cap [] Tryz.underlying48 Tryz.underlying5 Tryz.underlying9 (fun j hj => by simp at hj)

/-- What Restore tells. -/
def hasB (x : Chn) (z : Int) : Bool := decide ((x.gone : Int) < z ∧ z ≤ (x.last : Int))
theorem hasB_iff {x : Chn} {z : Int} : hasB x z = true ↔ x.has z := by unfold hasB Chn.has; simp
def getE (s : Vlt) (c z : Int) : Int := if ¬ (0 ≤ c ∧ c < 4) then 4 else if hasB (s.ch c.toNat) z = true then 0 else 5
def getT (s : Vlt) (c z : Int) : ByteArray := if getE s c z = 0 then ((s.ch c.toNat).texts[(z - (s.ch c.toNat).gone - 1).toNat]?).getD ⟨#[]⟩ else ⟨#[]⟩

theorem ret_str_int {a b : ByteArray} {c d : Int} (h1 : a = b) (h2 : c = d) : Ending.returned (.tuple #[.string a, .int .i64 c]) = Ending.returned (.tuple #[.string b, .int .i64 d]) := by rw [h1, h2]

set_option maxHeartbeats 4000000 in
theorem srestore_any (p : Nat) (c z : Int) (lv : Value) (tv : Nat → Value) (s : Vlt) (w : World) (hv : VaultAt w p lv tv s) (hok : s.Ok) :
    Calls Tryz.prog 29 #[.pointer (some ⟨p, 0, none⟩), .int .i64 c, .int .i64 z] w fun e w' => e = .returned (.tuple #[.string (getT s c z), .int .i64 (getE s c z)]) ∧ Below w.heap.size w w' := by
  by_cases hc : 0 ≤ c ∧ c < 4
  · have hd : decide (0 ≤ c ∧ c < 4) = true := by simpa using hc
    obtain ⟨n, rfl⟩ : ∃ n : Nat, c = n := ⟨c.toNat, by omega⟩
    have hn : n < 4 := by omega
    have hlast : (s.ch n).gone + (s.ch n).texts.length ≤ 2147483647 := hok.last n
    obtain ⟨tq, tc, htv⟩ := (hv.row n hn).slice
    have HV : Hid (VaultAt w p lv tv s) := hv
    have k1 := hv.cellG n hn
    have k2 := hv.cellT n hn
    rw [htv] at k2
    have HH : Hid (Calls Tryz.prog 53 #[.pointer (some ⟨p, 1 + n * 2, none⟩), .int .i64 z] w fun e w' => e = .returned (.bool (hasB (s.ch n) z)) ∧ Still w w') := vhas_st p (1 + n * 2) _ _ _ _ z w k1 k2 (by omega)
    by_cases hh : hasB (s.ch n) z = true
    · have HE : Hid (getE s (n : Int) z = 0) := by show _ = _; unfold getE; rw [if_neg (by omega)]; simp [hh]
      have hh' := hasB_iff.1 hh
      unfold Chn.has Chn.last at hh'
      obtain ⟨i, hi⟩ : ∃ i : Nat, z = ((s.ch n).gone : Int) + i + 1 := ⟨(z - (s.ch n).gone - 1).toNat, by omega⟩
      have hlt : i < (s.ch n).texts.length := by omega
      have hget : (s.ch n).texts[i]? = some (s.ch n).texts[i] := List.getElem?_eq_getElem hlt
      have HT : Hid (getT s (n : Int) z = (s.ch n).texts[i]) := by
        show _ = _
        unfold getT
        rw [if_pos HE.out, show ((n : Int)).toNat = n by omega, show (z - ((s.ch n).gone : Int) - 1).toNat = i by omega, hget]; rfl
      have hsz : (s.ch n).texts[i].size ≤ 2000 := hok.size n _ (List.getElem_mem hlt)
      rw [hh] at HH
      have hrow := hv.row n hn
      rw [htv] at hrow
      have HTX : Hid (∀ W, Still w W → Calls Tryz.prog 51 #[.pointer (some ⟨p, 1 + n * 2, none⟩), .int .i64 z] W fun e w' => e = .returned (.string (s.ch n).texts[i]) ∧ Still W w') := fun W hW => by
        have k1 := (HV.out.still hW).cellG n hn
        have k2 := (HV.out.still hW).cellT n hn
        have hrow := (HV.out.still hW).row n hn
        rw [htv] at k2 hrow
        exact vtext_st p (1 + n * 2) _ i _ _ _ _ W k1 k2 hrow hget (by omega) z hi
      generalize (s.ch n).texts[i] = t at *
      clear hh' hi hlt hget hrow k1 k2 hh hv
      go_enter Tryz.func29, Tryz.ntmps29
      go_wp2_with fail
      refine (ischain_any n _).mono ?_
      rintro e w1 ⟨rfl, rfl⟩
      rw [hd]
      go_wp2_with fail
      refine HH.out.mono ?_
      rintro e w2 ⟨rfl, st2⟩
      go_wp2_with fail
      refine (HTX.out w2 st2).mono ?_
      rintro e w3 ⟨rfl, st3⟩
      go_wp2_with fail
      refine (clone_any t _ (by omega)).mono ?_
      rintro e w4 ⟨rfl, b4⟩
      have R : Below w.heap.size w w4 := ((st2.below _).trans (st3.below _)).trans (b4.mono (by rw [st3.size, st2.size]; exact Nat.le_refl _))
      go_wp2
      go_ret2
      exact ⟨ret_str_int HT.out.symm HE.out.symm, R⟩
    · have hf : hasB (s.ch n) z = false := by simpa using hh
      have HE : Hid (getE s (n : Int) z = 5) := by show _ = _; unfold getE; rw [if_neg (by omega)]; simp [hf]
      have HT : Hid (getT s (n : Int) z = ⟨#[]⟩) := by show _ = _; unfold getT; rw [if_neg (by rw [HE.out]; decide)]
      rw [hf] at HH
      clear hh hf k1 k2 hv
      go_enter Tryz.func29, Tryz.ntmps29
      go_wp2_with fail
      refine (ischain_any n _).mono ?_
      rintro e w1 ⟨rfl, rfl⟩
      rw [hd]
      go_wp2_with fail
      refine HH.out.mono ?_
      rintro e w2 ⟨rfl, st2⟩
      go_wp2
      go_ret2
      exact ⟨ret_str_int HT.out.symm HE.out.symm, st2.below _⟩
  · have hd : decide (0 ≤ c ∧ c < 4) = false := by simpa using hc
    have HE : Hid (getE s c z = 4) := by show _ = _; unfold getE; rw [if_pos hc]
    have HT : Hid (getT s c z = ⟨#[]⟩) := by show _ = _; unfold getT; rw [if_neg (by rw [HE.out]; decide)]
    clear hc hv
    go_enter Tryz.func29, Tryz.ntmps29
    go_wp2_with fail
    refine (ischain_any c _).mono ?_
    rintro e w1 ⟨rfl, rfl⟩
    rw [hd]
    go_wp2
    go_ret2
    exact ⟨ret_str_int HT.out.symm HE.out.symm, Below.refl _ _⟩

set_option maxHeartbeats 2000000 in
theorem crestore_any (p : Nat) (c z : Int) (lv : Value) (tv : Nat → Value) (s : Vlt) (w : World) (hv : VaultAt w p lv tv s) (hok : s.Ok) :
    Calls Tryz.prog 16 #[.pointer (some ⟨p, 0, none⟩), .int .i64 c, .int .i64 z] w fun e w' => e = .returned (.tuple #[.string (getT s c z), .int .i64 (getE s c z)]) ∧ Below w.heap.size w w' := by
  have HC : Hid (Calls Tryz.prog 29 #[.pointer (some ⟨p, 0, none⟩), .int .i64 c, .int .i64 z] w fun e w' => e = .returned (.tuple #[.string (getT s c z), .int .i64 (getE s c z)]) ∧ Below w.heap.size w w') := srestore_any p c z lv tv s w hv hok
  clear hv hok
  generalize getT s c z = t at *
  generalize getE s c z = e0 at *
  go_enter Tryz.func16, Tryz.ntmps16
  go_wp2_with fail
  refine HC.out.mono ?_
  rintro e w1 ⟨rfl, b1⟩
  go_wp2
  go_ret2
  exact ⟨rfl, b1⟩

def verE (c : Int) : Int := if 0 ≤ c ∧ c < 4 then 0 else 4
def verA (s : Vlt) (c : Int) : Int := if 0 ≤ c ∧ c < 4 then ((s.ch c.toNat).first : Int) else 0
def verB (s : Vlt) (c : Int) : Int := if 0 ≤ c ∧ c < 4 then ((s.ch c.toNat).last : Int) else 0
theorem ret_3i {a b c d e f : Int} (h1 : a = d) (h2 : b = e) (h3 : c = f) : Ending.returned (.tuple #[.int .i64 a, .int .i64 b, .int .i64 c]) = Ending.returned (.tuple #[.int .i64 d, .int .i64 e, .int .i64 f]) := by rw [h1, h2, h3]

set_option maxHeartbeats 2000000 in
theorem sversions_any (p : Nat) (c : Int) (lv : Value) (tv : Nat → Value) (s : Vlt) (w : World) (hv : VaultAt w p lv tv s) (hok : s.Ok) :
    Calls Tryz.prog 78 #[.pointer (some ⟨p, 0, none⟩), .int .i64 c] w fun e w' => e = .returned (.tuple #[.int .i64 (verA s c), .int .i64 (verB s c), .int .i64 (verE c)]) ∧ Still w w' := by
  by_cases hc : 0 ≤ c ∧ c < 4
  · have hd : decide (0 ≤ c ∧ c < 4) = true := by simpa using hc
    have HA : Hid (verA s c = ((s.ch c.toNat).first : Int) ∧ verB s c = ((s.ch c.toNat).last : Int) ∧ verE c = 0) := by
      unfold verA verB verE; rw [if_pos hc, if_pos hc, if_pos hc]; exact ⟨rfl, rfl, rfl⟩
    obtain ⟨n, rfl⟩ : ∃ n : Nat, c = n := ⟨c.toNat, by omega⟩
    rw [show ((n : Int)).toNat = n by omega] at HA
    have hn : n < 4 := by omega
    have hlast : (s.ch n).gone + (s.ch n).texts.length ≤ 2147483647 := hok.last n
    obtain ⟨tq, tc, htv⟩ := (hv.row n hn).slice
    have HV : Hid (VaultAt w p lv tv s) := hv
    have HF : Hid (∀ W, Still w W → Calls Tryz.prog 106 #[.pointer (some ⟨p, 1 + n * 2, none⟩)] W fun e w' => e = .returned (.int .i64 ((s.ch n).first : Int)) ∧ Still W w') := fun W hW => by
      have k1 := (HV.out.still hW).cellG n hn
      have k2 := (HV.out.still hW).cellT n hn
      rw [htv] at k2
      exact vfirst_st p (1 + n * 2) _ _ _ _ W k1 k2 (by omega)
    have HL : Hid (∀ W, Still w W → Calls Tryz.prog 48 #[.pointer (some ⟨p, 1 + n * 2, none⟩)] W fun e w' => e = .returned (.int .i64 ((s.ch n).last : Int)) ∧ Still W w') := fun W hW => by
      have k1 := (HV.out.still hW).cellG n hn
      have k2 := (HV.out.still hW).cellT n hn
      rw [htv] at k2
      exact vlast_st p (1 + n * 2) _ _ _ _ W k1 k2 (by omega)
    generalize (s.ch n).first = fi at *
    generalize (s.ch n).last = la at *
    clear hv hok hc
    go_enter Tryz.func78, Tryz.ntmps78
    go_wp2_with fail
    refine (ischain_any n _).mono ?_
    rintro e w1 ⟨rfl, rfl⟩
    rw [hd]
    go_wp2_with fail
    refine (HF.out _ ⟨rfl, rfl, rfl, rfl⟩).mono ?_
    rintro e w2 ⟨rfl, st2⟩
    go_wp2_with fail
    refine (HL.out _ st2).mono ?_
    rintro e w3 ⟨rfl, st3⟩
    go_wp2
    go_ret3
    exact ⟨ret_3i HA.out.1.symm HA.out.2.1.symm HA.out.2.2.symm, ⟨st3.1.trans st2.1, st3.2.1.trans st2.2.1, st3.2.2.1.trans st2.2.2.1, st3.2.2.2.trans st2.2.2.2⟩⟩
  · have hd : decide (0 ≤ c ∧ c < 4) = false := by simpa using hc
    have HA : Hid (verA s c = 0 ∧ verB s c = 0 ∧ verE c = 4) := by
      unfold verA verB verE; rw [if_neg hc, if_neg hc, if_neg hc]; exact ⟨rfl, rfl, rfl⟩
    clear hv hok hc
    go_enter Tryz.func78, Tryz.ntmps78
    go_wp2_with fail
    refine (ischain_any c _).mono ?_
    rintro e w1 ⟨rfl, rfl⟩
    rw [hd]
    go_wp2
    go_ret3
    exact ⟨ret_3i HA.out.1.symm HA.out.2.1.symm HA.out.2.2.symm, ⟨rfl, rfl, rfl, rfl⟩⟩

set_option maxHeartbeats 2000000 in
theorem cversions_any (p : Nat) (c : Int) (lv : Value) (tv : Nat → Value) (s : Vlt) (w : World) (hv : VaultAt w p lv tv s) (hok : s.Ok) :
    Calls Tryz.prog 35 #[.pointer (some ⟨p, 0, none⟩), .int .i64 c] w fun e w' => e = .returned (.tuple #[.int .i64 (verA s c), .int .i64 (verB s c), .int .i64 (verE c)]) ∧ Still w w' := by
  have HC : Hid (Calls Tryz.prog 78 #[.pointer (some ⟨p, 0, none⟩), .int .i64 c] w fun e w' => e = .returned (.tuple #[.int .i64 (verA s c), .int .i64 (verB s c), .int .i64 (verE c)]) ∧ Still w w') := sversions_any p c lv tv s w hv hok
  clear hv hok
  generalize verA s c = a at *
  generalize verB s c = b at *
  generalize verE c = e0 at *
  go_enter Tryz.func35, Tryz.ntmps35
  go_wp2_with fail
  refine HC.out.mono ?_
  rintro e w1 ⟨rfl, b1⟩
  go_wp2
  go_ret3
  exact ⟨rfl, b1⟩

set_option maxHeartbeats 2000000 in
theorem slog_any (p : Nat) (lv : Value) (tv : Nat → Value) (s : Vlt) (w : World) (hv : VaultAt w p lv tv s) :
    Calls Tryz.prog 26 #[.pointer (some ⟨p, 0, none⟩)] w fun e w' => e = .returned (.string ⟨s.log.toArray⟩) ∧ w = w' := by
  have k0 := hv.cell0
  have hcv := conv_all hv.log
  obtain ⟨lo, lc, hlv⟩ := hv.log.slice
  rw [hlv] at k0 hcv
  clear hv
  go_enter Tryz.func26, Tryz.ntmps26
  go_wp2
  go_ret
  exact ⟨rfl, rfl⟩
set_option maxHeartbeats 2000000 in
theorem clog_any (p : Nat) (lv : Value) (tv : Nat → Value) (s : Vlt) (w : World) (hv : VaultAt w p lv tv s) :
    Calls Tryz.prog 13 #[.pointer (some ⟨p, 0, none⟩)] w fun e w' => e = .returned (.string ⟨s.log.toArray⟩) ∧ w = w' := by
  have HC : Hid (Calls Tryz.prog 26 #[.pointer (some ⟨p, 0, none⟩)] w fun e w' => e = .returned (.string ⟨s.log.toArray⟩) ∧ w = w') := slog_any p lv tv s w hv
  clear hv
  generalize (⟨s.log.toArray⟩ : ByteArray) = L at *
  go_enter Tryz.func13, Tryz.ntmps13
  go_wp2_with fail
  refine HC.out.mono ?_
  rintro e w1 ⟨rfl, rfl⟩
  go_wp2
  go_ret
  exact ⟨rfl, rfl⟩

theorem vault_new (w : World) : VaultAt (w.alloc (.cells #[.slice none 0 0, .int .i64 0, .slice none 0 0, .int .i64 0, .slice none 0 0, .int .i64 0, .slice none 0 0, .int .i64 0, .slice none 0 0] 81)) w.heap.size (.slice none 0 0) (fun _ => .slice none 0 0) noVault :=
  ⟨heap_alloc_new _ _, World.ownsRow_nil _ _ _ _, fun i _ => World.ownsRow_nil _ _ _ _, fun i j _ _ _ g hg => by cases hg⟩
set_option maxHeartbeats 2000000 in
theorem cnew_any (w : World) :
    Calls Tryz.prog 19 #[] w fun e w' => e = .returned (.pointer (some ⟨w.heap.size, 0, none⟩)) ∧ VaultAt w' w.heap.size (.slice none 0 0) (fun _ => .slice none 0 0) noVault ∧ Below w.heap.size w w' := by
  go_enter Tryz.func19, Tryz.ntmps19
  go_wp2
  go_ret
  exact ⟨rfl, vault_new w, (Below.refl _ _).alloc (Nat.le_refl _) _⟩

/-- What Backup tells. -/
def putE (s : Vlt) (c : Int) (t : ByteArray) : Int := if ¬ (0 ≤ c ∧ c < 4) then 4 else if 2000 < t.size then 1 else if 20000 < s.log.length + (recL (bodyF c.toNat t.data.toList)).length ∨ (s.ch c.toNat).last = 2147483647 then 6 else 0
def putN (s : Vlt) (c : Int) (t : ByteArray) : Int := if putE s c t = 0 then (((s.ch c.toNat).last + 1 : Nat) : Int) else 0
def putS (s : Vlt) (c : Int) (t : ByteArray) : Vlt := if putE s c t = 0 then s.put c.toNat t else s

theorem Moves.same {w w' : World} {p : Nat} {lv : Value} {tv : Nat → Value} {s : Vlt} (h : VaultAt w p lv tv s) (hb : Below w.heap.size w w') : Moves p lv tv s w w' := Moves.stays h hb

theorem sbackup_any (p : Nat) (c : Int) (lv : Value) (tv : Nat → Value) (s : Vlt) (t : ByteArray) (w : World) (hv : VaultAt w p lv tv s) (hok : s.Ok) (ht : t.size ≤ 9223372036854775807) :
    Calls Tryz.prog 28 #[.pointer (some ⟨p, 0, none⟩), .int .i64 c, .string t] w fun e w' => e = .returned (.tuple #[.int .i64 (putN s c t), .int .i64 (putE s c t)]) ∧ Moves p lv tv (putS s c t) w w' := by
  by_cases hc : 0 ≤ c ∧ c < 4
  · obtain ⟨n, rfl⟩ : ∃ n : Nat, c = n := ⟨c.toNat, by omega⟩
    have hn : n < 4 := by omega
    have en : ((n : Int)).toNat = n := by omega
    by_cases hl : 2000 < t.size
    · have hE : putE s n t = 1 := by unfold putE; rw [if_neg (by omega), if_pos hl]
      have hN : putN s n t = 0 := by unfold putN; rw [if_neg (by rw [hE]; decide)]
      have hS : putS s n t = s := by unfold putS; rw [if_neg (by rw [hE]; decide)]
      rw [hE, hN, hS]
      refine (sbackup_long p n t w hn hl ht).mono ?_
      rintro e w' ⟨rfl, rfl⟩
      exact ⟨rfl, Moves.stays hv (Below.refl _ _)⟩
    · by_cases hf : s.full n t
      · have hE : putE s n t = 6 := by unfold putE; rw [if_neg (by omega), if_neg hl, en]; exact if_pos hf
        have hN : putN s n t = 0 := by unfold putN; rw [if_neg (by rw [hE]; decide)]
        have hS : putS s n t = s := by unfold putS; rw [if_neg (by rw [hE]; decide)]
        rw [hE, hN, hS]
        refine (sbackup_full p n lv tv s t w hv hok hn (by omega) hf).mono ?_
        rintro e w' ⟨rfl, hb⟩
        exact ⟨rfl, Moves.stays hv hb⟩
      · have hE : putE s n t = 0 := by unfold putE; rw [if_neg (by omega), if_neg hl, en]; exact if_neg hf
        have hN : putN s n t = (((s.ch n).last + 1 : Nat) : Int) := by unfold putN; rw [if_pos hE, en]
        have hS : putS s n t = s.put n t := by unfold putS; rw [if_pos hE, en]
        rw [hE, hN, hS]
        exact sbackup_ok p n lv tv s t w hv hok hn (by omega) hf
  · have hE : putE s c t = 4 := by unfold putE; rw [if_pos hc]
    have hN : putN s c t = 0 := by unfold putN; rw [if_neg (by rw [hE]; decide)]
    have hS : putS s c t = s := by unfold putS; rw [if_neg (by rw [hE]; decide)]
    rw [hE, hN, hS]
    refine (sbackup_chain p c t w hc).mono ?_
    rintro e w' ⟨rfl, rfl⟩
    exact ⟨rfl, Moves.stays hv (Below.refl _ _)⟩
theorem putS_ok {s : Vlt} (h : s.Ok) (c : Int) (t : ByteArray) : (putS s c t).Ok := by
  unfold putS
  split
  · rename_i hE
    unfold putE at hE
    split at hE
    · exact absurd hE (by decide)
    · split at hE
      · exact absurd hE (by decide)
      · split at hE
        · exact absurd hE (by decide)
        · rename_i h1 h2 h3
          exact put_ok h (by omega) h3
  · exact h

set_option maxHeartbeats 2000000 in
theorem cbackup_any (p : Nat) (c : Int) (lv : Value) (tv : Nat → Value) (s : Vlt) (t : ByteArray) (w : World) (hv : VaultAt w p lv tv s) (hok : s.Ok) (ht : t.size ≤ 9223372036854775807) :
    Calls Tryz.prog 15 #[.pointer (some ⟨p, 0, none⟩), .int .i64 c, .string t] w fun e w' => e = .returned (.tuple #[.int .i64 (putN s c t), .int .i64 (putE s c t)]) ∧ Moves p lv tv (putS s c t) w w' := by
  have HC : Hid (Calls Tryz.prog 28 #[.pointer (some ⟨p, 0, none⟩), .int .i64 c, .string t] w fun e w' => e = .returned (.tuple #[.int .i64 (putN s c t), .int .i64 (putE s c t)]) ∧ Hid (Moves p lv tv (putS s c t) w w')) := sbackup_any p c lv tv s t w hv hok ht
  clear hv hok ht
  show Calls Tryz.prog 15 #[.pointer (some ⟨p, 0, none⟩), .int .i64 c, .string t] w fun e w' => e = .returned (.tuple #[.int .i64 (putN s c t), .int .i64 (putE s c t)]) ∧ Hid (Moves p lv tv (putS s c t) w w')
  generalize putN s c t = a at *
  generalize putE s c t = b at *
  generalize putS s c t = s' at *
  go_enter Tryz.func15, Tryz.ntmps15
  go_wp2_with fail
  refine HC.out.mono ?_
  rintro e w1 ⟨rfl, b1⟩
  go_wp2
  go_ret2
  exact ⟨rfl, b1⟩
end Go.Proofs.YtabpiaaknjcnkaaGreat

/-
  The document's vault as it lies in memory; Versions, Restore.
-/
namespace Go.Proofs.YtabpiaaknjcnkaaGreat
open Go.RowKit
set_option linter.unusedVariables false
set_option linter.unusedSimpArgs false
set_option maxRecDepth 100000

/-- A row of texts, wherever it lies. -/
def YView (w : World) (v : Value) (ts : List ByteArray) : Prop := ∃ ao cap, v = .slice ao ts.length cap ∧ ts.length ≤ cap ∧ ∀ i t, ts[i]? = some t → ∃ g k, ao = some ⟨g, k, none⟩ ∧ g < w.heap.size ∧ w.cell? ⟨g, k + i, none⟩ = some (.string t)
theorem YView.below {w w' : World} {v : Value} {ts : List ByteArray} (h : YView w v ts) (hb : Below w.heap.size w w') : YView w' v ts := by
  obtain ⟨ao, cap, h1, h2, h3⟩ := h
  refine ⟨ao, cap, h1, h2, fun i t ht => ?_⟩
  obtain ⟨g, k, e1, e2, e3⟩ := h3 i t ht
  exact ⟨g, k, e1, Nat.lt_of_lt_of_le e2 hb.size, (hb.cell (p := ⟨g, k + i, none⟩) e2).trans e3⟩
/-- The number of the first version, as the document keeps it. -/
def yF (x : Chn) : Nat := if x.texts = [] then 0 else x.gone + 1
def ycells (tv : Nat → Value) (s : Vlt) : Array Value :=
  #[.int .i64 (yF (s.ch 0)), tv 0, .int .i64 (yF (s.ch 1)), tv 1, .int .i64 (yF (s.ch 2)), tv 2, .int .i64 (yF (s.ch 3)), tv 3, .string ⟨s.log.toArray⟩]
def rowBlock : Value → Option Nat
  | .slice (some a) _ _ => some a.block
  | _ => none
structure YAt (w : World) (p : Nat) (tv : Nat → Value) (s : Vlt) : Prop where
  blk : w.heap[p]? = some (.cells (ycells tv s) 69 (0, 0))
  row : ∀ i, i < 4 → YView w (tv i) (s.ch i).texts
  nil : ∀ i, i < 4 → (s.ch i).texts = [] → tv i = .slice none 0 0
  own : ∀ i, i < 4 → rowBlock (tv i) ≠ some p
section
variable {w : World} {p : Nat} {tv : Nat → Value} {s : Vlt} (h : YAt w p tv s)
include h
theorem YAt.lt : p < w.heap.size := lt_of_block h.blk
theorem YAt.below {w' : World} (hb : Below w.heap.size w w') : YAt w' p tv s := ⟨(hb.block p h.lt).trans h.blk, fun i hi => (h.row i hi).below hb, h.nil, h.own⟩
theorem YAt.cellF (c : Nat) (hc : c < 4) : w.cell? ⟨p, c * 2, none⟩ = some (.int .i64 (yF (s.ch c))) := by
  rw [Lib.cell_of_heap h.blk]
  match c, hc with
  | 0, _ => rfl
  | 1, _ => rfl
  | 2, _ => rfl
  | 3, _ => rfl
theorem YAt.cellT (c : Nat) (hc : c < 4) : w.cell? ⟨p, c * 2 + 1, none⟩ = some (tv c) := by
  rw [Lib.cell_of_heap h.blk]
  match c, hc with
  | 0, _ => rfl
  | 1, _ => rfl
  | 2, _ => rfl
  | 3, _ => rfl
theorem YAt.cellL : w.cell? ⟨p, 8, none⟩ = some (.string ⟨s.log.toArray⟩) := by rw [Lib.cell_of_heap h.blk]; rfl
theorem YAt.frozen (j : Nat) : w.frozen? ⟨p, j, none⟩ = false := Lib.frozen_of_heap h.blk j
end
/-- The blocks that the document's vault lies in. -/
def yfoot (q : Nat) (tv : Nat → Value) (b : Nat) : Prop := b = q ∨ ∃ i, i < 4 ∧ rowBlock (tv i) = some b
theorem YView.kept {w w' : World} {v : Value} {ts : List ByteArray} (h : YView w v ts) (hk : ∀ b, rowBlock v = some b → w'.heap[b]? = w.heap[b]?) (hs : w.heap.size ≤ w'.heap.size) : YView w' v ts := by
  obtain ⟨ao, cap, rfl, h2, h3⟩ := h
  refine ⟨ao, cap, rfl, h2, fun i t ht => ?_⟩
  obtain ⟨g, k, rfl, e2, e3⟩ := h3 i t ht
  exact ⟨g, k, rfl, Nat.lt_of_lt_of_le e2 hs, (World.cell?_of_block (a := ⟨g, k + i, none⟩) (hk g rfl)).trans e3⟩
theorem YAt.foot_lt {w : World} {p : Nat} {tv : Nat → Value} {s : Vlt} (h : YAt w p tv s) : ∀ b, yfoot p tv b → b < w.heap.size := by
  rintro b (rfl | ⟨i, hi, hb⟩)
  · exact h.lt
  · obtain ⟨ao, cap, e, _, hr⟩ := h.row i hi
    match ht : (s.ch i).texts with
    | [] => rw [h.nil i hi ht] at hb; cases hb
    | t :: r =>
      obtain ⟨g, k, rfl, hg, _⟩ := hr 0 t (by rw [ht]; rfl)
      rw [e] at hb
      obtain rfl : g = b := by simpa [rowBlock] using hb
      exact hg
theorem YAt.kept {w w' : World} {p : Nat} {tv : Nat → Value} {s : Vlt} (h : YAt w p tv s) (hk : ∀ b, yfoot p tv b → w'.heap[b]? = w.heap[b]?) (hs : w.heap.size ≤ w'.heap.size) : YAt w' p tv s :=
  ⟨(hk p (.inl rfl)).trans h.blk, fun i hi => (h.row i hi).kept (fun b hb => hk b (.inr ⟨i, hi, hb⟩)) hs, h.nil, h.own⟩
/-- What a call leaves of the document's vault. -/
def YMoves (p : Nat) (tv : Nat → Value) (s' : Vlt) (w w' : World) : Prop :=
  ∃ tv', YAt w' p tv' s' ∧ Out (· = p) w w' ∧ (∀ b, yfoot p tv' b → yfoot p tv b ∨ w.heap.size ≤ b)
theorem YMoves.stays {w w' : World} {p : Nat} {tv : Nat → Value} {s : Vlt} (h : YAt w p tv s) (hb : Below w.heap.size w w') : YMoves p tv s w w' :=
  ⟨tv, h.below hb, Out.of_below hb, fun b hb => .inl hb⟩

set_option maxHeartbeats 4000000 in
theorem yversions_any (p : Nat) (c : Int) (tv : Nat → Value) (s : Vlt) (w : World) (hv : YAt w p tv s) (hok : s.Ok) :
    Calls Tryz.prog 36 #[.pointer (some ⟨p, 0, none⟩), .int .i64 c] w fun e w' => e = .returned (.tuple #[.int .i64 (verA s c), .int .i64 (verB s c), .int .i64 (verE c)]) ∧ Below w.heap.size w w' := by
  by_cases hc : 0 ≤ c ∧ c < 4
  · obtain ⟨n, rfl⟩ : ∃ n : Nat, c = n := ⟨c.toNat, by omega⟩
    have hn : n < 4 := by omega
    have k1 := hv.cellF n hn
    have k2 := hv.cellT n hn
    obtain ⟨ao, cap, htv, hcap, _⟩ := hv.row n hn
    rw [htv] at k2
    have hp := hv.lt
    have hlast : (s.ch n).gone + (s.ch n).texts.length ≤ 2147483647 := hok.last n
    have hnI : (n : Int) < 4 := by omega
    have hE : verE (n : Int) = 0 := by unfold verE; rw [if_pos (by omega)]
    rw [hE]
    by_cases h0 : (s.ch n).texts = []
    · have hA : verA s (n : Int) = 0 := by
        have := hok.none n h0
        unfold verA; rw [if_pos (by omega)]; simp [Chn.first, Chn.last, h0, this]
      have hB : verB s (n : Int) = 0 := by
        have := hok.none n h0
        unfold verB; rw [if_pos (by omega)]; simp [Chn.last, h0, this]
      rw [hA, hB]
      rw [h0] at k2
      generalize yF (s.ch n) = F at *
      clear hv hok hA hB hE htv h0 hlast
      go_enter Tryz.func36, Tryz.ntmps36
      go_wp2
      go_ret3
      exact ⟨rfl, (Below.refl _ _).alloc (Nat.le_refl _) _⟩
    · have hpos : 0 < (s.ch n).texts.length := List.length_pos_iff.2 h0
      have hF : yF (s.ch n) = (s.ch n).gone + 1 := by unfold yF; rw [if_neg h0]
      have hA : verA s (n : Int) = (((s.ch n).gone + 1 : Nat) : Int) := by
        unfold verA; rw [if_pos (by omega), show ((n : Int)).toNat = n by omega]
        unfold Chn.first Chn.last; omega
      have hB : verB s (n : Int) = (((s.ch n).gone + (s.ch n).texts.length : Nat) : Int) := by
        unfold verB; rw [if_pos (by omega), show ((n : Int)).toNat = n by omega]; rfl
      rw [hA, hB]
      rw [hF] at k1
      generalize (s.ch n).texts.length = L at *
      obtain ⟨F, hF2⟩ : ∃ F, F = (s.ch n).gone + 1 := ⟨_, rfl⟩
      rw [← hF2] at k1 ⊢
      have HL : Hid ((((s.ch n).gone + L : Nat) : Int) = (F : Int) + (L : Int) - 1) := by unfold Hid; omega
      rw [HL.out]
      have hFb : F ≤ 2147483648 := by omega
      have hLb : L ≤ 2147483648 := by omega
      have hL0 : ¬ (L : Int) = 0 := by omega
      have q1 : IntKind.i64.wrap ((F : Int) + (L : Int)) = (F : Int) + (L : Int) := by rw [IntKind.wrap_i64]; omega
      have q2 : IntKind.i64.wrap ((F : Int) + (L : Int) - 1) = (F : Int) + (L : Int) - 1 := by rw [IntKind.wrap_i64]; omega
      clear hv hok hA hB hE htv h0 hlast hF hF2 HL hpos
      go_enter Tryz.func36, Tryz.ntmps36
      go_wp2
      go_quiet (fail)
      go_wp2
      go_ret3
      exact ⟨rfl, below_drewN1 ((Below.refl _ _).alloc (Nat.le_refl _) _) _⟩
  · have hA : verA s c = 0 := by unfold verA; rw [if_neg hc]
    have hB : verB s c = 0 := by unfold verB; rw [if_neg hc]
    have hE : verE c = 4 := by unfold verE; rw [if_neg hc]
    rw [hA, hB, hE]
    clear hA hB hE hv hok
    by_cases h1 : c < 0
    · go_enter Tryz.func36, Tryz.ntmps36
      go_wp2
      go_ret3
      exact ⟨rfl, Below.refl _ _⟩
    · have h2 : 4 ≤ c := by omega
      clear hc
      go_enter Tryz.func36, Tryz.ntmps36
      go_wp2
      go_ret3
      exact ⟨rfl, Below.refl _ _⟩

set_option maxHeartbeats 4000000 in
theorem yrestore_any (p : Nat) (c z : Int) (tv : Nat → Value) (s : Vlt) (w : World) (hv : YAt w p tv s) (hok : s.Ok) :
    Calls Tryz.prog 34 #[.pointer (some ⟨p, 0, none⟩), .int .i64 c, .int .i64 z] w fun e w' => e = .returned (.tuple #[.string (getT s c z), .int .i64 (getE s c z)]) ∧ Below w.heap.size w w' := by
  by_cases hc : 0 ≤ c ∧ c < 4
  · obtain ⟨n, rfl⟩ : ∃ n : Nat, c = n := ⟨c.toNat, by omega⟩
    have hn : n < 4 := by omega
    have k1 := hv.cellF n hn
    have k2 := hv.cellT n hn
    obtain ⟨ao, cap, htv, hcap, hrow⟩ := hv.row n hn
    rw [htv] at k2
    have hp := hv.lt
    have hlast : (s.ch n).gone + (s.ch n).texts.length ≤ 2147483647 := hok.last n
    have hnI : (n : Int) < 4 := by omega
    have en : ((n : Int)).toNat = n := by omega
    have hFle : yF (s.ch n) ≤ (s.ch n).gone + 1 := by unfold yF; split <;> omega
    have hYB : yhasB (yF (s.ch n)) (s.ch n).texts.length z = hasB (s.ch n) z := by
      unfold yhasB hasB yF Chn.last
      by_cases h0 : (s.ch n).texts = []
      · have := hok.none n h0
        rw [if_pos h0, h0, this]
        simp
      · have hpos : 0 < (s.ch n).texts.length := List.length_pos_iff.2 h0
        rw [if_neg h0]
        congr 1; apply propext; omega
    have HY : Hid (∀ W : World, Calls Tryz.prog 77 #[.agg #[.int .i64 (yF (s.ch n)), .slice ao (s.ch n).texts.length cap], .int .i64 z] W fun e w' => e = .returned (.bool (hasB (s.ch n) z)) ∧ Below W.heap.size W w') := fun W => by
      have := yhas_any (yF (s.ch n)) (s.ch n).texts.length cap ao z W (by omega)
      rw [hYB] at this; exact this
    cases hh : hasB (s.ch n) z
    · have hE : getE s (n : Int) z = 5 := by unfold getE; rw [if_neg (by omega), en, hh]; rfl
      have hT : getT s (n : Int) z = ⟨#[]⟩ := by unfold getT; rw [hE]; rfl
      rw [hE, hT]
      rw [hh] at HY
      generalize yF (s.ch n) = F at *
      generalize (s.ch n).texts.length = L at *
      clear hE hT hYB hv hok hrow htv hlast hFle hcap hc hh
      go_enter Tryz.func34, Tryz.ntmps34
      go_wp2_with fail
      refine (HY.out _).mono ?_
      rintro e w1 ⟨rfl, b1⟩
      have R := ((Below.refl w.heap.size w).alloc (Nat.le_refl _) (.cells #[.int .i64 F, .slice ao L cap] 66)).trans (b1.mono (by simp))
      clear b1
      go_wp2
      go_ret2
      exact ⟨rfl, R⟩
    · have hh' := hasB_iff.1 hh
      unfold Chn.has Chn.last at hh'
      have h0 : (s.ch n).texts ≠ [] := fun e => by rw [e] at hh'; simp at hh'; omega
      have hF : yF (s.ch n) = (s.ch n).gone + 1 := by unfold yF; rw [if_neg h0]
      have hE : getE s (n : Int) z = 0 := by unfold getE; rw [if_neg (by omega), en, hh]; rfl
      obtain ⟨i, hi⟩ : ∃ i : Nat, z = (yF (s.ch n) : Int) + i := ⟨(z - (yF (s.ch n) : Int)).toNat, by omega⟩
      have hil : i < (s.ch n).texts.length := by omega
      obtain ⟨t, ht⟩ : ∃ t, (s.ch n).texts[i]? = some t := ⟨(s.ch n).texts[i], List.getElem?_eq_getElem hil⟩
      have hT : getT s (n : Int) z = t := by
        unfold getT; rw [if_pos hE, en, show (z - ((s.ch n).gone : Int) - 1).toNat = i by omega, ht]; rfl
      rw [hE, hT]
      rw [hh] at HY
      obtain ⟨g, k, rfl, hg, hcell⟩ := hrow i t ht
      have hzI : IntKind.i64.wrap (i : Int) = (i : Int) := by rw [IntKind.wrap_i64]; omega
      have hz2 : z - (yF (s.ch n) : Int) = (i : Int) := by omega
      have hiL : (i : Int) < ((s.ch n).texts.length : Int) := by omega
      generalize yF (s.ch n) = F at *
      generalize (s.ch n).texts.length = L at *
      clear hE hT hYB hv hok hrow htv hlast hFle hcap hc hh hh' h0 hF ht hi
      go_enter Tryz.func34, Tryz.ntmps34
      go_wp2_with fail
      refine (HY.out _).mono ?_
      rintro e w1 ⟨rfl, b1⟩
      have R := ((Below.refl w.heap.size w).alloc (Nat.le_refl _) (.cells #[.int .i64 F, .slice (some ⟨g, k, none⟩) L cap] 66)).trans (b1.mono (by simp))
      have c1 := (R.cell (p := ⟨g, k + i, none⟩) hg).trans hcell
      have cb := (b1.block w.heap.size (by simp)).trans (heap_alloc_new w (.cells #[.int .i64 F, .slice (some ⟨g, k, none⟩) L cap] 66))
      have c2 : w1.cell? ⟨w.heap.size, 0, none⟩ = some (.int .i64 F) := by rw [Lib.cell_of_heap cb]; rfl
      have c3 : w1.cell? ⟨w.heap.size, 1, none⟩ = some (.slice (some ⟨g, k, none⟩) L cap) := by rw [Lib.cell_of_heap cb]; rfl
      clear b1 cb hcell k1 k2
      go_wp2
      go_ret2
      exact ⟨rfl, R⟩
  · have hE : getE s c z = 4 := by unfold getE; rw [if_pos hc]
    have hT : getT s c z = ⟨#[]⟩ := by unfold getT; rw [hE]; rfl
    rw [hE, hT]
    clear hE hT hv hok
    by_cases h1 : c < 0
    · go_enter Tryz.func34, Tryz.ntmps34
      go_wp2
      go_ret2
      exact ⟨rfl, Below.refl _ _⟩
    · have h2 : 4 ≤ c := by omega
      clear hc
      go_enter Tryz.func34, Tryz.ntmps34
      go_wp2
      go_ret2
      exact ⟨rfl, Below.refl _ _⟩
end Go.Proofs.YtabpiaaknjcnkaaGreat
