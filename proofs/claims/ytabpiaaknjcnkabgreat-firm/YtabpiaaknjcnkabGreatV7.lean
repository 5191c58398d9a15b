/-
  The walks over package store and the face: Restore, Versions, Prune, Log, New.
-/
import Derived.Test.YtabpiaaknjcnkabGreatXV6VB
import Derived.Laws.BytesArg
namespace Go.Proofs.YtabpiaaknjcnkabGreat
open Go.RowKit
set_option linter.unusedVariables false
set_option linter.unusedSimpArgs false
set_option maxRecDepth 100000

theorem conv_all {w : World} {base : Nat} {v : Value} {bs : List UInt8} (h : OwnBytes w base v bs) : (convert 41 9 v).run Tryz.prog w = .ok (.string ⟨bs.toArray⟩) w := by
  by_cases hb : 0 < bs.length
  · exact conv_own h hb
  · have h0 : bs = [] := List.eq_nil_of_length_eq_zero (by omega)
    subst h0
    rcases h.2 with ⟨rfl, _⟩ | ⟨g, cap, cur, rfl, _, hbk, h1, h2, h3, h4⟩
    · exact run_convert_bytes_nil w 41 5 Tryz.underlying41 Tryz.underlying5 0 0 9 Tryz.underlying9
    · exact run_convert_bytes_back (P := Tryz.prog) w 41 9 5 ⟨g, 0, none⟩ cap [] Tryz.underlying41 Tryz.underlying5 Tryz.underlying9 (fun j hj => by simp at hj)

/-- What Restore tells. -/
def hasB (x : Chn) (z : Int) : Bool := decide ((x.gone : Int) < z ∧ z ≤ (x.last : Int))
theorem hasB_iff {x : Chn} {z : Int} : hasB x z = true ↔ x.has z := by unfold hasB Chn.has; simp
def getE (s : Vlt) (c z : Int) : Int := if ¬ (0 ≤ c ∧ c < 4) then 4 else if hasB (s.ch c.toNat) z = true then 0 else 5
def getT (s : Vlt) (c z : Int) : ByteArray := if getE s c z = 0 then ((s.ch c.toNat).texts[(z - (s.ch c.toNat).gone - 1).toNat]?).getD ⟨#[]⟩ else ⟨#[]⟩

theorem ret_str_int {a b : ByteArray} {c d : Int} (h1 : a = b) (h2 : c = d) : Ending.returned (.tuple #[.string a, .int .i64 c]) = Ending.returned (.tuple #[.string b, .int .i64 d]) := by rw [h1, h2]

set_option maxHeartbeats 4000000 in
theorem srestore_any (p : Nat) (c z : Int) (lv : Value) (tv : Nat → Value) (s : Vlt) (w : World) (hv : VaultAt w p lv tv s) (hok : s.Ok) :
    Calls Tryz.prog 33 #[.pointer (some ⟨p, 0, none⟩), .int .i64 c, .int .i64 z] w fun e w' => e = .returned (.tuple #[.string (getT s c z), .int .i64 (getE s c z)]) ∧ Below w.heap.size w w' := by
  by_cases hc : 0 ≤ c ∧ c < 4
  · have hd : decide (0 ≤ c ∧ c < 4) = true := by simpa using hc
    obtain ⟨n, rfl⟩ : ∃ n : Nat, c = n := ⟨c.toNat, by omega⟩
    have hn : n < 4 := by omega
    have hlast : (s.ch n).gone + (s.ch n).texts.length ≤ 2147483647 := hok.last n
    obtain ⟨to, tc, htv⟩ := (hv.row n hn).slice
    have HV : Hid (VaultAt w p lv tv s) := hv
    have k1 := hv.cellG n hn
    have k2 := hv.cellT n hn
    rw [htv] at k2
    have HH : Hid (Calls Tryz.prog 57 #[.pointer (some ⟨p, 1 + n * 2, none⟩), .int .i64 z] w fun e w' => e = .returned (.bool (hasB (s.ch n) z)) ∧ Still w w') := vhas_st p (1 + n * 2) _ _ _ _ z w k1 k2 (by omega)
    by_cases hh : hasB (s.ch n) z = true
    · have HE : Hid (getE s (n : Int) z = 0) := by show _ = _; unfold getE; rw [if_neg (by omega)]; simp [hh]
      have hh' := hasB_iff.1 hh
      unfold Chn.has Chn.last at hh'
      obtain ⟨i, hi⟩ : ∃ i : Nat, z = ((s.ch n).gone : Int) + i + 1 := ⟨(z - (s.ch n).gone - 1).toNat, by omega⟩
      have hlt : i < (s.ch n).texts.length := by omega
      have hget : (s.ch n).texts[i]? = some (s.ch n).texts[i] := List.getElem?_eq_getElem hlt
      have HT : Hid (getT s (n : Int) z = (s.ch n).texts[i]) := by
        show _ = _
        unfold getT
        rw [if_pos HE.out, show ((n : Int)).toNat = n by omega, show (z - ((s.ch n).gone : Int) - 1).toNat = i by omega, hget]; rfl
      have hsz : (s.ch n).texts[i].size ≤ 2000 := hok.size n _ (List.getElem_mem hlt)
      rw [hh] at HH
      have hrow := hv.row n hn
      rw [htv] at hrow
      have HTX : Hid (∀ W, Still w W → Calls Tryz.prog 55 #[.pointer (some ⟨p, 1 + n * 2, none⟩), .int .i64 z] W fun e w' => e = .returned (.string (s.ch n).texts[i]) ∧ Still W w') := fun W hW => by
        have k1 := (HV.out.still hW).cellG n hn
        have k2 := (HV.out.still hW).cellT n hn
        have hrow := (HV.out.still hW).row n hn
        rw [htv] at k2 hrow
        exact vtext_st p (1 + n * 2) _ i _ _ _ _ W k1 k2 hrow hget (by omega) z hi
      generalize (s.ch n).texts[i] = t at *
      clear hh' hi hlt hget hrow k1 k2 hh hv
      go_enter Tryz.func33, Tryz.ntmps33
      go_wp2_with fail
      refine (ischain_any n _).mono ?_
      rintro e w1 ⟨rfl, rfl⟩
      rw [hd]
      go_wp2_with fail
      refine HH.out.mono ?_
      rintro e w2 ⟨rfl, st2⟩
      go_wp2_with fail
      refine (HTX.out w2 st2).mono ?_
      rintro e w3 ⟨rfl, st3⟩
      go_wp2_with fail
      refine (clone_any t _ (by omega)).mono ?_
      rintro e w4 ⟨rfl, b4⟩
      have R : Below w.heap.size w w4 := ((st2.below _).trans (st3.below _)).trans (b4.mono (by rw [st3.size, st2.size]; exact Nat.le_refl _))
      go_wp2
      go_ret2
      exact ⟨ret_str_int HT.out.symm HE.out.symm, R⟩
    · have hf : hasB (s.ch n) z = false := by simpa using hh
      have HE : Hid (getE s (n : Int) z = 5) := by show _ = _; unfold getE; rw [if_neg (by omega)]; simp [hf]
      have HT : Hid (getT s (n : Int) z = ⟨#[]⟩) := by show _ = _; unfold getT; rw [if_neg (by rw [HE.out]; decide)]
      rw [hf] at HH
      clear hh hf k1 k2 hv
      go_enter Tryz.func33, Tryz.ntmps33
      go_wp2_with fail
      refine (ischain_any n _).mono ?_
      rintro e w1 ⟨rfl, rfl⟩
      rw [hd]
      go_wp2_with fail
      refine HH.out.mono ?_
      rintro e w2 ⟨rfl, st2⟩
      go_wp2
      go_ret2
      exact ⟨ret_str_int HT.out.symm HE.out.symm, st2.below _⟩
  · have hd : decide (0 ≤ c ∧ c < 4) = false := by simpa using hc
    have HE : Hid (getE s c z = 4) := by show _ = _; unfold getE; rw [if_pos hc]
    have HT : Hid (getT s c z = ⟨#[]⟩) := by show _ = _; unfold getT; rw [if_neg (by rw [HE.out]; decide)]
    clear hc hv
    go_enter Tryz.func33, Tryz.ntmps33
    go_wp2_with fail
    refine (ischain_any c _).mono ?_
    rintro e w1 ⟨rfl, rfl⟩
    rw [hd]
    go_wp2
    go_ret2
    exact ⟨ret_str_int HT.out.symm HE.out.symm, Below.refl _ _⟩

set_option maxHeartbeats 2000000 in
theorem crestore_any (p : Nat) (c z : Int) (lv : Value) (tv : Nat → Value) (s : Vlt) (w : World) (hv : VaultAt w p lv tv s) (hok : s.Ok) :
    Calls Tryz.prog 16 #[.pointer (some ⟨p, 0, none⟩), .int .i64 c, .int .i64 z] w fun e w' => e = .returned (.tuple #[.string (getT s c z), .int .i64 (getE s c z)]) ∧ Below w.heap.size w w' := by
  have HC : Hid (Calls Tryz.prog 33 #[.pointer (some ⟨p, 0, none⟩), .int .i64 c, .int .i64 z] w fun e w' => e = .returned (.tuple #[.string (getT s c z), .int .i64 (getE s c z)]) ∧ Below w.heap.size w w') := srestore_any p c z lv tv s w hv hok
  clear hv hok
  generalize getT s c z = t at *
  generalize getE s c z = e0 at *
  go_enter Tryz.func16, Tryz.ntmps16
  go_wp2_with fail
  refine HC.out.mono ?_
  rintro e w1 ⟨rfl, b1⟩
  go_wp2
  go_ret2
  exact ⟨rfl, b1⟩

def verE (c : Int) : Int := if 0 ≤ c ∧ c < 4 then 0 else 4
def verA (s : Vlt) (c : Int) : Int := if 0 ≤ c ∧ c < 4 then ((s.ch c.toNat).first : Int) else 0
def verB (s : Vlt) (c : Int) : Int := if 0 ≤ c ∧ c < 4 then ((s.ch c.toNat).last : Int) else 0
theorem ret_3i {a b c d e f : Int} (h1 : a = d) (h2 : b = e) (h3 : c = f) : Ending.returned (.tuple #[.int .i64 a, .int .i64 b, .int .i64 c]) = Ending.returned (.tuple #[.int .i64 d, .int .i64 e, .int .i64 f]) := by rw [h1, h2, h3]

set_option maxHeartbeats 2000000 in
theorem sversions_any (p : Nat) (c : Int) (lv : Value) (tv : Nat → Value) (s : Vlt) (w : World) (hv : VaultAt w p lv tv s) (hok : s.Ok) :
    Calls Tryz.prog 34 #[.pointer (some ⟨p, 0, none⟩), .int .i64 c] w fun e w' => e = .returned (.tuple #[.int .i64 (verA s c), .int .i64 (verB s c), .int .i64 (verE c)]) ∧ Still w w' := by
  by_cases hc : 0 ≤ c ∧ c < 4
  · have hd : decide (0 ≤ c ∧ c < 4) = true := by simpa using hc
    have HA : Hid (verA s c = ((s.ch c.toNat).first : Int) ∧ verB s c = ((s.ch c.toNat).last : Int) ∧ verE c = 0) := by
      unfold verA verB verE; rw [if_pos hc, if_pos hc, if_pos hc]; exact ⟨rfl, rfl, rfl⟩
    obtain ⟨n, rfl⟩ : ∃ n : Nat, c = n := ⟨c.toNat, by omega⟩
    rw [show ((n : Int)).toNat = n by omega] at HA
    have hn : n < 4 := by omega
    have hlast : (s.ch n).gone + (s.ch n).texts.length ≤ 2147483647 := hok.last n
    obtain ⟨to, tc, htv⟩ := (hv.row n hn).slice
    have HV : Hid (VaultAt w p lv tv s) := hv
    have HF : Hid (∀ W, Still w W → Calls Tryz.prog 59 #[.pointer (some ⟨p, 1 + n * 2, none⟩)] W fun e w' => e = .returned (.int .i64 ((s.ch n).first : Int)) ∧ Still W w') := fun W hW => by
      have k1 := (HV.out.still hW).cellG n hn
      have k2 := (HV.out.still hW).cellT n hn
      rw [htv] at k2
      exact vfirst_st p (1 + n * 2) _ _ _ _ W k1 k2 (by omega)
    have HL : Hid (∀ W, Still w W → Calls Tryz.prog 52 #[.pointer (some ⟨p, 1 + n * 2, none⟩)] W fun e w' => e = .returned (.int .i64 ((s.ch n).last : Int)) ∧ Still W w') := fun W hW => by
      have k1 := (HV.out.still hW).cellG n hn
      have k2 := (HV.out.still hW).cellT n hn
      rw [htv] at k2
      exact vlast_st p (1 + n * 2) _ _ _ _ W k1 k2 (by omega)
    generalize (s.ch n).first = fi at *
    generalize (s.ch n).last = la at *
    clear hv hok hc
    go_enter Tryz.func34, Tryz.ntmps34
    go_wp2_with fail
    refine (ischain_any n _).mono ?_
    rintro e w1 ⟨rfl, rfl⟩
    rw [hd]
    go_wp2_with fail
    refine (HF.out _ ⟨rfl, rfl, rfl, rfl⟩).mono ?_
    rintro e w2 ⟨rfl, st2⟩
    go_wp2_with fail
    refine (HL.out _ st2).mono ?_
    rintro e w3 ⟨rfl, st3⟩
    go_wp2
    go_ret3
    exact ⟨ret_3i HA.out.1.symm HA.out.2.1.symm HA.out.2.2.symm, ⟨st3.1.trans st2.1, st3.2.1.trans st2.2.1, st3.2.2.1.trans st2.2.2.1, st3.2.2.2.trans st2.2.2.2⟩⟩
  · have hd : decide (0 ≤ c ∧ c < 4) = false := by simpa using hc
    have HA : Hid (verA s c = 0 ∧ verB s c = 0 ∧ verE c = 4) := by
      unfold verA verB verE; rw [if_neg hc, if_neg hc, if_neg hc]; exact ⟨rfl, rfl, rfl⟩
    clear hv hok hc
    go_enter Tryz.func34, Tryz.ntmps34
    go_wp2_with fail
    refine (ischain_any c _).mono ?_
    rintro e w1 ⟨rfl, rfl⟩
    rw [hd]
    go_wp2
    go_ret3
    exact ⟨ret_3i HA.out.1.symm HA.out.2.1.symm HA.out.2.2.symm, ⟨rfl, rfl, rfl, rfl⟩⟩

set_option maxHeartbeats 2000000 in
theorem cversions_any (p : Nat) (c : Int) (lv : Value) (tv : Nat → Value) (s : Vlt) (w : World) (hv : VaultAt w p lv tv s) (hok : s.Ok) :
    Calls Tryz.prog 17 #[.pointer (some ⟨p, 0, none⟩), .int .i64 c] w fun e w' => e = .returned (.tuple #[.int .i64 (verA s c), .int .i64 (verB s c), .int .i64 (verE c)]) ∧ Still w w' := by
  have HC : Hid (Calls Tryz.prog 34 #[.pointer (some ⟨p, 0, none⟩), .int .i64 c] w fun e w' => e = .returned (.tuple #[.int .i64 (verA s c), .int .i64 (verB s c), .int .i64 (verE c)]) ∧ Still w w') := sversions_any p c lv tv s w hv hok
  clear hv hok
  generalize verA s c = a at *
  generalize verB s c = b at *
  generalize verE c = e0 at *
  go_enter Tryz.func17, Tryz.ntmps17
  go_wp2_with fail
  refine HC.out.mono ?_
  rintro e w1 ⟨rfl, b1⟩
  go_wp2
  go_ret3
  exact ⟨rfl, b1⟩

set_option maxHeartbeats 2000000 in
theorem slog_any (p : Nat) (lv : Value) (tv : Nat → Value) (s : Vlt) (w : World) (hv : VaultAt w p lv tv s) :
    Calls Tryz.prog 25 #[.pointer (some ⟨p, 0, none⟩)] w fun e w' => e = .returned (.string ⟨s.log.toArray⟩) ∧ w = w' := by
  have k0 := hv.cell0
  have hcv := conv_all hv.log
  obtain ⟨lo, lc, hlv⟩ := hv.log.slice
  rw [hlv] at k0 hcv
  clear hv
  go_enter Tryz.func25, Tryz.ntmps25
  go_wp2
  go_ret
  exact ⟨rfl, rfl⟩
set_option maxHeartbeats 2000000 in
theorem clog_any (p : Nat) (lv : Value) (tv : Nat → Value) (s : Vlt) (w : World) (hv : VaultAt w p lv tv s) :
    Calls Tryz.prog 7 #[.pointer (some ⟨p, 0, none⟩)] w fun e w' => e = .returned (.string ⟨s.log.toArray⟩) ∧ w = w' := by
  have HC : Hid (Calls Tryz.prog 25 #[.pointer (some ⟨p, 0, none⟩)] w fun e w' => e = .returned (.string ⟨s.log.toArray⟩) ∧ w = w') := slog_any p lv tv s w hv
  clear hv
  generalize (⟨s.log.toArray⟩ : ByteArray) = L at *
  go_enter Tryz.func7, Tryz.ntmps7
  go_wp2_with fail
  refine HC.out.mono ?_
  rintro e w1 ⟨rfl, rfl⟩
  go_wp2
  go_ret
  exact ⟨rfl, rfl⟩

theorem vault_new (w : World) : VaultAt (w.alloc (.cells #[.slice none 0 0, .int .i64 0, .slice none 0 0, .int .i64 0, .slice none 0 0, .int .i64 0, .slice none 0 0, .int .i64 0, .slice none 0 0] 71)) w.heap.size (.slice none 0 0) (fun _ => .slice none 0 0) noVault :=
  ⟨heap_alloc_new _ _, World.ownsRow_nil _ _ _ _, fun i _ => World.ownsRow_nil _ _ _ _, fun i j _ _ _ g hg => by cases hg⟩
set_option maxHeartbeats 2000000 in
theorem cnew_any (w : World) :
    Calls Tryz.prog 19 #[] w fun e w' => e = .returned (.pointer (some ⟨w.heap.size, 0, none⟩)) ∧ VaultAt w' w.heap.size (.slice none 0 0) (fun _ => .slice none 0 0) noVault ∧ Below w.heap.size w w' := by
  go_enter Tryz.func19, Tryz.ntmps19
  go_wp2
  go_ret
  exact ⟨rfl, vault_new w, (Below.refl _ _).alloc (Nat.le_refl _) _⟩

/-- What Backup tells. -/
def putE (s : Vlt) (c : Int) (t : ByteArray) : Int := if ¬ (0 ≤ c ∧ c < 4) then 4 else if 2000 < t.size then 1 else if 20000 < s.log.length + (recL (bodyF c.toNat t.data.toList)).length ∨ (s.ch c.toNat).last = 2147483647 then 6 else 0
def putN (s : Vlt) (c : Int) (t : ByteArray) : Int := if putE s c t = 0 then (((s.ch c.toNat).last + 1 : Nat) : Int) else 0
def putS (s : Vlt) (c : Int) (t : ByteArray) : Vlt := if putE s c t = 0 then s.put c.toNat t else s

theorem Moves.same {w w' : World} {p : Nat} {lv : Value} {tv : Nat → Value} {s : Vlt} (h : VaultAt w p lv tv s) (hb : Below w.heap.size w w') : Moves p lv tv s w w' := Moves.stays h hb

theorem sbackup_any (p : Nat) (c : Int) (lv : Value) (tv : Nat → Value) (s : Vlt) (t : ByteArray) (w : World) (hv : VaultAt w p lv tv s) (hok : s.Ok) (ht : t.size ≤ 9223372036854775807) :
    Calls Tryz.prog 32 #[.pointer (some ⟨p, 0, none⟩), .int .i64 c, .string t] w fun e w' => e = .returned (.tuple #[.int .i64 (putN s c t), .int .i64 (putE s c t)]) ∧ Moves p lv tv (putS s c t) w w' := by
  by_cases hc : 0 ≤ c ∧ c < 4
  · obtain ⟨n, rfl⟩ : ∃ n : Nat, c = n := ⟨c.toNat, by omega⟩
    have hn : n < 4 := by omega
    have en : ((n : Int)).toNat = n := by omega
    by_cases hl : 2000 < t.size
    · have hE : putE s n t = 1 := by unfold putE; rw [if_neg (by omega), if_pos hl]
      have hN : putN s n t = 0 := by unfold putN; rw [if_neg (by rw [hE]; decide)]
      have hS : putS s n t = s := by unfold putS; rw [if_neg (by rw [hE]; decide)]
      rw [hE, hN, hS]
      refine (sbackup_long p n t w hn hl ht).mono ?_
      rintro e w' ⟨rfl, rfl⟩
      exact ⟨rfl, Moves.stays hv (Below.refl _ _)⟩
    · by_cases hf : s.full n t
      · have hE : putE s n t = 6 := by unfold putE; rw [if_neg (by omega), if_neg hl, en]; exact if_pos hf
        have hN : putN s n t = 0 := by unfold putN; rw [if_neg (by rw [hE]; decide)]
        have hS : putS s n t = s := by unfold putS; rw [if_neg (by rw [hE]; decide)]
        rw [hE, hN, hS]
        refine (sbackup_full p n lv tv s t w hv hok hn (by omega) hf).mono ?_
        rintro e w' ⟨rfl, hb⟩
        exact ⟨rfl, Moves.stays hv hb⟩
      · have hE : putE s n t = 0 := by unfold putE; rw [if_neg (by omega), if_neg hl, en]; exact if_neg hf
        have hN : putN s n t = (((s.ch n).last + 1 : Nat) : Int) := by unfold putN; rw [if_pos hE, en]
        have hS : putS s n t = s.put n t := by unfold putS; rw [if_pos hE, en]
        rw [hE, hN, hS]
        exact sbackup_ok p n lv tv s t w hv hok hn (by omega) hf
  · have hE : putE s c t = 4 := by unfold putE; rw [if_pos hc]
    have hN : putN s c t = 0 := by unfold putN; rw [if_neg (by rw [hE]; decide)]
    have hS : putS s c t = s := by unfold putS; rw [if_neg (by rw [hE]; decide)]
    rw [hE, hN, hS]
    refine (sbackup_chain p c t w hc).mono ?_
    rintro e w' ⟨rfl, rfl⟩
    exact ⟨rfl, Moves.stays hv (Below.refl _ _)⟩
theorem putS_ok {s : Vlt} (h : s.Ok) (c : Int) (t : ByteArray) : (putS s c t).Ok := by
  unfold putS
  split
  · rename_i hE
    unfold putE at hE
    split at hE
    · exact absurd hE (by decide)
    · split at hE
      · exact absurd hE (by decide)
      · split at hE
        · exact absurd hE (by decide)
        · rename_i h1 h2 h3
          exact put_ok h (by omega) h3
  · exact h

set_option maxHeartbeats 2000000 in
theorem cbackup_any (p : Nat) (c : Int) (lv : Value) (tv : Nat → Value) (s : Vlt) (t : ByteArray) (w : World) (hv : VaultAt w p lv tv s) (hok : s.Ok) (ht : t.size ≤ 9223372036854775807) :
    Calls Tryz.prog 15 #[.pointer (some ⟨p, 0, none⟩), .int .i64 c, .string t] w fun e w' => e = .returned (.tuple #[.int .i64 (putN s c t), .int .i64 (putE s c t)]) ∧ Moves p lv tv (putS s c t) w w' := by
  have HC : Hid (Calls Tryz.prog 32 #[.pointer (some ⟨p, 0, none⟩), .int .i64 c, .string t] w fun e w' => e = .returned (.tuple #[.int .i64 (putN s c t), .int .i64 (putE s c t)]) ∧ Hid (Moves p lv tv (putS s c t) w w')) := sbackup_any p c lv tv s t w hv hok ht
  clear hv hok ht
  show Calls Tryz.prog 15 #[.pointer (some ⟨p, 0, none⟩), .int .i64 c, .string t] w fun e w' => e = .returned (.tuple #[.int .i64 (putN s c t), .int .i64 (putE s c t)]) ∧ Hid (Moves p lv tv (putS s c t) w w')
  generalize putN s c t = a at *
  generalize putE s c t = b at *
  generalize putS s c t = s' at *
  go_enter Tryz.func15, Tryz.ntmps15
  go_wp2_with fail
  refine HC.out.mono ?_
  rintro e w1 ⟨rfl, b1⟩
  go_wp2
  go_ret2
  exact ⟨rfl, b1⟩
end Go.Proofs.YtabpiaaknjcnkabGreat
