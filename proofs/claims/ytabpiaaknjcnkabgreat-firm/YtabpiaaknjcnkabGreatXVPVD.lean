/- The texts VP, VD, one behind the other. -/
import Derived.Test.YtabpiaaknjcnkabGreatVO
import Derived.Test.YtabpiaaknjcnkabGreatVC
import Derived.Test.YtabpiaaknjcnkabGreatV2
import Derived.Test.YtabpiaaknjcnkabGreatXPXVN
import Derived.Test.YtabpiaaknjcnkabGreatD6
/-
  The walks over Squash.
-/
namespace Go.Proofs.YtabpiaaknjcnkabGreat
open Go.RowKit
set_option linter.unusedVariables false
set_option linter.unusedSimpArgs false
set_option maxRecDepth 100000

def squashTo (ch : Nat → Chn) : Nat → List UInt8
  | 0 => []
  | n + 1 => squashTo ch n ++ chainL n (ch n)
theorem squashTo_four (ch : Nat → Chn) : squashTo ch 4 = squashL ch := by simp [squashTo, squashL]
theorem chainL_le {c : Nat} (hc : c < 4) {x : Chn} (h1 : x.gone + x.texts.length ≤ 2147483647) (h2 : ∀ t ∈ x.texts, t.size ≤ 2000) : (chainL c x).length ≤ 4380866639880 := by
  have := chainL_take hc h1 h2 x.texts.length (Nat.le_refl _)
  rw [List.take_length] at this
  have e : (⟨x.gone, x.texts⟩ : Chn) = x := rfl
  rw [e] at this
  omega
theorem squashTo_le {s : Vlt} (h : s.Ok) : ∀ n, n ≤ 4 → (squashTo s.ch n).length ≤ n * 4380866639880
  | 0, _ => by simp [squashTo]
  | n + 1, hn => by
    have ih := squashTo_le h n (by omega)
    have := chainL_le (c := n) (by omega) (h.last n) (h.size n)
    simp only [squashTo, List.length_append]
    omega
theorem bytes_wide {w : World} {b : Nat} {v : Value} {bs : List UInt8} (h : OwnBytes w b v bs) : OwnBytes w 0 v bs := by
  refine ⟨h.1, ?_⟩
  rcases h.2 with h' | ⟨g, cap, cur, rfl, hg, hr⟩
  · exact .inl h'
  · exact .inr ⟨g, cap, cur, rfl, Nat.zero_le _, hr⟩
theorem own_nothing (w : World) (b : Nat) : OwnBytes w b (.slice none 0 0) [] := ⟨by simp, .inl ⟨rfl, rfl⟩⟩

/-- Another log, of blocks of its own. -/
theorem VaultAt.logged2 {w w2 : World} {p : Nat} {lv lv' : Value} {tv : Nat → Value} {s : Vlt} {bs : List UInt8} (h : VaultAt w p lv tv s) (hg : Below w.heap.size w w2) (ho : OwnBytes w2 0 lv' bs) (hat : ∀ g, lv'.ownBlock = some g → w.heap.size ≤ g) :
    VaultAt (w2.setCell ⟨p, 0, none⟩ lv') p lv' tv ⟨bs, s.ch⟩ ∧ Out (foot p lv tv) w (w2.setCell ⟨p, 0, none⟩ lv') ∧ (∀ q, foot p lv' tv q → foot p lv tv q ∨ w.heap.size ≤ q) := by
  have hp := h.lt
  have hb : w2.heap[p]? = some (.cells (vcells lv tv s) 71 (0, 0)) := (hg.block p hp).trans h.blk
  have hl : lv'.ownBlock ≠ some p := fun e => by have := hat p e; omega
  refine ⟨⟨Lib.heap_setCell_same hb _, row_block ho (fun g hg' => Below.heap_setCell _ _ _ _ (fun e => hl (by rw [hg', e]))), fun i hi => ?_, h.apart⟩, (Out.of_below hg).set (.inl rfl) _, ?_⟩
  · refine row_block (h.row i hi) (fun g hg' => ?_)
    exact (Below.heap_setCell _ _ _ _ (fun e => h.rowp i hi (by rw [hg', e]))).trans (hg.block g (row_own_lt (h.row i hi) hg'))
  · rintro q (rfl | hq | ⟨i, hi, hq⟩)
    · exact .inl (.inl rfl)
    · exact .inr (hat q hq)
    · exact .inl (.inr (.inr ⟨i, hi, hq⟩))

set_option maxHeartbeats 8000000 in
theorem ssquash_any (p : Nat) (lv : Value) (tv : Nat → Value) (s : Vlt) (w : World) (hv : VaultAt w p lv tv s) (hok : s.Ok) :
    Calls Tryz.prog 24 #[.pointer (some ⟨p, 0, none⟩)] w fun e w' => e = .returned (.tuple #[]) ∧ Moves p lv tv s.squash w w' := by
  have HV : Hid (VaultAt w p lv tv s) := hv
  have HAD : Hid (∀ (c : Nat) (v : Value) (W : World), c < 4 → Below w.heap.size w W → OwnBytes W w.heap.size v (squashTo s.ch c) → Calls Tryz.prog 38 #[v, .int .i64 c, .pointer (some ⟨p, 1 + c * 2, none⟩)] W fun e w' => ∃ v', e = .returned v' ∧ OwnBytes w' w.heap.size v' (squashTo s.ch (c + 1)) ∧ Below w.heap.size W w') := fun c v W hc hW ho =>
    addall_any p c w.heap.size v lv tv s _ W (hv.below hW) hok hc hv.foot_lt hW.size ho (by have := squashTo_le hok c (by omega); omega)
  obtain ⟨lo, lc, hlv⟩ := hv.log.slice
  have hlog := hok.log
  have k0 : w.cell? ⟨p, 0, none⟩ = some (.slice lo s.log.length lc) := by rw [← hlv]; exact hv.cell0
  have hp := hv.lt
  have hfz := hv.frozen 0
  have HQ4 := squashTo_le hok 4 (by omega)
  have HSQ : Hid (s.squash = ⟨if (squashTo s.ch 4).length ≤ s.log.length then squashTo s.ch 4 else s.log, s.ch⟩) := by
    unfold Hid; rw [squashTo_four]; rfl
  generalize hST : squashTo s.ch = ST at *
  have HS0 : Hid (ST 0 = []) := by unfold Hid; rw [← hST]; rfl
  clear hv hok hST hlv
  go_enter Tryz.func24, Tryz.ntmps24
  go_wp2
  go_loopw [2, 4] (fun l i wr => ∃ j : Nat, i = .int .i64 j ∧ j ≤ 4 ∧ Hid (OwnBytes wr w.heap.size l (ST j)) ∧ Hid (Below w.heap.size w wr)) (fun _ i _ => 5 - (intOf i).toNat)
  case atStart => exact ⟨0, rfl, by omega, by unfold Hid; rw [HS0.out]; exact own_nothing _ _, Below.refl _ _⟩
  case round =>
    obtain ⟨j, rfl, hj, HO, HB⟩ := hrel
    by_cases hlt : j < 4
    · have c1 : (j : Int) < 4 := by omega
      have wj : IntKind.i64.wrap ((j : Int) + 1) = (j : Int) + 1 := by rw [IntKind.wrap_i64]; omega
      go_wp2_with fail
      refine (HAD.out j _ _ hlt HB.out HO.out).mono ?_
      rintro e w1 ⟨v1, rfl, o1, b1⟩
      have HO1 : Hid (OwnBytes w1 w.heap.size v1 (ST (j + 1))) := o1
      have HB1 : Hid (Below w.heap.size w w1) := HB.out.trans b1
      clear o1 b1 HO HB
      go_wp2
      go_roundw
      case rel => exact ⟨j + 1, by go_num, by omega, HO1, HB1⟩
      case measure => simp [intOf]; omega
    · obtain rfl : j = 4 := by omega
      obtain ⟨l1, lc1, hl1⟩ := HO.out.slice
      subst hl1
      have k1 := (HB.out.cell (p := ⟨p, 0, none⟩) hp).trans k0
      by_cases hle : (ST 4).length ≤ s.log.length
      · have hleI : ((ST 4).length : Int) ≤ (s.log.length : Int) := by omega
        have hfz1 := (HV.out.below HB.out).frozen 0
        have HX : Hid (_ ∧ _ ∧ _) := HV.out.logged2 HB.out (bytes_wide HO.out) (fun g hg => row_own_ge HO.out hg)
        go_wp2
        refine bodyPost_end (results_none rfl _ _ _) rfl ?_
        refine ⟨rfl, ?_⟩
        rw [HSQ.out, if_pos hle]
        exact ⟨_, _, HX.out⟩
      · have hleI : ¬ ((ST 4).length : Int) ≤ (s.log.length : Int) := by omega
        go_wp2
        refine bodyPost_end (results_none rfl _ _ _) rfl ?_
        refine ⟨rfl, ?_⟩
        rw [HSQ.out, if_neg hle]
        exact Moves.stays HV.out HB.out

set_option maxHeartbeats 4000000 in
theorem csquash_any (p : Nat) (lv : Value) (tv : Nat → Value) (s : Vlt) (w : World) (hv : VaultAt w p lv tv s) (hok : s.Ok) :
    Calls Tryz.prog 6 #[.pointer (some ⟨p, 0, none⟩)] w fun e w' => e = .returned (.tuple #[]) ∧ Moves p lv tv s.squash w w' := by
  have HC : Hid (Calls Tryz.prog 24 #[.pointer (some ⟨p, 0, none⟩)] w fun e w' => e = .returned (.tuple #[]) ∧ Moves p lv tv s.squash w w') := ssquash_any p lv tv s w hv hok
  have hp := hv.lt
  clear hv hok
  go_enter Tryz.func6, Tryz.ntmps6
  go_wp2_with fail
  refine HC.out.mono ?_
  rintro e w1 ⟨rfl, m1⟩
  have HM : Hid (Moves p lv tv s.squash w w1) := m1
  clear m1
  go_wp2
  refine bodyPost_end (results_none rfl _ _ _) rfl ?_
  exact ⟨rfl, HM.out⟩
end Go.Proofs.YtabpiaaknjcnkabGreat

/-
  The walks over package record: a record is read.
-/
namespace Go.Proofs.YtabpiaaknjcnkabGreat
open Go.RowKit
set_option linter.unusedVariables false
set_option linter.unusedSimpArgs false
set_option maxRecDepth 100000

set_option maxHeartbeats 1000000 in
theorem text_end2 (rb : Nat) (s : ByteArray) (at_ n : Nat) (w : World) (h : RAt w rb s at_) (hlt : at_ ≤ s.size) (hn : s.size < at_ + n) (hs : s.size ≤ 9223372036854775000) (hn2 : n ≤ 2147483647) :
    Calls Tryz.prog 92 #[.pointer (some ⟨rb, 0, none⟩), .int .i64 n] w fun e w' => e = gaveUp s.size ∧ Moved rb w w' := by
  obtain ⟨c0, c1, c2⟩ := h.cells
  have HR : Hid (RAt w rb s at_) := h
  have q1 : IntKind.i64.wrap ((s.size : Int) - (at_ : Int)) = (s.size : Int) - at_ := by rw [IntKind.wrap_i64]; omega
  have q2 : (s.size : Int) - (at_ : Int) < (n : Int) := by omega
  clear h
  go_enter Tryz.func92, Tryz.ntmps92
  go_wp2
  go_quiet (fail)
  go_wp2_with fail
  refine (toosoon_any rb s at_ (w.drewN nq) HR.out).mono ?_
  rintro e w' ⟨rfl, rfl⟩
  go_wp2
  exact ⟨rfl, rfl, .of_below (below_drewN0 _ _ _)⟩

set_option maxHeartbeats 1000000 in
theorem text_some2 (rb : Nat) (s : ByteArray) (at_ n : Nat) (w : World) (h : RAt w rb s at_) (hn : at_ + n ≤ s.size) (hs : s.size ≤ 9223372036854775000) (hn2 : n ≤ 100000) :
    Calls Tryz.prog 92 #[.pointer (some ⟨rb, 0, none⟩), .int .i64 n] w fun e w' => e = .returned (.string (s.extract at_ (at_ + n))) ∧ RAt w' rb s (at_ + n) ∧ Moved rb w w' := by
  obtain ⟨c0, c1, c2⟩ := h.cells
  have HR : Hid (RAt (w.setCell ⟨rb, 1, none⟩ (.int .i64 ((at_ : Int) + n))) rb s (at_ + n)) := h.set _ _ (by omega)
  have q1 : IntKind.i64.wrap ((s.size : Int) - (at_ : Int)) = (s.size : Int) - at_ := by rw [IntKind.wrap_i64]; omega
  have q2 : ¬ (s.size : Int) - (at_ : Int) < (n : Int) := by omega
  have q3 : IntKind.i64.wrap ((at_ : Int) + (n : Int)) = (at_ : Int) + n := by rw [IntKind.wrap_i64]; omega
  clear h
  go_enter Tryz.func92, Tryz.ntmps92
  go_wp2
  go_quiet (fail)
  go_wp2
  have d0 : ((w.drewN nq).setCell ⟨rb, 1, none⟩ (.int .i64 ((at_ : Int) + n))).cell? ⟨rb, 0, none⟩ = some (.string s) := (RAt.cells HR.out).1
  have d1 : ((w.drewN nq).setCell ⟨rb, 1, none⟩ (.int .i64 ((at_ : Int) + n))).cell? ⟨rb, 1, none⟩ = some (.int .i64 ((at_ : Int) + n)) := (RAt.cells HR.out).2.1
  have HC : Hid (∀ W, Calls Tryz.prog 58 #[.string (s.extract at_ (at_ + n))] W fun e w' => e = .returned (.string (s.extract at_ (at_ + n))) ∧ Below W.heap.size W w') := fun W => clone_any _ W (by rw [size_ext _ _ _ hn]; omega)
  have HR1 : Hid (RAt ((w.drewN nq).setCell ⟨rb, 1, none⟩ (.int .i64 ((at_ : Int) + n))) rb s (at_ + n)) := HR.out
  have hrb : rb < ((w.drewN nq).setCell ⟨rb, 1, none⟩ (.int .i64 ((at_ : Int) + n))).heap.size := lt_of_block HR1.out
  have HM1 : Hid (Moved rb w ((w.drewN nq).setCell ⟨rb, 1, none⟩ (.int .i64 ((at_ : Int) + n)))) := (Moved.of_below (below_drewN0 _ _ _)).trans (Moved.set _ _ _ _)
  generalize ((w.drewN nq).setCell ⟨rb, 1, none⟩ (.int .i64 ((at_ : Int) + n))) = W1 at *
  have r1 : (0 : Int) ≤ (at_ : Int) := by omega
  have r2 : (at_ : Int) ≤ (at_ : Int) + (n : Int) := by omega
  have r3 : (at_ : Int) + (n : Int) ≤ (s.size : Int) := by omega
  clear HR c0 c1 c2 q1 q2 q3
  go_region_held3 (fun w' => w'.cell? ⟨rb, 0, none⟩ = some (.string s) ∧ w'.cell? ⟨rb, 1, none⟩ = some (.int .i64 ((at_ : Int) + n))) (go_keep)
    (first | (go_at_call 58; refine (HC.out _).mono ?_; rintro e w3 ⟨rfl, hb3⟩; have e0 := (hb3.cell (p := ⟨rb, 0, none⟩) hrb).trans d0; have e1 := (hb3.cell (p := ⟨rb, 1, none⟩) hrb).trans d1))
  have HR3 : Hid (RAt w3 rb s (at_ + n)) := RAt.kept (w := W1.drew) HR1.out hb3
  have HM3 : Hid (Moved rb w w3) := (HM1.out.trans (Moved.of_below (Below.refl _ _).drew)).trans (Moved.of_below hb3)
  clear hb3 e0 e1 HC HR1 HM1 d0 d1
  go_wp2
  go_ret
  exact ⟨rfl, HR3.out, HM3.out⟩

set_option maxHeartbeats 1000000 in
/-- All that is left. -/
theorem rest_any (rb : Nat) (s : ByteArray) (at_ : Nat) (w : World) (h : RAt w rb s at_) (hle : at_ ≤ s.size) (hs : s.size ≤ 100000) :
    Calls Tryz.prog 106 #[.pointer (some ⟨rb, 0, none⟩)] w fun e w' => e = .returned (.string (s.extract at_ s.size)) ∧ RAt w' rb s s.size ∧ Moved rb w w' := by
  obtain ⟨c0, c1, c2⟩ := h.cells
  have hrb : rb < w.heap.size := lt_of_block h
  obtain ⟨n, hn⟩ : ∃ n, at_ + n = s.size := ⟨s.size - at_, by omega⟩
  have HT : Hid (Calls Tryz.prog 92 #[.pointer (some ⟨rb, 0, none⟩), .int .i64 n] (w.drewN 1) fun e w' => e = .returned (.string (s.extract at_ s.size)) ∧ RAt w' rb s s.size ∧ Moved rb (w.drewN 1) w') := by
    have := text_some2 rb s at_ n (w.drewN 1) (h.drewN 1) (by omega) (by omega) (by omega)
    rw [hn] at this; exact this
  have q1 : IntKind.i64.wrap ((s.size : Int) - (at_ : Int)) = (n : Int) := by rw [IntKind.wrap_i64]; omega
  clear h hn
  go_enter Tryz.func106, Tryz.ntmps106
  go_wp2
  go_region_with (first | (go_at_call 92; refine HT.out.mono ?_; rintro e w3 ⟨rfl, r3, m3⟩))
  all_goals
    have HR : Hid (RAt w3 rb s s.size) := r3
    have HM : Hid (Moved rb w w3) := (Moved.of_below (below_drewN0 _ _ 1)).trans m3
    clear r3 m3
    go_wp2
    go_ret
    exact ⟨rfl, HR.out, HM.out⟩

set_option maxHeartbeats 1000000 in
theorem readtext_at (rb : Nat) (s : ByteArray) (at_ : Nat) (w : World) (h : RAt w rb s at_) (hle : at_ ≤ s.size) (hs : s.size ≤ 100000) (t : ByteArray) (hE : s.extract at_ s.size = t) :
    Calls Tryz.prog 104 #[.pointer (some ⟨rb, 0, none⟩)] w fun e w' => ((¬ t.size ≤ 2000 ∧ e = gaveUp at_) ∨ (t.size ≤ 2000 ∧ e = .returned (.string t) ∧ RAt w' rb s s.size)) ∧ Moved rb w w' := by
  have HR : Hid (RAt w rb s at_) := h
  have HC : Hid (Calls Tryz.prog 106 #[.pointer (some ⟨rb, 0, none⟩)] w fun e w' => e = .returned (.string t) ∧ RAt w' rb s s.size ∧ Moved rb w w') := by
    have := rest_any rb s at_ w h hle hs
    rw [hE] at this; exact this
  clear h hE
  go_enter Tryz.func104, Tryz.ntmps104
  go_wp2_with fail
  refine (at_any rb s at_ _ HR.out).mono ?_
  rintro e w1 ⟨rfl, rfl⟩
  go_wp2_with fail
  refine HC.out.mono ?_
  rintro e w2 ⟨rfl, r2, m2⟩
  have HR2 : Hid (RAt w2 rb s s.size) := r2
  have HM2 : Hid (Moved rb w w2) := m2
  clear r2 m2
  by_cases ht : t.size ≤ 2000
  · go_wp2
    go_ret
    exact ⟨.inr ⟨ht, rfl, HR2.out⟩, HM2.out⟩
  · go_wp2_with fail
    refine (giveup_any at_ _).mono ?_
    rintro e w3 ⟨rfl, rfl⟩
    go_wp2
    exact ⟨rfl, .inl ⟨ht, rfl⟩, HM2.out⟩

/-- What readHead does. -/
def HeadPost (rb : Nat) (s : ByteArray) (w : World) (e : Ending) (w' : World) : Prop :=
  ((∃ p, e = gaveUp p ∧ (s.size = 0 ∨ (∃ p', numF s 1 = .inl p') ∨ ∃ c a, numF s 1 = .inr (c, a) ∧ 3 < c)) ∨
    ∃ (L : UInt8) (c a : Nat), s.data.toList.head? = some L ∧ numF s 1 = .inr (c, a) ∧ ¬ 3 < c ∧ e = .returned (.agg #[.int .u8 L.toNat, .int .i64 c]) ∧ RAt w' rb s a ∧ a ≤ s.size) ∧ Moved rb w w'

theorem Moved.alloc (rb : Nat) (w : World) (o : Obj) : Moved rb w (w.alloc o) := .of_below ((Below.refl _ _).alloc (Nat.le_refl _) _)

set_option maxHeartbeats 2000000 in
theorem readhead_any (rb : Nat) (s : ByteArray) (w : World) (h : RAt w rb s 0) (hs : s.size ≤ 100000) :
    Calls Tryz.prog 97 #[.pointer (some ⟨rb, 0, none⟩)] w (HeadPost rb s w) := by
  have hrb : rb < w.heap.size := lt_of_block h
  have HR : Hid (RAt (w.alloc (.cells #[.int .u8 0, .int .i64 0] 127)) rb s 0) := h.kept ((Below.refl _ _).alloc (Nat.le_refl _) _)
  have HM : Hid (Moved rb w (w.alloc (.cells #[.int .u8 0, .int .i64 0] 127))) := Moved.alloc rb w _
  have hb : (w.alloc (.cells #[.int .u8 0, .int .i64 0] 127)).heap[w.heap.size]? = some (.cells #[.int .u8 0, .int .i64 0] 127 (0, 0)) := heap_alloc_new _ _
  have hne : w.heap.size ≠ rb := by omega
  have hsz : w.heap.size < (w.alloc (.cells #[.int .u8 0, .int .i64 0] 127)).heap.size := by simp
  clear h
  by_cases h0 : s.size = 0
  · have HR0 : Hid (RAt (w.alloc (.cells #[.int .u8 0, .int .i64 0] 127)) rb s s.size) := by unfold Hid; rw [h0]; exact HR.out
    have HZ : Hid (s.size = 0) := h0
    clear h0 HR
    go_enter Tryz.func97, Tryz.ntmps97
    go_wp2_with fail
    refine (next_end rb s _ HR0.out).mono ?_
    rintro e w2 ⟨rfl, m2⟩
    have R : Moved rb w w2 := HM.out.trans m2
    clear m2
    go_wp2
    exact ⟨rfl, .inl ⟨_, rfl, .inl HZ.out⟩, R⟩
  · have hlt : 0 < s.size := by omega
    have HHD : Hid (s.data.toList.head? = some (s[0]'hlt)) := by
      unfold Hid
      have := drop_byte (s := s) (i := 0) hlt
      rw [List.drop_zero] at this
      rw [this]; rfl
    clear h0
    go_enter Tryz.func97, Tryz.ntmps97
    go_wp2_with fail
    refine (next_some rb s 0 _ HR.out hlt (by omega)).mono ?_
    rintro e w2 ⟨rfl, r2, m2⟩
    have HR2 : Hid (RAt w2 rb s 1) := r2
    have HM2 : Hid (Moved rb w w2) := HM.out.trans m2
    have hb2 := (m2.block w.heap.size hsz hne).trans hb
    have hs2 := m2.size
    generalize (s[0]'hlt) = L at *
    clear r2 m2 HM HR hb
    go_wp2_with fail
    refine (at_any rb s 1 _ HR2.out).mono ?_
    rintro e w3 ⟨rfl, rfl⟩
    go_wp2_with fail
    refine (number_any rb s 1 _ HR2.out (by omega) (by omega)).mono ?_
    rintro e w3 ⟨hcase, m3⟩
    have HM3 : Hid (Moved rb w w3) := HM2.out.trans m3
    have hb3 := (m3.block w.heap.size (Nat.lt_of_lt_of_le hsz hs2) hne).trans hb2
    clear m3 HM2 HR2 hb2
    rcases hcase with ⟨p, hp, rfl⟩ | ⟨c, a, hp, rfl, hr3⟩
    · have HP : Hid (numF s 1 = .inl p) := hp
      clear hp
      go_wp2
      exact ⟨rfl, .inl ⟨p, rfl, .inr (.inl ⟨p, HP.out⟩)⟩, HM3.out⟩
    · have HP : Hid (numF s 1 = .inr (c, a)) := hp
      obtain ⟨hc, _, ha⟩ := numF_ok (by omega) hp
      have HR3 : Hid (RAt w3 rb s a) := hr3
      clear hp hr3
      by_cases h3 : 3 < c
      · have c4 : (4 : Int) ≤ (c : Int) := by omega
        go_wp2_with fail
        refine (giveup_any 1 _).mono ?_
        rintro e w6 ⟨rfl, rfl⟩
        go_wp2
        exact ⟨rfl, .inl ⟨1, rfl, .inr (.inr ⟨c, a, HP.out, h3⟩)⟩, HM3.out⟩
      · have c4 : ¬ (4 : Int) ≤ (c : Int) := by omega
        have k0 : w3.cell? ⟨w.heap.size, 0, none⟩ = some (.int .u8 0) := by rw [Lib.cell_of_heap hb3]; rfl
        have k1 : w3.cell? ⟨w.heap.size, 1, none⟩ = some (.int .i64 0) := by rw [Lib.cell_of_heap hb3]; rfl
        have f0 : w3.frozen? ⟨w.heap.size, 0, none⟩ = false := Lib.frozen_of_heap hb3 0
        have f1 : w3.frozen? ⟨w.heap.size, 1, none⟩ = false := Lib.frozen_of_heap hb3 1
        go_wp2
        have hb4 := Lib.heap_setCell_same (i := 0) hb3 (.int .u8 (L.toNat : Int))
        have e0 : (w3.setCell ⟨w.heap.size, 0, none⟩ (.int .u8 (L.toNat : Int))).cell? ⟨w.heap.size, 0, none⟩ = some (.int .u8 (L.toNat : Int)) := by rw [Lib.cell_of_heap hb4]; rfl
        have hb5 := Lib.heap_setCell_same (i := 1) hb4 (.int .i64 (c : Int))
        have e1 : ((w3.setCell ⟨w.heap.size, 0, none⟩ (.int .u8 (L.toNat : Int))).setCell ⟨w.heap.size, 1, none⟩ (.int .i64 (c : Int))).cell? ⟨w.heap.size, 1, none⟩ = some (.int .i64 (c : Int)) := by rw [Lib.cell_of_heap hb5]; rfl
        refine bodyPost_ret (by simp [results, Tryz.results97, go_sem, e0, e1]; rfl) rfl ?_
        refine ⟨.inr ⟨L, c, a, HHD.out, HP.out, h3, rfl, (far1 (Ne.symm hne)).trans ((far1 (Ne.symm hne)).trans HR3.out), ha⟩, ?_⟩
        exact ⟨HM3.out.os, HM3.out.tape, HM3.out.output, by have := HM3.out.size; simpa [World.setCell] using this, fun k hk hk2 => ((far1 (by omega)).trans (far1 (by omega))).trans (HM3.out.block k hk hk2)⟩
end Go.Proofs.YtabpiaaknjcnkabGreat
