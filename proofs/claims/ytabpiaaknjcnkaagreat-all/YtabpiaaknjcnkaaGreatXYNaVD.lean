/- The texts YNa, VD, one behind the other. -/
import Derived.Test.YtabpiaaknjcnkaaGreatXZYZPYLPXVN
import Derived.Deep.DeepCutAuto
import Derived.Test.YtabpiaaknjcnkaaGreatXPVV1V2
import Derived.Test.YtabpiaaknjcnkaaGreatXD5D6R7D7
/-
  The document's does: done (0).
-/
namespace Go.Proofs.YtabpiaaknjcnkaaGreat
open Go.RowKit
set_option linter.unusedVariables false
set_option linter.unusedSimpArgs false
set_option maxRecDepth 100000

set_option maxHeartbeats 4000000 in
theorem ydoes_F_yes (p : Nat) (b : ByteArray) (tv : Nat → Value) (s : Vlt) (w : World) (hv : YAt w p tv s) (hok : s.Ok) (hsz : b.size ≤ 20000) (h0 : 0 < b.size) (c at_ : Nat) (hnum : numF b 1 = .inr (c, at_)) (hc : c < 4) (hl : (b[0]'h0).toNat = 70) (ht : b.size - at_ ≤ 2000) (hlast : (s.ch c).last ≠ 2147483647) :
    Calls Tryz.prog 105 #[.pointer (some ⟨p, 0, none⟩), .string b] w fun e w' => e = .returned (.bool true) ∧ YMoves p tv ⟨s.log, setCh s.ch c ⟨(s.ch c).gone, (s.ch c).texts ++ [b.extract at_ b.size]⟩⟩ w w' := by
  have hb0 : b.toList.isEmpty = false := by
    cases h : b.toList.isEmpty
    · rfl
    · have := (isEmpty_iff b).1 h; omega
  obtain ⟨_, hat1, hat2⟩ := numF_ok (by omega) hnum
  have HN : Hid (∀ W : World, Calls Tryz.prog 104 #[.string b, .int .i64 1, .int .i64 3] W fun e w' => e = .returned (.tuple #[.int .i64 c, .int .i64 at_, .int .i64 (-1)]) ∧ W = w') := fun W => by
    have := rnum_any b 1 3 W (by omega) (by omega) (by omega)
    rw [numR_ok hnum (by omega)] at this; exact this
  have k1 := hv.cellF c hc
  have k2 := hv.cellT c hc
  obtain ⟨ao, cap, htv, hcap, hrow⟩ := hv.row c hc
  rw [htv] at k2
  have hp := hv.lt
  have hcI : (c : Int) < 4 := by omega
  have HCAN : Hid (∀ W : World, Calls Tryz.prog 72 #[.agg #[.int .i64 (yF (s.ch c)), .slice ao (s.ch c).texts.length cap]] W fun e w' => e = .returned (.bool (decide ((s.ch c).last ≠ 2147483647))) ∧ Below W.heap.size W w') := fun W => yroom hok W
  have HWC : Hid (∀ W, Below w.heap.size w W → Calls Tryz.prog 76 #[.agg #[.int .i64 (yF (s.ch c)), .slice ao (s.ch c).texts.length cap], .string (b.extract at_ b.size)] W fun e w' => ∃ v', e = .returned (.agg #[.int .i64 (((s.ch c).gone + 1 : Nat) : Int), v']) ∧ YView w' v' ((s.ch c).texts ++ [b.extract at_ b.size]) ∧ (∀ b, rowBlock v' = some b → W.heap.size ≤ b) ∧ Below W.heap.size W w') := fun W hW => by
    have := ywith_any (s.ch c) (tv c) (b.extract at_ b.size) W ((hv.row c hc).below hW) (hv.nil c hc) (hok.none c) (hok.last c)
    rw [htv] at this; exact this
  have HM : Hid (∀ (w3 : World) (v' : Value), Below w.heap.size w w3 → YView w3 v' ((s.ch c).texts ++ [b.extract at_ b.size]) → (∀ b, rowBlock v' = some b → w.heap.size ≤ b) → YMoves p tv ⟨s.log, setCh s.ch c ⟨(s.ch c).gone, (s.ch c).texts ++ [b.extract at_ b.size]⟩⟩ w ((w3.setCell ⟨p, c * 2, none⟩ (.int .i64 (((s.ch c).gone + 1 : Nat) : Int))).setCell ⟨p, c * 2 + 1, none⟩ v')) := fun w3 v' h1 h2 h3 => ych_moves hv hc h1 rfl h2 (by simp) (fun b hb => .inr (h3 b hb))
  have fz0 := hv.frozen (c * 2)
  have fz1 := hv.frozen (c * 2 + 1)
  have HTX : Hid (((s.ch c).texts ++ [b.extract at_ b.size]).length = (s.ch c).texts.length + 1) := by unfold Hid; simp
  have htI : ¬ (2000 : Int) < (b.size : Int) - (at_ : Int) := by omega
  have u1 : IntKind.i64.wrap ((b.size : Int) - (at_ : Int)) = (b.size : Int) - (at_ : Int) := by rw [IntKind.wrap_i64]; omega
  rw [show decide ((s.ch c).last ≠ 2147483647) = true from decide_eq_true hlast] at HCAN
  generalize (((s.ch c).gone + 1 : Nat) : Int) = G1 at *
  generalize yF (s.ch c) = F at *
  generalize (s.ch c).texts.length = L at *
  clear hv hok htv hcap hrow hnum ht hlast
  have k1b := k1
  have k2b := k2
  go_enter Tryz.func105, Tryz.ntmps105
  go_wp2_with fail
  refine (HN.out _).mono ?_
  rintro e w0 ⟨rfl, rfl⟩
  go_wp2_with fail
  refine (HCAN.out _).mono ?_
  rintro e w1 ⟨rfl, b1⟩
  have B1 : Below w.heap.size w w1 := ((Below.refl w.heap.size w).alloc (Nat.le_refl _) _).trans (b1.mono (by simp))
  have ob1 := (b1.block w.heap.size (by simp)).trans (heap_alloc_new w (.cells #[.int .i64 F, .slice ao L cap] 66))
  have x0 : w1.cell? ⟨w.heap.size, 0, none⟩ = some (.int .i64 F) := by rw [Lib.cell_of_heap ob1]; rfl
  have x1 : w1.cell? ⟨w.heap.size, 1, none⟩ = some (.slice ao L cap) := by rw [Lib.cell_of_heap ob1]; rfl
  have hs1 : w.heap.size < w1.heap.size := lt_of_block ob1
  clear k1 k2 b1
  clear ob1
  have z0 := (B1.cell (p := ⟨p, c * 2, none⟩) hp).trans k1b
  have z1 := (B1.cell (p := ⟨p, c * 2 + 1, none⟩) hp).trans k2b
  have g0 := (B1.frozen (p := ⟨p, c * 2, none⟩) hp).trans fz0
  have g1 := (B1.frozen (p := ⟨p, c * 2 + 1, none⟩) hp).trans fz1
  have hpw : p < w1.heap.size := Nat.lt_of_lt_of_le hp B1.size
  have HBW : Hid (Below w.heap.size w w1) := B1
  clear fz0 fz1 k1b k2b B1
  go_wp2_with fail
  go_region_with (first | (go_at_call 76; refine (HWC.out _ (by first | exact HBW.out.drew | exact HBW.out)).mono ?_; rintro e w5 ⟨v5, rfl, hv5, hr5, b5⟩; obtain ⟨vo, vc, hv5e, hv5l⟩ : ∃ vo vc, v5 = .slice vo (L + 1) vc ∧ Hid (YView w5 v5 ((s.ch c).texts ++ [b.extract at_ b.size])) := (by obtain ⟨x, y, z, _⟩ := id hv5; rw [HTX.out] at z; exact ⟨x, y, z, hv5⟩); subst hv5e; have HR5 : Hid (∀ b, rowBlock (.slice vo (L + 1) vc) = some b → w.heap.size ≤ b) := (fun b hb => Nat.le_trans HBW.out.size (hr5 b hb)); clear hv5 hr5; have c05 := (b5.cell (p := ⟨p, c * 2, none⟩) hpw).trans z0; have c15 := (b5.cell (p := ⟨p, c * 2 + 1, none⟩) hpw).trans z1; have f05 := (b5.frozen (p := ⟨p, c * 2, none⟩) hpw).trans g0; have f15 := (b5.frozen (p := ⟨p, c * 2 + 1, none⟩) hpw).trans g1))
  all_goals go_wp2
  all_goals go_ret
  all_goals exact ⟨rfl, HM.out w5 _ (HBW.out.drew.trans (b5.mono HBW.out.size)) hv5l.out HR5.out⟩
end Go.Proofs.YtabpiaaknjcnkaaGreat

/-
  The walks over package record: a record is read.
-/
namespace Go.Proofs.YtabpiaaknjcnkaaGreat
open Go.RowKit
set_option linter.unusedVariables false
set_option linter.unusedSimpArgs false
set_option maxRecDepth 100000

set_option maxHeartbeats 1000000 in
theorem text_end2 (rb : Nat) (s : ByteArray) (at_ n : Nat) (w : World) (h : RAt w rb s at_) (hlt : at_ ≤ s.size) (hn : s.size < at_ + n) (hs : s.size ≤ 9223372036854775000) (hn2 : n ≤ 2147483647) :
    Calls Tryz.prog 135 #[.pointer (some ⟨rb, 0, none⟩), .int .i64 n] w fun e w' => e = gaveUp s.size ∧ Moved rb w w' := by
  obtain ⟨c0, c1, c2⟩ := h.cells
  have HR : Hid (RAt w rb s at_) := h
  have q1 : IntKind.i64.wrap ((s.size : Int) - (at_ : Int)) = (s.size : Int) - at_ := by rw [IntKind.wrap_i64]; omega
  have q2 : (s.size : Int) - (at_ : Int) < (n : Int) := by omega
  clear h
  go_enter Tryz.func135, Tryz.ntmps135
  go_wp2
  go_quiet (fail)
  go_wp2_with fail
  refine (toosoon_any rb s at_ (w.drewN nq) HR.out).mono ?_
  rintro e w' ⟨rfl, rfl⟩
  go_wp2
  exact ⟨rfl, rfl, .of_below (below_drewN0 _ _ _)⟩

set_option maxHeartbeats 1000000 in
theorem text_some2 (rb : Nat) (s : ByteArray) (at_ n : Nat) (w : World) (h : RAt w rb s at_) (hn : at_ + n ≤ s.size) (hs : s.size ≤ 9223372036854775000) (hn2 : n ≤ 100000) :
    Calls Tryz.prog 135 #[.pointer (some ⟨rb, 0, none⟩), .int .i64 n] w fun e w' => e = .returned (.string (s.extract at_ (at_ + n))) ∧ RAt w' rb s (at_ + n) ∧ Moved rb w w' := by
  obtain ⟨c0, c1, c2⟩ := h.cells
  have HR : Hid (RAt (w.setCell ⟨rb, 1, none⟩ (.int .i64 ((at_ : Int) + n))) rb s (at_ + n)) := h.set _ _ (by omega)
  have q1 : IntKind.i64.wrap ((s.size : Int) - (at_ : Int)) = (s.size : Int) - at_ := by rw [IntKind.wrap_i64]; omega
  have q2 : ¬ (s.size : Int) - (at_ : Int) < (n : Int) := by omega
  have q3 : IntKind.i64.wrap ((at_ : Int) + (n : Int)) = (at_ : Int) + n := by rw [IntKind.wrap_i64]; omega
  clear h
  go_enter Tryz.func135, Tryz.ntmps135
  go_wp2
  go_quiet (fail)
  go_wp2
  have d0 : ((w.drewN nq).setCell ⟨rb, 1, none⟩ (.int .i64 ((at_ : Int) + n))).cell? ⟨rb, 0, none⟩ = some (.string s) := (RAt.cells HR.out).1
  have d1 : ((w.drewN nq).setCell ⟨rb, 1, none⟩ (.int .i64 ((at_ : Int) + n))).cell? ⟨rb, 1, none⟩ = some (.int .i64 ((at_ : Int) + n)) := (RAt.cells HR.out).2.1
  have HC : Hid (∀ W, Calls Tryz.prog 54 #[.string (s.extract at_ (at_ + n))] W fun e w' => e = .returned (.string (s.extract at_ (at_ + n))) ∧ Below W.heap.size W w') := fun W => clone_any _ W (by rw [size_ext _ _ _ hn]; omega)
  have HR1 : Hid (RAt ((w.drewN nq).setCell ⟨rb, 1, none⟩ (.int .i64 ((at_ : Int) + n))) rb s (at_ + n)) := HR.out
  have hrb : rb < ((w.drewN nq).setCell ⟨rb, 1, none⟩ (.int .i64 ((at_ : Int) + n))).heap.size := lt_of_block HR1.out
  have HM1 : Hid (Moved rb w ((w.drewN nq).setCell ⟨rb, 1, none⟩ (.int .i64 ((at_ : Int) + n)))) := (Moved.of_below (below_drewN0 _ _ _)).trans (Moved.set _ _ _ _)
  generalize ((w.drewN nq).setCell ⟨rb, 1, none⟩ (.int .i64 ((at_ : Int) + n))) = W1 at *
  have r1 : (0 : Int) ≤ (at_ : Int) := by omega
  have r2 : (at_ : Int) ≤ (at_ : Int) + (n : Int) := by omega
  have r3 : (at_ : Int) + (n : Int) ≤ (s.size : Int) := by omega
  clear HR c0 c1 c2 q1 q2 q3
  go_region_held3 (fun w' => w'.cell? ⟨rb, 0, none⟩ = some (.string s) ∧ w'.cell? ⟨rb, 1, none⟩ = some (.int .i64 ((at_ : Int) + n))) (go_keep)
    (first | (go_at_call 54; refine (HC.out _).mono ?_; rintro e w3 ⟨rfl, hb3⟩; have e0 := (hb3.cell (p := ⟨rb, 0, none⟩) hrb).trans d0; have e1 := (hb3.cell (p := ⟨rb, 1, none⟩) hrb).trans d1))
  have HR3 : Hid (RAt w3 rb s (at_ + n)) := RAt.kept (w := W1.drew) HR1.out hb3
  have HM3 : Hid (Moved rb w w3) := (HM1.out.trans (Moved.of_below (Below.refl _ _).drew)).trans (Moved.of_below hb3)
  clear hb3 e0 e1 HC HR1 HM1 d0 d1
  go_wp2
  go_ret
  exact ⟨rfl, HR3.out, HM3.out⟩

set_option maxHeartbeats 1000000 in
/-- All that is left. -/
theorem rest_any (rb : Nat) (s : ByteArray) (at_ : Nat) (w : World) (h : RAt w rb s at_) (hle : at_ ≤ s.size) (hs : s.size ≤ 100000) :
    Calls Tryz.prog 156 #[.pointer (some ⟨rb, 0, none⟩)] w fun e w' => e = .returned (.string (s.extract at_ s.size)) ∧ RAt w' rb s s.size ∧ Moved rb w w' := by
  obtain ⟨c0, c1, c2⟩ := h.cells
  have hrb : rb < w.heap.size := lt_of_block h
  obtain ⟨n, hn⟩ : ∃ n, at_ + n = s.size := ⟨s.size - at_, by omega⟩
  have HT : Hid (Calls Tryz.prog 135 #[.pointer (some ⟨rb, 0, none⟩), .int .i64 n] (w.drewN 1) fun e w' => e = .returned (.string (s.extract at_ s.size)) ∧ RAt w' rb s s.size ∧ Moved rb (w.drewN 1) w') := by
    have := text_some2 rb s at_ n (w.drewN 1) (h.drewN 1) (by omega) (by omega) (by omega)
    rw [hn] at this; exact this
  have q1 : IntKind.i64.wrap ((s.size : Int) - (at_ : Int)) = (n : Int) := by rw [IntKind.wrap_i64]; omega
  clear h hn
  go_enter Tryz.func156, Tryz.ntmps156
  go_wp2
  go_region_with (first | (go_at_call 135; refine HT.out.mono ?_; rintro e w3 ⟨rfl, r3, m3⟩))
  all_goals
    have HR : Hid (RAt w3 rb s s.size) := r3
    have HM : Hid (Moved rb w w3) := (Moved.of_below (below_drewN0 _ _ 1)).trans m3
    clear r3 m3
    go_wp2
    go_ret
    exact ⟨rfl, HR.out, HM.out⟩

set_option maxHeartbeats 1000000 in
theorem readtext_at (rb : Nat) (s : ByteArray) (at_ : Nat) (w : World) (h : RAt w rb s at_) (hle : at_ ≤ s.size) (hs : s.size ≤ 100000) (t : ByteArray) (hE : s.extract at_ s.size = t) :
    Calls Tryz.prog 155 #[.pointer (some ⟨rb, 0, none⟩)] w fun e w' => ((¬ t.size ≤ 2000 ∧ e = gaveUp at_) ∨ (t.size ≤ 2000 ∧ e = .returned (.string t) ∧ RAt w' rb s s.size)) ∧ Moved rb w w' := by
  have HR : Hid (RAt w rb s at_) := h
  have HC : Hid (Calls Tryz.prog 156 #[.pointer (some ⟨rb, 0, none⟩)] w fun e w' => e = .returned (.string t) ∧ RAt w' rb s s.size ∧ Moved rb w w') := by
    have := rest_any rb s at_ w h hle hs
    rw [hE] at this; exact this
  clear h hE
  go_enter Tryz.func155, Tryz.ntmps155
  go_wp2_with fail
  refine (at_any rb s at_ _ HR.out).mono ?_
  rintro e w1 ⟨rfl, rfl⟩
  go_wp2_with fail
  refine HC.out.mono ?_
  rintro e w2 ⟨rfl, r2, m2⟩
  have HR2 : Hid (RAt w2 rb s s.size) := r2
  have HM2 : Hid (Moved rb w w2) := m2
  clear r2 m2
  by_cases ht : t.size ≤ 2000
  · go_wp2
    go_ret
    exact ⟨.inr ⟨ht, rfl, HR2.out⟩, HM2.out⟩
  · go_wp2_with fail
    refine (giveup_any at_ _).mono ?_
    rintro e w3 ⟨rfl, rfl⟩
    go_wp2
    exact ⟨rfl, .inl ⟨ht, rfl⟩, HM2.out⟩

/-- What readHead does. -/
def HeadPost (rb : Nat) (s : ByteArray) (w : World) (e : Ending) (w' : World) : Prop :=
  ((∃ p, e = gaveUp p ∧ (s.size = 0 ∨ (∃ p', numF s 1 = .inl p') ∨ ∃ c a, numF s 1 = .inr (c, a) ∧ 3 < c)) ∨
    ∃ (L : UInt8) (c a : Nat), s.data.toList.head? = some L ∧ numF s 1 = .inr (c, a) ∧ ¬ 3 < c ∧ e = .returned (.agg #[.int .u8 L.toNat, .int .i64 c]) ∧ RAt w' rb s a ∧ a ≤ s.size) ∧ Moved rb w w'

theorem Moved.alloc (rb : Nat) (w : World) (o : Obj) : Moved rb w (w.alloc o) := .of_below ((Below.refl _ _).alloc (Nat.le_refl _) _)

set_option maxHeartbeats 2000000 in
theorem readhead_any (rb : Nat) (s : ByteArray) (w : World) (h : RAt w rb s 0) (hs : s.size ≤ 100000) :
    Calls Tryz.prog 148 #[.pointer (some ⟨rb, 0, none⟩)] w (HeadPost rb s w) := by
  have hrb : rb < w.heap.size := lt_of_block h
  have HR : Hid (RAt (w.alloc (.cells #[.int .u8 0, .int .i64 0] 145)) rb s 0) := h.kept ((Below.refl _ _).alloc (Nat.le_refl _) _)
  have HM : Hid (Moved rb w (w.alloc (.cells #[.int .u8 0, .int .i64 0] 145))) := Moved.alloc rb w _
  have hb : (w.alloc (.cells #[.int .u8 0, .int .i64 0] 145)).heap[w.heap.size]? = some (.cells #[.int .u8 0, .int .i64 0] 145 (0, 0)) := heap_alloc_new _ _
  have hne : w.heap.size ≠ rb := by omega
  have hsz : w.heap.size < (w.alloc (.cells #[.int .u8 0, .int .i64 0] 145)).heap.size := by simp
  clear h
  by_cases h0 : s.size = 0
  · have HR0 : Hid (RAt (w.alloc (.cells #[.int .u8 0, .int .i64 0] 145)) rb s s.size) := by unfold Hid; rw [h0]; exact HR.out
    have HZ : Hid (s.size = 0) := h0
    clear h0 HR
    go_enter Tryz.func148, Tryz.ntmps148
    go_wp2_with fail
    refine (next_end rb s _ HR0.out).mono ?_
    rintro e w2 ⟨rfl, m2⟩
    have R : Moved rb w w2 := HM.out.trans m2
    clear m2
    go_wp2
    exact ⟨rfl, .inl ⟨_, rfl, .inl HZ.out⟩, R⟩
  · have hlt : 0 < s.size := by omega
    have HHD : Hid (s.data.toList.head? = some (s[0]'hlt)) := by
      unfold Hid
      have := drop_byte (s := s) (i := 0) hlt
      rw [List.drop_zero] at this
      rw [this]; rfl
    clear h0
    go_enter Tryz.func148, Tryz.ntmps148
    go_wp2_with fail
    refine (next_some rb s 0 _ HR.out hlt (by omega)).mono ?_
    rintro e w2 ⟨rfl, r2, m2⟩
    have HR2 : Hid (RAt w2 rb s 1) := r2
    have HM2 : Hid (Moved rb w w2) := HM.out.trans m2
    have hb2 := (m2.block w.heap.size hsz hne).trans hb
    have hs2 := m2.size
    generalize (s[0]'hlt) = L at *
    clear r2 m2 HM HR hb
    go_wp2_with fail
    refine (at_any rb s 1 _ HR2.out).mono ?_
    rintro e w3 ⟨rfl, rfl⟩
    go_wp2_with fail
    refine (number_any rb s 1 _ HR2.out (by omega) (by omega)).mono ?_
    rintro e w3 ⟨hcase, m3⟩
    have HM3 : Hid (Moved rb w w3) := HM2.out.trans m3
    have hb3 := (m3.block w.heap.size (Nat.lt_of_lt_of_le hsz hs2) hne).trans hb2
    clear m3 HM2 HR2 hb2
    rcases hcase with ⟨p, hp, rfl⟩ | ⟨c, a, hp, rfl, hr3⟩
    · have HP : Hid (numF s 1 = .inl p) := hp
      clear hp
      go_wp2
      exact ⟨rfl, .inl ⟨p, rfl, .inr (.inl ⟨p, HP.out⟩)⟩, HM3.out⟩
    · have HP : Hid (numF s 1 = .inr (c, a)) := hp
      obtain ⟨hc, _, ha⟩ := numF_ok (by omega) hp
      have HR3 : Hid (RAt w3 rb s a) := hr3
      clear hp hr3
      by_cases h3 : 3 < c
      · have c4 : (4 : Int) ≤ (c : Int) := by omega
        go_wp2_with fail
        refine (giveup_any 1 _).mono ?_
        rintro e w6 ⟨rfl, rfl⟩
        go_wp2
        exact ⟨rfl, .inl ⟨1, rfl, .inr (.inr ⟨c, a, HP.out, h3⟩)⟩, HM3.out⟩
      · have c4 : ¬ (4 : Int) ≤ (c : Int) := by omega
        have k0 : w3.cell? ⟨w.heap.size, 0, none⟩ = some (.int .u8 0) := by rw [Lib.cell_of_heap hb3]; rfl
        have k1 : w3.cell? ⟨w.heap.size, 1, none⟩ = some (.int .i64 0) := by rw [Lib.cell_of_heap hb3]; rfl
        have f0 : w3.frozen? ⟨w.heap.size, 0, none⟩ = false := Lib.frozen_of_heap hb3 0
        have f1 : w3.frozen? ⟨w.heap.size, 1, none⟩ = false := Lib.frozen_of_heap hb3 1
        go_wp2
        have hb4 := Lib.heap_setCell_same (i := 0) hb3 (.int .u8 (L.toNat : Int))
        have e0 : (w3.setCell ⟨w.heap.size, 0, none⟩ (.int .u8 (L.toNat : Int))).cell? ⟨w.heap.size, 0, none⟩ = some (.int .u8 (L.toNat : Int)) := by rw [Lib.cell_of_heap hb4]; rfl
        have hb5 := Lib.heap_setCell_same (i := 1) hb4 (.int .i64 (c : Int))
        have e1 : ((w3.setCell ⟨w.heap.size, 0, none⟩ (.int .u8 (L.toNat : Int))).setCell ⟨w.heap.size, 1, none⟩ (.int .i64 (c : Int))).cell? ⟨w.heap.size, 1, none⟩ = some (.int .i64 (c : Int)) := by rw [Lib.cell_of_heap hb5]; rfl
        refine bodyPost_ret (by simp [results, Tryz.results148, go_sem, e0, e1]; rfl) rfl ?_
        refine ⟨.inr ⟨L, c, a, HHD.out, HP.out, h3, rfl, (far1 (Ne.symm hne)).trans ((far1 (Ne.symm hne)).trans HR3.out), ha⟩, ?_⟩
        exact ⟨HM3.out.os, HM3.out.tape, HM3.out.output, by have := HM3.out.size; simpa [World.setCell] using this, fun k hk hk2 => ((far1 (by omega)).trans (far1 (by omega))).trans (HM3.out.block k hk hk2)⟩
end Go.Proofs.YtabpiaaknjcnkaaGreat
