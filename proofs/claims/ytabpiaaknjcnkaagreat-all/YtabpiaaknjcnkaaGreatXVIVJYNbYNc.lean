/- The texts VI, VJ, YNb, YNc, one behind the other. -/
import Derived.Test.YtabpiaaknjcnkaaGreatXVGVH
import Derived.Test.YtabpiaaknjcnkaaGreatXZYZPYLPXVN
import Derived.Deep.DeepCutAuto
/-
  The walks over package record: what the kinds do.
-/
namespace Go.Proofs.YtabpiaaknjcnkaaGreat
open Go.RowKit
set_option linter.unusedVariables false
set_option linter.unusedSimpArgs false
set_option maxRecDepth 100000

theorem Moves.ahead {p : Nat} {lv : Value} {tv : Nat → Value} {s' : Vlt} {w w1 w' : World} (hb : Below w.heap.size w w1) (h : Moves p lv tv s' w1 w') : Moves p lv tv s' w w' := by
  obtain ⟨lv', tv', h1, h2, h3⟩ := h
  have hs := hb.size
  exact ⟨lv', tv', h1, (Out.of_below hb).trans h2 (fun q hq => .inl hq), fun q hq => by
    rcases h3 q hq with x | x
    · exact .inl x
    · exact .inr (by omega)⟩
theorem DoPost.ahead {p : Nat} {lv : Value} {tv : Nat → Value} {s : Vlt} {o : Option (Nat → Chn)} {w w1 w' : World} {e : Ending} (hb : Below w.heap.size w w1) (h : DoPost p lv tv s o w1 e w') : DoPost p lv tv s o w e w' := by
  rcases h with ⟨h1, h2, h3⟩ | ⟨ch, h1, h2, h3⟩
  · exact .inl ⟨h1, h2, h3.ahead hb⟩
  · exact .inr ⟨ch, h1, h2, h3.ahead hb⟩
theorem DoPost.bool {p : Nat} {lv : Value} {tv : Nat → Value} {s : Vlt} {o : Option (Nat → Chn)} {w w' : World} {e : Ending} (h : DoPost p lv tv s o w e w') : ∃ b, e = .returned (.bool b) := by
  rcases h with ⟨_, h, _⟩ | ⟨_, _, h, _⟩
  · exact ⟨_, h⟩
  · exact ⟨_, h⟩

set_option maxHeartbeats 2000000 in
theorem fdo_any (p c : Nat) (lv : Value) (tv : Nat → Value) (s : Vlt) (t : ByteArray) (w : World) (hv : VaultAt w p lv tv s) (hc : c < 4) (hl : (s.ch c).last ≤ 2147483647) (ht : t.size ≤ 2000) :
    Calls Tryz.prog 176 #[.agg #[.int .u8 70, .int .i64 c, .string t], .pointer (some ⟨p, 1 + c * 2, none⟩)] w (DoPost p lv tv s (moreF s.ch c t) w) := by
  have hb : Below w.heap.size w (w.alloc (.cells #[.int .u8 70, .int .i64 c, .string t] 155)) := (Below.refl _ _).alloc (Nat.le_refl _) _
  have HC : Hid (Calls Tryz.prog 52 #[.pointer (some ⟨p, 1 + c * 2, none⟩), .string t] (w.alloc (.cells #[.int .u8 70, .int .i64 c, .string t] 155)) fun e w' => Hid (DoPost p lv tv s (moreF s.ch c t) w e w')) := (chain_add p c lv tv s t _ (hv.below hb) hc hl ht).mono fun e w' h => h.ahead hb
  clear hv hb
  show Calls Tryz.prog 176 #[.agg #[.int .u8 70, .int .i64 c, .string t], .pointer (some ⟨p, 1 + c * 2, none⟩)] w fun e w' => Hid (DoPost p lv tv s (moreF s.ch c t) w e w')
  generalize moreF s.ch c t = o at *
  go_enter Tryz.func176, Tryz.ntmps176
  go_wp2_with fail
  refine HC.out.mono ?_
  intro e w1 HD
  obtain ⟨b, rfl⟩ := HD.out.bool
  go_wp2
  go_ret
  exact HD

set_option maxHeartbeats 2000000 in
theorem pdo_any (p c n : Nat) (lv : Value) (tv : Nat → Value) (s : Vlt) (w : World) (hv : VaultAt w p lv tv s) (hc : c < 4) (hl : (s.ch c).last ≤ 2147483647) :
    Calls Tryz.prog 173 #[.agg #[.int .u8 80, .int .i64 c, .int .i64 n], .pointer (some ⟨p, 1 + c * 2, none⟩)] w (DoPost p lv tv s (pruneF s.ch c n) w) := by
  have hb : Below w.heap.size w (w.alloc (.cells #[.int .u8 80, .int .i64 c, .int .i64 n] 147)) := (Below.refl _ _).alloc (Nat.le_refl _) _
  have HC : Hid (Calls Tryz.prog 86 #[.pointer (some ⟨p, 1 + c * 2, none⟩), .int .i64 n] (w.alloc (.cells #[.int .u8 80, .int .i64 c, .int .i64 n] 147)) fun e w' => Hid (DoPost p lv tv s (pruneF s.ch c n) w e w')) := (chain_drop p c n lv tv s _ (hv.below hb) hc hl).mono fun e w' h => h.ahead hb
  clear hv hb
  show Calls Tryz.prog 173 #[.agg #[.int .u8 80, .int .i64 c, .int .i64 n], .pointer (some ⟨p, 1 + c * 2, none⟩)] w fun e w' => Hid (DoPost p lv tv s (pruneF s.ch c n) w e w')
  generalize pruneF s.ch c n = o at *
  go_enter Tryz.func173, Tryz.ntmps173
  go_wp2_with fail
  refine HC.out.mono ?_
  intro e w1 HD
  obtain ⟨b, rfl⟩ := HD.out.bool
  go_wp2
  go_ret
  exact HD

set_option maxHeartbeats 2000000 in
theorem bdo_any (p c n : Nat) (lv : Value) (tv : Nat → Value) (s : Vlt) (t : ByteArray) (w : World) (hv : VaultAt w p lv tv s) (hc : c < 4) (hl : (s.ch c).last ≤ 2147483647) (hn : 0 < n) (hn2 : n ≤ 2147483647) (ht : t.size ≤ 2000) :
    Calls Tryz.prog 181 #[.agg #[.int .u8 66, .int .i64 c, .int .i64 n, .string t], .pointer (some ⟨p, 1 + c * 2, none⟩)] w (DoPost p lv tv s (baseF s.ch c n t) w) := by
  have hb : Below w.heap.size w (w.alloc (.cells #[.int .u8 66, .int .i64 c, .int .i64 n, .string t] 191)) := (Below.refl _ _).alloc (Nat.le_refl _) _
  have HC : Hid (Calls Tryz.prog 183 #[.pointer (some ⟨p, 1 + c * 2, none⟩), .int .i64 n, .string t] (w.alloc (.cells #[.int .u8 66, .int .i64 c, .int .i64 n, .string t] 191)) fun e w' => Hid (DoPost p lv tv s (baseF s.ch c n t) w e w')) := (chain_begin p c n lv tv s t _ (hv.below hb) hc hl hn hn2 ht).mono fun e w' h => h.ahead hb
  clear hv hb
  show Calls Tryz.prog 181 #[.agg #[.int .u8 66, .int .i64 c, .int .i64 n, .string t], .pointer (some ⟨p, 1 + c * 2, none⟩)] w fun e w' => Hid (DoPost p lv tv s (baseF s.ch c n t) w e w')
  generalize baseF s.ch c n t = o at *
  go_enter Tryz.func181, Tryz.ntmps181
  go_wp2_with fail
  refine HC.out.mono ?_
  intro e w1 HD
  obtain ⟨b, rfl⟩ := HD.out.bool
  go_wp2
  go_ret
  exact HD
end Go.Proofs.YtabpiaaknjcnkaaGreat

/-
  The walks over package record: what a difference does.
-/
namespace Go.Proofs.YtabpiaaknjcnkaaGreat
open Go.RowKit
set_option linter.unusedVariables false
set_option linter.unusedSimpArgs false
set_option maxRecDepth 100000

def codeDo (ch : Nat → Chn) (c : Nat) (xs : List DOp) : Option (Nat → Chn) :=
  match (ch c).texts.getLast? with
    | none => none
    | some t => if faultF xs t.size < xs.length then none else moreF ch c ⟨(madeL t.data.toList xs).toArray⟩
theorem made_small {t : ByteArray} {xs : List DOp} (h : ¬ faultF xs t.size < xs.length) : (⟨(madeL t.data.toList xs).toArray⟩ : ByteArray).size ≤ 2000 := by
  have hf : faultF xs t.size = xs.length := by have := faultF_le xs t.size; omega
  obtain ⟨h1, h2⟩ := fault_all (b := t.size) (xs := xs) (p := none) (i := 0) (m := 0) (by unfold faultF at hf; simpa using hf) (by omega)
  have h3 := madeL_length (B := t.data.toList) (xs := xs) (fun o ho => by rw [← Lib.size_eq]; exact h1 o ho)
  have h4 := (delta_of hf).sum
  rw [Lib.size_eq]
  simp only
  omega

set_option maxHeartbeats 8000000 in
theorem ddo_any (p c : Nat) (lv : Value) (tv : Nat → Value) (s : Vlt) (ao : Option Addr) (n cap : Nat) (xs : List DOp) (w : World) (hv : VaultAt w p lv tv s) (hok : s.Ok) (hc : c < 4) (hview : View w (.slice ao n cap) xs) (hx : faultF xs 2000 = xs.length) :
    Calls Tryz.prog 179 #[.agg #[.int .u8 68, .int .i64 c, .slice ao n cap], .pointer (some ⟨p, 1 + c * 2, none⟩)] w (DoPost p lv tv s (codeDo s.ch c xs) w) := by
  have hlast : (s.ch c).last = (s.ch c).gone + (s.ch c).texts.length := rfl
  have hl := hok.last c
  have hD := delta_of hx
  have hparts := hD.parts (Int.le_refl _)
  have hb1 : Below w.heap.size w (w.alloc (.cells #[.int .u8 68, .int .i64 c, .slice ao n cap] 180)) := (Below.refl _ _).alloc (Nat.le_refl _) _
  have hbk : (w.alloc (.cells #[.int .u8 68, .int .i64 c, .slice ao n cap] 180)).heap[w.heap.size]? = some (.cells #[.int .u8 68, .int .i64 c, .slice ao n cap] 180 (0, 0)) := heap_alloc_new _ _
  have k2 : (w.alloc (.cells #[.int .u8 68, .int .i64 c, .slice ao n cap] 180)).cell? ⟨w.heap.size, 2, none⟩ = some (.slice ao n cap) := by rw [Lib.cell_of_heap hbk]; rfl
  have hg1 : w.heap.size < (w.alloc (.cells #[.int .u8 68, .int .i64 c, .slice ao n cap] 180)).heap.size := by simp
  obtain ⟨tao, tc, htv⟩ := (hv.row c hc).slice
  have hv1 := hv.below hb1
  have HV : Hid (VaultAt w p lv tv s) := hv
  have HVW : Hid (View w (.slice ao n cap) xs) := hview
  have HL : Hid (Calls Tryz.prog 48 #[.pointer (some ⟨p, 1 + c * 2, none⟩)] (w.alloc (.cells #[.int .u8 68, .int .i64 c, .slice ao n cap] 180)) fun e w' => e = .returned (.int .i64 ((s.ch c).last : Nat)) ∧ ∃ k, w' = (w.alloc (.cells #[.int .u8 68, .int .i64 c, .slice ao n cap] 180)).drewN k) := by
    have q2 := hv1.cellT c hc
    rw [htv] at q2
    exact vlast_any p (1 + c * 2) (s.ch c).gone (s.ch c).texts.length tc tao _ (hv1.cellG c hc) q2 (by omega)
  by_cases h0 : (s.ch c).texts = []
  · have hE : codeDo s.ch c xs = none := by unfold codeDo; rw [h0]; rfl
    have hg0 := hok.none c h0
    have hz : (s.ch c).last = 0 := by rw [hlast, h0, hg0]; rfl
    rw [hz] at HL
    have HB1 : Hid (Below w.heap.size w (w.alloc (.cells #[.int .u8 68, .int .i64 c, .slice ao n cap] 180))) := hb1
    have HE : Hid (codeDo s.ch c xs = none) := hE
    clear hE hlast hl hz hv1 hb1 hview hv hparts hD
    go_enter Tryz.func179, Tryz.ntmps179
    go_wp2_with fail
    refine HL.out.mono ?_
    rintro e w2 ⟨rfl, k, rfl⟩
    go_wp2
    go_ret
    exact .inl ⟨HE.out, rfl, Moves.stays HV.out (below_drewN1 HB1.out k)⟩
  · have hpos : 0 < (s.ch c).texts.length := List.length_pos_iff.2 h0
    obtain ⟨x, hxl⟩ : ∃ x, (s.ch c).texts.getLast? = some x := by
      cases hg : (s.ch c).texts.getLast? with
      | none => exact absurd (List.getLast?_eq_none_iff.1 hg) h0
      | some x => exact ⟨x, rfl⟩
    have hgi : (s.ch c).texts[(s.ch c).texts.length - 1]? = some x := by rw [← List.getLast?_eq_getElem?]; exact hxl
    have hxs : x.size ≤ 2000 := hok.size c x (List.mem_of_mem_getLast? hxl)
    have hCD : codeDo s.ch c xs = if faultF xs x.size < xs.length then none else moreF s.ch c ⟨(madeL x.data.toList xs).toArray⟩ := by unfold codeDo; rw [hxl]
    have HTX : Hid (∀ W, Still (w.alloc (.cells #[.int .u8 68, .int .i64 c, .slice ao n cap] 180)) W → Calls Tryz.prog 51 #[.pointer (some ⟨p, 1 + c * 2, none⟩), .int .i64 ((s.ch c).last : Nat)] W fun e w' => e = .returned (.string x) ∧ Still W w') := fun W hW => by
      have q2 := (hv1.still hW).cellT c hc
      have hrow := (hv1.still hW).row c hc
      rw [htv] at q2 hrow
      exact vtext_st p (1 + c * 2) _ ((s.ch c).texts.length - 1) _ _ _ x W ((hv1.still hW).cellG c hc) q2 hrow hgi (by omega) ((s.ch c).last : Nat) (by omega)
    have HAP : Hid (∀ W, Below w.heap.size w W → Calls Tryz.prog 95 #[.string x, .slice ao n cap] W fun e w' => e = .returned (.tuple #[.string (appS x xs), .int .i64 (appE x xs), .int .i64 (appP x xs)]) ∧ Below W.heap.size W w') := fun W hW => apply_any (by omega) (by have := hD.len; omega) (HVW.out.kept hW) (fun o ho => by have := (hparts o ho).2.2.1; omega)
    have hla : ((((s.ch c).last : Nat) : Int) == 0) = false := beq_false_of_ne (by omega)
    have HB1 : Hid (Below w.heap.size w (w.alloc (.cells #[.int .u8 68, .int .i64 c, .slice ao n cap] 180))) := hb1
    have HADD : Hid (∀ W t, Below w.heap.size w W → t.size ≤ 2000 → Calls Tryz.prog 52 #[.pointer (some ⟨p, 1 + c * 2, none⟩), .string t] W fun e w' => Hid (DoPost p lv tv s (moreF s.ch c t) w e w')) := fun W t hW ht => (chain_add p c lv tv s t W (HV.out.below hW) hc hl ht).mono fun e w' h => h.ahead hW
    have HCD : Hid (codeDo s.ch c xs = if faultF xs x.size < xs.length then none else moreF s.ch c ⟨(madeL x.data.toList xs).toArray⟩) := hCD
    have hx2 : ¬ 2000 < x.size := by omega
    generalize hLA : (s.ch c).last = la at *
    clear hLA hlast hl hv1 hb1 hview hv hparts hD hCD hxl hgi h0
    by_cases hf : faultF xs x.size < xs.length
    · have hE : appE x xs = 2 := by unfold appE; rw [if_neg hx2, if_pos hf]
      have HN : Hid (codeDo s.ch c xs = none) := by unfold Hid; rw [HCD.out, if_pos hf]
      rw [hE] at HAP
      generalize appS x xs = sx at *
      generalize appP x xs = px at *
      clear hE hf
      go_enter Tryz.func179, Tryz.ntmps179
      go_wp2_with fail
      refine HL.out.mono ?_
      rintro e w2 ⟨rfl, k, rfl⟩
      generalize (w.alloc (.cells #[.int .u8 68, .int .i64 c, .slice ao n cap] 180)) = W1 at *
      go_wp2_with fail
      go_region_held3 (fun w' => w'.cell? ⟨w.heap.size, 2, none⟩ = some (.slice ao n cap)) (go_keep)
        (first | (go_at_call 51; refine (HTX.out (W1.drewN k).drew ⟨rfl, rfl, rfl, rfl⟩).mono ?_; rintro e w4 ⟨rfl, st4⟩; have e0 : w4.cell? ⟨w.heap.size, 2, none⟩ = some (.slice ao n cap) := (World.cell?_of_block (a := ⟨w.heap.size, 2, none⟩) (by rw [st4.1]; rfl)).trans k2) | (go_at_call 95; refine (HAP.out w4 ((below_drewN1 HB1.out k).drew.trans (st4.below _))).mono ?_; rintro e w5 ⟨rfl, b5⟩; have e0 := (b5.cell (p := ⟨w.heap.size, 2, none⟩) (by rw [st4.size]; exact hg1)).trans e0))
      all_goals
        have HB5 : Hid (Below w.heap.size w w5) := ((below_drewN1 HB1.out k).drew.trans (st4.below _)).trans (b5.mono (by rw [st4.size]; exact Nat.le_of_lt hg1))
        clear b5 st4
        go_wp2
        go_ret
        exact .inl ⟨HN.out, rfl, Moves.stays HV.out HB5.out⟩
    · have hE : appE x xs = 0 := by unfold appE; rw [if_neg hx2, if_neg hf]
      have hS : appS x xs = ⟨(madeL x.data.toList xs).toArray⟩ := by unfold appS; rw [if_neg hx2, if_neg hf]
      have HN : Hid (codeDo s.ch c xs = moreF s.ch c ⟨(madeL x.data.toList xs).toArray⟩) := by unfold Hid; rw [HCD.out, if_neg hf]
      have hsz := made_small hf
      rw [hE, hS] at HAP
      generalize (⟨(madeL x.data.toList xs).toArray⟩ : ByteArray) = sx at *
      generalize appP x xs = px at *
      have HAD2 : Hid (∀ W, Below w.heap.size w W → Calls Tryz.prog 52 #[.pointer (some ⟨p, 1 + c * 2, none⟩), .string sx] W fun e w' => Hid (DoPost p lv tv s (codeDo s.ch c xs) w e w')) := fun W hW => by rw [HN.out]; exact HADD.out W sx hW hsz
      clear hE hS hf HCD HN HADD
      show Calls Tryz.prog 179 #[.agg #[.int .u8 68, .int .i64 c, .slice ao n cap], .pointer (some ⟨p, 1 + c * 2, none⟩)] w fun e w' => Hid (DoPost p lv tv s (codeDo s.ch c xs) w e w')
      generalize codeDo s.ch c xs = o at *
      go_enter Tryz.func179, Tryz.ntmps179
      go_wp2_with fail
      refine HL.out.mono ?_
      rintro e w2 ⟨rfl, k, rfl⟩
      generalize (w.alloc (.cells #[.int .u8 68, .int .i64 c, .slice ao n cap] 180)) = W1 at *
      go_wp2_with fail
      go_region_held3 (fun w' => w'.cell? ⟨w.heap.size, 2, none⟩ = some (.slice ao n cap)) (go_keep)
        (first | (go_at_call 51; refine (HTX.out (W1.drewN k).drew ⟨rfl, rfl, rfl, rfl⟩).mono ?_; rintro e w4 ⟨rfl, st4⟩; have e0 : w4.cell? ⟨w.heap.size, 2, none⟩ = some (.slice ao n cap) := (World.cell?_of_block (a := ⟨w.heap.size, 2, none⟩) (by rw [st4.1]; rfl)).trans k2) | (go_at_call 95; refine (HAP.out w4 ((below_drewN1 HB1.out k).drew.trans (st4.below _))).mono ?_; rintro e w5 ⟨rfl, b5⟩; have e0 := (b5.cell (p := ⟨w.heap.size, 2, none⟩) (by rw [st4.size]; exact hg1)).trans e0))
      all_goals
        have HB5 : Hid (Below w.heap.size w w5) := ((below_drewN1 HB1.out k).drew.trans (st4.below _)).trans (b5.mono (by rw [st4.size]; exact Nat.le_of_lt hg1))
        clear b5 st4
        go_wp2_with fail
        refine (HAD2.out _ HB5.out).mono ?_
        intro e w6 HD
        obtain ⟨bb, rfl⟩ := HD.out.bool
        go_wp2
        go_ret
        exact HD
end Go.Proofs.YtabpiaaknjcnkaaGreat

/-
  The document's does: done (1).
-/
namespace Go.Proofs.YtabpiaaknjcnkaaGreat
open Go.RowKit
set_option linter.unusedVariables false
set_option linter.unusedSimpArgs false
set_option maxRecDepth 100000

set_option maxHeartbeats 4000000 in
theorem ydoes_D_apply (p : Nat) (b : ByteArray) (tv : Nat → Value) (s : Vlt) (w : World) (hv : YAt w p tv s) (hok : s.Ok) (hsz : b.size ≤ 20000) (h0 : 0 < b.size) (c at_ : Nat) (hnum : numF b 1 = .inr (c, at_)) (hc : c < 4) (hl : (b[0]'h0).toNat = 68) (ops : List DOp) (hd : decF (b.extract at_ b.size) = .inr ops) (t : ByteArray) (hlt0 : (s.ch c).texts.getLast? = some t) (hlast : (s.ch c).last ≠ 2147483647) (hf : faultF ops t.size < ops.length) :
    Calls Tryz.prog 105 #[.pointer (some ⟨p, 0, none⟩), .string b] w fun e w' => e = .returned (.bool false) ∧ Below w.heap.size w w' := by
  have hb0 : b.toList.isEmpty = false := by
    cases h : b.toList.isEmpty
    · rfl
    · have := (isEmpty_iff b).1 h; omega
  obtain ⟨_, hat1, hat2⟩ := numF_ok (by omega) hnum
  have HN : Hid (∀ W : World, Calls Tryz.prog 104 #[.string b, .int .i64 1, .int .i64 3] W fun e w' => e = .returned (.tuple #[.int .i64 c, .int .i64 at_, .int .i64 (-1)]) ∧ W = w') := fun W => by
    have := rnum_any b 1 3 W (by omega) (by omega) (by omega)
    rw [numR_ok hnum (by omega)] at this; exact this
  have k1 := hv.cellF c hc
  have k2 := hv.cellT c hc
  obtain ⟨ao, cap, htv, hcap, hrow⟩ := hv.row c hc
  rw [htv] at k2
  have hp := hv.lt
  have hcI : (c : Int) < 4 := by omega
  have HCAN : Hid (∀ W : World, Calls Tryz.prog 72 #[.agg #[.int .i64 (yF (s.ch c)), .slice ao (s.ch c).texts.length cap]] W fun e w' => e = .returned (.bool (decide ((s.ch c).last ≠ 2147483647))) ∧ Below W.heap.size W w') := fun W => yroom hok W
  have hxs : (b.extract at_ b.size).size ≤ 20000 := by rw [ByteArray.size_extract]; omega
  have HDC : Hid (∀ W : World, Calls Tryz.prog 69 #[.string (b.extract at_ b.size)] W (DecPost (b.extract at_ b.size) W)) := fun W => rdec_any _ W (by omega)
  have hE : decE (b.extract at_ b.size) = 0 := by unfold decE; rw [hd]
  have hDL : decL (b.extract at_ b.size) = ops := by unfold decL; rw [hd]
  obtain ⟨lt, hlt⟩ : ∃ lt, (s.ch c).texts.getLast? = some lt := ⟨t, hlt0⟩
  have hpos : 0 < (s.ch c).texts.length := List.length_pos_iff.2 (fun e => by rw [e] at hlt0; cases hlt0)
  obtain ⟨L1, hL1⟩ : ∃ L1, (s.ch c).texts.length = L1 + 1 := ⟨(s.ch c).texts.length - 1, by omega⟩
  have hlg : (s.ch c).texts[L1]? = some t := by rw [← hlt0, List.getLast?_eq_getElem?, hL1]; rfl
  obtain ⟨tg, tk, rfl, htg, htc⟩ := hrow L1 t hlg
  have hts : t.size ≤ 2000 := hok.size c t (List.mem_of_getLast? hlt0)
  have hD := delta_of (decF_back hd).1
  have hparts := hD.parts (Int.le_refl _)
  have HAP : Hid (∀ (W : World) (v : Value), View W v ops → Calls Tryz.prog 61 #[.string t, v] W fun e w' => e = .returned (.tuple #[.string (appS t ops), .int .i64 (appE t ops), .int .i64 (appP t ops)]) ∧ Below W.heap.size W w') := fun W v hv => rapply_any (by omega) (by have := hD.len; omega) hv (fun o ho => by have := (hparts o ho).2.2.1; omega) (fun o ho => by have := (hparts o ho).2.2.2; omega)
  have HTC : Hid (tg < w.heap.size ∧ w.cell? ⟨tg, tk + L1, none⟩ = some (.string t)) := ⟨htg, htc⟩
  have hLb : L1 ≤ 2147483647 := by have := hok.last c; unfold Chn.last at this; omega
  rw [show decide ((s.ch c).last ≠ 2147483647) = true from decide_eq_true hlast] at HCAN
  unfold DecPost at HDC
  rw [hE, hDL] at HDC
  generalize decP (b.extract at_ b.size) = DP at *
  have hAE : appE t ops = 2 := by unfold appE; rw [if_neg (by omega), if_pos hf]
  rw [hAE] at HAP
  generalize appS t ops = AS at *
  generalize appP t ops = AP at *
  generalize yF (s.ch c) = F at *
  rw [hL1] at k2 HCAN htv hcap
  clear hL1
  clear hv hok htv hcap hrow hnum hd hE hDL hlast hlt0 hlt hpos hlg htg htc hts hD hparts hf hAE
  go_enter Tryz.func105, Tryz.ntmps105
  go_wp2_with fail
  refine (HN.out _).mono ?_
  rintro e w0 ⟨rfl, rfl⟩
  go_wp2_with fail
  refine (HCAN.out _).mono ?_
  rintro e w1 ⟨rfl, b1⟩
  have B1 : Below w.heap.size w w1 := ((Below.refl w.heap.size w).alloc (Nat.le_refl _) _).trans (b1.mono (by simp))
  have ob1 := (b1.block w.heap.size (by simp)).trans (heap_alloc_new w (.cells #[.int .i64 F, .slice (some ⟨tg, tk, none⟩) (L1 + 1) cap] 66))
  have x0 : w1.cell? ⟨w.heap.size, 0, none⟩ = some (.int .i64 F) := by rw [Lib.cell_of_heap ob1]; rfl
  have x1 : w1.cell? ⟨w.heap.size, 1, none⟩ = some (.slice (some ⟨tg, tk, none⟩) (L1 + 1) cap) := by rw [Lib.cell_of_heap ob1]; rfl
  have hs1 : w.heap.size < w1.heap.size := lt_of_block ob1
  clear k1 k2 b1
  go_wp2_with fail
  refine (HDC.out _).mono ?_
  rintro e w2 ⟨⟨v2, rfl, o2⟩, b2⟩
  have B2 : Below w.heap.size w w2 := B1.trans (b2.mono B1.size)
  have ob2 := (b2.block w.heap.size hs1).trans ob1
  have y0 : w2.cell? ⟨w.heap.size, 0, none⟩ = some (.int .i64 F) := by rw [Lib.cell_of_heap ob2]; rfl
  have y1 : w2.cell? ⟨w.heap.size, 1, none⟩ = some (.slice (some ⟨tg, tk, none⟩) (L1 + 1) cap) := by rw [Lib.cell_of_heap ob2]; rfl
  have hs2 : w.heap.size < w2.heap.size := lt_of_block ob2
  have HV2 : Hid (View w2 v2 ops) := View.of_own o2
  obtain ⟨oo, oc, hv2⟩ := o2.slice
  subst hv2
  have ct := (B2.cell (p := ⟨tg, tk + L1, none⟩) HTC.out.1).trans HTC.out.2
  have v1 : IntKind.i64.wrap (((L1 + 1 : Nat) : Int) - 1) = (L1 : Int) := by rw [IntKind.wrap_i64]; omega
  have hl1 : ¬ ((L1 + 1 : Nat) : Int) = 0 := by omega
  clear B1 ob1 b2 o2 x0 x1
  go_wp2_with fail
  refine (HAP.out _ _ HV2.out).mono ?_
  rintro e w3 ⟨rfl, b3⟩
  have B3 : Below w.heap.size w w3 := B2.trans (b3.mono B2.size)
  have ob3 := (b3.block w.heap.size hs2).trans ob2
  have y03 : w3.cell? ⟨w.heap.size, 0, none⟩ = some (.int .i64 F) := by rw [Lib.cell_of_heap ob3]; rfl
  have y13 : w3.cell? ⟨w.heap.size, 1, none⟩ = some (.slice (some ⟨tg, tk, none⟩) (L1 + 1) cap) := by rw [Lib.cell_of_heap ob3]; rfl
  have hs3 : w.heap.size < w3.heap.size := lt_of_block ob3
  clear y0 y1 hs2 b3 ob2 ob3 ct v1 B2 HTC HV2 HAP
  go_wp2
  go_ret
  exact ⟨rfl, B3⟩
end Go.Proofs.YtabpiaaknjcnkaaGreat

/-
  The document's does: done (2).
-/
namespace Go.Proofs.YtabpiaaknjcnkaaGreat
open Go.RowKit
set_option linter.unusedVariables false
set_option linter.unusedSimpArgs false
set_option maxRecDepth 100000

set_option maxHeartbeats 4000000 in
theorem ydoes_D_yes (p : Nat) (b : ByteArray) (tv : Nat → Value) (s : Vlt) (w : World) (hv : YAt w p tv s) (hok : s.Ok) (hsz : b.size ≤ 20000) (h0 : 0 < b.size) (c at_ : Nat) (hnum : numF b 1 = .inr (c, at_)) (hc : c < 4) (hl : (b[0]'h0).toNat = 68) (ops : List DOp) (hd : decF (b.extract at_ b.size) = .inr ops) (t : ByteArray) (hlt0 : (s.ch c).texts.getLast? = some t) (hlast : (s.ch c).last ≠ 2147483647) (hf : ¬ faultF ops t.size < ops.length) :
    Calls Tryz.prog 105 #[.pointer (some ⟨p, 0, none⟩), .string b] w fun e w' => e = .returned (.bool true) ∧ YMoves p tv ⟨s.log, setCh s.ch c ⟨(s.ch c).gone, (s.ch c).texts ++ [⟨(madeL t.data.toList ops).toArray⟩]⟩⟩ w w' := by
  have hb0 : b.toList.isEmpty = false := by
    cases h : b.toList.isEmpty
    · rfl
    · have := (isEmpty_iff b).1 h; omega
  obtain ⟨_, hat1, hat2⟩ := numF_ok (by omega) hnum
  have HN : Hid (∀ W : World, Calls Tryz.prog 104 #[.string b, .int .i64 1, .int .i64 3] W fun e w' => e = .returned (.tuple #[.int .i64 c, .int .i64 at_, .int .i64 (-1)]) ∧ W = w') := fun W => by
    have := rnum_any b 1 3 W (by omega) (by omega) (by omega)
    rw [numR_ok hnum (by omega)] at this; exact this
  have k1 := hv.cellF c hc
  have k2 := hv.cellT c hc
  obtain ⟨ao, cap, htv, hcap, hrow⟩ := hv.row c hc
  rw [htv] at k2
  have hp := hv.lt
  have hcI : (c : Int) < 4 := by omega
  have HCAN : Hid (∀ W : World, Calls Tryz.prog 72 #[.agg #[.int .i64 (yF (s.ch c)), .slice ao (s.ch c).texts.length cap]] W fun e w' => e = .returned (.bool (decide ((s.ch c).last ≠ 2147483647))) ∧ Below W.heap.size W w') := fun W => yroom hok W
  have HWC : Hid (∀ W, Below w.heap.size w W → Calls Tryz.prog 76 #[.agg #[.int .i64 (yF (s.ch c)), .slice ao (s.ch c).texts.length cap], .string (appS t ops)] W fun e w' => ∃ v', e = .returned (.agg #[.int .i64 (((s.ch c).gone + 1 : Nat) : Int), v']) ∧ YView w' v' ((s.ch c).texts ++ [appS t ops]) ∧ (∀ b, rowBlock v' = some b → W.heap.size ≤ b) ∧ Below W.heap.size W w') := fun W hW => by
    have := ywith_any (s.ch c) (tv c) (appS t ops) W ((hv.row c hc).below hW) (hv.nil c hc) (hok.none c) (hok.last c)
    rw [htv] at this; exact this
  have HM : Hid (∀ (w3 : World) (v' : Value), Below w.heap.size w w3 → YView w3 v' ((s.ch c).texts ++ [appS t ops]) → (∀ b, rowBlock v' = some b → w.heap.size ≤ b) → YMoves p tv ⟨s.log, setCh s.ch c ⟨(s.ch c).gone, (s.ch c).texts ++ [appS t ops]⟩⟩ w ((w3.setCell ⟨p, c * 2, none⟩ (.int .i64 (((s.ch c).gone + 1 : Nat) : Int))).setCell ⟨p, c * 2 + 1, none⟩ v')) := fun w3 v' h1 h2 h3 => ych_moves hv hc h1 rfl h2 (by simp) (fun b hb => .inr (h3 b hb))
  have fz0 := hv.frozen (c * 2)
  have fz1 := hv.frozen (c * 2 + 1)
  have HTX : Hid (((s.ch c).texts ++ [appS t ops]).length = (s.ch c).texts.length + 1) := by unfold Hid; simp
  have hxs : (b.extract at_ b.size).size ≤ 20000 := by rw [ByteArray.size_extract]; omega
  have HDC : Hid (∀ W : World, Calls Tryz.prog 69 #[.string (b.extract at_ b.size)] W (DecPost (b.extract at_ b.size) W)) := fun W => rdec_any _ W (by omega)
  have hE : decE (b.extract at_ b.size) = 0 := by unfold decE; rw [hd]
  have hDL : decL (b.extract at_ b.size) = ops := by unfold decL; rw [hd]
  obtain ⟨lt, hlt⟩ : ∃ lt, (s.ch c).texts.getLast? = some lt := ⟨t, hlt0⟩
  have hpos : 0 < (s.ch c).texts.length := List.length_pos_iff.2 (fun e => by rw [e] at hlt0; cases hlt0)
  obtain ⟨L1, hL1⟩ : ∃ L1, (s.ch c).texts.length = L1 + 1 := ⟨(s.ch c).texts.length - 1, by omega⟩
  have hlg : (s.ch c).texts[L1]? = some t := by rw [← hlt0, List.getLast?_eq_getElem?, hL1]; rfl
  obtain ⟨tg, tk, rfl, htg, htc⟩ := hrow L1 t hlg
  have hts : t.size ≤ 2000 := hok.size c t (List.mem_of_getLast? hlt0)
  have hD := delta_of (decF_back hd).1
  have hparts := hD.parts (Int.le_refl _)
  have HAP : Hid (∀ (W : World) (v : Value), View W v ops → Calls Tryz.prog 61 #[.string t, v] W fun e w' => e = .returned (.tuple #[.string (appS t ops), .int .i64 (appE t ops), .int .i64 (appP t ops)]) ∧ Below W.heap.size W w') := fun W v hv => rapply_any (by omega) (by have := hD.len; omega) hv (fun o ho => by have := (hparts o ho).2.2.1; omega) (fun o ho => by have := (hparts o ho).2.2.2; omega)
  have HTC : Hid (tg < w.heap.size ∧ w.cell? ⟨tg, tk + L1, none⟩ = some (.string t)) := ⟨htg, htc⟩
  have hLb : L1 ≤ 2147483647 := by have := hok.last c; unfold Chn.last at this; omega
  rw [show decide ((s.ch c).last ≠ 2147483647) = true from decide_eq_true hlast] at HCAN
  unfold DecPost at HDC
  rw [hE, hDL] at HDC
  generalize decP (b.extract at_ b.size) = DP at *
  have hAE : appE t ops = 0 := by unfold appE; rw [if_neg (by omega), if_neg hf]
  have hAS : appS t ops = ⟨(madeL t.data.toList ops).toArray⟩ := by unfold appS; rw [if_neg (by omega), if_neg hf]
  rw [hAE] at HAP
  rw [← hAS]
  generalize appP t ops = AP at *
  generalize (((s.ch c).gone + 1 : Nat) : Int) = G1 at *
  generalize appS t ops = AS at *
  generalize yF (s.ch c) = F at *
  rw [hL1] at k2 HCAN htv hcap HWC HTX
  clear hL1
  clear hv hok htv hcap hrow hnum hd hE hDL hlast hlt0 hlt hpos hlg htg htc hts hD hparts hf hAE hAS
  have k1b := k1
  have k2b := k2
  go_enter Tryz.func105, Tryz.ntmps105
  go_wp2_with fail
  refine (HN.out _).mono ?_
  rintro e w0 ⟨rfl, rfl⟩
  go_wp2_with fail
  refine (HCAN.out _).mono ?_
  rintro e w1 ⟨rfl, b1⟩
  have B1 : Below w.heap.size w w1 := ((Below.refl w.heap.size w).alloc (Nat.le_refl _) _).trans (b1.mono (by simp))
  have ob1 := (b1.block w.heap.size (by simp)).trans (heap_alloc_new w (.cells #[.int .i64 F, .slice (some ⟨tg, tk, none⟩) (L1 + 1) cap] 66))
  have x0 : w1.cell? ⟨w.heap.size, 0, none⟩ = some (.int .i64 F) := by rw [Lib.cell_of_heap ob1]; rfl
  have x1 : w1.cell? ⟨w.heap.size, 1, none⟩ = some (.slice (some ⟨tg, tk, none⟩) (L1 + 1) cap) := by rw [Lib.cell_of_heap ob1]; rfl
  have hs1 : w.heap.size < w1.heap.size := lt_of_block ob1
  clear k1 k2 b1
  go_wp2_with fail
  refine (HDC.out _).mono ?_
  rintro e w2 ⟨⟨v2, rfl, o2⟩, b2⟩
  have B2 : Below w.heap.size w w2 := B1.trans (b2.mono B1.size)
  have ob2 := (b2.block w.heap.size hs1).trans ob1
  have y0 : w2.cell? ⟨w.heap.size, 0, none⟩ = some (.int .i64 F) := by rw [Lib.cell_of_heap ob2]; rfl
  have y1 : w2.cell? ⟨w.heap.size, 1, none⟩ = some (.slice (some ⟨tg, tk, none⟩) (L1 + 1) cap) := by rw [Lib.cell_of_heap ob2]; rfl
  have hs2 : w.heap.size < w2.heap.size := lt_of_block ob2
  have HV2 : Hid (View w2 v2 ops) := View.of_own o2
  obtain ⟨oo, oc, hv2⟩ := o2.slice
  subst hv2
  have ct := (B2.cell (p := ⟨tg, tk + L1, none⟩) HTC.out.1).trans HTC.out.2
  have v1 : IntKind.i64.wrap (((L1 + 1 : Nat) : Int) - 1) = (L1 : Int) := by rw [IntKind.wrap_i64]; omega
  have hl1 : ¬ ((L1 + 1 : Nat) : Int) = 0 := by omega
  clear B1 ob1 b2 o2 x0 x1
  go_wp2_with fail
  refine (HAP.out _ _ HV2.out).mono ?_
  rintro e w3 ⟨rfl, b3⟩
  have B3 : Below w.heap.size w w3 := B2.trans (b3.mono B2.size)
  have ob3 := (b3.block w.heap.size hs2).trans ob2
  have y03 : w3.cell? ⟨w.heap.size, 0, none⟩ = some (.int .i64 F) := by rw [Lib.cell_of_heap ob3]; rfl
  have y13 : w3.cell? ⟨w.heap.size, 1, none⟩ = some (.slice (some ⟨tg, tk, none⟩) (L1 + 1) cap) := by rw [Lib.cell_of_heap ob3]; rfl
  have hs3 : w.heap.size < w3.heap.size := lt_of_block ob3
  clear y0 y1 hs2 b3 ob2 ob3 ct v1 B2 HTC HV2 HAP
  have z0 := (B3.cell (p := ⟨p, c * 2, none⟩) hp).trans k1b
  have z1 := (B3.cell (p := ⟨p, c * 2 + 1, none⟩) hp).trans k2b
  have g0 := (B3.frozen (p := ⟨p, c * 2, none⟩) hp).trans fz0
  have g1 := (B3.frozen (p := ⟨p, c * 2 + 1, none⟩) hp).trans fz1
  have hpw : p < w3.heap.size := Nat.lt_of_lt_of_le hp B3.size
  have HBW : Hid (Below w.heap.size w w3) := B3
  clear fz0 fz1 k1b k2b B3
  go_wp2_with fail
  go_region_with (first | (go_at_call 76; refine (HWC.out _ (by first | exact HBW.out.drew | exact HBW.out)).mono ?_; rintro e w5 ⟨v5, rfl, hv5, hr5, b5⟩; obtain ⟨vo, vc, hv5e, hv5l⟩ : ∃ vo vc, v5 = .slice vo (L1 + 1 + 1) vc ∧ Hid (YView w5 v5 ((s.ch c).texts ++ [AS])) := (by obtain ⟨x, y, z, _⟩ := id hv5; rw [HTX.out] at z; exact ⟨x, y, z, hv5⟩); subst hv5e; have HR5 : Hid (∀ b, rowBlock (.slice vo (L1 + 1 + 1) vc) = some b → w.heap.size ≤ b) := (fun b hb => Nat.le_trans HBW.out.size (hr5 b hb)); clear hv5 hr5; have c05 := (b5.cell (p := ⟨p, c * 2, none⟩) hpw).trans z0; have c15 := (b5.cell (p := ⟨p, c * 2 + 1, none⟩) hpw).trans z1; have f05 := (b5.frozen (p := ⟨p, c * 2, none⟩) hpw).trans g0; have f15 := (b5.frozen (p := ⟨p, c * 2 + 1, none⟩) hpw).trans g1))
  all_goals go_wp2
  all_goals go_ret
  all_goals exact ⟨rfl, HM.out w5 _ (HBW.out.drew.trans (b5.mono HBW.out.size)) hv5l.out HR5.out⟩
end Go.Proofs.YtabpiaaknjcnkaaGreat
