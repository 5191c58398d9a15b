/- The texts VI, VJ, one behind the other. -/
import Derived.Test.YtabpiaaknjcnkabXVGVH
/-
  The walks over package record: what the kinds do.
-/
namespace Go.Proofs.Ytabpiaaknjcnkab
open Go.RowKit
set_option linter.unusedVariables false
set_option linter.unusedSimpArgs false
set_option maxRecDepth 100000

theorem Moves.ahead {p : Nat} {lv : Value} {tv : Nat → Value} {s' : Vlt} {w w1 w' : World} (hb : Below w.heap.size w w1) (h : Moves p lv tv s' w1 w') : Moves p lv tv s' w w' := by
  obtain ⟨lv', tv', h1, h2, h3⟩ := h
  have hs := hb.size
  exact ⟨lv', tv', h1, (Out.of_below hb).trans h2 (fun q hq => .inl hq), fun q hq => by
    rcases h3 q hq with x | x
    · exact .inl x
    · exact .inr (by omega)⟩
theorem DoPost.ahead {p : Nat} {lv : Value} {tv : Nat → Value} {s : Vlt} {o : Option (Nat → Chn)} {w w1 w' : World} {e : Ending} (hb : Below w.heap.size w w1) (h : DoPost p lv tv s o w1 e w') : DoPost p lv tv s o w e w' := by
  rcases h with ⟨h1, h2, h3⟩ | ⟨ch, h1, h2, h3⟩
  · exact .inl ⟨h1, h2, h3.ahead hb⟩
  · exact .inr ⟨ch, h1, h2, h3.ahead hb⟩
theorem DoPost.bool {p : Nat} {lv : Value} {tv : Nat → Value} {s : Vlt} {o : Option (Nat → Chn)} {w w' : World} {e : Ending} (h : DoPost p lv tv s o w e w') : ∃ b, e = .returned (.bool b) := by
  rcases h with ⟨_, h, _⟩ | ⟨_, _, h, _⟩
  · exact ⟨_, h⟩
  · exact ⟨_, h⟩

set_option maxHeartbeats 2000000 in
theorem fdo_any (p c : Nat) (lv : Value) (tv : Nat → Value) (s : Vlt) (t : ByteArray) (w : World) (hv : VaultAt w p lv tv s) (hc : c < 4) (hl : (s.ch c).last ≤ 2147483647) (ht : t.size ≤ 2000) :
    Calls Try.prog 109 #[.agg #[.int .u8 70, .int .i64 c, .string t], .pointer (some ⟨p, 1 + c * 2, none⟩)] w (DoPost p lv tv s (moreF s.ch c t) w) := by
  have hb : Below w.heap.size w (w.alloc (.cells #[.int .u8 70, .int .i64 c, .string t] 109)) := (Below.refl _ _).alloc (Nat.le_refl _) _
  have HC : Hid (Calls Try.prog 40 #[.pointer (some ⟨p, 1 + c * 2, none⟩), .string t] (w.alloc (.cells #[.int .u8 70, .int .i64 c, .string t] 109)) fun e w' => Hid (DoPost p lv tv s (moreF s.ch c t) w e w')) := (chain_add p c lv tv s t _ (hv.below hb) hc hl ht).mono fun e w' h => h.ahead hb
  clear hv hb
  show Calls Try.prog 109 #[.agg #[.int .u8 70, .int .i64 c, .string t], .pointer (some ⟨p, 1 + c * 2, none⟩)] w fun e w' => Hid (DoPost p lv tv s (moreF s.ch c t) w e w')
  generalize moreF s.ch c t = o at *
  go_enter Try.func109, Try.ntmps109
  go_wp2_with fail
  refine HC.out.mono ?_
  intro e w1 HD
  obtain ⟨b, rfl⟩ := HD.out.bool
  go_wp2
  go_ret
  exact HD

set_option maxHeartbeats 2000000 in
theorem pdo_any (p c n : Nat) (lv : Value) (tv : Nat → Value) (s : Vlt) (w : World) (hv : VaultAt w p lv tv s) (hc : c < 4) (hl : (s.ch c).last ≤ 2147483647) :
    Calls Try.prog 112 #[.agg #[.int .u8 80, .int .i64 c, .int .i64 n], .pointer (some ⟨p, 1 + c * 2, none⟩)] w (DoPost p lv tv s (pruneF s.ch c n) w) := by
  have hb : Below w.heap.size w (w.alloc (.cells #[.int .u8 80, .int .i64 c, .int .i64 n] 112)) := (Below.refl _ _).alloc (Nat.le_refl _) _
  have HC : Hid (Calls Try.prog 55 #[.pointer (some ⟨p, 1 + c * 2, none⟩), .int .i64 n] (w.alloc (.cells #[.int .u8 80, .int .i64 c, .int .i64 n] 112)) fun e w' => Hid (DoPost p lv tv s (pruneF s.ch c n) w e w')) := (chain_drop p c n lv tv s _ (hv.below hb) hc hl).mono fun e w' h => h.ahead hb
  clear hv hb
  show Calls Try.prog 112 #[.agg #[.int .u8 80, .int .i64 c, .int .i64 n], .pointer (some ⟨p, 1 + c * 2, none⟩)] w fun e w' => Hid (DoPost p lv tv s (pruneF s.ch c n) w e w')
  generalize pruneF s.ch c n = o at *
  go_enter Try.func112, Try.ntmps112
  go_wp2_with fail
  refine HC.out.mono ?_
  intro e w1 HD
  obtain ⟨b, rfl⟩ := HD.out.bool
  go_wp2
  go_ret
  exact HD

set_option maxHeartbeats 2000000 in
theorem bdo_any (p c n : Nat) (lv : Value) (tv : Nat → Value) (s : Vlt) (t : ByteArray) (w : World) (hv : VaultAt w p lv tv s) (hc : c < 4) (hl : (s.ch c).last ≤ 2147483647) (hn : 0 < n) (hn2 : n ≤ 2147483647) (ht : t.size ≤ 2000) :
    Calls Try.prog 114 #[.agg #[.int .u8 66, .int .i64 c, .int .i64 n, .string t], .pointer (some ⟨p, 1 + c * 2, none⟩)] w (DoPost p lv tv s (baseF s.ch c n t) w) := by
  have hb : Below w.heap.size w (w.alloc (.cells #[.int .u8 66, .int .i64 c, .int .i64 n, .string t] 115)) := (Below.refl _ _).alloc (Nat.le_refl _) _
  have HC : Hid (Calls Try.prog 116 #[.pointer (some ⟨p, 1 + c * 2, none⟩), .int .i64 n, .string t] (w.alloc (.cells #[.int .u8 66, .int .i64 c, .int .i64 n, .string t] 115)) fun e w' => Hid (DoPost p lv tv s (baseF s.ch c n t) w e w')) := (chain_begin p c n lv tv s t _ (hv.below hb) hc hl hn hn2 ht).mono fun e w' h => h.ahead hb
  clear hv hb
  show Calls Try.prog 114 #[.agg #[.int .u8 66, .int .i64 c, .int .i64 n, .string t], .pointer (some ⟨p, 1 + c * 2, none⟩)] w fun e w' => Hid (DoPost p lv tv s (baseF s.ch c n t) w e w')
  generalize baseF s.ch c n t = o at *
  go_enter Try.func114, Try.ntmps114
  go_wp2_with fail
  refine HC.out.mono ?_
  intro e w1 HD
  obtain ⟨b, rfl⟩ := HD.out.bool
  go_wp2
  go_ret
  exact HD
end Go.Proofs.Ytabpiaaknjcnkab

/-
  The walks over package record: what a difference does.
-/
namespace Go.Proofs.Ytabpiaaknjcnkab
open Go.RowKit
set_option linter.unusedVariables false
set_option linter.unusedSimpArgs false
set_option maxRecDepth 100000

def codeDo (ch : Nat → Chn) (c : Nat) (xs : List DOp) : Option (Nat → Chn) :=
  match (ch c).texts.getLast? with
    | none => none
    | some t => if faultF xs t.size < xs.length then none else moreF ch c ⟨(madeL t.data.toList xs).toArray⟩
theorem made_small {t : ByteArray} {xs : List DOp} (h : ¬ faultF xs t.size < xs.length) : (⟨(madeL t.data.toList xs).toArray⟩ : ByteArray).size ≤ 2000 := by
  have hf : faultF xs t.size = xs.length := by have := faultF_le xs t.size; omega
  obtain ⟨h1, h2⟩ := fault_all (b := t.size) (xs := xs) (p := none) (i := 0) (m := 0) (by unfold faultF at hf; simpa using hf) (by omega)
  have h3 := madeL_length (B := t.data.toList) (xs := xs) (fun o ho => by rw [← Lib.size_eq]; exact h1 o ho)
  have h4 := (delta_of hf).sum
  rw [Lib.size_eq]
  simp only
  omega

set_option maxHeartbeats 8000000 in
theorem ddo_any (p c : Nat) (lv : Value) (tv : Nat → Value) (s : Vlt) (ao : Option Addr) (n cap : Nat) (xs : List DOp) (w : World) (hv : VaultAt w p lv tv s) (hok : s.Ok) (hc : c < 4) (hview : View w (.slice ao n cap) xs) (hx : faultF xs 2000 = xs.length) :
    Calls Try.prog 117 #[.agg #[.int .u8 68, .int .i64 c, .slice ao n cap], .pointer (some ⟨p, 1 + c * 2, none⟩)] w (DoPost p lv tv s (codeDo s.ch c xs) w) := by
  have hlast : (s.ch c).last = (s.ch c).gone + (s.ch c).texts.length := rfl
  have hl := hok.last c
  have hD := delta_of hx
  have hparts := hD.parts (Int.le_refl _)
  have hb1 : Below w.heap.size w (w.alloc (.cells #[.int .u8 68, .int .i64 c, .slice ao n cap] 122)) := (Below.refl _ _).alloc (Nat.le_refl _) _
  have hbk : (w.alloc (.cells #[.int .u8 68, .int .i64 c, .slice ao n cap] 122)).heap[w.heap.size]? = some (.cells #[.int .u8 68, .int .i64 c, .slice ao n cap] 122 (0, 0)) := heap_alloc_new _ _
  have k2 : (w.alloc (.cells #[.int .u8 68, .int .i64 c, .slice ao n cap] 122)).cell? ⟨w.heap.size, 2, none⟩ = some (.slice ao n cap) := by rw [Lib.cell_of_heap hbk]; rfl
  have hg1 : w.heap.size < (w.alloc (.cells #[.int .u8 68, .int .i64 c, .slice ao n cap] 122)).heap.size := by simp
  obtain ⟨tao, tc, htv⟩ := (hv.row c hc).slice
  have hv1 := hv.below hb1
  have HV : Hid (VaultAt w p lv tv s) := hv
  have HVW : Hid (View w (.slice ao n cap) xs) := hview
  have HL : Hid (Calls Try.prog 36 #[.pointer (some ⟨p, 1 + c * 2, none⟩)] (w.alloc (.cells #[.int .u8 68, .int .i64 c, .slice ao n cap] 122)) fun e w' => e = .returned (.int .i64 ((s.ch c).last : Nat)) ∧ ∃ k, w' = (w.alloc (.cells #[.int .u8 68, .int .i64 c, .slice ao n cap] 122)).drewN k) := by
    have q2 := hv1.cellT c hc
    rw [htv] at q2
    exact vlast_any p (1 + c * 2) (s.ch c).gone (s.ch c).texts.length tc tao _ (hv1.cellG c hc) q2 (by omega)
  by_cases h0 : (s.ch c).texts = []
  · have hE : codeDo s.ch c xs = none := by unfold codeDo; rw [h0]; rfl
    have hg0 := hok.none c h0
    have hz : (s.ch c).last = 0 := by rw [hlast, h0, hg0]; rfl
    rw [hz] at HL
    have HB1 : Hid (Below w.heap.size w (w.alloc (.cells #[.int .u8 68, .int .i64 c, .slice ao n cap] 122))) := hb1
    have HE : Hid (codeDo s.ch c xs = none) := hE
    clear hE hlast hl hz hv1 hb1 hview hv hparts hD
    go_enter Try.func117, Try.ntmps117
    go_wp2_with fail
    refine HL.out.mono ?_
    rintro e w2 ⟨rfl, k, rfl⟩
    go_wp2
    go_ret
    exact .inl ⟨HE.out, rfl, Moves.stays HV.out (below_drewN1 HB1.out k)⟩
  · have hpos : 0 < (s.ch c).texts.length := List.length_pos_iff.2 h0
    obtain ⟨x, hxl⟩ : ∃ x, (s.ch c).texts.getLast? = some x := by
      cases hg : (s.ch c).texts.getLast? with
      | none => exact absurd (List.getLast?_eq_none_iff.1 hg) h0
      | some x => exact ⟨x, rfl⟩
    have hgi : (s.ch c).texts[(s.ch c).texts.length - 1]? = some x := by rw [← List.getLast?_eq_getElem?]; exact hxl
    have hxs : x.size ≤ 2000 := hok.size c x (List.mem_of_mem_getLast? hxl)
    have hCD : codeDo s.ch c xs = if faultF xs x.size < xs.length then none else moreF s.ch c ⟨(madeL x.data.toList xs).toArray⟩ := by unfold codeDo; rw [hxl]
    have HTX : Hid (∀ W, Still (w.alloc (.cells #[.int .u8 68, .int .i64 c, .slice ao n cap] 122)) W → Calls Try.prog 39 #[.pointer (some ⟨p, 1 + c * 2, none⟩), .int .i64 ((s.ch c).last : Nat)] W fun e w' => e = .returned (.string x) ∧ Still W w') := fun W hW => by
      have q2 := (hv1.still hW).cellT c hc
      have hrow := (hv1.still hW).row c hc
      rw [htv] at q2 hrow
      exact vtext_st p (1 + c * 2) _ ((s.ch c).texts.length - 1) _ _ _ x W ((hv1.still hW).cellG c hc) q2 hrow hgi (by omega) ((s.ch c).last : Nat) (by omega)
    have HAP : Hid (∀ W, Below w.heap.size w W → Calls Try.prog 119 #[.string x, .slice ao n cap] W fun e w' => e = .returned (.tuple #[.string (appS x xs), .int .i64 (appE x xs), .int .i64 (appP x xs)]) ∧ Below W.heap.size W w') := fun W hW => apply_any (by omega) (by have := hD.len; omega) (HVW.out.kept hW) (fun o ho => by have := (hparts o ho).2.2.1; omega)
    have hla : ((((s.ch c).last : Nat) : Int) == 0) = false := beq_false_of_ne (by omega)
    have HB1 : Hid (Below w.heap.size w (w.alloc (.cells #[.int .u8 68, .int .i64 c, .slice ao n cap] 122))) := hb1
    have HADD : Hid (∀ W t, Below w.heap.size w W → t.size ≤ 2000 → Calls Try.prog 40 #[.pointer (some ⟨p, 1 + c * 2, none⟩), .string t] W fun e w' => Hid (DoPost p lv tv s (moreF s.ch c t) w e w')) := fun W t hW ht => (chain_add p c lv tv s t W (HV.out.below hW) hc hl ht).mono fun e w' h => h.ahead hW
    have HCD : Hid (codeDo s.ch c xs = if faultF xs x.size < xs.length then none else moreF s.ch c ⟨(madeL x.data.toList xs).toArray⟩) := hCD
    have hx2 : ¬ 2000 < x.size := by omega
    generalize hLA : (s.ch c).last = la at *
    clear hLA hlast hl hv1 hb1 hview hv hparts hD hCD hxl hgi h0
    by_cases hf : faultF xs x.size < xs.length
    · have hE : appE x xs = 2 := by unfold appE; rw [if_neg hx2, if_pos hf]
      have HN : Hid (codeDo s.ch c xs = none) := by unfold Hid; rw [HCD.out, if_pos hf]
      rw [hE] at HAP
      generalize appS x xs = sx at *
      generalize appP x xs = px at *
      clear hE hf
      go_enter Try.func117, Try.ntmps117
      go_wp2_with fail
      refine HL.out.mono ?_
      rintro e w2 ⟨rfl, k, rfl⟩
      generalize (w.alloc (.cells #[.int .u8 68, .int .i64 c, .slice ao n cap] 122)) = W1 at *
      go_wp2_with fail
      go_region_held3 (fun w' => w'.cell? ⟨w.heap.size, 2, none⟩ = some (.slice ao n cap)) (go_keep)
        (first | (go_at_call 39; refine (HTX.out (W1.drewN k).drew ⟨rfl, rfl, rfl, rfl⟩).mono ?_; rintro e w4 ⟨rfl, st4⟩; have e0 : w4.cell? ⟨w.heap.size, 2, none⟩ = some (.slice ao n cap) := (World.cell?_of_block (a := ⟨w.heap.size, 2, none⟩) (by rw [st4.1]; rfl)).trans k2) | (go_at_call 119; refine (HAP.out w4 ((below_drewN1 HB1.out k).drew.trans (st4.below _))).mono ?_; rintro e w5 ⟨rfl, b5⟩; have e0 := (b5.cell (p := ⟨w.heap.size, 2, none⟩) (by rw [st4.size]; exact hg1)).trans e0))
      all_goals
        have HB5 : Hid (Below w.heap.size w w5) := ((below_drewN1 HB1.out k).drew.trans (st4.below _)).trans (b5.mono (by rw [st4.size]; exact Nat.le_of_lt hg1))
        clear b5 st4
        go_wp2
        go_ret
        exact .inl ⟨HN.out, rfl, Moves.stays HV.out HB5.out⟩
    · have hE : appE x xs = 0 := by unfold appE; rw [if_neg hx2, if_neg hf]
      have hS : appS x xs = ⟨(madeL x.data.toList xs).toArray⟩ := by unfold appS; rw [if_neg hx2, if_neg hf]
      have HN : Hid (codeDo s.ch c xs = moreF s.ch c ⟨(madeL x.data.toList xs).toArray⟩) := by unfold Hid; rw [HCD.out, if_neg hf]
      have hsz := made_small hf
      rw [hE, hS] at HAP
      generalize (⟨(madeL x.data.toList xs).toArray⟩ : ByteArray) = sx at *
      generalize appP x xs = px at *
      have HAD2 : Hid (∀ W, Below w.heap.size w W → Calls Try.prog 40 #[.pointer (some ⟨p, 1 + c * 2, none⟩), .string sx] W fun e w' => Hid (DoPost p lv tv s (codeDo s.ch c xs) w e w')) := fun W hW => by rw [HN.out]; exact HADD.out W sx hW hsz
      clear hE hS hf HCD HN HADD
      show Calls Try.prog 117 #[.agg #[.int .u8 68, .int .i64 c, .slice ao n cap], .pointer (some ⟨p, 1 + c * 2, none⟩)] w fun e w' => Hid (DoPost p lv tv s (codeDo s.ch c xs) w e w')
      generalize codeDo s.ch c xs = o at *
      go_enter Try.func117, Try.ntmps117
      go_wp2_with fail
      refine HL.out.mono ?_
      rintro e w2 ⟨rfl, k, rfl⟩
      generalize (w.alloc (.cells #[.int .u8 68, .int .i64 c, .slice ao n cap] 122)) = W1 at *
      go_wp2_with fail
      go_region_held3 (fun w' => w'.cell? ⟨w.heap.size, 2, none⟩ = some (.slice ao n cap)) (go_keep)
        (first | (go_at_call 39; refine (HTX.out (W1.drewN k).drew ⟨rfl, rfl, rfl, rfl⟩).mono ?_; rintro e w4 ⟨rfl, st4⟩; have e0 : w4.cell? ⟨w.heap.size, 2, none⟩ = some (.slice ao n cap) := (World.cell?_of_block (a := ⟨w.heap.size, 2, none⟩) (by rw [st4.1]; rfl)).trans k2) | (go_at_call 119; refine (HAP.out w4 ((below_drewN1 HB1.out k).drew.trans (st4.below _))).mono ?_; rintro e w5 ⟨rfl, b5⟩; have e0 := (b5.cell (p := ⟨w.heap.size, 2, none⟩) (by rw [st4.size]; exact hg1)).trans e0))
      all_goals
        have HB5 : Hid (Below w.heap.size w w5) := ((below_drewN1 HB1.out k).drew.trans (st4.below _)).trans (b5.mono (by rw [st4.size]; exact Nat.le_of_lt hg1))
        clear b5 st4
        go_wp2_with fail
        refine (HAD2.out _ HB5.out).mono ?_
        intro e w6 HD
        obtain ⟨bb, rfl⟩ := HD.out.bool
        go_wp2
        go_ret
        exact HD
end Go.Proofs.Ytabpiaaknjcnkab
