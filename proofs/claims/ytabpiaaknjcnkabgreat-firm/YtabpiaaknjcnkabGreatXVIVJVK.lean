/- The texts VI, VJ, VK, one behind the other. -/
import Derived.Test.YtabpiaaknjcnkabGreatXVGVH
/-
  The walks over package record: what the kinds do.
-/
namespace Go.Proofs.YtabpiaaknjcnkabGreat
open Go.RowKit
set_option linter.unusedVariables false
set_option linter.unusedSimpArgs false
set_option maxRecDepth 100000

theorem Moves.ahead {p : Nat} {lv : Value} {tv : Nat → Value} {s' : Vlt} {w w1 w' : World} (hb : Below w.heap.size w w1) (h : Moves p lv tv s' w1 w') : Moves p lv tv s' w w' := by
  obtain ⟨lv', tv', h1, h2, h3⟩ := h
  have hs := hb.size
  exact ⟨lv', tv', h1, (Out.of_below hb).trans h2 (fun q hq => .inl hq), fun q hq => by
    rcases h3 q hq with x | x
    · exact .inl x
    · exact .inr (by omega)⟩
theorem DoPost.ahead {p : Nat} {lv : Value} {tv : Nat → Value} {s : Vlt} {o : Option (Nat → Chn)} {w w1 w' : World} {e : Ending} (hb : Below w.heap.size w w1) (h : DoPost p lv tv s o w1 e w') : DoPost p lv tv s o w e w' := by
  rcases h with ⟨h1, h2, h3⟩ | ⟨ch, h1, h2, h3⟩
  · exact .inl ⟨h1, h2, h3.ahead hb⟩
  · exact .inr ⟨ch, h1, h2, h3.ahead hb⟩
theorem DoPost.bool {p : Nat} {lv : Value} {tv : Nat → Value} {s : Vlt} {o : Option (Nat → Chn)} {w w' : World} {e : Ending} (h : DoPost p lv tv s o w e w') : ∃ b, e = .returned (.bool b) := by
  rcases h with ⟨_, h, _⟩ | ⟨_, _, h, _⟩
  · exact ⟨_, h⟩
  · exact ⟨_, h⟩

set_option maxHeartbeats 2000000 in
theorem fdo_any (p c : Nat) (lv : Value) (tv : Nat → Value) (s : Vlt) (t : ByteArray) (w : World) (hv : VaultAt w p lv tv s) (hc : c < 4) (hl : (s.ch c).last ≤ 2147483647) (ht : t.size ≤ 2000) :
    Calls Tryz.prog 132 #[.agg #[.int .u8 70, .int .i64 c, .string t], .pointer (some ⟨p, 1 + c * 2, none⟩)] w (DoPost p lv tv s (moreF s.ch c t) w) := by
  have hb : Below w.heap.size w (w.alloc (.cells #[.int .u8 70, .int .i64 c, .string t] 141)) := (Below.refl _ _).alloc (Nat.le_refl _) _
  have HC : Hid (Calls Tryz.prog 56 #[.pointer (some ⟨p, 1 + c * 2, none⟩), .string t] (w.alloc (.cells #[.int .u8 70, .int .i64 c, .string t] 141)) fun e w' => Hid (DoPost p lv tv s (moreF s.ch c t) w e w')) := (chain_add p c lv tv s t _ (hv.below hb) hc hl ht).mono fun e w' h => h.ahead hb
  clear hv hb
  show Calls Tryz.prog 132 #[.agg #[.int .u8 70, .int .i64 c, .string t], .pointer (some ⟨p, 1 + c * 2, none⟩)] w fun e w' => Hid (DoPost p lv tv s (moreF s.ch c t) w e w')
  generalize moreF s.ch c t = o at *
  go_enter Tryz.func132, Tryz.ntmps132
  go_wp2_with fail
  refine HC.out.mono ?_
  intro e w1 HD
  obtain ⟨b, rfl⟩ := HD.out.bool
  go_wp2
  go_ret
  exact HD

set_option maxHeartbeats 2000000 in
theorem pdo_any (p c n : Nat) (lv : Value) (tv : Nat → Value) (s : Vlt) (w : World) (hv : VaultAt w p lv tv s) (hc : c < 4) (hl : (s.ch c).last ≤ 2147483647) :
    Calls Tryz.prog 126 #[.agg #[.int .u8 80, .int .i64 c, .int .i64 n], .pointer (some ⟨p, 1 + c * 2, none⟩)] w (DoPost p lv tv s (pruneF s.ch c n) w) := by
  have hb : Below w.heap.size w (w.alloc (.cells #[.int .u8 80, .int .i64 c, .int .i64 n] 129)) := (Below.refl _ _).alloc (Nat.le_refl _) _
  have HC : Hid (Calls Tryz.prog 62 #[.pointer (some ⟨p, 1 + c * 2, none⟩), .int .i64 n] (w.alloc (.cells #[.int .u8 80, .int .i64 c, .int .i64 n] 129)) fun e w' => Hid (DoPost p lv tv s (pruneF s.ch c n) w e w')) := (chain_drop p c n lv tv s _ (hv.below hb) hc hl).mono fun e w' h => h.ahead hb
  clear hv hb
  show Calls Tryz.prog 126 #[.agg #[.int .u8 80, .int .i64 c, .int .i64 n], .pointer (some ⟨p, 1 + c * 2, none⟩)] w fun e w' => Hid (DoPost p lv tv s (pruneF s.ch c n) w e w')
  generalize pruneF s.ch c n = o at *
  go_enter Tryz.func126, Tryz.ntmps126
  go_wp2_with fail
  refine HC.out.mono ?_
  intro e w1 HD
  obtain ⟨b, rfl⟩ := HD.out.bool
  go_wp2
  go_ret
  exact HD

set_option maxHeartbeats 2000000 in
theorem bdo_any (p c n : Nat) (lv : Value) (tv : Nat → Value) (s : Vlt) (t : ByteArray) (w : World) (hv : VaultAt w p lv tv s) (hc : c < 4) (hl : (s.ch c).last ≤ 2147483647) (hn : 0 < n) (hn2 : n ≤ 2147483647) (ht : t.size ≤ 2000) :
    Calls Tryz.prog 129 #[.agg #[.int .u8 66, .int .i64 c, .int .i64 n, .string t], .pointer (some ⟨p, 1 + c * 2, none⟩)] w (DoPost p lv tv s (baseF s.ch c n t) w) := by
  have hb : Below w.heap.size w (w.alloc (.cells #[.int .u8 66, .int .i64 c, .int .i64 n, .string t] 132)) := (Below.refl _ _).alloc (Nat.le_refl _) _
  have HC : Hid (Calls Tryz.prog 131 #[.pointer (some ⟨p, 1 + c * 2, none⟩), .int .i64 n, .string t] (w.alloc (.cells #[.int .u8 66, .int .i64 c, .int .i64 n, .string t] 132)) fun e w' => Hid (DoPost p lv tv s (baseF s.ch c n t) w e w')) := (chain_begin p c n lv tv s t _ (hv.below hb) hc hl hn hn2 ht).mono fun e w' h => h.ahead hb
  clear hv hb
  show Calls Tryz.prog 129 #[.agg #[.int .u8 66, .int .i64 c, .int .i64 n, .string t], .pointer (some ⟨p, 1 + c * 2, none⟩)] w fun e w' => Hid (DoPost p lv tv s (baseF s.ch c n t) w e w')
  generalize baseF s.ch c n t = o at *
  go_enter Tryz.func129, Tryz.ntmps129
  go_wp2_with fail
  refine HC.out.mono ?_
  intro e w1 HD
  obtain ⟨b, rfl⟩ := HD.out.bool
  go_wp2
  go_ret
  exact HD
end Go.Proofs.YtabpiaaknjcnkabGreat

/-
  The walks over package record: what a difference does.
-/
namespace Go.Proofs.YtabpiaaknjcnkabGreat
open Go.RowKit
set_option linter.unusedVariables false
set_option linter.unusedSimpArgs false
set_option maxRecDepth 100000

def codeDo (ch : Nat → Chn) (c : Nat) (xs : List DOp) : Option (Nat → Chn) :=
  match (ch c).texts.getLast? with
    | none => none
    | some t => if faultF xs t.size < xs.length then none else moreF ch c ⟨(madeL t.data.toList xs).toArray⟩
theorem made_small {t : ByteArray} {xs : List DOp} (h : ¬ faultF xs t.size < xs.length) : (⟨(madeL t.data.toList xs).toArray⟩ : ByteArray).size ≤ 2000 := by
  have hf : faultF xs t.size = xs.length := by have := faultF_le xs t.size; omega
  obtain ⟨h1, h2⟩ := fault_all (b := t.size) (xs := xs) (p := none) (i := 0) (m := 0) (by unfold faultF at hf; simpa using hf) (by omega)
  have h3 := madeL_length (B := t.data.toList) (xs := xs) (fun o ho => by rw [← Lib.size_eq]; exact h1 o ho)
  have h4 := (delta_of hf).sum
  rw [Lib.size_eq]
  simp only
  omega

set_option maxHeartbeats 8000000 in
theorem ddo_any (p c : Nat) (lv : Value) (tv : Nat → Value) (s : Vlt) (ao : Option Addr) (n cap : Nat) (xs : List DOp) (w : World) (hv : VaultAt w p lv tv s) (hok : s.Ok) (hc : c < 4) (hview : View w (.slice ao n cap) xs) (hx : faultF xs 2000 = xs.length) :
    Calls Tryz.prog 134 #[.agg #[.int .u8 68, .int .i64 c, .slice ao n cap], .pointer (some ⟨p, 1 + c * 2, none⟩)] w (DoPost p lv tv s (codeDo s.ch c xs) w) := by
  have hlast : (s.ch c).last = (s.ch c).gone + (s.ch c).texts.length := rfl
  have hl := hok.last c
  have hD := delta_of hx
  have hparts := hD.parts (Int.le_refl _)
  have hb1 : Below w.heap.size w (w.alloc (.cells #[.int .u8 68, .int .i64 c, .slice ao n cap] 147)) := (Below.refl _ _).alloc (Nat.le_refl _) _
  have hbk : (w.alloc (.cells #[.int .u8 68, .int .i64 c, .slice ao n cap] 147)).heap[w.heap.size]? = some (.cells #[.int .u8 68, .int .i64 c, .slice ao n cap] 147 (0, 0)) := heap_alloc_new _ _
  have k2 : (w.alloc (.cells #[.int .u8 68, .int .i64 c, .slice ao n cap] 147)).cell? ⟨w.heap.size, 2, none⟩ = some (.slice ao n cap) := by rw [Lib.cell_of_heap hbk]; rfl
  have hg1 : w.heap.size < (w.alloc (.cells #[.int .u8 68, .int .i64 c, .slice ao n cap] 147)).heap.size := by simp
  obtain ⟨tao, tc, htv⟩ := (hv.row c hc).slice
  have hv1 := hv.below hb1
  have HV : Hid (VaultAt w p lv tv s) := hv
  have HVW : Hid (View w (.slice ao n cap) xs) := hview
  have HL : Hid (Calls Tryz.prog 52 #[.pointer (some ⟨p, 1 + c * 2, none⟩)] (w.alloc (.cells #[.int .u8 68, .int .i64 c, .slice ao n cap] 147)) fun e w' => e = .returned (.int .i64 ((s.ch c).last : Nat)) ∧ ∃ k, w' = (w.alloc (.cells #[.int .u8 68, .int .i64 c, .slice ao n cap] 147)).drewN k) := by
    have q2 := hv1.cellT c hc
    rw [htv] at q2
    exact vlast_any p (1 + c * 2) (s.ch c).gone (s.ch c).texts.length tc tao _ (hv1.cellG c hc) q2 (by omega)
  by_cases h0 : (s.ch c).texts = []
  · have hE : codeDo s.ch c xs = none := by unfold codeDo; rw [h0]; rfl
    have hg0 := hok.none c h0
    have hz : (s.ch c).last = 0 := by rw [hlast, h0, hg0]; rfl
    rw [hz] at HL
    have HB1 : Hid (Below w.heap.size w (w.alloc (.cells #[.int .u8 68, .int .i64 c, .slice ao n cap] 147))) := hb1
    have HE : Hid (codeDo s.ch c xs = none) := hE
    clear hE hlast hl hz hv1 hb1 hview hv hparts hD
    go_enter Tryz.func134, Tryz.ntmps134
    go_wp2_with fail
    refine HL.out.mono ?_
    rintro e w2 ⟨rfl, k, rfl⟩
    go_wp2
    go_ret
    exact .inl ⟨HE.out, rfl, Moves.stays HV.out (below_drewN1 HB1.out k)⟩
  · have hpos : 0 < (s.ch c).texts.length := List.length_pos_iff.2 h0
    obtain ⟨x, hxl⟩ : ∃ x, (s.ch c).texts.getLast? = some x := by
      cases hg : (s.ch c).texts.getLast? with
      | none => exact absurd (List.getLast?_eq_none_iff.1 hg) h0
      | some x => exact ⟨x, rfl⟩
    have hgi : (s.ch c).texts[(s.ch c).texts.length - 1]? = some x := by rw [← List.getLast?_eq_getElem?]; exact hxl
    have hxs : x.size ≤ 2000 := hok.size c x (List.mem_of_mem_getLast? hxl)
    have hCD : codeDo s.ch c xs = if faultF xs x.size < xs.length then none else moreF s.ch c ⟨(madeL x.data.toList xs).toArray⟩ := by unfold codeDo; rw [hxl]
    have HTX : Hid (∀ W, Still (w.alloc (.cells #[.int .u8 68, .int .i64 c, .slice ao n cap] 147)) W → Calls Tryz.prog 55 #[.pointer (some ⟨p, 1 + c * 2, none⟩), .int .i64 ((s.ch c).last : Nat)] W fun e w' => e = .returned (.string x) ∧ Still W w') := fun W hW => by
      have q2 := (hv1.still hW).cellT c hc
      have hrow := (hv1.still hW).row c hc
      rw [htv] at q2 hrow
      exact vtext_st p (1 + c * 2) _ ((s.ch c).texts.length - 1) _ _ _ x W ((hv1.still hW).cellG c hc) q2 hrow hgi (by omega) ((s.ch c).last : Nat) (by omega)
    have HAP : Hid (∀ W, Below w.heap.size w W → Calls Tryz.prog 29 #[.string x, .slice ao n cap] W fun e w' => e = .returned (.tuple #[.string (appS x xs), .int .i64 (appE x xs), .int .i64 (appP x xs)]) ∧ Below W.heap.size W w') := fun W hW => apply_any (by omega) (by have := hD.len; omega) (HVW.out.kept hW) (fun o ho => by have := (hparts o ho).2.2.1; omega)
    have hla : ((((s.ch c).last : Nat) : Int) == 0) = false := beq_false_of_ne (by omega)
    have HB1 : Hid (Below w.heap.size w (w.alloc (.cells #[.int .u8 68, .int .i64 c, .slice ao n cap] 147))) := hb1
    have HADD : Hid (∀ W t, Below w.heap.size w W → t.size ≤ 2000 → Calls Tryz.prog 56 #[.pointer (some ⟨p, 1 + c * 2, none⟩), .string t] W fun e w' => Hid (DoPost p lv tv s (moreF s.ch c t) w e w')) := fun W t hW ht => (chain_add p c lv tv s t W (HV.out.below hW) hc hl ht).mono fun e w' h => h.ahead hW
    have HCD : Hid (codeDo s.ch c xs = if faultF xs x.size < xs.length then none else moreF s.ch c ⟨(madeL x.data.toList xs).toArray⟩) := hCD
    have hx2 : ¬ 2000 < x.size := by omega
    generalize hLA : (s.ch c).last = la at *
    clear hLA hlast hl hv1 hb1 hview hv hparts hD hCD hxl hgi h0
    by_cases hf : faultF xs x.size < xs.length
    · have hE : appE x xs = 2 := by unfold appE; rw [if_neg hx2, if_pos hf]
      have HN : Hid (codeDo s.ch c xs = none) := by unfold Hid; rw [HCD.out, if_pos hf]
      rw [hE] at HAP
      generalize appS x xs = sx at *
      generalize appP x xs = px at *
      clear hE hf
      go_enter Tryz.func134, Tryz.ntmps134
      go_wp2_with fail
      refine HL.out.mono ?_
      rintro e w2 ⟨rfl, k, rfl⟩
      generalize (w.alloc (.cells #[.int .u8 68, .int .i64 c, .slice ao n cap] 147)) = W1 at *
      go_wp2_with fail
      go_region_held3 (fun w' => w'.cell? ⟨w.heap.size, 2, none⟩ = some (.slice ao n cap)) (go_keep)
        (first | (go_at_call 55; refine (HTX.out (W1.drewN k).drew ⟨rfl, rfl, rfl, rfl⟩).mono ?_; rintro e w4 ⟨rfl, st4⟩; have e0 : w4.cell? ⟨w.heap.size, 2, none⟩ = some (.slice ao n cap) := (World.cell?_of_block (a := ⟨w.heap.size, 2, none⟩) (by rw [st4.1]; rfl)).trans k2) | (go_at_call 29; refine (HAP.out w4 ((below_drewN1 HB1.out k).drew.trans (st4.below _))).mono ?_; rintro e w5 ⟨rfl, b5⟩; have e0 := (b5.cell (p := ⟨w.heap.size, 2, none⟩) (by rw [st4.size]; exact hg1)).trans e0))
      all_goals
        have HB5 : Hid (Below w.heap.size w w5) := ((below_drewN1 HB1.out k).drew.trans (st4.below _)).trans (b5.mono (by rw [st4.size]; exact Nat.le_of_lt hg1))
        clear b5 st4
        go_wp2
        go_ret
        exact .inl ⟨HN.out, rfl, Moves.stays HV.out HB5.out⟩
    · have hE : appE x xs = 0 := by unfold appE; rw [if_neg hx2, if_neg hf]
      have hS : appS x xs = ⟨(madeL x.data.toList xs).toArray⟩ := by unfold appS; rw [if_neg hx2, if_neg hf]
      have HN : Hid (codeDo s.ch c xs = moreF s.ch c ⟨(madeL x.data.toList xs).toArray⟩) := by unfold Hid; rw [HCD.out, if_neg hf]
      have hsz := made_small hf
      rw [hE, hS] at HAP
      generalize (⟨(madeL x.data.toList xs).toArray⟩ : ByteArray) = sx at *
      generalize appP x xs = px at *
      have HAD2 : Hid (∀ W, Below w.heap.size w W → Calls Tryz.prog 56 #[.pointer (some ⟨p, 1 + c * 2, none⟩), .string sx] W fun e w' => Hid (DoPost p lv tv s (codeDo s.ch c xs) w e w')) := fun W hW => by rw [HN.out]; exact HADD.out W sx hW hsz
      clear hE hS hf HCD HN HADD
      show Calls Tryz.prog 134 #[.agg #[.int .u8 68, .int .i64 c, .slice ao n cap], .pointer (some ⟨p, 1 + c * 2, none⟩)] w fun e w' => Hid (DoPost p lv tv s (codeDo s.ch c xs) w e w')
      generalize codeDo s.ch c xs = o at *
      go_enter Tryz.func134, Tryz.ntmps134
      go_wp2_with fail
      refine HL.out.mono ?_
      rintro e w2 ⟨rfl, k, rfl⟩
      generalize (w.alloc (.cells #[.int .u8 68, .int .i64 c, .slice ao n cap] 147)) = W1 at *
      go_wp2_with fail
      go_region_held3 (fun w' => w'.cell? ⟨w.heap.size, 2, none⟩ = some (.slice ao n cap)) (go_keep)
        (first | (go_at_call 55; refine (HTX.out (W1.drewN k).drew ⟨rfl, rfl, rfl, rfl⟩).mono ?_; rintro e w4 ⟨rfl, st4⟩; have e0 : w4.cell? ⟨w.heap.size, 2, none⟩ = some (.slice ao n cap) := (World.cell?_of_block (a := ⟨w.heap.size, 2, none⟩) (by rw [st4.1]; rfl)).trans k2) | (go_at_call 29; refine (HAP.out w4 ((below_drewN1 HB1.out k).drew.trans (st4.below _))).mono ?_; rintro e w5 ⟨rfl, b5⟩; have e0 := (b5.cell (p := ⟨w.heap.size, 2, none⟩) (by rw [st4.size]; exact hg1)).trans e0))
      all_goals
        have HB5 : Hid (Below w.heap.size w w5) := ((below_drewN1 HB1.out k).drew.trans (st4.below _)).trans (b5.mono (by rw [st4.size]; exact Nat.le_of_lt hg1))
        clear b5 st4
        go_wp2_with fail
        refine (HAD2.out _ HB5.out).mono ?_
        intro e w6 HD
        obtain ⟨bb, rfl⟩ := HD.out.bool
        go_wp2
        go_ret
        exact HD
end Go.Proofs.YtabpiaaknjcnkabGreat

/-
  A string's bytes behind a row of bytes, and where the new row lies.
-/
namespace Go.Proofs.YtabpiaaknjcnkabGreat
open Go.RowKit
set_option linter.unusedVariables false
set_option linter.unusedSimpArgs false
set_option maxRecDepth 100000

theorem run_str_lies (w : World) (base : Nat) (ty : TypeId) (v : Value) (bs : List UInt8) (s : ByteArray) (hown : OwnBytes w base v bs) (hs : 0 < s.size) (hl : bs.length + s.size ≤ 1000000) (hbase : base ≤ w.heap.size) :
    ∃ v' w', (Builtin.append_ #[41, 9] ty #[v, .string s]).run Tryz.prog w = .ok v' w' ∧ OwnBytes w' base v' (bs ++ s.data.toList) ∧ w.grownBy w' v.ownBlock ∧ (v'.ownBlock = v.ownBlock ∨ v'.ownBlock = some w.heap.size) := by
  obtain ⟨i0, hi, hz0, hz1, hz2⟩ := info_parts Tryz.infoByte
  obtain ⟨v', w', hr, h2, h3, h4⟩ := Lib.run_append_own_string (P := Tryz.prog) w base 41 9 ty 5 i0 Tryz.underlying41 Tryz.underlying9 hi hz0 hz1 hz2 v bs.length (bs.map byteV) hown s (by unfold maxLen; omega) (by omega) hbase
  refine ⟨v', w', hr, ?_, h3, ?_⟩
  · unfold OwnBytes
    rw [List.map_append, List.length_append, ← Lib.size_eq]
    exact h2
  · rcases hown.2 with ⟨rfl, h0⟩ | ⟨g, cap, cur, rfl, hbg, hg, hnc, hcm, hcs, htake⟩
    · have hr2 := run_append_nil_string (P := Tryz.prog) w 41 9 ty 5 i0 (.int .u8 0) Tryz.underlying41 Tryz.underlying9 hi hz0 s hs (by omega) (by rw [hz2]; omega)
      have e := hr.symm.trans hr2
      injection e with e1 e2
      rw [e1]; exact .inr rfl
    · by_cases hroom : bs.length + s.size ≤ cap
      · have hcs' : cur.size = cap := by simpa using hcs
        have hr2 := Lib.run_append_room_string (P := Tryz.prog) w 41 9 ty 5 i0 Tryz.underlying41 Tryz.underlying9 hi hz1 g bs.length cap cur hg s hroom (by omega)
        have e := hr.symm.trans hr2
        injection e with e1 e2
        rw [e1]; exact .inl rfl
      · have holds : ∀ j u, (bs.map byteV)[j]? = some u → w.cell? ((⟨g, 0, none⟩ : Addr).add j) = some u := hown.cells (g := g) rfl
        have hr2 := Lib.run_append_grow_string (P := Tryz.prog) w 41 9 ty 5 i0 (.int .u8 0) Tryz.underlying41 Tryz.underlying9 hi hz0 ⟨g, 0, none⟩ bs.length cap (bs.map byteV) (by rw [hz1]; simp) holds s (by omega) (by omega) (by rw [hz2]; exact growslice_fits (by omega) (by omega))
        have e := hr.symm.trans hr2
        injection e with e1 e2
        rw [e1]; exact .inr rfl

/-- At a step of a region that draws its order. -/
theorem step_str_lies {w : World} {ops : Array Oper} {o : Oper} {a : Act} {K : Act → World → Prop} {Q : Exit → Act → World → Prop} {E : Prop} (hgd : o.guard = none) (sl x : Operand)
    (ho : o.op = .call { callee := .builtin .append, args := #[sl, x], argTypes := #[41, 9] })
    (base : Nat) (v : Value) (bs : List UInt8) (hs : a.eval sl = v) (hown : OwnBytes w base v bs) (s : ByteArray) (hx : a.eval x = .string s) (hp : 0 < s.size) (hl : bs.length + s.size ≤ 1000000) (hbase : base ≤ w.heap.size)
    (h : ∀ v' w', OwnBytes w' base v' (bs ++ s.data.toList) → w.grownBy w' v.ownBlock → (v'.ownBlock = v.ownBlock ∨ v'.ownBlock = some w.heap.size) → K (a.put o.dst v') w') :
    if Region.wanted o (yielded ops a.tmps) = true then Oper.wp Tryz.prog o a w K Q else E := by
  have hw : Region.wanted o (yielded ops a.tmps) = true := by simp [Region.wanted, hgd]
  rw [if_pos hw]
  obtain ⟨v', w', hr, h2, h3, h4⟩ := run_str_lies w base o.type v bs s hown hp hl hbase
  unfold Oper.wp execOp
  simp only [ho, resolve, invoke, builtin, Sem.run_bind, Sem.run_pure, Result.andThen_ok, List.map_toArray, List.map_cons, List.map_nil, hs, hx, hr]
  exact h v' w' h2 h3 h4

/-- A reader lies in no block of a vault. -/
theorem RAt.far {w : World} {rb at_ p : Nat} {l : ByteArray} {lv : Value} {tv : Nat → Value} {s : Vlt} (hr : RAt w rb l at_) (hv : VaultAt w p lv tv s) : ¬ foot p lv tv rb := by
  rintro (e | e | ⟨i, hi, e⟩)
  · have := hv.blk; rw [← e] at this; unfold RAt at hr; rw [hr] at this; simp at this
  · exact row_type hv.log hr (by decide) e
  · exact row_type (hv.row i hi) hr (by decide) e
theorem VaultAt.moved {w w' : World} {rb at_ p : Nat} {l : ByteArray} {lv : Value} {tv : Nat → Value} {s : Vlt} (hv : VaultAt w p lv tv s) (hr : RAt w rb l at_) (hm : Moved rb w w') : VaultAt w' p lv tv s :=
  hv.kept (fun q hq => hm.block q (hv.foot_lt q hq) (fun e => hr.far hv (by rw [← e]; exact hq)))
theorem RAt.out {w w' : World} {rb at_ p : Nat} {l : ByteArray} {lv : Value} {tv : Nat → Value} {s : Vlt} (hr : RAt w rb l at_) (hv : VaultAt w p lv tv s) (ho : Out (foot p lv tv) w w') : RAt w' rb l at_ := (ho.block rb (lt_of_block hr) (hr.far hv)).trans hr
/-- Where a reader stands. -/
def atOf (w : World) (rb : Nat) : Nat := match w.cell? ⟨rb, 1, none⟩ with
  | some (.int _ z) => z.toNat
  | _ => 0
theorem RAt.at_of {w : World} {rb at_ : Nat} {l : ByteArray} (hr : RAt w rb l at_) : atOf w rb = at_ := by
  unfold atOf
  rw [hr.cells.2.1]
  simp

set_option maxHeartbeats 1000000 in
theorem hchain_any (z : Int) (c : Nat) (w : World) : Calls Tryz.prog 125 #[.agg #[.int .u8 z, .int .i64 c]] w fun e w' => e = .returned (.int .i64 c) ∧ Below w.heap.size w w' := by
  go_enter Tryz.func125, Tryz.ntmps125
  go_wp2
  go_ret
  exact ⟨rfl, (Below.refl _ _).alloc (Nat.le_refl _) _⟩

/-- A record that was read, as the interface's value that does it. -/
structure Doer (W0 : World) (r : Rec) (T : TypeId) (x : Value) (KD : FuncId) (z : Int) : Prop where
  chain : ∀ W : World, (method 270 T x "Chain").run Tryz.prog W = .ok (125, .agg #[.int .u8 z, .int .i64 r.c]) W
  do_ : ∀ W : World, (method 270 T x "Do").run Tryz.prog W = .ok (KD, x) W
  ahead : ∀ W : World, (nilAhead 270 T x "Do").run Tryz.prog W = .ok (some false) W
  enter : ∀ (W : World) (a : Value), (callFunc KD #[x, a]).run Tryz.prog W = .ok (.enter KD #[x, a]) W
  does : ∀ (W : World) (p : Nat) (lv : Value) (tv : Nat → Value) (s : Vlt), Below W0.heap.size W0 W → VaultAt W p lv tv s → s.Ok → Calls Tryz.prog KD #[x, .pointer (some ⟨p, 1 + r.c * 2, none⟩)] W (DoPost p lv tv s (r.does s.ch) W)
theorem rec_doer {W0 : World} {base : Nat} {v : Value} {r : Rec} (h : RecV W0 base v r) (hr : r.Ok) : ∃ T x KD z, v = .iface T x ∧ Doer W0 r T x KD z := by
  obtain ⟨hc, hn, ht, hx, hL⟩ := hr
  rcases h with ⟨h1, h2⟩ | ⟨h1, ao, n, cap, h2, h3⟩ | ⟨h1, h2⟩ | ⟨h1, h2⟩
  · refine ⟨_, _, 132, 70, h2, fun W => by kernel_rfl, fun W => by kernel_rfl, fun W => by kernel_rfl, fun W a => by kernel_rfl, fun W p lv tv s _ hv hok => ?_⟩
    have e : r.does s.ch = moreF s.ch r.c r.t := by unfold Rec.does; rw [if_pos h1]
    rw [e]
    exact fdo_any p r.c lv tv s r.t W hv hc (hok.last _) ht
  · refine ⟨_, _, 134, 68, h2, fun W => by kernel_rfl, fun W => by kernel_rfl, fun W => by kernel_rfl, fun W a => by kernel_rfl, fun W p lv tv s hW hv hok => ?_⟩
    have e : r.does s.ch = codeDo s.ch r.c r.xs := by
      unfold Rec.does codeDo
      rw [if_neg (by rw [h1]; decide), if_pos h1]
      rfl
    rw [e]
    exact ddo_any p r.c lv tv s ao n cap r.xs W hv hok hc ((View.of_own h3).kept hW) hx
  · have hn0 : 0 < r.n := by
      rcases hL with x | x | x | x
      · rw [h1] at x; exact absurd x (by decide)
      · rw [h1] at x; exact absurd x (by decide)
      · exact x.2
      · rw [h1] at x; exact absurd x (by decide)
    refine ⟨_, _, 129, 66, h2, fun W => by kernel_rfl, fun W => by kernel_rfl, fun W => by kernel_rfl, fun W a => by kernel_rfl, fun W p lv tv s _ hv hok => ?_⟩
    have e : r.does s.ch = baseF s.ch r.c r.n r.t := by
      unfold Rec.does
      rw [if_neg (by rw [h1]; decide), if_neg (by rw [h1]; decide), if_pos h1]
    rw [e]
    exact bdo_any p r.c r.n lv tv s r.t W hv hc (hok.last _) hn0 hn ht
  · refine ⟨_, _, 126, 80, h2, fun W => by kernel_rfl, fun W => by kernel_rfl, fun W => by kernel_rfl, fun W a => by kernel_rfl, fun W p lv tv s _ hv hok => ?_⟩
    have e : r.does s.ch = pruneF s.ch r.c r.n := by
      unfold Rec.does
      rw [if_neg (by rw [h1]; decide), if_neg (by rw [h1]; decide), if_neg (by rw [h1]; decide)]
    rw [e]
    exact pdo_any p r.c r.n lv tv s W hv hc (hok.last _)
end Go.Proofs.YtabpiaaknjcnkabGreat
