/-
  The walk over told of cofferkeep.
-/
import Derived.Test.YtabpiaaknjcnkabGreatT6
import Derived.Laws.AppendOwnNone
namespace Go.Proofs.YtabpiaaknjcnkabGreat
open Go.RowKit
set_option linter.unusedVariables false
set_option linter.unusedSimpArgs false
set_option maxRecDepth 100000

/-- The tale's beginning. -/
theorem tale_begin {w w1 w3 : World} (hv : VaultAt w1 w.heap.size (.slice none 0 0) (fun _ => .slice none 0 0) noVault) (b1 : Below w.heap.size w w1)
    (b3 : Below (w1.heap.size + 1) (w1.alloc (.cells #[.pointer (some ⟨w.heap.size, 0, none⟩), .int .i64 0, .int .i64 0, .int .i64 0, .int .i64 0, .slice none 0 0, .slice none 0 0, .slice none 0 0, .slice none 0 0, .slice none 0 0, .slice none 0 0, .slice none 0 0] 33)) w3) :
    TaleAt w w3 w1.heap.size w.heap.size (fun _ => .slice none 0 0) (.slice none 0 0) (.slice none 0 0) (.slice none 0 0) (.slice none 0 0) (fun _ => .slice none 0 0) noVault [] [] := by
  have hs1 := b1.size
  have ba : Below w1.heap.size w1 w3 := ((Below.refl _ w1).alloc (Nat.le_refl _) _).trans (b3.mono (by omega))
  refine ⟨⟨(b3.block _ (by omega)).trans (heap_alloc_new _ _), World.ownsRow_nil _ _ _ _, World.ownsRow_nil _ _ _ _, World.ownsRow_nil _ _ _ _, hv.below ba, fun i _ g hg => by cases hg⟩, fun i _ => ⟨SView.nil _, fun g hg => by cases hg⟩, rfl, fun k v r hv => by simp at hv, ?_, b1.trans (ba.mono hs1), fun i _ _ => rfl⟩
  rintro g (rfl | (rfl | e | ⟨i, _, e⟩) | e | e | e)
  · exact hs1
  · exact Nat.le_refl _
  · cases e
  · cases e
  · cases e
  · cases e
  · cases e

theorem Moves.undrew {p : Nat} {lv : Value} {tv : Nat → Value} {s' : Vlt} {w w' : World} {k : Nat} (h : Moves p lv tv s' (w.drewN k) w') : Moves p lv tv s' w w' := by
  obtain ⟨lv', tv', h1, h2, h3⟩ := h
  exact ⟨lv', tv', h1, ⟨h2.os, h2.tape, h2.output, h2.size, h2.block⟩, h3⟩
theorem prune_ok {s : Vlt} {vs : List Vlt} (h : TaleOk s vs) (hm : vs.length < 24) {n k : Nat} (hn : n < 4) (hk : k < (s.ch n).texts.length) : cutE s (n : Int) (((s.ch n).gone + 1 + k : Nat) : Int) = 0 ∧ cutS s (n : Int) (((s.ch n).gone + 1 + k : Nat) : Int) = s.drop n ((s.ch n).gone + 1 + k) := by
  obtain ⟨h1, h2⟩ := tale_room h hm hn hk
  have e1 : ((n : Int)).toNat = n := by omega
  have e2 : (((s.ch n).gone + 1 + k : Nat) : Int).toNat = (s.ch n).gone + 1 + k := by omega
  have hE : cutE s (n : Int) (((s.ch n).gone + 1 + k : Nat) : Int) = 0 := by
    unfold cutE
    rw [if_neg (by omega), e1, e2, if_pos (hasB_iff.2 (tale_has hk)), if_neg (by omega)]
  refine ⟨hE, ?_⟩
  unfold cutS
  rw [if_pos hE, e1, e2]

theorem put_fine {s : Vlt} {vs : List Vlt} (h : TaleOk s vs) (hm : vs.length < 24) {n : Nat} {t : ByteArray} (hn : n < 4) (ht : t.size ≤ 400) : putE s (n : Int) t = 0 ∧ putN s (n : Int) t = (((s.ch n).last + 1 : Nat) : Int) ∧ putS s (n : Int) t = s.put n t := by
  have hf := tale_full h hm hn ht
  have e1 : ((n : Int)).toNat = n := by omega
  have hE : putE s (n : Int) t = 0 := by
    unfold putE
    rw [if_neg (by omega), if_neg (by omega), e1]
    exact if_neg hf
  refine ⟨hE, ?_, ?_⟩
  · unfold putN; rw [if_pos hE, e1]
  · unfold putS; rw [if_pos hE, e1]

/-- What told leaves. -/
def ToldPost (w : World) (e : Ending) (w' : World) : Prop :=
  ∃ q p, e = .returned (.tuple #[.pointer (some ⟨q, 0, none⟩), .bool true]) ∧ ∃ cur a b c lv tv s vs rs, TaleAt w w' q p cur a b c lv tv s vs rs ∧ TaleOk s vs
/-- A round's end. -/
structure TaleR (w0 : World) (q p N : Nat) (i : Value) (wr : World) : Prop where
  ex : ∃ (j : Nat) (cur : Nat → Value) (a b c lv : Value) (tv : Nat → Value) (s : Vlt) (vs : List Vlt) (rs : List (Nat → Value)), i = .int .i64 j ∧ j ≤ N + 5 ∧ Hid (TaleAt w0 wr q p cur a b c lv tv s vs rs) ∧ Hid (TaleOk s vs)

set_option maxHeartbeats 16000000 in
theorem told_long (text : ByteArray) (B off cap : Nat) (zs : List Int) (w : World) (ht : text.size ≤ 9223372036854775807) (hz : zs.length ≤ 1000000000000000) (hbw : B < w.heap.size)
    (hr : ∀ i z, zs[i]? = some z → w.cell? ⟨B, off + i, none⟩ = some (.int .i64 z)) (hw : ∀ z ∈ zs, -9223372036854775808 ≤ z ∧ z ≤ 9223372036854775807) (hcap : zs.length ≤ cap) :
    Calls Tryz.prog 5 #[.string text, .slice (some ⟨B, off, none⟩) zs.length cap] w (ToldPost w) := by
  have HR : Hid (∀ i z, zs[i]? = some z → w.cell? ⟨B, off + i, none⟩ = some (.int .i64 z)) := hr
  have HW : Hid (∀ z ∈ zs, -9223372036854775808 ≤ z ∧ z ≤ 9223372036854775807) := hw
  clear hr hw
  go_enter Tryz.func5, Tryz.ntmps5
  go_wp2_with fail
  refine (cnew_any _).mono ?_
  rintro e w1 ⟨rfl, hv1, b1⟩
  have HV1 : Hid (VaultAt w1 w.heap.size (.slice none 0 0) (fun _ => .slice none 0 0) noVault) := hv1
  clear hv1
  go_wp2_with fail
  refine (works_any _).mono ?_
  rintro e w3 ⟨rfl, b3⟩
  have hT0 := tale_begin HV1.out b1 (by simpa using b3)
  have HT0 : Hid (TaleAt w w3 w1.heap.size w.heap.size (fun _ => .slice none 0 0) (.slice none 0 0) (.slice none 0 0) (.slice none 0 0) (.slice none 0 0) (fun _ => .slice none 0 0) noVault [] []) := hT0
  have k0 := hT0.st.cells.1
  clear hT0 b3 HV1 b1
  generalize w1.heap.size = q at *
  generalize hp : w.heap.size = p at *
  have HP : Hid (w.heap.size = p) := hp
  clear hp
  go_wp2_with fail
  refine (notes_any q p (firstsOf noVault) _ _ _ _ _ _ noVault [] [] [] _ HT0.out.st (by simp) (by simp) (by simp) (fun i _ => ⟨_, _, _, rfl⟩)).mono ?_
  rintro e w4 ⟨rfl, a1, b1, c1, hs4, ho4, hl4⟩
  have HT1 : Hid (TaleAt w w4 q p _ a1 b1 c1 _ _ noVault [noVault] [_]) := HT0.out.noted hs4 ho4 hl4
  clear hs4 ho4 hl4 HT0 k0
  go_wp2
  go_loopw [8] (fun i wr => TaleR w q p zs.length i wr) (fun i _ => zs.length + 6 - (intOf i).toNat)
  case atStart => exact ⟨0, _, a1, b1, c1, _, _, _, _, _, rfl, by omega, HT1, tale_first⟩
  case round =>
    obtain ⟨j, cur, a, b, c, lv, tv, s, vs, rs, rfl, hj, HT, HK⟩ := hrel.ex
    clear hrel HT1
    have hlen := HT.out.len
    have k9 := HT.out.st.cells.2.1
    obtain ⟨oa, ca, hav⟩ := row_slice HT.out.st.logs
    rw [List.length_map] at hav
    rw [hav] at k9
    have w4j : IntKind.i64.wrap ((j : Int) + 4) = (j : Int) + 4 := by rw [IntKind.wrap_i64]; omega
    by_cases hlt : j + 4 < zs.length
    · have c1 : (j : Int) + 4 < (zs.length : Int) := by omega
      by_cases hmv : vs.length < 24
      · have c2 : (vs.length : Int) < 24 := by omega
        have hbel := HT.out.below
        have hBw : B < w.heap.size := by rw [HP.out]; exact hbw
        have z0 := (hbel.cell (p := ⟨B, off + j, none⟩) hBw).trans (HR.out j zs[j] (List.getElem?_eq_getElem (by omega)))
        have z1 := (hbel.cell (p := ⟨B, off + (j + 1), none⟩) hBw).trans (HR.out (j + 1) zs[j + 1] (List.getElem?_eq_getElem (by omega)))
        have z2 := (hbel.cell (p := ⟨B, off + (j + 2), none⟩) hBw).trans (HR.out (j + 2) zs[j + 2] (List.getElem?_eq_getElem (by omega)))
        have r0 := HW.out zs[j] (List.getElem_mem (by omega))
        have r1 := HW.out zs[j + 1] (List.getElem_mem (by omega))
        have r2 := HW.out zs[j + 2] (List.getElem_mem (by omega))
        generalize zs[j] = y0 at *
        generalize zs[j + 1] = y1 at *
        generalize zs[j + 2] = y2 at *
        have w1j : IntKind.i64.wrap ((j : Int) + 1) = (j : Int) + 1 := by rw [IntKind.wrap_i64]; omega
        have w2j : IntKind.i64.wrap ((j : Int) + 2) = (j : Int) + 2 := by rw [IntKind.wrap_i64]; omega
        have w5j : IntKind.i64.wrap ((j : Int) + 5) = (j : Int) + 5 := by rw [IntKind.wrap_i64]; omega
        have d0 : (j : Int) < (zs.length : Int) := by omega
        have d1 : (j : Int) + 1 < (zs.length : Int) := by omega
        have d2 : (j : Int) + 2 < (zs.length : Int) := by omega
        clear hbel
        go_wp2_with fail
        refine (pick_eq y0 4 _ r0.1 r0.2 (by omega) (by omega)).mono ?_
        rintro e w5 ⟨rfl, rfl⟩
        have hn := pickN_lt y0 4 (by omega)
        generalize pickN y0 4 = n at *
        have kr := HT.out.st.cellR n hn
        obtain ⟨lo, lc, hcn, hlc, hrw⟩ := (HT.out.now n hn).1
        have HRW : Hid (∀ (i : Nat) (t : ByteArray), (s.ch n).texts[i]? = some t → ∃ g k, lo = some ⟨g, k, none⟩ ∧ wr.cell? ⟨g, k + i, none⟩ = some (.string t)) := hrw
        clear hrw
        rw [hcn] at kr
        have hnn : (n : Int) < 4 := by omega
        go_wp2_with fail
        refine (pick_eq y1 5 _ r1.1 r1.2 (by omega) (by omega)).mono ?_
        rintro e w5 ⟨rfl, rfl⟩
        generalize pickN y1 5 = m1 at *
        by_cases hpr : m1 = 0 ∧ 0 < (s.ch n).texts.length
        · obtain ⟨rfl, hpos⟩ := hpr
          have hposI : (0 : Int) < ((s.ch n).texts.length : Int) := by omega
          have hnum := HK.out.nums s HK.out.mem n
          have hlast : (s.ch n).last = (s.ch n).gone + (s.ch n).texts.length := rfl
          have HLB : Hid ((s.ch n).gone + (s.ch n).texts.length ≤ 24) := by have := HK.out.many; unfold Hid; omega
          clear hnum hlast
          go_wp2_with fail
          refine (pick_eq y2 (s.ch n).texts.length _ r2.1 r2.2 hpos (by have := HLB.out; omega)).mono ?_
          rintro e w5 ⟨rfl, rfl⟩
          have hk := pickN_lt y2 _ hpos
          generalize pickN y2 (s.ch n).texts.length = k at *
          have hF : firstsOf s n = (s.ch n).gone + 1 := by unfold firstsOf firstN; rw [if_neg (List.ne_nil_of_length_pos hpos)]
          have HPR : Hid (Calls Tryz.prog 18 #[.pointer (some ⟨p, 0, none⟩), .int .i64 n, .int .i64 ((firstsOf s n + k : Nat) : Int)] (wr.drewN 1) fun e w' => e = .returned (.int .i64 0) ∧ Hid (Moves p lv tv (s.drop n ((s.ch n).gone + 1 + k)) (wr.drewN 1) w')) := by
            have := cprune_any p n (((s.ch n).gone + 1 + k : Nat) : Int) lv tv s (wr.drewN 1) (HT.out.st.vault.drewN 1) (HK.out.ok s HK.out.mem).1
            obtain ⟨x1, x2⟩ := prune_ok HK.out hmv hn hk
            rw [x1, x2] at this
            unfold Hid
            rw [hF]; exact this
          have k0 := HT.out.st.cells.1
          have kf := HT.out.st.cellF n hn
          obtain ⟨g0, j0, hlo, -⟩ := HRW.out 0 (s.ch n).texts[0] (List.getElem?_eq_getElem hpos)
          subst hlo
          have HFB : Hid (firstsOf s n = (s.ch n).gone + 1) := hF
          have wfk : IntKind.i64.wrap ((firstsOf s n : Int) + (k : Int)) = ((firstsOf s n + k : Nat) : Int) := by have := HLB.out; rw [IntKind.wrap_i64]; omega
          have HPD := fun (w3 : World) (hm : Moves p lv tv (s.drop n ((s.ch n).gone + 1 + k)) wr w3) => HT.out.pruned hn hk hm hcn
          have HPH : Hid (∀ w3 : World, Moves p lv tv (s.drop n ((s.ch n).gone + 1 + k)) wr w3 → _) := HPD
          have HK2 : Hid (TaleOk (s.drop n ((s.ch n).gone + 1 + k)) (vs ++ [s.drop n ((s.ch n).gone + 1 + k)])) := tale_drop HK.out hmv hn hk
          clear hF HPD
          generalize s.drop n ((s.ch n).gone + 1 + k) = s' at *
          generalize firstsOf s n + k = Fk at *
          generalize hFe : firstsOf s n = F at *
          have HFe : Hid (firstsOf s n = F) := hFe
          clear hFe
          go_upto_region 13 with fail
          go_cut [12] (fun v wx => v = .int .i64 0 ∧ Hid (Moves p lv tv s' wr wx))
          case first =>
            go_region_with (first | (go_at_call 18; refine HPR.out.mono ?_; rintro e w6 ⟨rfl, HM⟩))
            all_goals
              have HM2 : Hid (Moves p lv tv s' wr w6) := HM.out.undrew
              clear HM
              go_wp2_with fail
              go_meet
              exact ⟨rfl, HM2⟩
          case rest =>
            obtain ⟨rfl, HM⟩ := hcut
            obtain ⟨lv', tv', hT5, hS5⟩ := HPH.out wc HM.out
            have HT5 : Hid (TaleAt w ((wc.setCell ⟨q, 1 + n, none⟩ (.int .i64 (Fk : Int))).setCell ⟨q, 5 + n, none⟩ (.slice (some ⟨g0, j0 + k, none⟩) ((s.ch n).texts.length - k) (lc - k))) q p (fun i => if i = n then .slice (some ⟨g0, j0 + k, none⟩) ((s.ch n).texts.length - k) (lc - k) else cur i) a b c lv' tv' s' vs rs) := hT5
            have kf5 : wc.cell? ⟨q, 1 + n, none⟩ = some (.int .i64 F) := by rw [← HFe.out]; exact hS5.cellF n hn
            have ff5 := hS5.cells.2.2.2.2 (1 + n)
            have h6 := (hS5.setF n Fk hn).1
            have kr6 := h6.cellR n hn
            rw [hcn] at kr6
            have fr6 := h6.cells.2.2.2.2 (5 + n)
            have hkI : (k : Int) ≤ ((s.ch n).texts.length : Int) := by omega
            have hkN : k ≤ (s.ch n).texts.length := by omega
            have hkC : k ≤ lc := by omega
            have HCU : Hid (∀ i, i < 4 → ∃ ao m cp, (fun i => if i = n then Value.slice (some ⟨g0, j0 + k, none⟩) ((s.ch n).texts.length - k) (lc - k) else cur i) i = .slice ao m cp) := fun i hi => by
              obtain ⟨ao, cp, he, _⟩ := (HT5.out.now i hi).1
              exact ⟨ao, _, cp, he⟩
            clear hT5 hS5 h6 HM HPH HPR kf k0 kr k9
            go_wp2_with fail
            go_region
            go_wp2_with fail
            go_region
            go_wp2_with fail
            have HT6 := (HT5.out.belowed ((Below.refl _ _).drew)).belowed ((Below.refl _ _).drew)
            refine (notes_any q p (firstsOf s') _ a b c lv' tv' s' (vs.map Vlt.log) (vs.map firstsOf) rs _ HT6.st (by rw [List.length_map]; omega) (by rw [List.length_map]; omega) (by omega) HCU.out).mono ?_
            rintro e w7 ⟨rfl, a7, b7, c7, hs7, ho7, hl7⟩
            have HT7 : Hid (TaleAt w w7 q p _ a7 b7 c7 lv' tv' s' (vs ++ [s']) _) := HT6.noted hs7 ho7 hl7
            clear hs7 ho7 hl7 HT6 HT5 kr6 fr6 kf5 ff5
            go_wp2
            go_roundw
            case rel => exact ⟨j + 5, _, a7, b7, c7, lv', tv', s', vs ++ [s'], _, by go_num, by omega, HT7, HK2⟩
            case measure => simp [intOf]; omega
        · have k0 := HT.out.st.cells.1
          have HBK : Hid (∀ (t : ByteArray) (W : World), t.size ≤ 400 → Below wr.heap.size wr W → Calls Tryz.prog 15 #[.pointer (some ⟨p, 0, none⟩), .int .i64 n, .string t] W fun e w' => e = .returned (.tuple #[.int .i64 (((s.ch n).last + 1 : Nat) : Int), .int .i64 0]) ∧ Hid (Moves p lv tv (s.put n t) W w')) := fun t W ht hW => by
            have := cbackup_any p n lv tv s t W (HT.out.st.vault.below hW) (HK.out.ok s HK.out.mem).1 (by omega)
            obtain ⟨x1, x2, x3⟩ := put_fine HK.out hmv hn ht
            rw [x1, x2, x3] at this
            exact this
          have hsz3 := shortB_size text 300
          obtain ⟨i1, hi1, hj0, hj1, hj2⟩ := info_parts Tryz.infoStr
          by_cases h0 : (s.ch n).texts = []
          · have hz0 : (s.ch n).texts.length = 0 := by rw [h0]; rfl
            have hg0 := (HK.out.ok s HK.out.mem).1.none n h0
            have hcn2 := HT.out.nil n hn h0
            rw [hz0] at hcn kr hlc
            have hsl := hcn.symm.trans hcn2
            injection hsl with q1 q2 q3
            subst q1; subst q3
            have HL1 : Hid ((s.ch n).last + 1 = 1) := by unfold Chn.last Hid; rw [hz0, hg0]
            rw [HL1.out] at HBK
            have HB1 : Hid (m1 = 0 ∨ ((m1 : Int) == 0) = false) := by
              by_cases e : m1 = 0
              · exact .inl e
              · exact .inr (beq_false_of_ne (by omega))
            have HPT : Hid (∀ (w3 : World) (t : ByteArray), Moves p lv tv (s.put n t) wr w3 → _) := fun w3 t hm => HT.out.putted hn (HK.out.ok s HK.out.mem).1 hm (w4 := w3.setCell ⟨q, 1 + n, none⟩ (.int .i64 1)) (.inr ⟨rfl, h0⟩)
            have HT3 : Hid (StoryAt wr q p (firstsOf s) cur a b c lv tv s (vs.map Vlt.log) (vs.map firstsOf) rs) := HT.out.st
            clear hcn2 hpr hlc
            rcases HB1.out with rfl | hm0
            all_goals
              rw [hz0]
              go_wp2_with fail
              refine (short_eq text 300 _ (by omega) (by omega)).mono ?_
              rintro e w5 ⟨rfl, rfl⟩
              generalize shortB text 300 = t at *
              go_wp2_with fail
              refine (HBK.out t _ (by omega) (Below.refl _ _)).mono ?_
              rintro e W3 ⟨rfl, HM⟩
              obtain ⟨lvx, tvx, h3, _, _⟩ := HT3.out.moves HM.out
              have kf3 := h3.cellF n hn
              have ff3 := h3.cells.2.2.2.2 (1 + n)
              obtain ⟨lv', tv', hS4, hW4, hP4⟩ := HPT.out W3 t HM.out
              have HK2 : Hid (TaleOk (s.put n t) (vs ++ [s.put n t])) := tale_put HK.out hmv hn (by omega)
              have HS4 : Hid (StoryAt (W3.setCell ⟨q, 1 + n, none⟩ (.int .i64 1)) q p (firstsOf (s.put n t)) cur a b c lv' tv' (s.put n t) (vs.map Vlt.log) (vs.map firstsOf) rs) := hS4
              have HP4 : Hid (∀ w6 v, Below (W3.setCell ⟨q, 1 + n, none⟩ (.int .i64 1)).heap.size (W3.setCell ⟨q, 1 + n, none⟩ (.int .i64 1)) w6 → OwnStrs w6 (W3.setCell ⟨q, 1 + n, none⟩ (.int .i64 1)).heap.size v ((s.ch n).texts ++ [t]) → TaleAt w (w6.setCell ⟨q, 5 + n, none⟩ v) q p (fun i => if i = n then v else cur i) a b c lv' tv' (s.put n t) vs rs) := hP4
              clear h3 hS4 hW4 hP4 HM
              go_wp2_with (first | (at_builtin; refine wpList_append_own_none rfl _ _ 28 rfl 0 9 i1 1 Tryz.underlying28 hi1 (.slice none 0 0) 0 [] rfl (World.ownsRow_nil _ _ _ _) rfl ?_))
              have hq4 : q < (W3.setCell ⟨q, 1 + n, none⟩ (.int .i64 1)).heap.size := HS4.out.lt
              have kr4 : (W3.setCell ⟨q, 1 + n, none⟩ (.int .i64 1)).cell? ⟨q, 5 + n, none⟩ = some (cur n) := HS4.out.cellR n hn
              have fr4 := HS4.out.cells.2.2.2.2 (5 + n)
              rw [hcn] at kr4
              clear kf3 ff3
              generalize W3.setCell ⟨q, 1 + n, none⟩ (.int .i64 1) = W4 at *
              have B5 : Below W4.heap.size W4 W4 := Below.refl _ _
              have hne5 : (Value.slice none 0 0).ownBlock ≠ some q := by intro h; cases h
              have HLL : Hid ((s.ch n).texts.length = 0) := hz0
              have hL63 : 0 + 1 ≤ maxLen := by unfold maxLen; omega
              have hL16 : (0 + 1) * 16 ≤ 140737488355328 := by omega
              have HW5 : Hid (∀ W : World, (∀ k, k < W4.heap.size → W.heap[k]? = W4.heap[k]?) → W.ownsRow W4.heap.size 9 1 (.slice none 0 0) 0 ((s.ch n).texts.map .string)) := fun W hW => by rw [h0]; exact World.ownsRow_nil _ _ _ _
              have F16 : Hid (∀ W : World, (∀ k, k < W4.heap.size → W.heap[k]? = W4.heap[k]?) → W.ownsRow W4.heap.size 9 1 (.slice none 0 0) 0 ((s.ch n).texts.map .string)) := HW5
              have hq5 : q < W4.heap.size := Nat.lt_of_lt_of_le hq4 B5.size
              have kr5 := (B5.cell (p := ⟨q, 5 + n, none⟩) hq4).trans kr4
              have fr5 := (B5.frozen (p := ⟨q, 5 + n, none⟩) hq4).trans fr4
              have hb45 := B5.size
              clear HW5 kr4 fr4
              go_region_law
                ((refine step_append_lies _ rfl (.tmp 176) (.tmp 178) 28 rfl W4.heap.size 9 i1 (.string ⟨#[]⟩) 1 16 Tryz.underlying28 hi1 hj0 hj1 hj2 rfl (by decide) (.slice none 0 0) 0 ((s.ch n).texts.map .string) (by simp [Act.eval, Act.put]) (F16.out _ (fun k hk => heap_alloc_old _ _ hk)) ⟨W4.heap.size, 0, none⟩ 1 1 [.string t] (by simp [Act.eval, Act.put]) rfl (str_cells W4 t) (str_one t) (by decide) hL63 hL16 (alloc_le hb45) (W4.heap.size + 1) alloc_size1 ?_; intro g6 cap6 w6 hown6 hgr6 hat6 hlt6; have F6 := far_new hgr6 (w4 := W4) (fun q hq => heap_alloc_old _ _ hq) (alloc_le (Nat.le_refl _)); have e6 := (World.cell?_of_block (a := ⟨q, 5 + n, none⟩) (F6 q hq5 hne5)).trans kr5; have f6 := (World.frozen?_of_block (a := ⟨q, 5 + n, none⟩) (F6 q hq5 hne5)).trans fr5))
              all_goals
                have B6 : Below W4.heap.size W4 w6 := ((B5.alloc hb45 _).drew).grown hgr6 (alloc_le hb45) (fun k hk => row_own_ge (F16.out _ (fun k hk => rfl)) hk)
                have O6 : OwnStrs w6 W4.heap.size (.slice (some ⟨g6, 0, none⟩) (0 + 1) cap6) ((s.ch n).texts ++ [t]) := by
                  unfold OwnStrs; rw [List.map_append, List.length_append, HLL.out]; exact hown6
                have hT6 := HP4.out w6 _ B6 O6
                have HT6 : Hid (TaleAt w (w6.setCell ⟨q, 5 + n, none⟩ (.slice (some ⟨g6, 0, none⟩) (0 + 1) cap6)) q p (fun i => if i = n then .slice (some ⟨g6, 0, none⟩) (0 + 1) cap6 else cur i) a b c lv' tv' (s.put n t) vs rs) := hT6
                have HCU : Hid (∀ i, i < 4 → ∃ ao m cp, (fun i => if i = n then Value.slice (some ⟨g6, 0, none⟩) (0 + 1) cap6 else cur i) i = .slice ao m cp) := fun i hi => by
                  obtain ⟨ao, cp, he, _⟩ := (HT6.out.now i hi).1
                  exact ⟨ao, _, cp, he⟩
                clear hT6 B6 O6 hown6 hgr6 hat6 F6
                generalize s.put n t = s' at *
                go_wp2_with fail
                refine (notes_any q p (firstsOf s') _ a b c lv' tv' s' (vs.map Vlt.log) (vs.map firstsOf) rs _ HT6.out.st (by rw [List.length_map]; omega) (by rw [List.length_map]; omega) (by omega) HCU.out).mono ?_
                rintro e w7 ⟨rfl, a7, b7, c7, hs7, ho7, hl7⟩
                have HT7 : Hid (TaleAt w w7 q p _ a7 b7 c7 lv' tv' s' (vs ++ [s']) _) := HT6.out.noted hs7 ho7 hl7
                clear hs7 ho7 hl7 HT6 e6 f6
                go_wp2
                go_roundw
                case rel => exact ⟨j + 5, _, a7, b7, c7, lv', tv', s', vs ++ [s'], _, by go_num, by omega, HT7, HK2⟩
                case measure => simp [intOf]; omega
          · have hpos : 0 < (s.ch n).texts.length := List.length_pos_iff.2 h0
            have hm0 : ((m1 : Int) == 0) = false := beq_false_of_ne (by omega)
            obtain ⟨L1, hL1⟩ : ∃ L1, (s.ch n).texts.length = L1 + 1 := ⟨(s.ch n).texts.length - 1, by omega⟩
            have HLL : Hid ((s.ch n).texts.length = L1 + 1) := hL1
            have hposI : (0 : Int) < (L1 : Int) + 1 := by omega
            have hl0 : ((L1 : Int) + 1 == 0) = false := beq_false_of_ne (by omega)
            have HLB : Hid ((s.ch n).gone + (s.ch n).texts.length ≤ 24) := by have h1 := HK.out.many; have h2 := HK.out.nums s HK.out.mem n; unfold Chn.last at h2; unfold Hid; omega
            have hlen24 : L1 ≤ 24 := by have := HLB.out; omega
            have hrows := HRW.out
            obtain ⟨g0, j0, hlo, -⟩ := hrows 0 (s.ch n).texts[0] (List.getElem?_eq_getElem hpos)
            subst hlo
            have HROWS : Hid (∀ (i : Nat) (t : ByteArray), (s.ch n).texts[i]? = some t → wr.cell? ⟨g0, j0 + i, none⟩ = some (.string t)) := fun i t ht => by
              obtain ⟨g', k', e, hcell⟩ := hrows i t ht
              injection e with e
              injection e with e1 e2
              subst e1; subst e2
              exact hcell
            have hg0 : g0 < wr.heap.size := ((HT.out.now n hn).2 g0 (by rw [hcn]; rfl)).1
            have hx := List.getElem?_eq_getElem (show L1 < (s.ch n).texts.length by omega)
            have xc := HROWS.out _ _ hx
            have xs : ((s.ch n).texts[L1]'(by omega)).size ≤ 400 := HK.out.sizes n _ (List.getElem_mem _)
            have hs30 := shortB_size text 30
            have SH : Hid (∀ W, Calls Tryz.prog 22 #[.string text, .int .i64 30] W fun e w' => e = .returned (.string (shortB text 30)) ∧ W = w') := fun W => short_eq text 30 W (by omega) (by omega)
            have HTU : Hid (∀ (W : World) (y : ByteArray), Below wr.heap.size wr W → y.size ≤ 700 → Calls Tryz.prog 23 #[.string y, .slice (some ⟨B, off + j, none⟩) (((j : Int) + 5).toNat - j) (cap - j), .int .i64 400] W fun e w' => (∃ t : ByteArray, e = .returned (.string t) ∧ t.size ≤ 400) ∧ Below W.heap.size W w') := fun W y hW hy => by
              have hb2 := HT.out.below.trans (hW.mono HT.out.below.size)
              have hl5 : ((zs.drop j).take 5).length = 5 := by rw [List.length_take, List.length_drop]; omega
              have := turned_any y B (off + j) (cap - j) ((zs.drop j).take 5) 400 W hy (by omega) (by omega) (Nat.lt_of_lt_of_le hBw hb2.size) (fun i z hi => by
                have hi5 := (List.getElem?_eq_some_iff.1 hi).1
                rw [List.getElem?_take_of_lt (by omega), List.getElem?_drop] at hi
                rw [Nat.add_assoc]
                exact (hb2.cell (p := ⟨B, off + (j + i), none⟩) hBw).trans (HR.out (j + i) z hi)) (fun z hz => HW.out z (List.mem_of_mem_drop (List.mem_of_mem_take hz)))
              rw [hl5] at this
              rw [show ((j : Int) + 5).toNat - j = 5 by omega]
              exact this
            generalize (s.ch n).texts[L1]'(by omega) = x at *
            generalize shortB text 30 = s30 at *
            have wL1 : IntKind.i64.wrap (L1 : Int) = (L1 : Int) := by rw [IntKind.wrap_i64]; omega
            have il1 : (L1 : Int) < (L1 : Int) + 1 := by omega
            have cx : ¬ 9223372036854775807 < x.size + s30.size := by omega
            have hsx : (x ++ s30).size ≤ 700 := by rw [ByteArray.size_append]; omega
            have sj0 : (j : Int) ≤ (j : Int) + 5 := by omega
            have sj1 : (j : Int) + 5 ≤ (cap : Int) := by omega
            rw [hL1] at hcn kr
            rw [hL1]
            clear hx hrows hpr hlc hL1 hpos
            go_wp2_with fail
            refine (short_eq text 300 _ (by omega) (by omega)).mono ?_
            rintro e w5 ⟨rfl, rfl⟩
            go_upto_region 20 with fail
            go_cut [13] (fun v wx => ∃ t : ByteArray, v = .string t ∧ t.size ≤ 400 ∧ Hid (Below wr.heap.size wr wx))
            case first =>
              clear HT HK HR HW HBK z0 z1 z2 kr k0 k9 w4j w1j w2j c1 c2 d0 d1 d2 hlen hav hcn hm0 hl0 hposI r0 r1 r2
              go_region_held3 (fun w' => w'.cell? ⟨g0, j0 + L1, none⟩ = some (.string x)) (go_keep)
                (first | (go_at_call 22; refine (SH.out _).mono ?_; rintro e w6 ⟨rfl, rfl⟩; have e0 := xc) | (go_at_call 23; refine (HTU.out (wr.drewN 1) (x ++ s30) (below_drewN0 _ _ _) hsx).mono ?_; rintro e w7 ⟨⟨t, rfl, ht4⟩, b7⟩; have e0 := (b7.cell (p := ⟨g0, j0 + L1, none⟩) hg0).trans xc))
              all_goals
                have R7 : Hid (Below wr.heap.size wr w7) := (below_drewN0 _ _ 1).trans b7
                clear b7
                go_wp2_with fail
                go_meet
                exact ⟨t, rfl, ht4, R7⟩
            case rest =>
              obtain ⟨t, rfl, ht4, HB5⟩ := hcut
              generalize wc = W2 at *
              have k02 := (HB5.out.cell (p := ⟨q, 0, none⟩) HT.out.st.lt).trans k0
              have HT2 : Hid (TaleAt w W2 q p cur a b c lv tv s vs rs) := HT.out.belowed HB5.out
              have HLA : Hid ((s.ch n).last + 1 = (s.ch n).gone + 1 + (L1 + 1)) := by have := HLL.out; unfold Chn.last Hid; omega
              have HPT : Hid (∀ (w3 : World), Moves p lv tv (s.put n t) W2 w3 → _) := fun w3 hm => HT2.out.putted hn (HK.out.ok s HK.out.mem).1 hm (w4 := w3) (.inl ⟨rfl, h0⟩)
              have HFI : Hid (firstsOf (s.put n t) n = (s.ch n).gone + 1) := by
                unfold Hid
                rw [firstN_put (HK.out.ok s HK.out.mem).1]
                simp only [if_true, if_neg h0]
                unfold firstsOf firstN; rw [if_neg h0]
              have HBK2 : Hid (Calls Tryz.prog 15 #[.pointer (some ⟨p, 0, none⟩), .int .i64 n, .string t] W2 fun e w' => e = .returned (.tuple #[.int .i64 (((s.ch n).gone + 1 + (L1 + 1) : Nat) : Int), .int .i64 0]) ∧ Hid (Moves p lv tv (s.put n t) W2 w')) := by
                have := HBK.out t W2 ht4 HB5.out
                rw [HLA.out] at this; exact this
              have HK2 : Hid (TaleOk (s.put n t) (vs ++ [s.put n t])) := tale_put HK.out hmv hn ht4
              have hgb : (s.ch n).gone + 1 ≤ 100 := by have := HLB.out; omega
              generalize (s.ch n).gone + 1 = G1 at *
              clear kr k0 k9 z0 z1 z2 HT xc HTU SH HBK
              go_wp2_with fail
              refine HBK2.out.mono ?_
              rintro e W4 ⟨rfl, HM⟩
              obtain ⟨lv', tv', hS4, hW4, hP4⟩ := HPT.out W4 HM.out
              have HS4 : Hid (StoryAt W4 q p (firstsOf (s.put n t)) cur a b c lv' tv' (s.put n t) (vs.map Vlt.log) (vs.map firstsOf) rs) := hS4
              have HP4 : Hid (∀ w6 v, Below W4.heap.size W4 w6 → OwnStrs w6 W4.heap.size v ((s.ch n).texts ++ [t]) → TaleAt w (w6.setCell ⟨q, 5 + n, none⟩ v) q p (fun i => if i = n then v else cur i) a b c lv' tv' (s.put n t) vs rs) := hP4
              have kf4 : W4.cell? ⟨q, 1 + n, none⟩ = some (.int .i64 G1) := by rw [← HFI.out]; exact HS4.out.cellF n hn
              have hv4 := hW4 n hn
              rw [hcn] at hv4
              obtain ⟨ao', cap', he', _, hr4⟩ := hv4.1
              have HR4 : Hid (∀ (i : Nat) (t : ByteArray), (s.ch n).texts[i]? = some t → W4.cell? ⟨g0, j0 + i, none⟩ = some (.string t)) := fun i t ht => by
                injection he' with x1 x2 x3
                obtain ⟨g', k', e, hcell⟩ := hr4 i t ht
                rw [← x1] at e
                injection e with e
                injection e with e1 e2
                subst e1; subst e2
                exact hcell
              clear hS4 hW4 hP4 HM hv4 he' hr4
              have wgl : IntKind.i64.wrap ((G1 : Int) + ((L1 : Int) + 1)) = ((G1 + (L1 + 1) : Nat) : Int) := by rw [IntKind.wrap_i64]; omega
              go_wp2_with (first | (at_builtin; refine wpList_append_own _ rfl _ _ 28 rfl W4.heap.size 9 i1 (.string ⟨#[]⟩) 1 16 Tryz.underlying28 hi1 hj0 hj1 hj2 rfl (by decide) (.slice none 0 0) 0 [] rfl (World.ownsRow_nil _ _ _ _) ⟨g0, j0, none⟩ (L1 + 1) lc ((s.ch n).texts.map .string) rfl ?c1 ?c2 ?c3 ?c4 ?c5 ?c6 ?_))
              case c1 => rw [List.length_map, HLL.out]; omega
              case c2 =>
                intro i u hu
                rw [List.getElem?_map] at hu
                rw [show (⟨g0, j0, none⟩ : Addr).add i = ⟨g0, j0 + i, none⟩ from by unfold Addr.add; split <;> simp_all]
                cases htt : (s.ch n).texts[i]? with
                | none => rw [htt] at hu; cases hu
                | some tt =>
                  rw [htt] at hu
                  injection hu with hu
                  subst hu
                  exact HR4.out i tt htt
              case c3 => intro u hu; obtain ⟨x, _, rfl⟩ := List.mem_map.1 hu; rfl
              case c4 => unfold maxLen; omega
              case c5 => omega
              case c6 => exact Nat.le_refl _
              intro v16 W5 ho16 hg16 _
              (try simp only [Nat.zero_add, List.nil_append] at ho16)
              have B5 : Below W4.heap.size W4 W5 := (Below.refl _ W4).grown hg16 (Nat.le_refl _) (fun k hk => by cases hk)
              obtain ⟨vo, vc, hv16⟩ := row_slice ho16
              subst hv16
              have hq4 : q < W4.heap.size := HS4.out.lt
              have kr4 : W4.cell? ⟨q, 5 + n, none⟩ = some (cur n) := HS4.out.cellR n hn
              have fr4 := HS4.out.cells.2.2.2.2 (5 + n)
              rw [hcn] at kr4
              have hne5 : (Value.slice vo (L1 + 1) vc).ownBlock ≠ some q := fun h => by have := row_own_ge ho16 h; omega
              have hL63 : L1 + 1 + 1 ≤ maxLen := by unfold maxLen; omega
              have hL16 : (L1 + 1 + 1) * 16 ≤ 140737488355328 := by omega
              have HW5 : Hid (∀ W : World, (∀ k, k < W5.heap.size → W.heap[k]? = W5.heap[k]?) → W.ownsRow W4.heap.size 9 1 (.slice vo (L1 + 1) vc) (L1 + 1) ((s.ch n).texts.map .string)) := by
                have HO : Hid (W5.ownsRow W4.heap.size 9 1 (.slice vo (L1 + 1) vc) (L1 + 1) ((s.ch n).texts.map .string)) := ho16
                exact fun W hW => row_block HO.out (fun g hg => hW g (row_own_lt HO.out hg))
              clear ho16 hg16 kf4 HR4 wgl hl0 wL1
              (try go_wp2_with fail)
              have F16 : Hid (∀ W : World, (∀ k, k < W5.heap.size → W.heap[k]? = W5.heap[k]?) → W.ownsRow W4.heap.size 9 1 (.slice vo (L1 + 1) vc) (L1 + 1) ((s.ch n).texts.map .string)) := HW5
              have hq5 : q < W5.heap.size := Nat.lt_of_lt_of_le hq4 B5.size
              have kr5 := (B5.cell (p := ⟨q, 5 + n, none⟩) hq4).trans kr4
              have fr5 := (B5.frozen (p := ⟨q, 5 + n, none⟩) hq4).trans fr4
              have hb45 := B5.size
              clear HW5 kr4 fr4
              go_region_law
                ((refine step_append_lies _ rfl (.tmp 176) (.tmp 178) 28 rfl W4.heap.size 9 i1 (.string ⟨#[]⟩) 1 16 Tryz.underlying28 hi1 hj0 hj1 hj2 rfl (by decide) (.slice vo (L1 + 1) vc) (L1 + 1) ((s.ch n).texts.map .string) (by simp [Act.eval, Act.put]) (F16.out _ (fun k hk => heap_alloc_old _ _ hk)) ⟨W5.heap.size, 0, none⟩ 1 1 [.string t] (by simp [Act.eval, Act.put]) rfl (str_cells W5 t) (str_one t) (by decide) hL63 hL16 (alloc_le hb45) (W5.heap.size + 1) alloc_size1 ?_; intro g6 cap6 w6 hown6 hgr6 hat6 hlt6; have F6 := far_new hgr6 (w4 := W5) (fun q hq => heap_alloc_old _ _ hq) (alloc_le (Nat.le_refl _)); have e6 := (World.cell?_of_block (a := ⟨q, 5 + n, none⟩) (F6 q hq5 hne5)).trans kr5; have f6 := (World.frozen?_of_block (a := ⟨q, 5 + n, none⟩) (F6 q hq5 hne5)).trans fr5))
              all_goals
                have B6 : Below W4.heap.size W4 w6 := ((B5.alloc hb45 _).drew).grown hgr6 (alloc_le hb45) (fun k hk => row_own_ge (F16.out _ (fun k hk => rfl)) hk)
                have O6 : OwnStrs w6 W4.heap.size (.slice (some ⟨g6, 0, none⟩) ((L1 + 1) + 1) cap6) ((s.ch n).texts ++ [t]) := by
                  unfold OwnStrs; rw [List.map_append, List.length_append, HLL.out]; exact hown6
                have hT6 := HP4.out w6 _ B6 O6
                have HT6 : Hid (TaleAt w (w6.setCell ⟨q, 5 + n, none⟩ (.slice (some ⟨g6, 0, none⟩) ((L1 + 1) + 1) cap6)) q p (fun i => if i = n then .slice (some ⟨g6, 0, none⟩) ((L1 + 1) + 1) cap6 else cur i) a b c lv' tv' (s.put n t) vs rs) := hT6
                have HCU : Hid (∀ i, i < 4 → ∃ ao m cp, (fun i => if i = n then Value.slice (some ⟨g6, 0, none⟩) ((L1 + 1) + 1) cap6 else cur i) i = .slice ao m cp) := fun i hi => by
                  obtain ⟨ao, cp, he, _⟩ := (HT6.out.now i hi).1
                  exact ⟨ao, _, cp, he⟩
                clear hT6 B6 O6 hown6 hgr6 hat6 F6
                generalize s.put n t = s' at *
                go_wp2_with fail
                refine (notes_any q p (firstsOf s') _ a b c lv' tv' s' (vs.map Vlt.log) (vs.map firstsOf) rs _ HT6.out.st (by rw [List.length_map]; omega) (by rw [List.length_map]; omega) (by omega) HCU.out).mono ?_
                rintro e w7 ⟨rfl, a7, b7, c7, hs7, ho7, hl7⟩
                have HT7 : Hid (TaleAt w w7 q p _ a7 b7 c7 lv' tv' s' (vs ++ [s']) _) := HT6.out.noted hs7 ho7 hl7
                clear hs7 ho7 hl7 HT6 e6 f6
                go_wp2
                go_roundw
                case rel => exact ⟨j + 5, _, a7, b7, c7, lv', tv', s', vs ++ [s'], _, by go_num, by omega, HT7, HK2⟩
                case measure => simp [intOf]; omega
      · have c2 : ¬ (vs.length : Int) < 24 := by omega
        go_wp2
        go_ret2
        exact ⟨q, p, rfl, cur, a, b, c, lv, tv, s, vs, rs, HT.out, HK.out⟩
    · have c1 : ¬ (j : Int) + 4 < (zs.length : Int) := by omega
      go_wp2
      go_ret2
      exact ⟨q, p, rfl, cur, a, b, c, lv, tv, s, vs, rs, HT.out, HK.out⟩
end Go.Proofs.YtabpiaaknjcnkabGreat
