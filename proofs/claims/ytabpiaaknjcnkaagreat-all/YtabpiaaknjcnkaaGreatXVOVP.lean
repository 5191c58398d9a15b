/- The texts VO, VP, one behind the other. -/
import Derived.Test.YtabpiaaknjcnkaaGreatXZYZPYLPXVN
import Derived.Test.YtabpiaaknjcnkaaGreatXV7YC
import Derived.Test.YtabpiaaknjcnkaaGreatXVCYJZU
/-
  The walk over addAll: the records of all versions of a chain.
-/
namespace Go.Proofs.YtabpiaaknjcnkaaGreat
open Go.RowKit
set_option linter.unusedVariables false
set_option linter.unusedSimpArgs false
set_option maxRecDepth 100000

theorem restL_snoc (c : Nat) (t : ByteArray) : ∀ (r : List ByteArray) (p : ByteArray), restL c p (r ++ [t]) = restL c p r ++ addedL c ((p :: r).getLast?) t
  | [], p => by simp [restL]
  | x :: r, p => by
    rw [List.cons_append]
    simp only [restL]
    rw [restL_snoc c t r x, List.append_assoc, List.getLast?_cons_cons]
theorem chainL_snoc {c g : Nat} {ts : List ByteArray} {t : ByteArray} (h : ts ≠ []) : chainL c ⟨g, ts ++ [t]⟩ = chainL c ⟨g, ts⟩ ++ addedL c ts.getLast? t := by
  cases ts with
  | nil => exact absurd rfl h
  | cons p r =>
    simp only [chainL, List.cons_append]
    rw [restL_snoc, List.append_assoc]
theorem take_snoc {ts : List ByteArray} {j : Nat} {t : ByteArray} (h : ts[j]? = some t) : ts.take (j + 1) = ts.take j ++ [t] := by
  have hlt := (List.getElem?_eq_some_iff.1 h).1
  have he : ts[j] = t := by rw [List.getElem?_eq_getElem hlt] at h; simpa using h
  rw [List.take_succ_eq_append_getElem hlt, he]
theorem chainL_take {c : Nat} (hc : c < 4) {g : Nat} {ts : List ByteArray} (h1 : g + ts.length ≤ 2147483647) (h2 : ∀ t ∈ ts, t.size ≤ 2000) : ∀ n, n ≤ ts.length → (chainL c ⟨g, ts.take n⟩).length ≤ n * 2040
  | 0, _ => by simp [chainL]
  | n + 1, hn => by
    have hx := List.getElem?_eq_getElem (show n < ts.length by omega)
    have ht := h2 _ (List.mem_of_getElem? hx)
    generalize ts[n]'(by omega) = t at *
    rw [take_snoc hx]
    have ih := chainL_take hc h1 h2 n (by omega)
    by_cases h0 : ts.take n = []
    · rw [h0]
      simp only [List.nil_append, chainL, restL, List.append_nil]
      have hb := (bodyB_len c (g + 1) t (by omega) (by omega) ht).2
      have := (recL_len (b := bodyB c (g + 1) t.data.toList) (by omega)).1
      omega
    · rw [chainL_snoc h0, List.length_append]
      have h4 := addedL_le c (ts.take n).getLast? t
      have hb := (bodyF_len c t (by omega) ht).2
      have := (recL_len (b := bodyF c t.data.toList) (by omega)).1
      omega
theorem addedL_pos (c : Nat) (l : Option ByteArray) (t : ByteArray) : 0 < (addedL c l t).length := by
  unfold addedL
  split
  · have := recL_pos (bodyF c t.data.toList); omega
  · split
    · have := recL_pos (bodyD c (diffF (by assumption) t)); omega
    · have := recL_pos (bodyF c t.data.toList); omega
theorem last_take {ts : List ByteArray} {j : Nat} {x : ByteArray} (h : ts[j]? = some x) : (ts.take (j + 1)).getLast? = some x := by rw [take_snoc h]; simp
theorem chain_next {c g j : Nat} {ts : List ByteArray} {x t : ByteArray} (h : ts[j]? = some x) (h2 : ts[j + 1]? = some t) : chainL c ⟨g, ts.take (j + 1 + 1)⟩ = chainL c ⟨g, ts.take (j + 1)⟩ ++ addedL c (some x) t := by
  rw [take_snoc h2, chainL_snoc (by rw [take_snoc h]; simp), last_take h]

set_option maxHeartbeats 8000000 in
theorem addall_any (p c base : Nat) (v lv : Value) (tv : Nat → Value) (s : Vlt) (bs : List UInt8) (w : World) (hv : VaultAt w p lv tv s) (hok : s.Ok) (hc : c < 4) (hf : ∀ q, foot p lv tv q → q < base) (hbase : base ≤ w.heap.size) (hown : OwnBytes w base v bs) (hbl : bs.length ≤ 20000000000000) :
    Calls Tryz.prog 107 #[v, .int .i64 c, .pointer (some ⟨p, 1 + c * 2, none⟩)] w fun e w' => ∃ v', e = .returned v' ∧ OwnBytes w' base v' (bs ++ chainL c (s.ch c)) ∧ Below base w w' := by
  obtain ⟨vo, vc, hvv⟩ := hown.slice
  subst hvv
  have HO : Hid (OwnBytes w base (.slice vo bs.length vc) bs) := hown
  have HV : Hid (VaultAt w p lv tv s) := hv
  have hlast : (s.ch c).gone + (s.ch c).texts.length ≤ 2147483647 := hok.last c
  obtain ⟨tao, tc, htv⟩ := (hv.row c hc).slice
  have HSZ : Hid (∀ x ∈ (s.ch c).texts, x.size ≤ 2000) := hok.size c
  have HVB : Hid (∀ W, Below base w W → VaultAt W p lv tv s) := fun W hW => HV.out.kept (fun q hq => hW.block q (hf q hq))
  have HCT : Hid (∀ W, Below base w W → Calls Tryz.prog 130 #[.pointer (some ⟨p, 1 + c * 2, none⟩)] W fun e w' => e = .returned (.int .i64 (s.ch c).texts.length) ∧ W = w') := fun W hW => by
    have k2 := (HVB.out W hW).cellT c hc
    rw [htv] at k2
    exact vcount_any p (1 + c * 2) _ tc tao W k2
  have HFI : Hid (∀ W, Below base w W → Calls Tryz.prog 106 #[.pointer (some ⟨p, 1 + c * 2, none⟩)] W fun e w' => e = .returned (.int .i64 ((min ((s.ch c).gone + 1) ((s.ch c).gone + (s.ch c).texts.length) : Nat) : Int)) ∧ Still W w') := fun W hW => by
    have k2 := (HVB.out W hW).cellT c hc
    rw [htv] at k2
    exact vfirst_st p (1 + c * 2) _ _ tc tao W ((HVB.out W hW).cellG c hc) k2 (by omega)
  have HTX : Hid (∀ W, Below base w W → ∀ (i : Nat) (t : ByteArray), (s.ch c).texts[i]? = some t → ∀ z : Int, z = ((s.ch c).gone : Int) + i + 1 → Calls Tryz.prog 51 #[.pointer (some ⟨p, 1 + c * 2, none⟩), .int .i64 z] W fun e w' => e = .returned (.string t) ∧ Still W w') := fun W hW i t ht z hz => by
    have k2 := (HVB.out W hW).cellT c hc
    have hrow := (HVB.out W hW).row c hc
    rw [htv] at k2 hrow
    exact vtext_st p (1 + c * 2) _ i _ _ _ t W ((HVB.out W hW).cellG c hc) k2 hrow ht (by omega) z hz
  obtain ⟨i0, hi, hz0, hz1, hz2⟩ := info_parts Tryz.infoByte
  obtain ⟨CH, hCH⟩ : ∃ CH, CH = chainL c (s.ch c) := ⟨_, rfl⟩
  have HCH : Hid (CH = chainL c ⟨(s.ch c).gone, (s.ch c).texts⟩) := hCH
  rw [← hCH]
  clear hCH
  generalize (s.ch c).gone = gn at *
  generalize (s.ch c).texts = ts at *
  clear hv hown htv hok HV
  by_cases h0 : ts.length = 0
  · have HE : Hid (CH = []) := by
      have := HCH.out
      rw [List.eq_nil_of_length_eq_zero h0] at this
      exact this
    rw [h0] at HCT
    clear h0
    go_enter Tryz.func107, Tryz.ntmps107
    go_wp2_with fail
    refine (HCT.out _ (Below.refl _ _)).mono ?_
    rintro e w1 ⟨rfl, rfl⟩
    go_wp2
    go_ret
    exact ⟨_, rfl, by rw [HE.out, List.append_nil]; exact HO.out, Below.refl _ _⟩
  · have hx := List.getElem?_eq_getElem (show 0 < ts.length by omega)
    have ht0 := HSZ.out _ (List.mem_of_getElem? hx)
    generalize hq0 : ts[0]'(by omega) = t0 at *
    have HT0 : Hid (ts[0]? = some t0) := hx
    obtain ⟨N1, hN1⟩ : ∃ N1, N1 = gn + 1 := ⟨_, rfl⟩
    have HF2 : Hid (∀ W, Below base w W → Calls Tryz.prog 106 #[.pointer (some ⟨p, 1 + c * 2, none⟩)] W fun e w' => e = .returned (.int .i64 (N1 : Int)) ∧ Still W w') := fun W hW => by
      have := HFI.out W hW
      rw [show min (gn + 1) (gn + ts.length) = N1 by omega] at this
      exact this
    have HC1 : Hid (recL (bodyB c N1 t0.data.toList) = chainL c ⟨gn, ts.take 1⟩) := by
      unfold Hid; rw [take_snoc HT0.out, hN1]; simp [chainL, restL]
    have hb0 := bodyB_len c N1 t0 (by omega) (by omega) ht0
    have hrl := recL_len (b := bodyB c N1 t0.data.toList) (by omega)
    have hne : ¬ ((ts.length : Int) = 0) := by omega
    have hpos : 0 < ts.length := by omega
    have HN1 : Hid (N1 = gn + 1) := hN1
    have hN2 : N1 ≤ 2147483647 := by omega
    clear hx hq0 HFI h0 hN1
    go_enter Tryz.func107, Tryz.ntmps107
    go_wp2_with fail
    refine (HCT.out _ (Below.refl _ _)).mono ?_
    rintro e w1 ⟨rfl, rfl⟩
    go_wp2_with fail
    refine (HF2.out _ (Below.refl _ _)).mono ?_
    rintro e w2 ⟨rfl, s2⟩
    go_wp2_with fail
    refine (HTX.out _ (s2.below _) 0 t0 HT0.out _ (by have := HN1.out; omega)).mono ?_
    rintro e w3 ⟨rfl, s3⟩
    have HB3 : Hid (Below base w w3) := (s2.below _).trans (s3.below _)
    have HO3 : Hid (OwnBytes w3 base (.slice vo bs.length vc) bs) := own_still (own_still HO.out s2) s3
    have hs3 : w3.heap.size = w.heap.size := by rw [s3.size, s2.size]
    clear s2 s3 HO
    go_wp2_with fail
    refine (recbeg_any c N1 t0 _).mono ?_
    rintro e w4 ⟨rfl, rfl⟩
    go_wp2_with fail
    refine (recbytes_base c N1 t0 _ (by omega) (by omega) ht0).mono ?_
    rintro e w5 ⟨v5, rfl, o5, b5⟩
    obtain ⟨ag, ac, rfl, hag, hagl⟩ := own_form o5 (by omega)
    generalize hAA : recL (bodyB c N1 t0.data.toList) = AA at *
    have HO5 : Hid (OwnBytes w5 base (.slice vo bs.length vc) bs) := HO3.out.kept b5
    have HA5 : Hid (OwnBytes w5 w3.heap.size (.slice (some ⟨ag, 0, none⟩) AA.length ac) AA) := o5
    have HB5 : Hid (Below base w w5) := HB3.out.trans (b5.mono (by omega))
    have hs5 := b5.size
    clear o5 b5 HO3
    go_wp2_with (first | (at_builtin; refine wpList_append_own _ rfl _ _ 48 rfl base 5 i0 (.int .u8 0) 1 1 Tryz.underlying48 hi hz0 hz1 hz2 rfl (by decide) _ _ _ rfl HO5.out ⟨ag, 0, none⟩ AA.length ac (AA.map byteV) rfl ?c1 ?c2 ?c3 ?c4 ?c5 ?c6 ?_))
    case c1 => simp
    case c2 => exact own_news HA5.out rfl
    case c3 => intro u hu; obtain ⟨x, _, rfl⟩ := List.mem_map.1 hu; rfl
    case c4 => unfold maxLen; omega
    case c5 => omega
    case c6 => omega
    intro v6 w6 o6 hg6 _
    have HO6 : Hid (OwnBytes w6 base v6 (bs ++ chainL c ⟨gn, ts.take 1⟩)) := by
      show OwnBytes w6 base v6 (bs ++ chainL c ⟨gn, ts.take 1⟩)
      rw [← HC1.out]
      unfold OwnBytes; rw [List.map_append, List.length_append]; exact o6
    have HB6 : Hid (Below base w w6) := HB5.out.grown hg6 (by have := HB5.out.size; omega) (fun k hk => row_own_ge HO5.out hk)
    clear o6 hg6 HO5 HB5 HA5 HC1
    go_wp2
    go_loopw [0, 8, 9] (fun l a i wr => ∃ (j : Nat) (x : ByteArray), a = .string x ∧ i = .int .i64 ((j : Int) + 1) ∧ j < ts.length ∧ Hid (ts[j]? = some x) ∧ x.size ≤ 2000 ∧ Hid (OwnBytes wr base l (bs ++ chainL c ⟨gn, ts.take (j + 1)⟩)) ∧ Hid (Below base w wr)) (fun _ _ i _ => ts.length + 2 - (intOf i).toNat)
    case atStart => exact ⟨0, t0, rfl, rfl, by omega, HT0, ht0, HO6, HB6⟩
    case round =>
      obtain ⟨j, x, rfl, rfl, hj, HX, hxs, HOj, HBj⟩ := hrel
      by_cases hlt : j + 1 < ts.length
      · have c1 : (j : Int) + 1 < (ts.length : Int) := by omega
        have hx2 := List.getElem?_eq_getElem hlt
        have ht2 := HSZ.out _ (List.mem_of_getElem? hx2)
        generalize hq2 : ts[j + 1]'hlt = t at *
        have HT2 : Hid (ts[j + 1]? = some t) := hx2
        have HNX : Hid (chainL c ⟨gn, ts.take (j + 1 + 1)⟩ = chainL c ⟨gn, ts.take (j + 1)⟩ ++ addedL c (some x) t) := chain_next HX.out HT2.out
        have hcl := chainL_take hc hlast HSZ.out (j + 1) (by omega)
        have hbf := bodyF_len c t (by omega) ht2
        have hAl : (addedL c (some x) t).length ≤ 2040 := by
          have h4 := addedL_le c (some x) t
          have := (recL_len (b := bodyF c t.data.toList) (by omega)).1
          omega
        have hAp := addedL_pos c (some x) t
        have wI : IntKind.i64.wrap ((N1 : Int) + ((j : Int) + 1)) = (N1 : Int) + ((j : Int) + 1) := by rw [IntKind.wrap_i64]; omega
        have wj : IntKind.i64.wrap ((j : Int) + 1 + 1) = (j : Int) + 1 + 1 := by rw [IntKind.wrap_i64]; omega
        obtain ⟨lo, lc, hl⟩ := HOj.out.slice
        subst hl
        generalize hLL : bs ++ chainL c ⟨gn, ts.take (j + 1)⟩ = LL at *
        have hLLl : LL.length ≤ 30000000000000 := by rw [← hLL, List.length_append]; omega
        have HLL : Hid (bs ++ chainL c ⟨gn, ts.take (j + 1 + 1)⟩ = LL ++ addedL c (some x) t) := by
          unfold Hid; rw [HNX.out, ← hLL, List.append_assoc]
        clear hx2 hq2 HNX hLL hcl hbf
        go_wp2_with fail
        refine (HCT.out _ HBj.out).mono ?_
        rintro e w7 ⟨rfl, rfl⟩
        go_wp2_with fail
        refine (HTX.out _ HBj.out (j + 1) t HT2.out _ (by have := HN1.out; omega)).mono ?_
        rintro e w7 ⟨rfl, s7⟩
        have HB7 : Hid (Below base w w7) := HBj.out.trans (s7.below _)
        have HO7 : Hid (OwnBytes w7 base (.slice lo LL.length lc) LL) := own_still HOj.out s7
        clear s7 HBj HOj
        go_wp2_with fail
        refine (further_any c x t _ (by omega) hxs ht2).mono ?_
        rintro e w8 ⟨v8, rfl, o8, b8⟩
        obtain ⟨ag, ac, rfl, hag, hagl⟩ := own_form o8 hAp
        generalize addedL c (some x) t = AA at *
        have HO8 : Hid (OwnBytes w8 base (.slice lo LL.length lc) LL) := HO7.out.kept b8
        have HA8 : Hid (OwnBytes w8 w7.heap.size (.slice (some ⟨ag, 0, none⟩) AA.length ac) AA) := o8
        have HB8 : Hid (Below base w w8) := HB7.out.trans (b8.mono (by have := HB7.out.size; omega))
        have hs8 := HB8.out.size
        clear o8 b8 HO7
        go_wp2_with (first | (at_builtin; refine wpList_append_own _ rfl _ _ 48 rfl base 5 i0 (.int .u8 0) 1 1 Tryz.underlying48 hi hz0 hz1 hz2 rfl (by decide) _ _ _ rfl HO8.out ⟨ag, 0, none⟩ AA.length ac (AA.map byteV) rfl ?c1 ?c2 ?c3 ?c4 ?c5 ?c6 ?_))
        case c1 => simp
        case c2 => exact own_news HA8.out rfl
        case c3 => intro u hu; obtain ⟨x, _, rfl⟩ := List.mem_map.1 hu; rfl
        case c4 => unfold maxLen; omega
        case c5 => omega
        case c6 => omega
        intro v9 w9 o9 hg9 _
        have HO9 : Hid (OwnBytes w9 base v9 (bs ++ chainL c ⟨gn, ts.take (j + 1 + 1)⟩)) := by
          show OwnBytes w9 base v9 (bs ++ chainL c ⟨gn, ts.take (j + 1 + 1)⟩)
          rw [HLL.out]
          unfold OwnBytes; rw [List.map_append, List.length_append]; exact o9
        have HB9 : Hid (Below base w w9) := HB8.out.grown hg9 (by omega) (fun k hk => row_own_ge HO8.out hk)
        clear o9 hg9 HO8 HB8 HA8
        go_wp2
        go_roundw
        case rel => exact ⟨j + 1, t, rfl, by go_num, hlt, HT2, ht2, HO9, HB9⟩
        case measure => simp [intOf]; omega
      · have c1 : ¬ (j : Int) + 1 < (ts.length : Int) := by omega
        have HEND : Hid (ts.take (j + 1) = ts) := List.take_of_length_le (by omega)
        go_wp2_with fail
        refine (HCT.out _ HBj.out).mono ?_
        rintro e w7 ⟨rfl, rfl⟩
        go_wp2
        go_ret
        exact ⟨_, rfl, by rw [HCH.out, ← HEND.out]; exact HOj.out, HBj.out⟩
end Go.Proofs.YtabpiaaknjcnkaaGreat

/-
  The walks over Squash.
-/
namespace Go.Proofs.YtabpiaaknjcnkaaGreat
open Go.RowKit
set_option linter.unusedVariables false
set_option linter.unusedSimpArgs false
set_option maxRecDepth 100000

def squashTo (ch : Nat → Chn) : Nat → List UInt8
  | 0 => []
  | n + 1 => squashTo ch n ++ chainL n (ch n)
theorem squashTo_four (ch : Nat → Chn) : squashTo ch 4 = squashL ch := by simp [squashTo, squashL]
theorem chainL_le {c : Nat} (hc : c < 4) {x : Chn} (h1 : x.gone + x.texts.length ≤ 2147483647) (h2 : ∀ t ∈ x.texts, t.size ≤ 2000) : (chainL c x).length ≤ 4380866639880 := by
  have := chainL_take hc h1 h2 x.texts.length (Nat.le_refl _)
  rw [List.take_length] at this
  have e : (⟨x.gone, x.texts⟩ : Chn) = x := rfl
  rw [e] at this
  omega
theorem squashTo_le {s : Vlt} (h : s.Ok) : ∀ n, n ≤ 4 → (squashTo s.ch n).length ≤ n * 4380866639880
  | 0, _ => by simp [squashTo]
  | n + 1, hn => by
    have ih := squashTo_le h n (by omega)
    have := chainL_le (c := n) (by omega) (h.last n) (h.size n)
    simp only [squashTo, List.length_append]
    omega
theorem bytes_wide {w : World} {b : Nat} {v : Value} {bs : List UInt8} (h : OwnBytes w b v bs) : OwnBytes w 0 v bs := by
  refine ⟨h.1, ?_⟩
  rcases h.2 with h' | ⟨g, cap, cur, rfl, hg, hr⟩
  · exact .inl h'
  · exact .inr ⟨g, cap, cur, rfl, Nat.zero_le _, hr⟩
theorem own_nothing (w : World) (b : Nat) : OwnBytes w b (.slice none 0 0) [] := ⟨by simp, .inl ⟨rfl, rfl⟩⟩

/-- Another log, of blocks of its own. -/
theorem VaultAt.logged2 {w w2 : World} {p : Nat} {lv lv' : Value} {tv : Nat → Value} {s : Vlt} {bs : List UInt8} (h : VaultAt w p lv tv s) (hg : Below w.heap.size w w2) (ho : OwnBytes w2 0 lv' bs) (hat : ∀ g, lv'.ownBlock = some g → w.heap.size ≤ g) :
    VaultAt (w2.setCell ⟨p, 0, none⟩ lv') p lv' tv ⟨bs, s.ch⟩ ∧ Out (foot p lv tv) w (w2.setCell ⟨p, 0, none⟩ lv') ∧ (∀ q, foot p lv' tv q → foot p lv tv q ∨ w.heap.size ≤ q) := by
  have hp := h.lt
  have hb : w2.heap[p]? = some (.cells (vcells lv tv s) 81 (0, 0)) := (hg.block p hp).trans h.blk
  have hl : lv'.ownBlock ≠ some p := fun e => by have := hat p e; omega
  refine ⟨⟨Lib.heap_setCell_same hb _, row_block ho (fun g hg' => Below.heap_setCell _ _ _ _ (fun e => hl (by rw [hg', e]))), fun i hi => ?_, h.apart⟩, (Out.of_below hg).set (.inl rfl) _, ?_⟩
  · refine row_block (h.row i hi) (fun g hg' => ?_)
    exact (Below.heap_setCell _ _ _ _ (fun e => h.rowp i hi (by rw [hg', e]))).trans (hg.block g (row_own_lt (h.row i hi) hg'))
  · rintro q (rfl | hq | ⟨i, hi, hq⟩)
    · exact .inl (.inl rfl)
    · exact .inr (hat q hq)
    · exact .inl (.inr (.inr ⟨i, hi, hq⟩))

set_option maxHeartbeats 8000000 in
theorem ssquash_any (p : Nat) (lv : Value) (tv : Nat → Value) (s : Vlt) (w : World) (hv : VaultAt w p lv tv s) (hok : s.Ok) :
    Calls Tryz.prog 81 #[.pointer (some ⟨p, 0, none⟩)] w fun e w' => e = .returned (.tuple #[]) ∧ Moves p lv tv s.squash w w' := by
  have HV : Hid (VaultAt w p lv tv s) := hv
  have HAD : Hid (∀ (c : Nat) (v : Value) (W : World), c < 4 → Below w.heap.size w W → OwnBytes W w.heap.size v (squashTo s.ch c) → Calls Tryz.prog 107 #[v, .int .i64 c, .pointer (some ⟨p, 1 + c * 2, none⟩)] W fun e w' => ∃ v', e = .returned v' ∧ OwnBytes w' w.heap.size v' (squashTo s.ch (c + 1)) ∧ Below w.heap.size W w') := fun c v W hc hW ho =>
    addall_any p c w.heap.size v lv tv s _ W (hv.below hW) hok hc hv.foot_lt hW.size ho (by have := squashTo_le hok c (by omega); omega)
  obtain ⟨lo, lc, hlv⟩ := hv.log.slice
  have hlog := hok.log
  have k0 : w.cell? ⟨p, 0, none⟩ = some (.slice lo s.log.length lc) := by rw [← hlv]; exact hv.cell0
  have hp := hv.lt
  have hfz := hv.frozen 0
  have HQ4 := squashTo_le hok 4 (by omega)
  have HSQ : Hid (s.squash = ⟨if (squashTo s.ch 4).length ≤ s.log.length then squashTo s.ch 4 else s.log, s.ch⟩) := by
    unfold Hid; rw [squashTo_four]; rfl
  generalize hST : squashTo s.ch = ST at *
  have HS0 : Hid (ST 0 = []) := by unfold Hid; rw [← hST]; rfl
  clear hv hok hST hlv
  go_enter Tryz.func81, Tryz.ntmps81
  go_wp2
  go_loopw [2, 4] (fun l i wr => ∃ j : Nat, i = .int .i64 j ∧ j ≤ 4 ∧ Hid (OwnBytes wr w.heap.size l (ST j)) ∧ Hid (Below w.heap.size w wr)) (fun _ i _ => 5 - (intOf i).toNat)
  case atStart => exact ⟨0, rfl, by omega, by unfold Hid; rw [HS0.out]; exact own_nothing _ _, Below.refl _ _⟩
  case round =>
    obtain ⟨j, rfl, hj, HO, HB⟩ := hrel
    by_cases hlt : j < 4
    · have c1 : (j : Int) < 4 := by omega
      have wj : IntKind.i64.wrap ((j : Int) + 1) = (j : Int) + 1 := by rw [IntKind.wrap_i64]; omega
      go_wp2_with fail
      refine (HAD.out j _ _ hlt HB.out HO.out).mono ?_
      rintro e w1 ⟨v1, rfl, o1, b1⟩
      have HO1 : Hid (OwnBytes w1 w.heap.size v1 (ST (j + 1))) := o1
      have HB1 : Hid (Below w.heap.size w w1) := HB.out.trans b1
      clear o1 b1 HO HB
      go_wp2
      go_roundw
      case rel => exact ⟨j + 1, by go_num, by omega, HO1, HB1⟩
      case measure => simp [intOf]; omega
    · obtain rfl : j = 4 := by omega
      obtain ⟨l1, lc1, hl1⟩ := HO.out.slice
      subst hl1
      have k1 := (HB.out.cell (p := ⟨p, 0, none⟩) hp).trans k0
      by_cases hle : (ST 4).length ≤ s.log.length
      · have hleI : ((ST 4).length : Int) ≤ (s.log.length : Int) := by omega
        have hfz1 := (HV.out.below HB.out).frozen 0
        have HX : Hid (_ ∧ _ ∧ _) := HV.out.logged2 HB.out (bytes_wide HO.out) (fun g hg => row_own_ge HO.out hg)
        go_wp2
        refine bodyPost_end (results_none rfl _ _ _) rfl ?_
        refine ⟨rfl, ?_⟩
        rw [HSQ.out, if_pos hle]
        exact ⟨_, _, HX.out⟩
      · have hleI : ¬ ((ST 4).length : Int) ≤ (s.log.length : Int) := by omega
        go_wp2
        refine bodyPost_end (results_none rfl _ _ _) rfl ?_
        refine ⟨rfl, ?_⟩
        rw [HSQ.out, if_neg hle]
        exact Moves.stays HV.out HB.out

set_option maxHeartbeats 4000000 in
theorem csquash_any (p : Nat) (lv : Value) (tv : Nat → Value) (s : Vlt) (w : World) (hv : VaultAt w p lv tv s) (hok : s.Ok) :
    Calls Tryz.prog 39 #[.pointer (some ⟨p, 0, none⟩)] w fun e w' => e = .returned (.tuple #[]) ∧ Moves p lv tv s.squash w w' := by
  have HC : Hid (Calls Tryz.prog 81 #[.pointer (some ⟨p, 0, none⟩)] w fun e w' => e = .returned (.tuple #[]) ∧ Moves p lv tv s.squash w w') := ssquash_any p lv tv s w hv hok
  have hp := hv.lt
  clear hv hok
  go_enter Tryz.func39, Tryz.ntmps39
  go_wp2_with fail
  refine HC.out.mono ?_
  rintro e w1 ⟨rfl, m1⟩
  have HM : Hid (Moves p lv tv s.squash w w1) := m1
  clear m1
  go_wp2
  refine bodyPost_end (results_none rfl _ _ _) rfl ?_
  exact ⟨rfl, HM.out⟩
end Go.Proofs.YtabpiaaknjcnkaaGreat
