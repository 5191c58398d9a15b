/-
  The walk over Apart.
-/
import Derived.Test.YtabpiaaknjcnkabXVMKTK1
import Derived.Test.YtabpiaaknjcnkabXL5R1R2R4C1C2C3
namespace Go.Proofs.Ytabpiaaknjcnkab
open Go.RowKit
set_option linter.unusedVariables false
set_option linter.unusedSimpArgs false
set_option maxRecDepth 100000

def apA : ByteArray := ⟨#[115, 111, 109, 101, 32, 98, 121, 116, 101, 115, 32, 111, 102, 32, 105, 116]⟩
def apB : ByteArray := ⟨#[98, 121, 116, 101, 115, 32, 111, 102, 32, 105, 116, 44, 32, 115, 111, 109, 101, 32, 98, 121, 116, 101, 115]⟩
def apN (t : ByteArray) : ByteArray := ⟨#[97, 110, 111, 116, 104, 101, 114, 32]⟩ ++ t
theorem apD_pos : 0 < (diffF apA apB).length := by
  rcases Nat.eq_zero_or_pos (diffF apA apB).length with h | h
  · have e := List.eq_nil_of_length_eq_zero h
    have := madeF_diff (b := apA) (t := apB)
    rw [e] at this
    simp [madeL, apB] at this
  · exact h

theorem diffF_few (b t : ByteArray) : (diffF b t).length ≤ 1000 := by
  unfold diffF
  split
  · unfold addT; split <;> simp
  · omega
theorem opCells_each (xs : List DOp) : ∀ u ∈ opCells xs, u.oneCell' = true := by
  intro u hu
  unfold opCells at hu
  obtain ⟨o, _, ho⟩ := List.mem_flatMap.1 hu
  simp only [List.mem_cons, List.not_mem_nil, or_false] at ho
  rcases ho with rfl | rfl | rfl <;> rfl

set_option maxHeartbeats 16000000 in
theorem apart_any (text : ByteArray) (v1 v2 : Value) (w : World) (ht : text.size ≤ 1000000000000000) (h1 : RawIn w v1) (h2 : RawIn w v2) (hs1 : ∃ ao n cap, v1 = .slice ao n cap) (hs2 : ∃ ao n cap, v2 = .slice ao n cap) :
    Calls Try.prog 4 #[.string text, v1, v2] w fun e w' => e = .returned (.bool true) ∧ Below w.heap.size w w' := by
  have HTO : Hid (Calls Try.prog 13 #[.string text, v1] w (ToldPost w)) := told_any text v1 w (by omega) h1
  obtain ⟨rao, rn, rcap, rfl⟩ := hs1
  obtain ⟨sao, sn, scap, rfl⟩ := hs2
  have HR2 : Hid (RawIn w (.slice sao sn scap)) := h2
  have hadd : ∀ W : World, (Op.stringOp .add ⟨#[97, 110, 111, 116, 104, 101, 114, 32]⟩ text).run Try.prog W = .ok (.string (apN text)) W := fun W => run_string_add_sum W _ _ (by have : (⟨#[97, 110, 111, 116, 104, 101, 114, 32]⟩ : ByteArray).size = 8 := rfl; omega)
  have hAN : (apN text).size ≤ 9223372036854775807 := by
    unfold apN; rw [ByteArray.size_append]; have : (⟨#[97, 110, 111, 116, 104, 101, 114, 32]⟩ : ByteArray).size = 8 := rfl; omega
  have HD : Hid (∀ W : World, Calls Try.prog 14 #[.string ⟨#[115, 111, 109, 101, 32, 98, 121, 116, 101, 115, 32, 111, 102, 32, 105, 116]⟩, .string ⟨#[98, 121, 116, 101, 115, 32, 111, 102, 32, 105, 116, 44, 32, 115, 111, 109, 101, 32, 98, 121, 116, 101, 115]⟩] W fun e w' => ∃ v', e = .returned (.tuple #[v', .int .i64 0]) ∧ OwnOps w' W.heap.size v' (diffF apA apB) ∧ Below W.heap.size W w') := fun W => cdiff_ok apA apB W (by decide) (by decide)
  have hDp := apD_pos
  have hDl : (diffF apA apB).length ≤ 1000 := diffF_few apA apB
  generalize diffF apA apB = D at *
  generalize apN text = AN at *
  clear h1 h2
  go_enter Try.func4, Try.ntmps4
  go_wp2_with fail
  refine HTO.out.mono ?_
  rintro e w1 ⟨q, p, rfl, cur, a, b, c, lv, tv, s, vs, rs, hT, hK⟩
  have HT : Hid (TaleAt w w1 q p cur a b c lv tv s vs rs) := hT
  have HK : Hid (TaleOk s vs) := hK
  have HTO2 : Hid (Calls Try.prog 13 #[.string AN, .slice sao sn scap] w1 (ToldPost w1)) := told_any AN _ w1 hAN (HR2.out.below hT.below)
  clear hT hK
  go_wp2_with fail
  refine HTO2.out.mono ?_
  rintro e w2 ⟨q2, p2, rfl, cur2, a2, b2, c2, lv2, tv2, s2, vs2, rs2, hT2, hK2⟩
  have HT2 : Hid (TaleAt w1 w2 q2 p2 cur2 a2 b2 c2 lv2 tv2 s2 vs2 rs2) := hT2
  have HK2 : Hid (TaleOk s2 vs2) := hK2
  clear hT2 hK2 HTO HTO2 hadd
  go_wp2_with fail
  refine (HD.out _).mono ?_
  rintro e w3 ⟨v3, rfl, o3, b3⟩
  obtain ⟨g3, cap3, rfl⟩ : ∃ g3 cap3, v3 = .slice (some ⟨g3, 0, none⟩) D.length cap3 := by
    rcases o3.2 with ⟨h, h0⟩ | ⟨g, cap, cur, h, _⟩
    · omega
    · exact ⟨g, cap, h⟩
  have HO3 : Hid (OwnOps w3 w2.heap.size (.slice (some ⟨g3, 0, none⟩) D.length cap3) D) := o3
  have HB3 : Hid (Below w2.heap.size w2 w3) := b3
  clear o3 b3
  obtain ⟨i0, hi, hz0, hz1, hz2⟩ := info_parts Try.infoOp
  have hg3 := HO3.out.lt g3 rfl
  have hE : OwnOps (w3.alloc (.cells #[] 45)) w3.heap.size (.slice (some ⟨w3.heap.size, 0, none⟩) (List.length ([] : List DOp)) 0) [] := World.ownsRow_made w3 #[] 0 (Nat.le_refl _) (by unfold maxLen; omega) rfl
  go_wp2_with (first | (at_builtin; refine wpList_append_own _ rfl _ _ 41 rfl w3.heap.size 45 i0 (.agg #[.int .i64 0, .int .i64 0, .string ⟨#[]⟩]) 3 32 Try.underlying41 hi hz0 hz1 hz2 rfl (by decide) _ _ _ rfl hE ⟨g3, 0, none⟩ D.length cap3 (opCells D) rfl ?c1 ?c2 ?c3 ?c4 ?c5 ?c6 ?_))
  case c1 => rw [opCells_length]
  case c2 =>
    intro j u hu
    have := World.ownsRow.cells HO3.out (g := g3) rfl j u hu
    rw [show (⟨g3, 0, none⟩ : Addr).add j = ⟨g3, j, none⟩ from by unfold Addr.add; split <;> simp_all] at this ⊢
    exact (Below.cell ((Below.refl _ _).alloc (Nat.le_refl _) _) hg3).trans this
  case c3 => exact opCells_each D
  case c4 => unfold maxLen; simp; omega
  case c5 => simp; omega
  case c6 => simp
  intro v4 w4 o4 hg4 _
  have HO4 : Hid (OwnOps w4 w3.heap.size v4 D) := by
    show OwnOps w4 w3.heap.size v4 D
    simpa [OwnOps, opCells_append, opCells_nil] using o4
  obtain ⟨g4, cap4, rfl, hg34⟩ : ∃ g4 cap4, v4 = .slice (some ⟨g4, 0, none⟩) D.length cap4 ∧ w3.heap.size ≤ g4 := by
    rcases HO4.out.2 with ⟨h, h0⟩ | ⟨g, cap, cur, h, hg, _⟩
    · omega
    · exact ⟨g, cap, h, hg⟩
  have HB4 : Hid (Below w3.heap.size w3 w4) := ((Below.refl _ _).alloc (Nat.le_refl _) _).grown hg4 (by simp) (fun k hk => row_own_ge hE hk)
  have HO34 : Hid (OwnOps w4 w2.heap.size (.slice (some ⟨g3, 0, none⟩) D.length cap3) D) := HO3.out.kept HB4.out
  have HB24 : Hid (Below w2.heap.size w2 w4) := HB3.out.trans (HB4.out.mono HB3.out.size)
  have hg23 : w2.heap.size ≤ g3 := row_own_ge HO3.out rfl
  clear o4 hg4 hE HO3 HB3 HB4
  go_wp2_with fail
  go_loopw [14] (fun i wr => ∃ k : Nat, k ≤ D.length ∧ i = .int .i64 k ∧ Hid (OwnOps wr w2.heap.size (.slice (some ⟨g3, 0, none⟩) D.length cap3) (marks k 77 ++ D.drop k)) ∧ Hid (OwnOps wr w3.heap.size (.slice (some ⟨g4, 0, none⟩) D.length cap4) D) ∧ Hid (Below w2.heap.size w2 wr)) (fun i _ => D.length + 1 - (intOf i).toNat)
  case atStart => exact ⟨0, by omega, rfl, HO34, HO4, HB24⟩
  case round =>
    obtain ⟨k, hk, rfl, HOr, HLr, HBr⟩ := hrel
    by_cases hlt : k < D.length
    · have c1 : (k : Int) < (D.length : Int) := by omega
      obtain ⟨o, ho⟩ : ∃ o, D[k]? = some o := ⟨D[k], by simp [hlt]⟩
      have hOr := HOr.out
      rw [drop_cons ho] at hOr
      obtain ⟨c0, c1', c2', c3'⟩ := own_cells hOr
      have R := own_set hOr 77 0 ⟨#[]⟩
      have hml : (marks k 77).length = k := List.length_replicate
      rw [hml] at c0 c1' c2' R
      have HR : Hid (OwnOps (((wr.setCell ⟨g3, k * 3, none⟩ (.int .i64 77)).setCell ⟨g3, k * 3 + 1, none⟩ (.int .i64 0)).setCell ⟨g3, k * 3 + 2, none⟩ (.string ⟨#[]⟩)) w2.heap.size (.slice (some ⟨g3, 0, none⟩) D.length cap3) (marks (k + 1) 77 ++ D.drop (k + 1))) := by
        show OwnOps _ _ _ _
        rw [← marks_snoc, List.append_assoc]
        exact R
      have HL2 : Hid (OwnOps (((wr.setCell ⟨g3, k * 3, none⟩ (.int .i64 77)).setCell ⟨g3, k * 3 + 1, none⟩ (.int .i64 0)).setCell ⟨g3, k * 3 + 2, none⟩ (.string ⟨#[]⟩)) w3.heap.size (.slice (some ⟨g4, 0, none⟩) D.length cap4) D) := by
        have hne : ∀ j, (Value.slice (some ⟨g4, 0, none⟩) D.length cap4).ownBlock = some j → ¬ j = g3 := fun j hj => by
          have := row_own_ge HLr.out hj; omega
        exact own_far (own_far (own_far HLr.out hne) hne) hne
      have HB2 : Hid (Below w2.heap.size w2 (((wr.setCell ⟨g3, k * 3, none⟩ (.int .i64 77)).setCell ⟨g3, k * 3 + 1, none⟩ (.int .i64 0)).setCell ⟨g3, k * 3 + 2, none⟩ (.string ⟨#[]⟩))) := ((HBr.out.setCell (p := ⟨g3, _, none⟩) hg23 _).setCell (p := ⟨g3, _, none⟩) hg23 _).setCell (p := ⟨g3, _, none⟩) hg23 _
      have f0 := c3' (k * 3)
      have f1 := c3' (k * 3 + 1)
      have f2 := c3' (k * 3 + 2)
      have wk : IntKind.i64.wrap ((k : Int) + 1) = (k : Int) + 1 := by rw [IntKind.wrap_i64]; omega
      clear R c3' hOr ho HOr HLr HBr
      go_wp2
      go_roundw
      case rel => exact ⟨k + 1, by omega, by go_num, HR, HL2, HB2⟩
      case measure => simp [intOf]; omega
    · obtain rfl : k = D.length := by omega
      clear HOr HO34 HB24 HO4
      go_wp2_with fail
      refine (HD.out _).mono ?_
      rintro e w5 ⟨v5, rfl, o5, b5⟩
      obtain ⟨g5, cap5, rfl⟩ : ∃ g5 cap5, v5 = .slice (some ⟨g5, 0, none⟩) D.length cap5 := by
        rcases o5.2 with ⟨h, h0⟩ | ⟨g, cap, cur, h, _⟩
        · omega
        · exact ⟨g, cap, h⟩
      have HSM : Hid (Calls Try.prog 15 #[.slice (some ⟨g4, 0, none⟩) D.length cap4, .slice (some ⟨g5, 0, none⟩) D.length cap5] w5 fun e w' => e = .returned (.bool true) ∧ ∃ n, w' = w5.drewN n) := ksame_any (by omega) (View.of_own (HLr.out.kept b5)) (View.of_own o5)
      have HB5 : Hid (Below w2.heap.size w2 w5) := HBr.out.trans (b5.mono HBr.out.size)
      clear o5 b5 HLr HBr
      go_wp2_with fail
      refine HSM.out.mono ?_
      rintro e w6 ⟨rfl, n6, rfl⟩
      have HT6 : Hid (TaleAt w1 (w5.drewN n6) q2 p2 cur2 a2 b2 c2 lv2 tv2 s2 vs2 rs2) := HT2.out.belowed (below_drewN1 HB5.out n6)
      generalize w5.drewN n6 = w6 at *
      have k06 := HT6.out.st.cells.1
      have HSO2 : Hid (s2.Ok) := (HK2.out.ok s2 HK2.out.mem).1
      have HSO : Hid (s.Ok) := (HK.out.ok s HK.out.mem).1
      clear HB5 HSM HT2
      go_wp2_with fail
      refine (csquash_any p2 lv2 tv2 s2 _ HT6.out.st.vault HSO2.out).mono ?_
      rintro e w7 ⟨rfl, m7⟩
      obtain ⟨lv7, tv7, hT7⟩ := HT6.out.squashed m7
      have HT7 : Hid (TaleAt w1 w7 q2 p2 cur2 a2 b2 c2 lv7 tv7 s2.squash vs2 rs2) := hT7
      have HT17 : Hid (TaleAt w w7 q p cur a b c lv tv s vs rs) := HT.out.belowed hT7.below
      obtain ⟨ga, ca, hq7, hga7, k07, k97, hC7⟩ := tale_seen HT17.out HK.out.pos
      obtain ⟨gb, cb, hr7, hgb7, l07, l97, hD7⟩ := tale_seen hT7 HK2.out.pos
      obtain ⟨m, hm⟩ : ∃ m, vs.length = m + 1 := ⟨vs.length - 1, by have := HK.out.pos; omega⟩
      obtain ⟨m2, hm2⟩ : ∃ m, vs2.length = m + 1 := ⟨vs2.length - 1, by have := HK2.out.pos; omega⟩
      have hM1 := HK.out.many
      have hM2 := HK2.out.many
      have hla := HK.out.last
      have hlb := HK2.out.last
      rw [hm] at k97 hM1 hla
      rw [hm2] at l97 hM2 hlb
      have y7 := hC7 m s hla
      have HLA : Hid (vs[m]? = some s) := hla
      have HLB : Hid (vs2[m2]? = some s2) := hlb
      have HM : Hid (vs.length = m + 1) := hm
      have HM2 : Hid (vs2.length = m2 + 1) := hm2
      have hmI : IntKind.i64.wrap (m : Int) = (m : Int) := by rw [IntKind.wrap_i64]; omega
      have hmI2 : IntKind.i64.wrap (m2 : Int) = (m2 : Int) := by rw [IntKind.wrap_i64]; omega
      have hmL : (m : Int) < (m : Int) + 1 := by omega
      have HH1 : Hid (∀ W, Below w7.heap.size w7 W → Calls Try.prog 17 #[.pointer (some ⟨q, 0, none⟩), .pointer (some ⟨p, 0, none⟩), .int .i64 m] W fun e w' => e = .returned (.bool true) ∧ Below W.heap.size W w') := fun W hW => tale_holds2 (HT17.out.belowed hW) (by have := HM.out; omega) (HT17.out.st.vault.below hW) HSO.out HLA.out (fun i _ => rfl)
      have HH2 : Hid (∀ W, Below w7.heap.size w7 W → Calls Try.prog 17 #[.pointer (some ⟨q2, 0, none⟩), .pointer (some ⟨p2, 0, none⟩), .int .i64 m2] W fun e w' => e = .returned (.bool true) ∧ Below W.heap.size W w') := fun W hW => tale_holds2 (HT7.out.belowed hW) (by have := HM2.out; omega) (HT7.out.st.vault.below hW) (squash_ok HSO2.out) HLB.out (fun i _ => rfl)
      have HLG : Hid (∀ W, Below w7.heap.size w7 W → Calls Try.prog 10 #[.pointer (some ⟨p, 0, none⟩)] W fun e w' => e = .returned (.string (logB s)) ∧ W = w') := fun W hW => clog_any p lv tv s W (HT17.out.st.vault.below hW)
      have HR7 : Hid (Below w.heap.size w w7) := HT17.out.below
      clear hT7 m7 HT6 HT HT7 HT17 hm hm2 hla hlb hC7 hD7 k06
      generalize logB s = LS at *
      go_upto_region 14 with fail
      go_cut [18] (fun v wx => v = .bool true ∧ Hid (Below w7.heap.size w7 wx))
      case first =>
        go_region_with (first | (go_at_call 17; refine (HH1.out _ (below_drewN0 _ _ 1)).mono ?_; rintro e w8 ⟨rfl, b8⟩))
        all_goals
          have HB8 : Hid (Below w7.heap.size w7 w8) := (below_drewN0 _ w7 1).trans b8
          clear b8
          go_wp2_with fail
          go_meet
          exact ⟨rfl, HB8⟩
      case rest =>
        obtain ⟨rfl, HB8⟩ := hcut
        generalize wc = w8 at *
        have k08 := (HB8.out.cell (p := ⟨q, 0, none⟩) hq7).trans k07
        have k98 := (HB8.out.cell (p := ⟨q, 9, none⟩) hq7).trans k97
        have l08 := (HB8.out.cell (p := ⟨q2, 0, none⟩) hr7).trans l07
        have l98 := (HB8.out.cell (p := ⟨q2, 9, none⟩) hr7).trans l97
        have y8 := (HB8.out.cell (p := ⟨ga, m, none⟩) hga7).trans y7
        have hq8 : q < w8.heap.size := Nat.lt_of_lt_of_le hq7 HB8.out.size
        have hga8 : ga < w8.heap.size := Nat.lt_of_lt_of_le hga7 HB8.out.size
        clear k07 k97 l07 l97 y7 hq7 hr7 hga7 hgb7 HH1
        go_upto_region 15 with fail
        go_cut [19] (fun v wx => v = .bool true ∧ Hid (Below w8.heap.size w8 wx))
        case first =>
          go_region_with (first | (go_at_call 17; refine (HH2.out _ (below_drewN1 HB8.out 1)).mono ?_; rintro e w9 ⟨rfl, b9⟩))
          all_goals
            have HB9 : Hid (Below w8.heap.size w8 w9) := (below_drewN0 _ w8 1).trans b9
            clear b9
            go_wp2_with fail
            go_meet
            exact ⟨rfl, HB9⟩
        case rest =>
          obtain ⟨rfl, HB89⟩ := hcut
          generalize wc = w9 at *
          have B9 := HB89.out
          have HB9 : Hid (Below w7.heap.size w7 w9) := HB8.out.trans (B9.mono HB8.out.size)
          have k09 := (B9.cell (p := ⟨q, 0, none⟩) hq8).trans k08
          have k99 := (B9.cell (p := ⟨q, 9, none⟩) hq8).trans k98
          have y9 := (B9.cell (p := ⟨ga, m, none⟩) hga8).trans y8
          have HR9 : Hid (Below w.heap.size w w9) := HR7.out.trans (HB9.out.mono HR7.out.size)
          have HLG9 : Hid (∀ n, Calls Try.prog 10 #[.pointer (some ⟨p, 0, none⟩)] (w9.drewN n) fun e w' => e = .returned (.string LS) ∧ w' = w9.drewN n) := fun n => (HLG.out _ (below_drewN1 HB9.out n)).mono fun e w' ⟨h1, h2⟩ => ⟨h1, h2.symm⟩
          have hDI : (0 : Int) < (D.length : Int) := by omega
          clear B9 k08 k98 l08 l98 y8 hq8 hga8 HH2 HB8 HLG HB89 HR7 HB9 HK HK2 HSO HSO2 HLA HLB HM HM2 hi hz0 hz1 hz2 HD
          go_wp2_with fail
          go_quiet ((go_at_call 10; exact Calls.quiet_of_same (HLG9.out _)))
          go_wp2
          go_ret
          exact ⟨rfl, below_drewN1 HR9.out _⟩
end Go.Proofs.Ytabpiaaknjcnkab
