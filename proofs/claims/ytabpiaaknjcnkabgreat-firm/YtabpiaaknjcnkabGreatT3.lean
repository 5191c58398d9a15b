/-
  The walk over notes of cofferkeep.
-/
import Derived.Test.YtabpiaaknjcnkabGreatT2
namespace Go.Proofs.YtabpiaaknjcnkabGreat
open Go.RowKit
set_option linter.unusedVariables false
set_option linter.unusedSimpArgs false
set_option maxRecDepth 100000

theorem row_slice {w : World} {b : Nat} {e : TypeId} {size n : Nat} {v : Value} {xs : List Value} (h : w.ownsRow b e size v n xs) : ∃ ao cap, v = .slice ao n cap := by
  rcases h.2 with ⟨h, h0⟩ | ⟨g', cap', cur, h, _⟩
  · exact ⟨none, 0, by rw [h, h0]⟩
  · exact ⟨_, _, h⟩

theorem grown_far {w W w5 : World} {own : Option Nat} (hg : W.grownBy w5 own) (F5 : ∀ q, q < w.heap.size → own ≠ some q → w5.heap[q]? = w.heap[q]?) (h1 : W.os = w.os) (h2 : W.tape = w.tape) (h3 : W.output = w.output) (hs : w.heap.size ≤ W.heap.size) : w.grownBy w5 own :=
  ⟨hg.os.trans h1, hg.tape.trans h2, hg.output.trans h3, Nat.le_trans hs hg.size, fun q hq hne => F5 q hq (Ne.symm hne)⟩
theorem i4_one (a b c d : Nat) : ∀ u ∈ [Value.int .i64 a, .int .i64 b, .int .i64 c, .int .i64 d], u.oneCell' = true := by
  intro u hu; simp at hu; rcases hu with rfl | rfl | rfl | rfl <;> rfl
theorem s4_one (a b c d : Option Addr) (n m k l x y z u : Nat) : ∀ v ∈ [Value.slice a n x, .slice b m y, .slice c k z, .slice d l u], v.oneCell' = true := by
  intro v hv; simp at hv; rcases hv with rfl | rfl | rfl | rfl <;> rfl

set_option maxHeartbeats 8000000 in
theorem notes_any (q p : Nat) (fi : Nat → Nat) (cur : Nat → Value) (a b c lv : Value) (tv : Nat → Value) (s : Vlt) (sl : List (List UInt8)) (sf : List (Nat → Nat)) (sr : List (Nat → Value)) (w : World) (h : StoryAt w q p fi cur a b c lv tv s sl sf sr)
    (hn : sl.length ≤ 1000) (hn2 : sf.length ≤ 1000) (hn3 : sr.length ≤ 1000) (hcur : ∀ i, i < 4 → ∃ ao n cap, cur i = .slice ao n cap) :
    Calls Tryz.prog 21 #[.pointer (some ⟨q, 0, none⟩)] w fun e w' => e = .returned (.tuple #[]) ∧ ∃ a' b' c', StoryAt w' q p fi cur a' b' c' lv tv s (sl ++ [s.log]) (sf ++ [fi]) (sr ++ [cur]) ∧ Out (live q p a b c lv tv) w w' ∧ ∀ g, live q p a' b' c' lv tv g → live q p a b c lv tv g ∨ w.heap.size ≤ g := by
  obtain ⟨i1, hi1, hj0, hj1, hj2⟩ := info_parts Tryz.infoStr
  obtain ⟨i2, hi2, hk0, hk1, hk2⟩ := info_parts Tryz.infoI4
  obtain ⟨i3, hi3, hm0, hm1, hm2⟩ := info_parts Tryz.infoS4
  have HST : Hid (StoryAt w q p fi cur a b c lv tv s sl sf sr) := h
  obtain ⟨ao, ac, hav⟩ := row_slice h.logs
  obtain ⟨bo, bc, hbv⟩ := row_slice h.firsts
  obtain ⟨co, cc, hcv⟩ := row_slice h.all
  obtain ⟨r0, rn0, rc0, hr0⟩ := hcur 0 (by omega)
  obtain ⟨r1, rn1, rc1, hr1⟩ := hcur 1 (by omega)
  obtain ⟨r2, rn2, rc2, hr2⟩ := hcur 2 (by omega)
  obtain ⟨r3, rn3, rc3, hr3⟩ := hcur 3 (by omega)
  have HC : Hid (∀ W, Still w W → Calls Tryz.prog 7 #[.pointer (some ⟨p, 0, none⟩)] W fun e w' => e = .returned (.string ⟨s.log.toArray⟩) ∧ Below W.heap.size W w') := fun W hW => by
    refine (clog_any p lv tv s W (HST.out.still hW).vault).mono ?_
    rintro e w' ⟨h1, rfl⟩
    exact ⟨h1, Below.refl _ _⟩
  have hp : q < w.heap.size := h.lt
  have g0 := h.cells.1
  have h1 := h.cells.2.1
  have hf := h.cells.2.2.2.2 9
  have hne := h.aq
  have hown := h.logs
  rw [hav] at h1 hne hown
  have HO : Hid (w.ownsRow 0 9 1 (.slice ao sl.length ac) sl.length (sl.map fun l => .string ⟨l.toArray⟩)) := hown
  clear h hown hcur
  go_enter Tryz.func21, Tryz.ntmps21
  go_upto_region 0 with fail
  go_cut [] (fun wx => ∃ a', Hid (StoryAt wx q p fi cur a' b c lv tv s (sl ++ [s.log]) sf sr) ∧ Hid (Out (live q p a b c lv tv) w wx) ∧ Hid (∀ g, live q p a' b c lv tv g → live q p a b c lv tv g ∨ w.heap.size ≤ g))
  case first =>
    generalize hL : (⟨s.log.toArray⟩ : ByteArray) = L at *
    have HL : Hid ((⟨s.log.toArray⟩ : ByteArray) = L) := hL
    clear hL
    go_region_law
      (first | (go_simp; go_at_call 7; refine (HC.out w.drew ⟨rfl, rfl, rfl, rfl⟩).mono ?_; rintro e w1 ⟨rfl, b1⟩; have e1 := (b1.cell (p := ⟨q, 9, none⟩) hp).trans h1; have ef := (b1.frozen (p := ⟨q, 9, none⟩) hp).trans hf; have hs1 := b1.size; have ea : ∀ ob : Obj, (w1.alloc ob).cell? ⟨q, 9, none⟩ = some (.slice ao sl.length ac) := (fun ob => (World.cell?_of_block (a := ⟨q, 9, none⟩) (heap_alloc_old _ _ (Nat.lt_of_lt_of_le hp hs1))).trans e1); have o1 : ∀ W : World, (∀ q, q < w1.heap.size → W.heap[q]? = w1.heap[q]?) → W.ownsRow 0 9 1 (.slice ao sl.length ac) sl.length (sl.map fun l => .string ⟨l.toArray⟩) := (fun W hW => row_block HO.out (fun g hg => (hW g (Nat.lt_of_lt_of_le (row_own_lt HO.out hg) hs1)).trans (b1.block g (row_own_lt HO.out hg))))) | (refine step_append_lies _ rfl (.tmp 6) (.tmp 12) 28 rfl 0 9 i1 (.string ⟨#[]⟩) 1 16 Tryz.underlying28 hi1 hj0 hj1 hj2 rfl (by decide) (.slice ao sl.length ac) sl.length (sl.map fun l => .string ⟨l.toArray⟩) (by simp [Act.eval, Act.put]) (o1 _ (fun k hk => heap_alloc_old _ _ hk)) ⟨w1.heap.size, 0, none⟩ 1 1 [.string L] (by simp [Act.eval, Act.put]) rfl (str_cells w1 L) (str_one L) (by decide) (by unfold maxLen; omega) (by omega) (Nat.zero_le _) (w1.heap.size + 1) alloc_size1 ?_; intro g5 cap5 w5 hown5 hgr5 hat5 hlt5; have F5 := far_new hgr5 (w4 := w1) (fun q hq => heap_alloc_old _ _ hq) (alloc_le (Nat.le_refl _)); have hp1 : q < w1.heap.size := Nat.lt_of_lt_of_le hp hs1; have e5 := (World.cell?_of_block (a := ⟨q, 9, none⟩) (F5 q hp1 hne)).trans e1; have f5 := (World.frozen?_of_block (a := ⟨q, 9, none⟩) (F5 q hp1 hne)).trans ef))
    all_goals
      have hN := HST.out.noteA (w5 := w5) (a' := .slice (some ⟨g5, 0, none⟩) (sl.length + 1) cap5) (l := s.log) (by rw [hav]; exact vadd_grown b1 hgr5 F5) (by rw [List.map_append, List.length_append, List.map_cons, List.map_nil, HL.out]; exact hown5) (by rw [hav]; exact vadd_at hat5 hs1)
      have HN : Hid (StoryAt (w5.setCell ⟨q, 9, none⟩ (.slice (some ⟨g5, 0, none⟩) (sl.length + 1) cap5)) q p fi cur (.slice (some ⟨g5, 0, none⟩) (sl.length + 1) cap5) b c lv tv s (sl ++ [s.log]) sf sr ∧ Out (live q p a b c lv tv) w (w5.setCell ⟨q, 9, none⟩ (.slice (some ⟨g5, 0, none⟩) (sl.length + 1) cap5)) ∧ ∀ g, live q p (.slice (some ⟨g5, 0, none⟩) (sl.length + 1) cap5) b c lv tv g → live q p a b c lv tv g ∨ w.heap.size ≤ g) := hN
      clear hN hown5 hgr5 hat5 F5 o1 ea b1
      go_wp2_with fail
      go_meet
      exact ⟨_, HN.out.1, HN.out.2.1, HN.out.2.2⟩
  case rest =>
    obtain ⟨a1, HS1, HO1, HL1⟩ := hcut
    generalize wc = W1 at *
    have hp1 : q < W1.heap.size := HS1.out.lt
    have k10 := HS1.out.cells.2.2.1
    have kf := HS1.out.cells.2.2.2.2 10
    have f1 : W1.cell? ⟨q, 1, none⟩ = some (.int .i64 (fi 0)) := HS1.out.cellF 0 (by omega)
    have f2 : W1.cell? ⟨q, 2, none⟩ = some (.int .i64 (fi 1)) := HS1.out.cellF 1 (by omega)
    have f3 : W1.cell? ⟨q, 3, none⟩ = some (.int .i64 (fi 2)) := HS1.out.cellF 2 (by omega)
    have f4 : W1.cell? ⟨q, 4, none⟩ = some (.int .i64 (fi 3)) := HS1.out.cellF 3 (by omega)
    have hneb := HS1.out.bq
    have hownb := HS1.out.firsts
    rw [hbv] at k10 hneb hownb
    have HOB : Hid (W1.ownsRow 0 27 4 (.slice bo sf.length bc) sf.length (sf.flatMap i4)) := hownb
    have HROW : Hid (∀ W : World, (∀ q, q < W1.heap.size → W.heap[q]? = W1.heap[q]?) → W.ownsRow 0 27 4 (.slice bo sf.length bc) sf.length (sf.flatMap i4)) := fun W hW => row_block HOB.out (fun g hg => hW g (row_own_lt HOB.out hg))
    have hlb : sf.length + 1 ≤ maxLen := by unfold maxLen; omega
    clear hownb g0 h1 hf hne HO hp HC
    go_upto_region 1 with fail
    go_cut [] (fun wx => ∃ b', Hid (StoryAt wx q p fi cur a1 b' c lv tv s (sl ++ [s.log]) (sf ++ [fi]) sr) ∧ Hid (Out (live q p a1 b c lv tv) W1 wx) ∧ Hid (∀ g, live q p a1 b' c lv tv g → live q p a1 b c lv tv g ∨ W1.heap.size ≤ g))
    case first =>
      generalize hF0 : fi 0 = y0 at *
      generalize hF1 : fi 1 = y1 at *
      generalize hF2 : fi 2 = y2 at *
      generalize hF3 : fi 3 = y3 at *
      have HI : Hid (i4 fi = [.int .i64 y0, .int .i64 y1, .int .i64 y2, .int .i64 y3]) := by show _ = _; unfold i4; rw [hF0, hF1, hF2, hF3]
      clear hF0 hF1 hF2 hF3
      go_region_law
        ((refine step_append_lies _ rfl (.tmp 20) (.tmp 25) 30 rfl 0 27 i2 (.agg #[.int .i64 0, .int .i64 0, .int .i64 0, .int .i64 0]) 4 32 Tryz.underlying30 hi2 hk0 hk1 hk2 rfl (by decide) (.slice bo sf.length bc) sf.length (sf.flatMap i4) (by simp [Act.eval, Act.put]) (HROW.out _ (fun k hk => heap_alloc_old _ _ hk)) ⟨W1.heap.size, 0, none⟩ 1 1 [.int .i64 y0, .int .i64 y1, .int .i64 y2, .int .i64 y3] (by simp [Act.eval, Act.put]) rfl (World.news_of_block (cs := #[.int .i64 y0, .int .i64 y1, .int .i64 y2, .int .i64 y3]) (alloc_at rfl)) (i4_one _ _ _ _) (by decide) hlb (by omega) (Nat.zero_le _) (W1.heap.size + 1) alloc_size1 ?_; intro g5 cap5 w5 hown5 hgr5 hat5 hlt5; have F5 := far_new hgr5 (w4 := W1) (fun q hq => heap_alloc_old _ _ hq) (alloc_le (Nat.le_refl _)); have e5 := (World.cell?_of_block (a := ⟨q, 10, none⟩) (F5 q hp1 hneb)).trans k10; have f5 := (World.frozen?_of_block (a := ⟨q, 10, none⟩) (F5 q hp1 hneb)).trans kf; have j1 := (World.cell?_of_block (a := ⟨q, 1, none⟩) (F5 q hp1 hneb)).trans f1; have j2 := (World.cell?_of_block (a := ⟨q, 2, none⟩) (F5 q hp1 hneb)).trans f2; have j3 := (World.cell?_of_block (a := ⟨q, 3, none⟩) (F5 q hp1 hneb)).trans f3; have j4 := (World.cell?_of_block (a := ⟨q, 4, none⟩) (F5 q hp1 hneb)).trans f4))
      all_goals
        have hN := HS1.out.noteB (w5 := w5) (b' := .slice (some ⟨g5, 0, none⟩) (sf.length + 1) cap5) (f := fi) (by rw [hbv]; exact grown_far hgr5 F5 rfl rfl rfl (by simp)) (by rw [List.flatMap_append, List.length_append, List.flatMap_singleton, HI.out]; exact hown5) (by rw [hbv]; exact vadd_at (w := W1) (w1 := W1) hat5 (Nat.le_refl _))
        have HN : Hid (StoryAt (w5.setCell ⟨q, 10, none⟩ (.slice (some ⟨g5, 0, none⟩) (sf.length + 1) cap5)) q p fi cur a1 (.slice (some ⟨g5, 0, none⟩) (sf.length + 1) cap5) c lv tv s (sl ++ [s.log]) (sf ++ [fi]) sr ∧ Out (live q p a1 b c lv tv) W1 (w5.setCell ⟨q, 10, none⟩ (.slice (some ⟨g5, 0, none⟩) (sf.length + 1) cap5)) ∧ ∀ g, live q p a1 (.slice (some ⟨g5, 0, none⟩) (sf.length + 1) cap5) c lv tv g → live q p a1 b c lv tv g ∨ W1.heap.size ≤ g) := hN
        clear hN hown5 hgr5 hat5 F5
        go_wp2_with fail
        go_meet
        exact ⟨_, HN.out.1, HN.out.2.1, HN.out.2.2⟩
    case rest =>
      obtain ⟨b1, HS2, HO2, HL2⟩ := hcut
      generalize wc = W2 at *
      have HR2 : Hid (Out (live q p a b c lv tv) w W2 ∧ ∀ g, live q p a1 b1 c lv tv g → live q p a b c lv tv g ∨ w.heap.size ≤ g) := by
        have hs := HO1.out.size
        refine ⟨HO1.out.trans HO2.out HL1.out, fun g hg => ?_⟩
        rcases HL2.out g hg with x | x
        · exact HL1.out g x
        · exact .inr (by omega)
      have hp2 : q < W2.heap.size := HS2.out.lt
      have m11 := HS2.out.cells.2.2.2.1
      have mf := HS2.out.cells.2.2.2.2 11
      have t1 : W2.cell? ⟨q, 5, none⟩ = some (cur 0) := HS2.out.cellR 0 (by omega)
      have t2 : W2.cell? ⟨q, 6, none⟩ = some (cur 1) := HS2.out.cellR 1 (by omega)
      have t3 : W2.cell? ⟨q, 7, none⟩ = some (cur 2) := HS2.out.cellR 2 (by omega)
      have t4 : W2.cell? ⟨q, 8, none⟩ = some (cur 3) := HS2.out.cellR 3 (by omega)
      have hnec := HS2.out.cq
      have hownc := HS2.out.all
      rw [hcv] at m11 hnec hownc
      rw [hr0] at t1
      rw [hr1] at t2
      rw [hr2] at t3
      rw [hr3] at t4
      have HOC : Hid (W2.ownsRow 0 29 4 (.slice co sr.length cc) sr.length (sr.flatMap s4)) := hownc
      have HROW2 : Hid (∀ W : World, (∀ q, q < W2.heap.size → W.heap[q]? = W2.heap[q]?) → W.ownsRow 0 29 4 (.slice co sr.length cc) sr.length (sr.flatMap s4)) := fun W hW => row_block HOC.out (fun g hg => hW g (row_own_lt HOC.out hg))
      have hlc : sr.length + 1 ≤ maxLen := by unfold maxLen; omega
      have HI : Hid (s4 cur = [.slice r0 rn0 rc0, .slice r1 rn1 rc1, .slice r2 rn2 rc2, .slice r3 rn3 rc3]) := by show _ = _; unfold s4; rw [hr0, hr1, hr2, hr3]
      clear hownc k10 kf f1 f2 f3 f4 hneb HOB HROW hlb hp1 HL1 HL2 HO1 HO2 HS1
      go_wp2_with fail
      go_region_law
        ((refine step_append_lies _ rfl (.tmp 33) (.tmp 38) 31 rfl 0 29 i3 (.agg #[.slice none 0 0, .slice none 0 0, .slice none 0 0, .slice none 0 0]) 4 96 Tryz.underlying31 hi3 hm0 hm1 hm2 rfl (by decide) (.slice co sr.length cc) sr.length (sr.flatMap s4) (by simp [Act.eval, Act.put]) (HROW2.out _ (fun k hk => heap_alloc_old _ _ hk)) ⟨W2.heap.size, 0, none⟩ 1 1 [.slice r0 rn0 rc0, .slice r1 rn1 rc1, .slice r2 rn2 rc2, .slice r3 rn3 rc3] (by simp [Act.eval, Act.put]) rfl (World.news_of_block (cs := #[.slice r0 rn0 rc0, .slice r1 rn1 rc1, .slice r2 rn2 rc2, .slice r3 rn3 rc3]) (alloc_at rfl)) (s4_one _ _ _ _ _ _ _ _ _ _ _ _) (by decide) hlc (by omega) (Nat.zero_le _) (W2.heap.size + 1) alloc_size1 ?_; intro g5 cap5 w5 hown5 hgr5 hat5 hlt5; have F5 := far_new hgr5 (w4 := W2) (fun q hq => heap_alloc_old _ _ hq) (alloc_le (Nat.le_refl _)); have e5 := (World.cell?_of_block (a := ⟨q, 11, none⟩) (F5 q hp2 hnec)).trans m11; have f5 := (World.frozen?_of_block (a := ⟨q, 11, none⟩) (F5 q hp2 hnec)).trans mf; have j1 := (World.cell?_of_block (a := ⟨q, 5, none⟩) (F5 q hp2 hnec)).trans t1; have j2 := (World.cell?_of_block (a := ⟨q, 6, none⟩) (F5 q hp2 hnec)).trans t2; have j3 := (World.cell?_of_block (a := ⟨q, 7, none⟩) (F5 q hp2 hnec)).trans t3; have j4 := (World.cell?_of_block (a := ⟨q, 8, none⟩) (F5 q hp2 hnec)).trans t4))
      all_goals
        have hN := HS2.out.noteC (w5 := w5) (c' := .slice (some ⟨g5, 0, none⟩) (sr.length + 1) cap5) (r := cur) (by rw [hcv]; exact grown_far hgr5 F5 rfl rfl rfl (by simp)) (by rw [List.flatMap_append, List.length_append, List.flatMap_singleton, HI.out]; exact hown5) (by rw [hcv]; exact vadd_at (w := W2) (w1 := W2) hat5 (Nat.le_refl _))
        obtain ⟨n1, n2, n3⟩ := hN
        have HN : Hid (StoryAt (w5.setCell ⟨q, 11, none⟩ (.slice (some ⟨g5, 0, none⟩) (sr.length + 1) cap5)) q p fi cur a1 b1 (.slice (some ⟨g5, 0, none⟩) (sr.length + 1) cap5) lv tv s (sl ++ [s.log]) (sf ++ [fi]) (sr ++ [cur]) ∧ Out (live q p a b c lv tv) w (w5.setCell ⟨q, 11, none⟩ (.slice (some ⟨g5, 0, none⟩) (sr.length + 1) cap5)) ∧ ∀ g, live q p a1 b1 (.slice (some ⟨g5, 0, none⟩) (sr.length + 1) cap5) lv tv g → live q p a b c lv tv g ∨ w.heap.size ≤ g) := by
          have hs := HR2.out.1.size
          refine ⟨n1, HR2.out.1.trans n2 HR2.out.2, fun g hg => ?_⟩
          rcases n3 g hg with x | x
          · exact HR2.out.2 g x
          · exact .inr (by omega)
        clear n1 n2 n3 hown5 hgr5 hat5 F5
        go_wp2
        (try simp only [Exit.inBlock, Exit.then])
        first | refine bodyPost_ret (results_none rfl _ _ _) rfl ?_ | refine bodyPost_end (results_none rfl _ _ _) rfl ?_
        exact ⟨rfl, _, _, _, HN.out.1, HN.out.2.1, HN.out.2.2⟩
end Go.Proofs.YtabpiaaknjcnkabGreat
