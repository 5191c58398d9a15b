/-
  The walks over lent and back.
-/
import Derived.Test.YtabpiaaknjcnkaaGreatL2
import Derived.LoopTactic
namespace Go.Proofs.YtabpiaaknjcnkaaGreat
open Go.RowKit
set_option linter.unusedVariables false
set_option linter.unusedSimpArgs false
set_option maxRecDepth 100000

theorem add_block (a : Addr) (j : Nat) : (a.add j).block = a.block := by unfold Addr.add; split <;> rfl

theorem view_src {w : World} {v : Value} {xs : List DOp} (h : View w v xs) : ∃ sp cap, v = .slice sp xs.length cap ∧
    (0 < xs.length → ∃ ad, sp = some ad ∧ ad.block < w.heap.size ∧ ∀ j u, (opCells xs)[j]? = some u → w.cell? (ad.add j) = some u) := by
  rcases h with ⟨rfl, ao, cap, rfl⟩ | ⟨b, off, cap, rfl, hb, hr⟩
  · exact ⟨ao, cap, rfl, fun h => by simp at h⟩
  · exact ⟨_, cap, rfl, fun _ => ⟨_, rfl, hb, View.cells hr⟩⟩

theorem own_of_row {w : World} {g n : Nat} {Y : Array Value} {xs : List DOp} (hbk : w.heap[g]? = some (.cells Y 63 (0, 0))) (hY : Y.toList = opCells xs) (hn : xs.length = n) (hm : n ≤ maxLen) (base : Nat) (hb : base ≤ g) :
    OwnOps w base (.slice (some ⟨g, 0, none⟩) n n) xs := by
  subst hn
  have hs : Y.size = xs.length * 3 := by rw [← Array.length_toList, hY, opCells_length]
  exact ⟨opCells_length xs, .inr ⟨g, xs.length, Y, rfl, hb, hbk, Nat.le_refl _, hm, hs, by rw [hY, List.take_of_length_le (by rw [opCells_length]; exact Nat.le_refl _)]⟩⟩

set_option maxHeartbeats 2000000 in
theorem lent_any (v : Value) (xs : List DOp) (w : World) (hx : xs.length ≤ 4398046511000) (hv : View w v xs) :
    Calls Tryz.prog 55 #[v] w fun e w' => e = .returned (.slice (some ⟨w.heap.size, 0, none⟩) (xs.length + 2) (xs.length + 2)) ∧ OwnOps w' w.heap.size (.slice (some ⟨w.heap.size, 0, none⟩) (xs.length + 2) (xs.length + 2)) (xs ++ notYours :: [noOp]) ∧ Below w.heap.size w w' := by
  obtain ⟨i0, hi, hz0, hz1, hz2⟩ := info_parts Tryz.infoOp
  obtain ⟨sp, cap, hvv, hsrc⟩ := view_src hv
  rw [hvv]
  have HS : Hid (0 < xs.length → ∃ ad, sp = some ad ∧ ad.block < w.heap.size ∧ ∀ j u, (opCells xs)[j]? = some u → w.cell? (ad.add j) = some u) := hsrc
  clear hvv hsrc hv
  go_enter Tryz.func55, Tryz.ntmps55
  go_wp2_with (first | (at_make; refine wpList_make_full _ rfl _ _ 59 rfl w.heap.size 63 i0 (.agg #[.int .i64 0, .int .i64 0, .string ⟨#[]⟩]) 3 Tryz.underlying59 hi hz0 hz1 _ _ _ _ (xs.length + 2) rfl rfl (by omega) (by omega) ?b2 ?b3 ?b4 ?_))
  case b2 => rw [hz2]; omega
  case b3 => unfold maxLen; omega
  case b4 => exact Nat.le_refl _
  intro w1 hown1 hgrow1
  have hb1 : Below w.heap.size w w1 := (Below.refl _ w).grown hgrow1 (Nat.le_refl _) (fun k hk => by cases hk)
  obtain ⟨M, hbk, hml⟩ : ∃ M, w1.heap[w.heap.size]? = some (.cells M 63 (0, 0)) ∧ M.toList = opCells (List.replicate (xs.length + 2) noOp) := by
    rcases hown1.2 with ⟨h', _⟩ | ⟨g', cap', cur, hv, hg, hbk, h1, h2, h3, h4⟩
    · cases h'
    · cases hv
      refine ⟨cur, hbk, ?_⟩
      rw [List.take_of_length_le (by rw [Array.length_toList]; omega)] at h4
      rw [h4]
      exact made_ops (xs.length + 2)
  have hms : (xs.length + 2) * 3 ≤ M.size := by rw [← Array.length_toList, hml, opCells_length, List.length_replicate]; exact Nat.le_refl _
  have HML : Hid (M.toList = opCells (List.replicate (xs.length + 2) noOp)) := hml
  clear hml hown1 hgrow1
  have hcp := run_copy_ops w1 3 w.heap.size (xs.length + 2) (xs.length + 2) sp xs.length cap M hbk xs rfl (by omega) (by omega) (fun h0 => by
    obtain ⟨ad, h1, h2, h3⟩ := HS.out h0
    exact ⟨ad, h1, fun j u hu => (hb1.cell (p := ad.add j) (by rw [add_block]; exact h2)).trans (h3 j u hu)⟩)
  obtain ⟨w2, hw2⟩ : ∃ w2, w2 = w1.setRow w.heap.size (opCells xs ++ M.toList.drop (xs.length * 3)).toArray := ⟨_, rfl⟩
  have hb2 : Below w.heap.size w w2 := by
    rw [hw2]
    exact hb1.trans ⟨rfl, rfl, rfl, by simp, fun k hk => setRow_other _ _ _ _ (by omega)⟩
  have hown2 : OwnOps w2 w.heap.size (.slice (some ⟨w.heap.size, 0, none⟩) (xs.length + 2) (xs.length + 2)) (xs ++ noOp :: [noOp]) := by
    rw [hw2]
    refine own_of_row (setRow_heap _ _ M _ 63 (0, 0) hbk) ?_ (by simp) (by unfold maxLen; omega) _ (Nat.le_refl _)
    rw [List.toList_toArray, HML.out, opCells_drop, opCells_append]
    congr 2
    rw [List.drop_replicate, show xs.length + 2 - xs.length = 2 from by omega]; rfl
  rw [← hw2] at hcp
  obtain ⟨e0, e1, e2, e3⟩ := own_cells hown2
  have R := own_set hown2 0 0 ⟨#[110, 111, 116, 32, 121, 111, 117, 114, 115]⟩
  have HR : Hid (OwnOps (((w2.setCell ⟨w.heap.size, xs.length * 3, none⟩ (.int .i64 0)).setCell ⟨w.heap.size, xs.length * 3 + 1, none⟩ (.int .i64 0)).setCell ⟨w.heap.size, xs.length * 3 + 2, none⟩ (.string ⟨#[110, 111, 116, 32, 121, 111, 117, 114, 115]⟩)) w.heap.size (.slice (some ⟨w.heap.size, 0, none⟩) (xs.length + 2) (xs.length + 2)) (xs ++ notYours :: [noOp])) := R
  have f0 := e3 (xs.length * 3)
  have f1 := e3 (xs.length * 3 + 1)
  have f2 := e3 (xs.length * 3 + 2)
  clear R hw2 hown2 hbk hms HML hb1 e3
  go_wp2
  go_ret
  exact ⟨rfl, HR.out, ((hb2.setCell (p := ⟨w.heap.size, _, none⟩) (Nat.le_refl _) _).setCell (p := ⟨w.heap.size, _, none⟩) (Nat.le_refl _) _).setCell (p := ⟨w.heap.size, _, none⟩) (Nat.le_refl _) _⟩

/-- The head of a row of the call's own. -/
theorem own_head {w : World} {base g cap n : Nat} {xs ys : List DOp} (h : OwnOps w base (.slice (some ⟨g, 0, none⟩) n cap) (xs ++ ys)) (c : Nat) : View w (.slice (some ⟨g, 0, none⟩) xs.length c) xs := by
  rcases reads_of_own h with ⟨h', _⟩ | ⟨g', cap', hv, hg, _, hr⟩
  · cases h'
  · cases hv
    refine .inr ⟨g, 0, c, rfl, hg, fun i o ho => hr i o ?_⟩
    have hi := (List.getElem?_eq_some_iff.1 ho).1
    rw [List.getElem?_append_left hi]; exact ho

def seven : DOp := ⟨77, 0, ⟨#[]⟩⟩

theorem gb_refl (w : World) (r : Option Nat) : w.grownBy w r := ⟨rfl, rfl, rfl, Nat.le_refl _, fun _ _ _ => rfl⟩
theorem gb_below {w w' : World} (h : Below w.heap.size w w') (r : Option Nat) : w.grownBy w' r := ⟨h.os, h.tape, h.output, h.size, fun k hk _ => h.block k hk⟩
theorem gb_set {w w' : World} {g : Nat} (h : w.grownBy w' (some g)) (j : Nat) (u : Value) : w.grownBy (w'.setCell ⟨g, j, none⟩ u) (some g) := by
  have hs := (Below.refl 0 w').setCell (p := ⟨g, j, none⟩) (Nat.zero_le _) u
  exact ⟨hs.os.trans h.os, hs.tape.trans h.tape, hs.output.trans h.output, Nat.le_trans h.size hs.size, fun k hk hne => (Below.heap_setCell _ _ _ _ (fun e => hne (by rw [e]))).trans (h.block k hk hne)⟩

set_option maxHeartbeats 4000000 in
theorem back_list (g base : Nat) (xs : List DOp) (was : Value) (w : World) (hx : xs.length ≤ 4398046511000) (hown : OwnOps w base (.slice (some ⟨g, 0, none⟩) (xs.length + 2) (xs.length + 2)) (xs ++ notYours :: [noOp])) (hb : base ≤ g) (hv : View w was xs) :
    Calls Tryz.prog 70 #[.slice (some ⟨g, 0, none⟩) (xs.length + 2) (xs.length + 2), was] w fun e w' => e = .returned (.bool true) ∧ w.grownBy w' (some g) := by
  have HV : Hid (View w was xs) := hv
  obtain ⟨sp, cap, hvv, _⟩ := view_src hv
  have HS : Hid (Calls Tryz.prog 58 #[.slice (some ⟨g, 0, none⟩) xs.length (xs.length + 2), was] w fun e w' => e = .returned (.bool true) ∧ ∃ n, w' = w.drewN n) := sameOps_any (by omega) (own_head hown _) hv
  rw [hvv] at HS ⊢
  obtain ⟨d0, d1, d2, d3⟩ := own_cells (A := xs) (o := notYours) (B := [noOp]) hown
  have hown' : OwnOps w base (.slice (some ⟨g, 0, none⟩) (xs.length + 2) (xs.length + 2)) ((xs ++ [notYours]) ++ noOp :: []) := by simpa using hown
  obtain ⟨e0, e1, e2, _⟩ := own_cells hown'
  simp only [List.length_append, List.length_singleton] at e0 e1 e2
  clear hv hvv HV hown'
  go_enter Tryz.func70, Tryz.ntmps70
  go_wp2_with fail
  refine HS.out.mono ?_
  rintro e w1 ⟨rfl, n0, hw1⟩
  have d1' : w1.cell? ⟨g, xs.length * 3 + 1, none⟩ = some (.int .i64 0) := by rw [hw1]; exact d1
  have d2' : w1.cell? ⟨g, xs.length * 3 + 2, none⟩ = some (.string ⟨#[110, 111, 116, 32, 121, 111, 117, 114, 115]⟩) := by rw [hw1]; exact d2
  have e1' : w1.cell? ⟨g, (xs.length + 1) * 3 + 1, none⟩ = some (.int .i64 0) := by rw [hw1]; exact e1
  have e2' : w1.cell? ⟨g, (xs.length + 1) * 3 + 2, none⟩ = some (.string ⟨#[]⟩) := by rw [hw1]; exact e2
  have hown1 : OwnOps w1 base (.slice (some ⟨g, 0, none⟩) (xs.length + 2) (xs.length + 2)) (xs ++ notYours :: [noOp]) := by rw [hw1]; exact hown
  have hb1 : w.grownBy w1 (some g) := by rw [hw1]; exact gb_below (below_drewN _ _ _) _
  clear hw1 hown d0 d1 d2 e0 e1 e2 d3 HS
  go_wp2
  go_loopw [7] (fun i wr => ∃ k : Nat, k ≤ xs.length ∧ i = .int .i64 k ∧ OwnOps wr base (.slice (some ⟨g, 0, none⟩) (xs.length + 2) (xs.length + 2)) (List.replicate k seven ++ (xs.drop k ++ notYours :: [noOp])) ∧ w.grownBy wr (some g)) (fun i _ => xs.length + 1 - (intOf i).toNat)
  case atStart => exact ⟨0, by omega, rfl, by simpa using hown1, hb1⟩
  case round =>
    obtain ⟨k, hk, rfl, hown2, hb2⟩ := hrel
    by_cases hlt : k < xs.length
    · obtain ⟨o, ho⟩ : ∃ o, xs[k]? = some o := ⟨xs[k], by simp [hlt]⟩
      rw [drop_cons ho, List.cons_append] at hown2
      obtain ⟨c0, c1, c2, c3⟩ := own_cells hown2
      have R := own_set hown2 77 0 ⟨#[]⟩
      rw [List.length_replicate] at c0 c1 c2 R
      have HR : Hid (OwnOps (((wr.setCell ⟨g, k * 3, none⟩ (.int .i64 77)).setCell ⟨g, k * 3 + 1, none⟩ (.int .i64 0)).setCell ⟨g, k * 3 + 2, none⟩ (.string ⟨#[]⟩)) base (.slice (some ⟨g, 0, none⟩) (xs.length + 2) (xs.length + 2)) (List.replicate (k + 1) seven ++ (xs.drop (k + 1) ++ notYours :: [noOp]))) := by
        show OwnOps _ _ _ _
        rw [List.replicate_succ', List.append_assoc]
        exact R
      have f0 := c3 (k * 3)
      have f1 := c3 (k * 3 + 1)
      have f2 := c3 (k * 3 + 2)
      clear R c3 hown2 ho
      go_wp2
      go_roundw
      case rel => exact ⟨k + 1, by omega, by go_num, HR.out, gb_set (gb_set (gb_set hb2 _ _) _ _) _ _⟩
      case measure => simp [intOf]; omega
    · go_wp2
      go_ret
      exact ⟨rfl, hb2⟩
end Go.Proofs.YtabpiaaknjcnkaaGreat
