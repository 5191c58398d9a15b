/- The texts L3, L4, one behind the other. -/
import Derived.Test.YtabpiaaknjcnkaaGreatXP3WAWCL1L2
import Derived.LoopTactic
import Derived.Deep.AppendLies
/-
  The walks over lent and back.
-/
namespace Go.Proofs.YtabpiaaknjcnkaaGreat
open Go.RowKit
set_option linter.unusedVariables false
set_option linter.unusedSimpArgs false
set_option maxRecDepth 100000

theorem add_block (a : Addr) (j : Nat) : (a.add j).block = a.block := by unfold Addr.add; split <;> rfl

theorem view_src {w : World} {v : Value} {xs : List DOp} (h : View w v xs) : ∃ sp cap, v = .slice sp xs.length cap ∧
    (0 < xs.length → ∃ ad, sp = some ad ∧ ad.block < w.heap.size ∧ ∀ j u, (opCells xs)[j]? = some u → w.cell? (ad.add j) = some u) := by
  rcases h with ⟨rfl, ao, cap, rfl⟩ | ⟨b, off, cap, rfl, hb, hr⟩
  · exact ⟨ao, cap, rfl, fun h => by simp at h⟩
  · exact ⟨_, cap, rfl, fun _ => ⟨_, rfl, hb, View.cells hr⟩⟩

theorem own_of_row {w : World} {g n : Nat} {Y : Array Value} {xs : List DOp} (hbk : w.heap[g]? = some (.cells Y 63 (0, 0))) (hY : Y.toList = opCells xs) (hn : xs.length = n) (hm : n ≤ maxLen) (base : Nat) (hb : base ≤ g) :
    OwnOps w base (.slice (some ⟨g, 0, none⟩) n n) xs := by
  subst hn
  have hs : Y.size = xs.length * 3 := by rw [← Array.length_toList, hY, opCells_length]
  exact ⟨opCells_length xs, .inr ⟨g, xs.length, Y, rfl, hb, hbk, Nat.le_refl _, hm, hs, by rw [hY, List.take_of_length_le (by rw [opCells_length]; exact Nat.le_refl _)]⟩⟩

set_option maxHeartbeats 2000000 in
theorem lent_any (v : Value) (xs : List DOp) (w : World) (hx : xs.length ≤ 4398046511000) (hv : View w v xs) :
    Calls Tryz.prog 55 #[v] w fun e w' => e = .returned (.slice (some ⟨w.heap.size, 0, none⟩) (xs.length + 2) (xs.length + 2)) ∧ OwnOps w' w.heap.size (.slice (some ⟨w.heap.size, 0, none⟩) (xs.length + 2) (xs.length + 2)) (xs ++ notYours :: [noOp]) ∧ Below w.heap.size w w' := by
  obtain ⟨i0, hi, hz0, hz1, hz2⟩ := info_parts Tryz.infoOp
  obtain ⟨sp, cap, hvv, hsrc⟩ := view_src hv
  rw [hvv]
  have HS : Hid (0 < xs.length → ∃ ad, sp = some ad ∧ ad.block < w.heap.size ∧ ∀ j u, (opCells xs)[j]? = some u → w.cell? (ad.add j) = some u) := hsrc
  clear hvv hsrc hv
  go_enter Tryz.func55, Tryz.ntmps55
  go_wp2_with (first | (at_make; refine wpList_make_full _ rfl _ _ 59 rfl w.heap.size 63 i0 (.agg #[.int .i64 0, .int .i64 0, .string ⟨#[]⟩]) 3 Tryz.underlying59 hi hz0 hz1 _ _ _ _ (xs.length + 2) rfl rfl (by omega) (by omega) ?b2 ?b3 ?b4 ?_))
  case b2 => rw [hz2]; omega
  case b3 => unfold maxLen; omega
  case b4 => exact Nat.le_refl _
  intro w1 hown1 hgrow1
  have hb1 : Below w.heap.size w w1 := (Below.refl _ w).grown hgrow1 (Nat.le_refl _) (fun k hk => by cases hk)
  obtain ⟨M, hbk, hml⟩ : ∃ M, w1.heap[w.heap.size]? = some (.cells M 63 (0, 0)) ∧ M.toList = opCells (List.replicate (xs.length + 2) noOp) := by
    rcases hown1.2 with ⟨h', _⟩ | ⟨g', cap', cur, hv, hg, hbk, h1, h2, h3, h4⟩
    · cases h'
    · cases hv
      refine ⟨cur, hbk, ?_⟩
      rw [List.take_of_length_le (by rw [Array.length_toList]; omega)] at h4
      rw [h4]
      exact made_ops (xs.length + 2)
  have hms : (xs.length + 2) * 3 ≤ M.size := by rw [← Array.length_toList, hml, opCells_length, List.length_replicate]; exact Nat.le_refl _
  have HML : Hid (M.toList = opCells (List.replicate (xs.length + 2) noOp)) := hml
  clear hml hown1 hgrow1
  have hcp := run_copy_ops w1 3 w.heap.size (xs.length + 2) (xs.length + 2) sp xs.length cap M hbk xs rfl (by omega) (by omega) (fun h0 => by
    obtain ⟨ad, h1, h2, h3⟩ := HS.out h0
    exact ⟨ad, h1, fun j u hu => (hb1.cell (p := ad.add j) (by rw [add_block]; exact h2)).trans (h3 j u hu)⟩)
  obtain ⟨w2, hw2⟩ : ∃ w2, w2 = w1.setRow w.heap.size (opCells xs ++ M.toList.drop (xs.length * 3)).toArray := ⟨_, rfl⟩
  have hb2 : Below w.heap.size w w2 := by
    rw [hw2]
    exact hb1.trans ⟨rfl, rfl, rfl, by simp, fun k hk => setRow_other _ _ _ _ (by omega)⟩
  have hown2 : OwnOps w2 w.heap.size (.slice (some ⟨w.heap.size, 0, none⟩) (xs.length + 2) (xs.length + 2)) (xs ++ noOp :: [noOp]) := by
    rw [hw2]
    refine own_of_row (setRow_heap _ _ M _ 63 (0, 0) hbk) ?_ (by simp) (by unfold maxLen; omega) _ (Nat.le_refl _)
    rw [List.toList_toArray, HML.out, opCells_drop, opCells_append]
    congr 2
    rw [List.drop_replicate, show xs.length + 2 - xs.length = 2 from by omega]; rfl
  rw [← hw2] at hcp
  obtain ⟨e0, e1, e2, e3⟩ := own_cells hown2
  have R := own_set hown2 0 0 ⟨#[110, 111, 116, 32, 121, 111, 117, 114, 115]⟩
  have HR : Hid (OwnOps (((w2.setCell ⟨w.heap.size, xs.length * 3, none⟩ (.int .i64 0)).setCell ⟨w.heap.size, xs.length * 3 + 1, none⟩ (.int .i64 0)).setCell ⟨w.heap.size, xs.length * 3 + 2, none⟩ (.string ⟨#[110, 111, 116, 32, 121, 111, 117, 114, 115]⟩)) w.heap.size (.slice (some ⟨w.heap.size, 0, none⟩) (xs.length + 2) (xs.length + 2)) (xs ++ notYours :: [noOp])) := R
  have f0 := e3 (xs.length * 3)
  have f1 := e3 (xs.length * 3 + 1)
  have f2 := e3 (xs.length * 3 + 2)
  clear R hw2 hown2 hbk hms HML hb1 e3
  go_wp2
  go_ret
  exact ⟨rfl, HR.out, ((hb2.setCell (p := ⟨w.heap.size, _, none⟩) (Nat.le_refl _) _).setCell (p := ⟨w.heap.size, _, none⟩) (Nat.le_refl _) _).setCell (p := ⟨w.heap.size, _, none⟩) (Nat.le_refl _) _⟩

/-- The head of a row of the call's own. -/
theorem own_head {w : World} {base g cap n : Nat} {xs ys : List DOp} (h : OwnOps w base (.slice (some ⟨g, 0, none⟩) n cap) (xs ++ ys)) (c : Nat) : View w (.slice (some ⟨g, 0, none⟩) xs.length c) xs := by
  rcases reads_of_own h with ⟨h', _⟩ | ⟨g', cap', hv, hg, _, hr⟩
  · cases h'
  · cases hv
    refine .inr ⟨g, 0, c, rfl, hg, fun i o ho => hr i o ?_⟩
    have hi := (List.getElem?_eq_some_iff.1 ho).1
    rw [List.getElem?_append_left hi]; exact ho

def seven : DOp := ⟨77, 0, ⟨#[]⟩⟩

theorem gb_below {w w' : World} (h : Below w.heap.size w w') (r : Option Nat) : w.grownBy w' r := ⟨h.os, h.tape, h.output, h.size, fun k hk _ => h.block k hk⟩
theorem gb_set {w w' : World} {g : Nat} (h : w.grownBy w' (some g)) (j : Nat) (u : Value) : w.grownBy (w'.setCell ⟨g, j, none⟩ u) (some g) := by
  have hs := (Below.refl 0 w').setCell (p := ⟨g, j, none⟩) (Nat.zero_le _) u
  exact ⟨hs.os.trans h.os, hs.tape.trans h.tape, hs.output.trans h.output, Nat.le_trans h.size hs.size, fun k hk hne => (Below.heap_setCell _ _ _ _ (fun e => hne (by rw [e]))).trans (h.block k hk hne)⟩

set_option maxHeartbeats 4000000 in
theorem back_list (g base : Nat) (xs : List DOp) (was : Value) (w : World) (hx : xs.length ≤ 4398046511000) (hown : OwnOps w base (.slice (some ⟨g, 0, none⟩) (xs.length + 2) (xs.length + 2)) (xs ++ notYours :: [noOp])) (hb : base ≤ g) (hv : View w was xs) :
    Calls Tryz.prog 70 #[.slice (some ⟨g, 0, none⟩) (xs.length + 2) (xs.length + 2), was] w fun e w' => e = .returned (.bool true) ∧ w.grownBy w' (some g) := by
  have HV : Hid (View w was xs) := hv
  obtain ⟨sp, cap, hvv, _⟩ := view_src hv
  have HS : Hid (Calls Tryz.prog 58 #[.slice (some ⟨g, 0, none⟩) xs.length (xs.length + 2), was] w fun e w' => e = .returned (.bool true) ∧ ∃ n, w' = w.drewN n) := sameOps_any (by omega) (own_head hown _) hv
  rw [hvv] at HS ⊢
  obtain ⟨d0, d1, d2, d3⟩ := own_cells (A := xs) (o := notYours) (B := [noOp]) hown
  have hown' : OwnOps w base (.slice (some ⟨g, 0, none⟩) (xs.length + 2) (xs.length + 2)) ((xs ++ [notYours]) ++ noOp :: []) := by simpa using hown
  obtain ⟨e0, e1, e2, _⟩ := own_cells hown'
  simp only [List.length_append, List.length_singleton] at e0 e1 e2
  clear hv hvv HV hown'
  go_enter Tryz.func70, Tryz.ntmps70
  go_wp2_with fail
  refine HS.out.mono ?_
  rintro e w1 ⟨rfl, n0, hw1⟩
  have d1' : w1.cell? ⟨g, xs.length * 3 + 1, none⟩ = some (.int .i64 0) := by rw [hw1]; exact d1
  have d2' : w1.cell? ⟨g, xs.length * 3 + 2, none⟩ = some (.string ⟨#[110, 111, 116, 32, 121, 111, 117, 114, 115]⟩) := by rw [hw1]; exact d2
  have e1' : w1.cell? ⟨g, (xs.length + 1) * 3 + 1, none⟩ = some (.int .i64 0) := by rw [hw1]; exact e1
  have e2' : w1.cell? ⟨g, (xs.length + 1) * 3 + 2, none⟩ = some (.string ⟨#[]⟩) := by rw [hw1]; exact e2
  have hown1 : OwnOps w1 base (.slice (some ⟨g, 0, none⟩) (xs.length + 2) (xs.length + 2)) (xs ++ notYours :: [noOp]) := by rw [hw1]; exact hown
  have hb1 : w.grownBy w1 (some g) := by rw [hw1]; exact gb_below (below_drewN _ _ _) _
  clear hw1 hown d0 d1 d2 e0 e1 e2 d3 HS
  go_wp2
  go_loopw [7] (fun i wr => ∃ k : Nat, k ≤ xs.length ∧ i = .int .i64 k ∧ OwnOps wr base (.slice (some ⟨g, 0, none⟩) (xs.length + 2) (xs.length + 2)) (List.replicate k seven ++ (xs.drop k ++ notYours :: [noOp])) ∧ w.grownBy wr (some g)) (fun i _ => xs.length + 1 - (intOf i).toNat)
  case atStart => exact ⟨0, by omega, rfl, by simpa using hown1, hb1⟩
  case round =>
    obtain ⟨k, hk, rfl, hown2, hb2⟩ := hrel
    by_cases hlt : k < xs.length
    · obtain ⟨o, ho⟩ : ∃ o, xs[k]? = some o := ⟨xs[k], by simp [hlt]⟩
      rw [drop_cons ho, List.cons_append] at hown2
      obtain ⟨c0, c1, c2, c3⟩ := own_cells hown2
      have R := own_set hown2 77 0 ⟨#[]⟩
      rw [List.length_replicate] at c0 c1 c2 R
      have HR : Hid (OwnOps (((wr.setCell ⟨g, k * 3, none⟩ (.int .i64 77)).setCell ⟨g, k * 3 + 1, none⟩ (.int .i64 0)).setCell ⟨g, k * 3 + 2, none⟩ (.string ⟨#[]⟩)) base (.slice (some ⟨g, 0, none⟩) (xs.length + 2) (xs.length + 2)) (List.replicate (k + 1) seven ++ (xs.drop (k + 1) ++ notYours :: [noOp]))) := by
        show OwnOps _ _ _ _
        rw [List.replicate_succ', List.append_assoc]
        exact R
      have f0 := c3 (k * 3)
      have f1 := c3 (k * 3 + 1)
      have f2 := c3 (k * 3 + 2)
      clear R c3 hown2 ho
      go_wp2
      go_roundw
      case rel => exact ⟨k + 1, by omega, by go_num, HR.out, gb_set (gb_set (gb_set hb2 _ _) _ _) _ _⟩
      case measure => simp [intOf]; omega
    · go_wp2
      go_ret
      exact ⟨rfl, hb2⟩
end Go.Proofs.YtabpiaaknjcnkaaGreat

/-
  The book's marks: a list that is written full with a mark, and the longer ones.
-/
namespace Go.Proofs.YtabpiaaknjcnkaaGreat
open Go.RowKit
set_option linter.unusedVariables false
set_option linter.unusedSimpArgs false
set_option maxRecDepth 100000

abbrev marks (n : Nat) (m : Int) : List DOp := List.replicate n (mark m)

def markCell (m : Int) (p : Nat) : Value := if p % 3 = 0 then .int .i64 m else if p % 3 = 1 then .int .i64 0 else .string ⟨#[]⟩
theorem marks_get (n : Nat) (m : Int) (p : Nat) : (opCells (marks n m))[p]? = if p < n * 3 then some (markCell m p) else none := by
  by_cases hp : p < n * 3
  · rw [if_pos hp]
    obtain ⟨a0, a1, a2⟩ := opCells_get (marks n m) (p / 3) (mark m) (by rw [List.getElem?_replicate, if_pos (by omega)])
    have h3 : p % 3 = 0 ∨ p % 3 = 1 ∨ p % 3 = 2 := by omega
    rcases h3 with h3 | h3 | h3
    · have e : p = p / 3 * 3 := by omega
      rw [markCell, if_pos h3]; conv => lhs; rw [e]
      exact a0
    · have e : p = p / 3 * 3 + 1 := by omega
      rw [markCell, if_neg (by omega), if_pos h3]; conv => lhs; rw [e]
      exact a1
    · have e : p = p / 3 * 3 + 2 := by omega
      rw [markCell, if_neg (by omega), if_neg (by omega)]; conv => lhs; rw [e]
      exact a2
  · rw [if_neg hp, List.getElem?_eq_none (by rw [opCells_length, List.length_replicate]; omega)]

theorem marks_add (n k : Nat) (m : Int) : marks n m ++ marks k m = marks (n + k) m := by simp [marks]

/-- What is owned stays owned where its block stands. -/
theorem own_block {w w' : World} {base : Nat} {v : Value} {xs : List DOp} (h : OwnOps w base v xs) (hb : ∀ g, v.ownBlock = some g → w'.heap[g]? = w.heap[g]?) : OwnOps w' base v xs := by
  refine ⟨h.1, ?_⟩
  rcases h.2 with h' | ⟨g, cap, cur, rfl, hg, hbk, hr⟩
  · exact .inl h'
  · exact .inr ⟨g, cap, cur, rfl, hg, by rw [hb g rfl]; exact hbk, hr⟩

/-- A row of marks over which marks are written. -/
theorem own_marked {w : World} {base g : Nat} {cur : Array Value} {n k j : Nat} {m : Int} {u : Value} (hbk : w.heap[g]? = some (.cells cur 63 (0, 0))) (hcur : cur.toList.take (n * 3) = opCells (marks n m)) (hfit : (n + k) * 3 ≤ cur.size)
    (hu : OwnOps w base u (marks j m)) : OwnOps (w.setRow g (cur.toList.take (n * 3) ++ opCells (marks k m) ++ cur.toList.drop ((n + k) * 3)).toArray) base u (marks j m) := by
  refine ⟨hu.1, ?_⟩
  rcases hu.2 with h' | ⟨g', cap, cur', rfl, hg, hbk', h1, h2, h3, h4⟩
  · exact .inl h'
  · by_cases e : g' = g
    · subst e
      obtain rfl : cur' = cur := by rw [hbk] at hbk'; cases hbk'; rfl
      have hl : (cur'.toList.take (n * 3) ++ opCells (marks k m) ++ cur'.toList.drop ((n + k) * 3)).length = cur'.size := by
        simp only [List.length_append, List.length_take, List.length_drop, opCells_length, List.length_replicate, Array.length_toList]; omega
      refine .inr ⟨g', cap, _, rfl, hg, setRow_heap _ _ cur' _ 63 (0, 0) hbk, h1, h2, by rw [List.size_toArray, hl]; exact h3, ?_⟩
      apply List.ext_getElem?
      intro p
      rw [List.toList_toArray]
      by_cases hp : p < (marks j m).length * 3
      · rw [List.getElem?_take_of_lt hp, marks_get, if_pos (by simpa using hp)]
        by_cases h5 : p < (n + k) * 3
        · rw [List.getElem?_append_left (by simp only [List.length_append, List.length_take, opCells_length, List.length_replicate, Array.length_toList]; omega), hcur, ← opCells_append, marks_add, marks_get, if_pos h5]
        · have hl2 : (cur'.toList.take (n * 3) ++ opCells (marks k m)).length = (n + k) * 3 := by
            simp only [List.length_append, List.length_take, opCells_length, List.length_replicate, Array.length_toList]; omega
          rw [List.getElem?_append_right (by omega), hl2, List.getElem?_drop, show (n + k) * 3 + (p - (n + k) * 3) = p from by omega]
          have h6 := congrArg (fun l : List Value => l[p]?) h4
          rw [List.getElem?_take_of_lt hp, marks_get, if_pos (by simpa using hp)] at h6
          exact h6
      · rw [List.getElem?_eq_none (by rw [List.length_take]; omega), marks_get, if_neg (by simpa using hp)]
    · exact .inr ⟨g', cap, cur', rfl, hg, by rw [setRow_other _ _ _ _ e]; exact hbk', h1, h2, h3, h4⟩

/-- 'append' of marks onto a list of marks of the call's own: it, and whatever else is marked so, reads as before; the new one reads as marks. -/
theorem run_append_marks (w : World) (ty : TypeId) (base : Nat) (v : Value) (n k : Nat) (m : Int) (hown : OwnOps w base v (marks n m)) (ad : Addr) (c : Nat) (hnews : ∀ j u, (opCells (marks k m))[j]? = some u → w.cell? (ad.add j) = some u)
    (hk : 0 < k) (hx : n + k ≤ 1000000000) (hbase : base ≤ w.heap.size) :
    ∃ v' w', (Builtin.append_ #[59, 59] ty #[v, .slice (some ad) k c]).run Tryz.prog w = .ok v' w' ∧ OwnOps w' base v' (marks (n + k) m) ∧ (∀ u j, OwnOps w base u (marks j m) → OwnOps w' base u (marks j m)) ∧ w.grownBy w' v.ownBlock := by
  obtain ⟨i0, hi, hz0, hz1, hz2⟩ := info_parts Tryz.infoOp
  have hl : (opCells (marks k m)).length = k * 3 := by rw [opCells_length, List.length_replicate]
  have hn : (marks n m).length = n := List.length_replicate
  rcases hown.2 with ⟨rfl, h0⟩ | ⟨g, cap, cur, rfl, hg, hbk, h1, h2, h3, h4⟩
  · rw [hn] at h0
    subst h0
    obtain ⟨v', w', hr, ho, hgr, _⟩ := run_append_own (P := Tryz.prog) w base 59 ty 63 i0 (.agg #[.int .i64 0, .int .i64 0, .string ⟨#[]⟩]) 3 32 Tryz.underlying59 hi hz0 hz1 hz2 rfl (by decide) (.slice none 0 0) 0 [] (World.ownsRow_nil _ _ _ _) ad k c (opCells (marks k m)) hl hnews (opCells_all_one _) (by unfold maxLen; omega) (by omega) hbase
    refine ⟨v', w', hr, ?_, fun u j hu => own_block hu (fun g hg => hgr.block g (row_own_lt hu hg) (by simp [Value.ownBlock])), hgr⟩
    simp only [Nat.zero_add, List.nil_append] at ho ⊢
    show w'.ownsRow base 63 3 v' (marks k m).length (opCells (marks k m))
    rw [List.length_replicate]; exact ho
  · rw [hn] at h1 h4
    by_cases hroom : n + k ≤ cap
    · have hr := run_append_room (P := Tryz.prog) w 59 ty 63 i0 Tryz.underlying59 hi g n cap cur hbk ad k c (opCells (marks k m)) (by rw [hl, hz1]) hnews (opCells_all_one _) hroom (by rw [hz1, hl, h3]; omega)
      rw [hz1, hl, ← Nat.add_mul] at hr
      rw [hn]
      refine ⟨_, _, hr, ?_, fun u j hu => own_marked hbk h4 (by omega) hu, ?_⟩
      · have hs : (cur.toList.take (n * 3) ++ opCells (marks k m) ++ cur.toList.drop ((n + k) * 3)).length = cur.size := by
          simp only [List.length_append, List.length_take, List.length_drop, opCells_length, List.length_replicate, Array.length_toList]; omega
        refine ⟨opCells_length _, .inr ⟨g, cap, _, by rw [List.length_replicate], hg, setRow_heap _ _ cur _ 63 (0, 0) hbk, by rw [List.length_replicate]; exact hroom, h2, by rw [List.size_toArray, hs]; exact h3, ?_⟩⟩
        rw [List.toList_toArray, h4, ← opCells_append, marks_add, List.take_left' (by rw [opCells_length])]
      · exact ⟨rfl, rfl, rfl, by simp, fun q _ hq => setRow_other _ _ _ _ (fun e => hq (by rw [e]; rfl))⟩
    · obtain ⟨v', w', hr, ho, hgr⟩ := run_append_arg_grows (P := Tryz.prog) w 59 ty 63 i0 (.agg #[.int .i64 0, .int .i64 0, .string ⟨#[]⟩]) 3 32 Tryz.underlying59 hi hz0 hz1 hz2 rfl (by decide) ⟨g, 0, none⟩ n cap (opCells (marks n m)) (by rw [opCells_length, hn])
        (fun j u hu => (World.ownsRow.cells hown (g := g) rfl) j u hu) ad k c (opCells (marks k m)) hl hnews (by omega) (by unfold maxLen; omega) (by omega)
      rw [hn]
      refine ⟨v', w', hr, ?_, fun u j hu => own_block hu (fun g hg => hgr.block g (row_own_lt hu hg) (by simp)), hgr.but _⟩
      have : OwnOps w' w.heap.size v' (marks (n + k) m) := by
        show w'.ownsRow w.heap.size 63 3 v' (marks (n + k) m).length (opCells (marks (n + k) m))
        rw [List.length_replicate, ← marks_add, opCells_append]; exact ho
      exact this.wide hbase
end Go.Proofs.YtabpiaaknjcnkaaGreat
