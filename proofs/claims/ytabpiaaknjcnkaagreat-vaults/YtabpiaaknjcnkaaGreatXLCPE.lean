/- The texts LC, PE, one behind the other. -/
import Derived.Test.YtabpiaaknjcnkaaGreatXR4L7L8P4
import Derived.Test.YtabpiaaknjcnkaaGreatR8
import Derived.LoopTactic
import Derived.Test.YtabpiaaknjcnkaaGreatC2
/-
  A step of Decode.
-/
namespace Go.Proofs.YtabpiaaknjcnkaaGreat
open Go.RowKit
set_option linter.unusedVariables false
set_option linter.unusedSimpArgs false
set_option maxRecDepth 100000

theorem decGo_length {s : ByteArray} : ∀ (r : Nat) (out : List DOp) (total at_ : Nat) {res : List DOp} {nx : Nat}, decGo s r out total at_ = .inr (res, nx) → res.length = out.length + r
  | 0, out, total, at_, res, nx, h => by
    rw [decGo] at h
    injection h with h
    injection h with h1 h2
    rw [← h1]; rfl
  | r + 1, out, total, at_, res, nx, h => by
    rw [decGo] at h
    split at h
    · cases h
    · have := decGo_length r _ _ _ h
      simp at this
      omega
theorem decL_length (s : ByteArray) : (decL s).length ≤ 200 := by
  unfold decL
  split
  · simp
  · rename_i out h
    unfold decF at h
    split at h
    · cases h
    · split at h
      · cases h
      · split at h
        · cases h
        · rename_i o2 at' hd
          split at h
          · cases h
          · injection h with h
            have := decGo_length _ _ _ _ hd
            simp at this
            subst h
            omega

set_option maxHeartbeats 4000000 in
theorem wdeltas_dec (w : World) (B0 Wb : Nat) (xv yv bv : Value) (es : List Entry) (hbook : BookAt w B0 Wb xv yv bv es (· < w.heap.size)) (hes : es.length ≤ 1300000000000) (hB0 : B0 ≤ w.heap.size) (a b c : Int) (s t : ByteArray) (vl vm : Value) (xs ys : List DOp)
    (hs : s.size ≤ 9223372036854770000) (hx : xs.length ≤ 4398046511000) (hy : ys.length ≤ 4398046511000) (hl : LView B0 w vl xs) (hm : LView B0 w vm ys) :
    Calls Tryz.prog 30 #[.pointer (some ⟨Wb, 0, none⟩), .agg #[.int .i64 6, .int .i64 a, .int .i64 b, .int .i64 c, .string s, .string t, vl, vm]] w fun e w' =>
      e = .returned (.bool true) ∧ (∃ bv' es', es'.length = es.length + 1 ∧ BookAt w' B0 Wb xv yv bv' es' (· < w'.heap.size)) ∧ Below B0 w w' := by
  have HBK : Hid (BookAt w B0 Wb xv yv bv es (· < w.heap.size)) := hbook
  have hWb : Wb < w.heap.size := hbook.wbB
  have hW0 : B0 ≤ Wb := hbook.wb0
  have HL : Hid (LView B0 w vl xs) := hl
  have HM : Hid (LView B0 w vm ys) := hm
  obtain ⟨lo, lc, hvl⟩ := hl.slice
  obtain ⟨mo, mc, hvm⟩ := hm.slice
  rw [hvl] at HL
  rw [hvm] at HM
  rw [hvl, hvm]
  clear hbook hl hm hvl hvm
  have hD : (decL s).length ≤ 100000 := by have := decL_length s; omega
  go_enter Tryz.func30, Tryz.ntmps30
  go_wp2_with fail
  refine (lent_any _ xs _ (by omega) ((HL.out.view hB0).kept ((Below.refl _ _).alloc (Nat.le_refl _) _))).mono ?_
  rintro e w1 ⟨rfl, o1, b1⟩
  have ob1 : w1.heap[w.heap.size]? = some (.cells #[.int .i64 6, .int .i64 a, .int .i64 b, .int .i64 c, .string s, .string t, .slice lo xs.length lc, .slice mo ys.length mc] 61 (0, 0)) := (b1.block _ (by simp)).trans (heap_alloc_new _ _)
  have c1 : Below w.heap.size w w1 := ((Below.refl _ w).alloc (Nat.le_refl _) _).trans (b1.mono (by simp))
  have p1 : Lent w1 (w.heap.size + 1) xs := by
    have h := o1
    rw [alloc_size1] at h
    exact h
  clear o1 b1
  have hs1 := c1.size
  have hp1 := p1.lt
  have k17 : w1.cell? ⟨w.heap.size, 7, none⟩ = some (.slice mo ys.length mc) := by rw [Lib.cell_of_heap ob1]; rfl
  go_wp2_with fail
  refine (lent_any _ ys _ (by omega) ((HM.out.view hB0).kept c1)).mono ?_
  rintro e w2 ⟨rfl, o2, b2⟩
  have p2 : Lent w2 w1.heap.size ys := o2
  have q1 : Lent w2 (w.heap.size + 1) xs := p1.kept (b2.block _ hp1)
  have ob2 := (b2.block _ (show w.heap.size < w1.heap.size by omega)).trans ob1
  have c2 : Below w.heap.size w w2 := c1.trans (b2.mono hs1)
  clear o2 p1 ob1 k17 c1
  have hp2 := p2.lt
  have hs2 := b2.size
  clear b2
  have k20 : w2.cell? ⟨w.heap.size, 0, none⟩ = some (.int .i64 6) := by rw [Lib.cell_of_heap ob2]; rfl
  have k24 : w2.cell? ⟨w.heap.size, 4, none⟩ = some (.string s) := by rw [Lib.cell_of_heap ob2]; rfl
  go_wp2_with fail
  refine (cdec_any s _ (by omega)).mono ?_
  rintro e w3 ⟨⟨v3, rfl, o3⟩, b3⟩
  obtain ⟨a3, c3, hv3⟩ := o3.slice
  subst hv3
  have k34 : w3.cell? ⟨w.heap.size, 4, none⟩ = some (.string s) := (b3.cell (p := ⟨w.heap.size, 4, none⟩) (by show w.heap.size < w2.heap.size; omega)).trans k24
  have hs3 := b3.size
  clear k20 k24
  go_wp2_with fail
  refine (rdec_any s _ hs).mono ?_
  rintro e w4 ⟨⟨v4, rfl, o4⟩, b4⟩
  obtain ⟨a4, c4, hv4⟩ := o4.slice
  subst hv4
  have u4 : OwnOps w4 w2.heap.size (.slice a3 (decL s).length c3) (decL s) := own_block o3 (fun g hg => b4.block g (row_own_lt o3 hg))
  have hs4 := b4.size
  have b24 : Below w2.heap.size w2 w4 := b3.trans (b4.mono hs3)
  clear k34 b3 b4 o3
  have HSAME : Hid (Calls Tryz.prog 58 #[.slice a3 (decL s).length c3, .slice a4 (decL s).length c4] w4 fun e w' => e = .returned (.bool true) ∧ ∃ n, w' = w4.drewN n) := sameOps_any (by omega) (View.of_own u4) (View.of_own o4)
  clear o4
  generalize hDD : decL s = D at *
  generalize decE s = E at *
  generalize decP s = P at *
  go_wp2_with fail
  refine HSAME.out.mono ?_
  rintro e w5 ⟨rfl, n5, hw5⟩
  have u5 : OwnOps w5 w2.heap.size (.slice a3 D.length c3) D := by rw [hw5]; exact u4
  have b25 : Below w2.heap.size w2 w5 := by rw [hw5]; exact b24.trans (below_drewN _ _ _)
  clear hw5 u4 b24 HSAME
  have hs5 := b25.size
  have bk5 : BookAt w5 B0 Wb xv yv bv es (· < w.heap.size) := HBK.out.kept (fun q hq => (b25.block q (by have : q < w.heap.size := hq; omega)).trans (c2.block q hq)) (fun q hq => hq)
  have q15 : Lent w5 (w.heap.size + 1) xs := q1.kept (b25.block _ (by omega))
  have q25 : Lent w5 w1.heap.size ys := p2.kept (b25.block _ (by omega))
  have ob5 := (b25.block _ (show w.heap.size < w2.heap.size by omega)).trans ob2
  have c5 : Below w.heap.size w w5 := c2.trans (b25.mono (by omega))
  clear q1 p2 ob2 c2 b25
  go_wp2_with fail
  refine (bops_walk w5 B0 Wb xv yv bv es (· < w.heap.size) w2.heap.size _ D bk5 (fun q hq => by have : q < w.heap.size := hq; omega) hes u5 hD hs5 (by omega)).mono ?_
  rintro e w6 ⟨rfl, ⟨bv6, e6, bk6⟩, kp6, bb6⟩
  have hbvb : ∀ q, w.heap.size ≤ q → bv.ownBlock ≠ some q := fun q hq e => by have : q < w.heap.size := HBK.out.lowr q e; omega
  have hs6 := bb6.size
  have ob6 := (kp6 _ (show w.heap.size < w2.heap.size by omega) (by omega) (hbvb _ (Nat.le_refl _))).trans ob5
  have q16 : Lent w6 (w.heap.size + 1) xs := q15.kept (kp6 _ (by omega) (by omega) (hbvb _ (by omega)))
  have q26 : Lent w6 w1.heap.size ys := q25.kept (kp6 _ (by omega) (by omega) (hbvb _ (by omega)))
  have c6 : Below B0 w w6 := (c5.mono hB0).trans bb6
  have hl6 := c6.size
  clear bb6 kp6 q15 q25 ob5 c5 bk5 u5
  have k66 : w6.cell? ⟨w.heap.size, 6, none⟩ = some (.slice lo xs.length lc) := by rw [Lib.cell_of_heap ob6]; rfl
  have HBACK : Hid (Calls Tryz.prog 70 #[.slice (some ⟨w.heap.size + 1, 0, none⟩) (xs.length + 2) (xs.length + 2), .slice lo xs.length lc] w6 fun e w' => e = .returned (.bool true) ∧ w6.grownBy w' (some (w.heap.size + 1))) :=
    back_list (w.heap.size + 1) (w.heap.size + 1) xs _ w6 (by omega) q16 (Nat.le_refl _) ((HL.out.kept c6).view (by omega))
  go_wp2_with fail
  refine HBACK.out.mono ?_
  rintro e w7 ⟨rfl, g7⟩
  obtain ⟨c7, bk7, ob7, q27, hs7⟩ := after_back g7 c6 bk6 ob6 q26 hB0 (by omega) (by omega) (by omega) (by omega) (by omega) (by omega)
  clear g7 c6 bk6 ob6 q26 q16 k66 HBACK
  have k77 : w7.cell? ⟨w.heap.size, 7, none⟩ = some (.slice mo ys.length mc) := by rw [Lib.cell_of_heap ob7]; rfl
  have HBACK : Hid (Calls Tryz.prog 70 #[.slice (some ⟨w1.heap.size, 0, none⟩) (ys.length + 2) (ys.length + 2), .slice mo ys.length mc] w7 fun e w' => e = .returned (.bool true) ∧ w7.grownBy w' (some w1.heap.size)) :=
    back_list w1.heap.size w1.heap.size ys _ w7 (by omega) q27 (Nat.le_refl _) ((HM.out.kept c7).view (by have := c7.size; omega))
  go_wp2_with fail
  refine HBACK.out.mono ?_
  rintro e w8 ⟨rfl, g8⟩
  have c8 : Below B0 w w8 := below_back g8 c7 (by omega) (by have := c7.size; omega)
  have bk8 : BookAt w8 B0 Wb xv yv bv6 (es ++ [e6]) (· < w8.heap.size) := bk7.kept (fun q hq => g8.block q (by rcases hq with h | h <;> omega) (fun e => by injection e with e; rcases hq with h | h <;> omega)) (fun q hq => by have := g8.size; rcases hq with h | h <;> (show q < w8.heap.size; omega))
  clear g8 c7 bk7 ob7 q27 k77 HBACK
  go_wp2
  go_ret
  exact ⟨rfl, ⟨bv6, es ++ [e6], by simp, bk8⟩, c8⟩
end Go.Proofs.YtabpiaaknjcnkaaGreat

/-
  Plain facts: what two deltas in one make; three in whatever order.
-/
namespace Go.Proofs.YtabpiaaknjcnkaaGreat
set_option linter.unusedVariables false
set_option linter.unusedSimpArgs false

/-- Each may stand behind the one ahead. -/
def Chained : Option DOp → List DOp → Prop
  | _, [] => True
  | p, o :: r => behind p o = true ∧ Chained (some o) r
theorem chained_append {p : Option DOp} {xs ys : List DOp} : Chained p (xs ++ ys) ↔ Chained p xs ∧ Chained (match xs.getLast? with | some l => some l | none => p) ys := by
  induction xs generalizing p with
  | nil => simp [Chained]
  | cons a r ih =>
    simp only [List.cons_append, Chained, ih, and_assoc]
    cases r with
    | nil => simp
    | cons b s =>
      obtain ⟨l, hl⟩ : ∃ l, (b :: s).getLast? = some l := ⟨(b :: s).getLast (by simp), List.getLast?_eq_some_getLast (by simp)⟩
      simp [List.getLast?_cons_cons, hl]
theorem chained_of_fault {b : Int} {xs : List DOp} {p : Option DOp} {i : Nat} {m : Int} (h : faultGo b xs p i m = i + xs.length) : Chained p xs := by
  induction xs generalizing p i m with
  | nil => trivial
  | cons o r ih =>
    rw [faultGo] at h
    simp only [List.length_cons] at h
    split at h
    · omega
    · split at h
      · omega
      · split at h
        · omega
        · rename_i h3
          split at h
          · omega
          · exact ⟨by simpa using h3, ih (i := i + 1) (by rw [h]; omega)⟩
theorem fault_ok_go {b : Int} {xs : List DOp} {p : Option DOp} {i : Nat} {m : Int} (h1 : ∀ o ∈ xs, isOpB o.fr o.len o.tx b = true) (h2 : Chained p xs) (h3 : i + xs.length ≤ 200) (h4 : m + sumI xs ≤ 2000) : faultGo b xs p i m = i + xs.length := by
  induction xs generalizing p i m with
  | nil => simp [faultGo]
  | cons o r ih =>
    simp only [List.length_cons, sumI] at h3 h4 ⊢
    have hr := sumI_nonneg r
    rw [faultGo, if_neg (by omega), if_neg (by rw [h1 o (by simp)]; simp), if_neg (by rw [h2.1]; simp), if_neg (by omega)]
    rw [ih (fun q hq => h1 q (by simp [hq])) h2.2 (by omega) (by omega)]
    omega
theorem fault_ok {b : Int} {xs : List DOp} (h1 : ∀ o ∈ xs, isOpB o.fr o.len o.tx b = true) (h2 : Chained none xs) (h3 : xs.length ≤ 200) (h4 : sumI xs ≤ 2000) : faultF xs b = xs.length := by
  have := fault_ok_go (b := b) (i := 0) (m := 0) h1 h2 (by omega) (by omega)
  unfold faultF; omega
theorem isOp_of {o : DOp} {b : Int} (h : Nice o) (hb : 0 < o.len → o.fr + o.len ≤ b) : isOpB o.fr o.len o.tx b = true := by
  unfold isOpB
  rcases h with ⟨h1, h2, h3⟩ | ⟨h1, h2, h3⟩
  · have := hb h1
    rw [if_pos h1]
    simp only [Bool.and_eq_true, decide_eq_true_eq, isEmpty_iff]
    exact ⟨⟨h2, h3⟩, by omega⟩
  · rw [if_neg (by omega), h1, h2]
    have : o.tx.toList.isEmpty = false := by
      cases hb : o.tx.toList.isEmpty
      · rfl
      · have := (isEmpty_iff _).1 hb; omega
    simp [this]

theorem behind_merge {p : Option DOp} {l o : DOp} (hl : Nice l) (ho : Nice o) (h : behind p l = true) (hf : followB l.fr l.len o.fr o.len = false) : behind p ⟨l.fr, l.len + o.len, l.tx ++ o.tx⟩ = true := by
  cases p with
  | none => rfl
  | some q =>
    have hfo := nice_follow hl ho
    simp only [behind] at h ⊢
    have e : decide (0 < l.len + o.len) = decide (0 < l.len) := by
      rcases ho with ⟨h1, h2, h3⟩ | ⟨h1, h2, h3⟩
      · have := (hfo.1 h1).1 hf
        rw [decide_eq_true (by omega), decide_eq_true this.1]
      · have := (hfo.2 h1).1 hf
        rw [h1, this]; rfl
    unfold followB at h ⊢
    rw [e]; exact h
theorem joinP_chained (out : List DOp) (o : DOp) (hout : ∀ p ∈ out, Nice p) (hc : Chained none out) (ho : Nice o) : Chained none (joinP out o) := by
  rcases List.eq_nil_or_concat out with rfl | ⟨xs, l, rfl⟩
  · rw [joinP_nil]; exact ⟨rfl, trivial⟩
  · have hl : Nice l := hout l (by simp)
    rw [List.concat_eq_append] at *
    rw [joinP_snoc]
    obtain ⟨h1, h2⟩ := chained_append.1 hc
    split
    · rename_i hf
      rw [chained_append]
      exact ⟨hc, by simp [Chained, behind, hf]⟩
    · rename_i hf
      rw [chained_append]
      exact ⟨h1, behind_merge hl ho h2.1 (by simpa using hf), trivial⟩
theorem joinP_id (out : List DOp) (o : DOp) (h : Chained none (out ++ [o])) : joinP out o = out ++ [o] := by
  rcases List.eq_nil_or_concat out with rfl | ⟨xs, l, rfl⟩
  · rfl
  · rw [List.concat_eq_append] at *
    obtain ⟨h1, h2⟩ := chained_append.1 h
    have hf : followB l.fr l.len o.fr o.len = true := by simpa [Chained, behind] using h2
    rw [joinP_snoc, if_pos hf]
theorem joins_id (ops acc : List DOp) (h : Chained none (acc ++ ops)) : ops.foldl joinP acc = acc ++ ops := by
  induction ops generalizing acc with
  | nil => simp
  | cons o r ih =>
    have h' : Chained none ((acc ++ [o]) ++ r) := by simpa using h
    rw [List.foldl_cons, joinP_id acc o (chained_append.1 h').1, ih _ h']
    simp
/-- A delta is told by its bytes. -/
theorem told {xs ys : List DOp} (hx : ∀ o ∈ xs, Nice o) (hy : ∀ o ∈ ys, Nice o) (cx : Chained none xs) (cy : Chained none ys) (h : cellsL xs = cellsL ys) : xs = ys := by
  have h1 := (cells_joins xs [] (by simp) hx).1
  have h2 := (cells_joins ys [] (by simp) hy).1
  rw [h] at h1
  rw [joins_id xs [] (by simpa using cx)] at h1
  rw [joins_id ys [] (by simpa using cy)] at h2
  simpa using h1.symm.trans h2

theorem cells_of_join (out : List DOp) (o : DOp) (hout : ∀ p ∈ out, Nice p) (ho : Nice o) : cellsL (joinP out o) = cellsL out ++ cellsOp o := by
  rcases List.eq_nil_or_concat out with rfl | ⟨xs, l, rfl⟩
  · rw [joinP_nil]; simp [cellsL]
  · have hl : Nice l := hout l (by simp)
    rw [List.concat_eq_append] at *
    rw [joinP_snoc]
    have hfo := nice_follow hl ho
    split
    · rw [cellsL_append]; simp [cellsL]
    · rename_i hf
      have hf : followB l.fr l.len o.fr o.len = false := by simpa using hf
      rw [cellsL_append, cellsL_append, List.append_assoc]
      congr 1
      simp only [cellsL, List.flatMap_cons, List.flatMap_nil, List.append_nil]
      rcases ho with ⟨h1, h2, h3⟩ | ⟨h1, h2, h3⟩
      · obtain ⟨g1, g2⟩ := (hfo.1 h1).1 hf
        obtain ⟨lf, ll, lt⟩ := l
        obtain ⟨f, n, t⟩ := o
        simp only at h1 h2 h3 g1 g2
        have hlt : lt = ⟨#[]⟩ := by rcases hl with ⟨_, _, h⟩ | ⟨h, _, _⟩; exact tx_empty h; simp only at h; omega
        subst hlt
        have ht := tx_empty h3
        subst ht
        simp only [cellsOp]
        rw [show (ll + n).toNat = ll.toNat + n.toNat by omega, List.range_add]
        simp [app_bytes, ByteArray.data_append]
        intro a _
        omega
      · have g := (hfo.2 h1).1 hf
        obtain ⟨lf, ll, lt⟩ := l
        obtain ⟨f, n, t⟩ := o
        simp only at h1 h2 h3 g
        subst h1 g
        simp [cellsOp, app_bytes]
theorem cells_of_joins (ops out : List DOp) (hout : ∀ p ∈ out, Nice p) (hc : Chained none out) (ho : ∀ o ∈ ops, Nice o) : cellsL (ops.foldl joinP out) = cellsL out ++ cellsL ops ∧ Chained none (ops.foldl joinP out) := by
  induction ops generalizing out with
  | nil => simp [cellsL, hc]
  | cons o r ih =>
    have h := ih (joinP out o) (joinP_nice out o hout (ho o (by simp))) (joinP_chained out o hout hc (ho o (by simp))) (fun q hq => ho q (by simp [hq]))
    rw [List.foldl_cons, h.1, cells_of_join out o hout (ho o (by simp)), cellsL_cons]
    exact ⟨by simp, h.2⟩

/-- What the one delta of two says, byte by byte. -/
theorem comp_cells_go {first : List DOp} (h : ∀ o ∈ first, Nice o) (second : List DOp) (hs : ∀ o ∈ second, Nice o ∧ (0 < o.len → o.fr + o.len ≤ (cellsL first).length)) (acc : List DOp) (hacc : ∀ p ∈ acc, Nice p) (hc : Chained none acc) :
    cellsL (second.foldl (compStep first) acc) = cellsL acc ++ (cellsL second).map (subC (cellsL first)) ∧ Chained none (second.foldl (compStep first) acc) := by
  induction second generalizing acc with
  | nil => simp [cellsL, hc]
  | cons o r ih =>
    obtain ⟨ps, e1, e2, e3⟩ := sub_op h (hs o (by simp)).1 (hs o (by simp)).2
    obtain ⟨c1, c2⟩ := cells_joins ps acc hacc e2
    obtain ⟨d1, d2⟩ := cells_of_joins ps acc hacc hc e2
    have := ih (fun q hq => hs q (by simp [hq])) (ps.foldl joinP acc) c2 d2
    rw [List.foldl_cons, e3, this.1, d1, cellsL_cons, List.map_append, e1]
    exact ⟨by simp, this.2⟩
theorem comp_cells {first second : List DOp} (h : ∀ o ∈ first, Nice o) (hs : ∀ o ∈ second, Nice o ∧ (0 < o.len → o.fr + o.len ≤ (cellsL first).length)) :
    cellsL (compOps first second) = (cellsL second).map (subC (cellsL first)) ∧ Chained none (compOps first second) ∧ ∀ p ∈ compOps first second, Nice p := by
  have h1 := comp_cells_go h second hs [] (by simp) trivial
  refine ⟨?_, h1.2, (comp_eq h hs).2⟩
  have := h1.1
  rwa [show cellsL [] = [] from rfl, List.nil_append] at this

def evalC (B : List UInt8) (c : Cl) : UInt8 := if 0 ≤ c.1 then B.getD c.1.toNat 0 else c.2
theorem opBytes_cells {B : List UInt8} {o : DOp} (h : Nice o) (hb : 0 < o.len → o.fr + o.len ≤ B.length) : opBytes B o = (cellsOp o).map (evalC B) := by
  unfold opBytes
  rcases h with ⟨h1, h2, h3⟩ | ⟨h1, h2, h3⟩
  · have := hb h1
    rw [if_pos h1]
    obtain ⟨f, n, t⟩ := o
    simp only at *
    have ht := tx_empty h3
    subst ht
    simp only [cellsOp, List.map_nil, List.append_nil, List.map_map]
    apply List.ext_getElem?
    intro i
    simp only [List.getElem?_take, List.getElem?_drop, List.getElem?_map]
    by_cases hi : i < n.toNat
    · rw [if_pos hi, List.getElem?_range hi]
      simp only [Option.map_some, Function.comp, evalC]
      rw [if_pos (by omega), show (f + (i : Int)).toNat = f.toNat + i by omega, List.getD_eq_getElem?_getD, List.getElem?_eq_getElem (by omega)]
      rfl
    · rw [if_neg hi, List.getElem?_eq_none (by simp; omega)]; rfl
  · rw [if_neg (by omega)]
    unfold cellsOp
    rw [h1]
    simp only [Int.toNat_zero, List.range_zero, List.map_nil, List.nil_append, List.map_map]
    conv => lhs; rw [← List.map_id o.tx.data.toList]
    apply List.map_congr_left
    intro c _
    simp [evalC]
theorem madeL_cells {B : List UInt8} {xs : List DOp} (h : ∀ o ∈ xs, Nice o ∧ (0 < o.len → o.fr + o.len ≤ B.length)) : madeL B xs = (cellsL xs).map (evalC B) := by
  induction xs with
  | nil => rfl
  | cons o r ih =>
    have h1 := opBytes_cells (h o (by simp)).1 (h o (by simp)).2
    have h2 := ih (fun q hq => h q (by simp [hq]))
    rw [cellsL_cons, List.map_append, ← h2, ← h1]
    simp [madeL]
/-- Every byte is of the base, below its end, or of a text. -/
theorem cells_range {xs : List DOp} {b : Int} (h : ∀ o ∈ xs, Nice o ∧ (0 < o.len → o.fr + o.len ≤ b)) : ∀ c ∈ cellsL xs, c.1 < b ∨ c.1 = -1 := by
  intro c hc
  obtain ⟨o, ho, hc⟩ := List.mem_flatMap.1 hc
  obtain ⟨h1, h2⟩ := h o ho
  unfold cellsOp at hc
  rcases List.mem_append.1 hc with hc | hc
  · obtain ⟨k, hk, rfl⟩ := List.mem_map.1 hc
    have := List.mem_range.1 hk
    left; simp only; have := h2 (by omega); omega
  · obtain ⟨k, hk, rfl⟩ := List.mem_map.1 hc
    exact .inr rfl
theorem range_cells {xs : List DOp} {b : Int} (h : ∀ o ∈ xs, Nice o) (hc : ∀ c ∈ cellsL xs, c.1 < b ∨ c.1 = -1) : ∀ o ∈ xs, Nice o ∧ (0 < o.len → o.fr + o.len ≤ b) := by
  intro o ho
  refine ⟨h o ho, fun hl => ?_⟩
  have hf : 0 ≤ o.fr := by rcases h o ho with ⟨_, h, _⟩ | ⟨h, _, _⟩ <;> omega
  have := hc (o.fr + ((o.len.toNat - 1 : Nat) : Int), 0) (List.mem_flatMap.2 ⟨o, ho, List.mem_append.2 (.inl (List.mem_map.2 ⟨o.len.toNat - 1, List.mem_range.2 (by omega), rfl⟩))⟩)
  simp only at this
  omega
theorem sub_range {A : List Cl} {b : Int} (hA : ∀ c ∈ A, c.1 < b ∨ c.1 = -1) (hb : 0 ≤ b) {X : List Cl} : (∀ c ∈ X, c.1 < A.length ∨ c.1 = -1) → ∀ c ∈ X.map (subC A), c.1 < b ∨ c.1 = -1 := by
  intro h c hc
  obtain ⟨x, hx, rfl⟩ := List.mem_map.1 hc
  unfold subC
  split
  · rcases h x hx with h | h
    · rw [List.getD_eq_getElem?_getD, List.getElem?_eq_getElem (by omega)]
      exact hA _ (List.getElem_mem _)
    · omega
  · rcases h x hx with h | h
    · left; omega
    · exact .inr h
theorem subC_at {A : List Cl} {c : Cl} (h : 0 ≤ c.1) (hlt : c.1.toNat < A.length) : subC A c = A[c.1.toNat] := by
  rw [subC, if_pos h, List.getD_eq_getElem?_getD, List.getElem?_eq_getElem hlt]; rfl
theorem subC_tx {A : List Cl} {c : Cl} (h : ¬ 0 ≤ c.1) : subC A c = c := by rw [subC, if_neg h]
theorem evalC_at {A : List UInt8} {c : Cl} (h : 0 ≤ c.1) (hlt : c.1.toNat < A.length) : evalC A c = A[c.1.toNat] := by
  rw [evalC, if_pos h, List.getD_eq_getElem?_getD, List.getElem?_eq_getElem hlt]; rfl
theorem evalC_tx {A : List UInt8} {c : Cl} (h : ¬ 0 ≤ c.1) : evalC A c = c.2 := by rw [evalC, if_neg h]
/-- Two, then a third; the first, then two. -/
theorem sub_sub {A B C : List Cl} (hC : ∀ c ∈ C, c.1 < B.length ∨ c.1 = -1) : C.map (subC (B.map (subC A))) = (C.map (subC B)).map (subC A) := by
  rw [List.map_map]
  apply List.map_congr_left
  intro c hc
  show subC (B.map (subC A)) c = subC A (subC B c)
  by_cases h : 0 ≤ c.1
  · have hlt : c.1.toNat < B.length := by rcases hC c hc with h' | h' <;> omega
    rw [subC_at h (by simpa using hlt), subC_at h hlt, List.getElem_map]
  · rw [subC_tx h, subC_tx h, subC_tx h]
theorem eval_sub {A C : List Cl} {B : List UInt8} (hC : ∀ c ∈ C, c.1 < A.length ∨ c.1 = -1) : (C.map (subC A)).map (evalC B) = C.map (evalC (A.map (evalC B))) := by
  rw [List.map_map]
  apply List.map_congr_left
  intro c hc
  show evalC B (subC A c) = evalC (A.map (evalC B)) c
  by_cases h : 0 ≤ c.1
  · have hlt : c.1.toNat < A.length := by rcases hC c hc with h' | h' <;> omega
    rw [subC_at h hlt, evalC_at h (by simpa using hlt), List.getElem_map]
  · rw [subC_tx h, evalC_tx h, evalC_tx h]

/-- A delta of a base that makes so many bytes. -/
structure Makes (xs : List DOp) (b n : Int) : Prop where
  each : ∀ o ∈ xs, Nice o ∧ (0 < o.len → o.fr + o.len ≤ b)
  chain : Chained none xs
  len : ((cellsL xs).length : Int) = n
theorem Makes.nice {xs : List DOp} {b n : Int} (h : Makes xs b n) : ∀ o ∈ xs, Nice o := fun o ho => (h.each o ho).1
theorem Makes.sum {xs : List DOp} {b n : Int} (h : Makes xs b n) : sumI xs = n := by rw [← cellsL_length h.nice]; exact h.len
theorem Makes.count {xs : List DOp} {b n : Int} (h : Makes xs b n) : (xs.length : Int) ≤ n := by
  have hn := h.nice
  have : (xs.length : Int) ≤ sumI xs := by
    clear h
    induction xs with
    | nil => simp [sumI]
    | cons a r ih =>
      have h1 := (hn a (by simp)).size.2
      have h2 := ih (fun p hp => hn p (by simp [hp]))
      simp only [List.length_cons, sumI]; omega
  rw [h.sum] at this; exact this
theorem Makes.fault {xs : List DOp} {b n : Int} (h : Makes xs b n) {b' : Int} (hb : b ≤ b') (hl : xs.length ≤ 200) (hn : n ≤ 2000) : faultF xs b' = xs.length :=
  fault_ok (fun o ho => isOp_of (h.each o ho).1 (fun hl => by have := (h.each o ho).2 hl; omega)) h.chain hl (by rw [h.sum]; exact hn)
theorem makes_of {xs : List DOp} {b : Int} (h : faultF xs b = xs.length) : Makes xs b (sumI xs) := by
  have h' : faultGo b xs none 0 0 = 0 + xs.length := by unfold faultF at h; omega
  obtain ⟨h1, h2⟩ := fault_all h' (by omega)
  have hn : ∀ o ∈ xs, Nice o := fun o ho => (nice_of_isOp (h1 o ho)).1
  exact ⟨fun o ho => nice_of_isOp (h1 o ho), chained_of_fault h', cellsL_length hn⟩
/-- The one delta of two. -/
theorem Makes.comp {xs ys : List DOp} {b n m : Int} (hx : Makes xs b n) (hy : Makes ys n m) (hb : 0 ≤ b) : Makes (compOps xs ys) b m ∧ cellsL (compOps xs ys) = (cellsL ys).map (subC (cellsL xs)) := by
  obtain ⟨h1, h2, h3⟩ := comp_cells hx.nice (second := ys) (fun o ho => ⟨(hy.each o ho).1, fun hl => by rw [hx.len]; exact (hy.each o ho).2 hl⟩)
  refine ⟨⟨range_cells h3 ?_, h2, by rw [h1, List.length_map]; exact hy.len⟩, h1⟩
  rw [h1]
  refine sub_range (cells_range hx.each) hb ?_
  intro c hc
  have := cells_range hy.each c hc
  rw [hx.len]; exact this
theorem Makes.assoc {xs ys zs : List DOp} {b n m k : Int} (hx : Makes xs b n) (hy : Makes ys n m) (hz : Makes zs m k) (hb : 0 ≤ b) (hn : 0 ≤ n) : compOps (compOps xs ys) zs = compOps xs (compOps ys zs) := by
  obtain ⟨a1, a2⟩ := hx.comp hy hb
  obtain ⟨b1, b2⟩ := hy.comp hz hn
  obtain ⟨c1, c2⟩ := a1.comp hz hb
  obtain ⟨d1, d2⟩ := hx.comp b1 hb
  refine told c1.nice d1.nice c1.chain d1.chain ?_
  rw [c2, d2, a2, b2]
  refine sub_sub ?_
  intro c hc
  have := cells_range hz.each c hc
  rw [hy.len]; exact this
theorem Makes.made {xs ys : List DOp} {B : List UInt8} {n m : Int} (hx : Makes xs B.length n) (hy : Makes ys n m) : madeL B (compOps xs ys) = madeL (madeL B xs) ys := by
  obtain ⟨a1, a2⟩ := hx.comp hy (by omega)
  rw [madeL_cells a1.each, a2, eval_sub (by intro c hc; have := cells_range hy.each c hc; rw [hx.len]; exact this), ← madeL_cells hx.each]
  refine (madeL_cells ?_).symm
  intro o ho
  refine ⟨(hy.each o ho).1, fun hl => ?_⟩
  have := (hy.each o ho).2 hl
  have hlen : ((madeL B xs).length : Int) = n := by rw [madeL_cells hx.each, List.length_map]; exact hx.len
  omega
/-- One that copies all changes nothing. -/
theorem all_makes {n : Nat} (hn : 0 < n) : Makes [⟨0, n, ⟨#[]⟩⟩] n n := by
  have hc : Nice ⟨0, n, ⟨#[]⟩⟩ := .inl ⟨by simp only; omega, by simp, rfl⟩
  refine ⟨fun o ho => ?_, ⟨rfl, trivial⟩, ?_⟩
  · rw [List.mem_singleton.1 ho]; exact ⟨hc, fun _ => by simp⟩
  · simp [cellsL, cellsOp]
theorem Makes.all {xs : List DOp} {n : Nat} {m : Int} (hx : Makes xs n m) (hn : 0 < n) : compOps [⟨0, n, ⟨#[]⟩⟩] xs = xs := by
  obtain ⟨a1, a2⟩ := (all_makes hn).comp hx (by omega)
  refine told a1.nice hx.nice a1.chain hx.chain ?_
  rw [a2]
  conv => rhs; rw [← List.map_id (cellsL xs)]
  apply List.map_congr_left
  intro c hc
  have hr := cells_range hx.each c hc
  by_cases h : 0 ≤ c.1
  · have hlt : c.1.toNat < n := by omega
    rw [subC_at h (by simp [cellsL, cellsOp]; omega)]
    have hz : c.2 = 0 := by
      obtain ⟨o, ho, hc'⟩ := List.mem_flatMap.1 hc
      unfold cellsOp at hc'
      rcases List.mem_append.1 hc' with hc' | hc'
      · obtain ⟨k, _, rfl⟩ := List.mem_map.1 hc'; rfl
      · obtain ⟨k, _, rfl⟩ := List.mem_map.1 hc'; simp at h
    simp [cellsL, cellsOp]
    obtain ⟨c1, c2⟩ := c
    simp only at *
    rw [hz, show max c1 0 = c1 by omega]
  · rw [subC_tx h]; rfl
end Go.Proofs.YtabpiaaknjcnkaaGreat
