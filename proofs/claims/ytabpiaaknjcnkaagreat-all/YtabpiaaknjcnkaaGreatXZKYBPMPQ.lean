/- The texts ZK, YB, PM, PQ, one behind the other. -/
import Derived.Test.YtabpiaaknjcnkaaGreatXRALKLSLQZA
import Derived.Test.YtabpiaaknjcnkaaGreatXV5ZLZC
import Derived.LoopTactic
import Derived.Test.YtabpiaaknjcnkaaGreatXW8WBP2
import Derived.Deep.QuietTactic
import Derived.BigQuiet
import Derived.Test.YtabpiaaknjcnkaaGreatXD5D6R7D7
import Derived.Test.YtabpiaaknjcnkaaGreatXLCPER5
import Derived.Test.YtabpiaaknjcnkaaGreatXE2W9R6
/-
  A step of Compose: the book moves, and nothing else.
-/
namespace Go.Proofs.YtabpiaaknjcnkaaGreat
open Go.RowKit
set_option linter.unusedVariables false
set_option linter.unusedSimpArgs false
set_option maxRecDepth 100000

set_option maxHeartbeats 4000000 in
theorem wdeltas_compS (w : World) (B0 Wb : Nat) (xv yv bv : Value) (es : List Entry) (S : Nat → Prop) (hS : ∀ q, S q → q < w.heap.size) (hbook : BookAt w B0 Wb xv yv bv es S) (hes : es.length ≤ 1300000000000) (hB0 : B0 ≤ w.heap.size) (a b c : Int) (s t : ByteArray) (vl vm : Value) (xs ys : List DOp)
    (hx : xs.length ≤ 4398046511000) (hy : ys.length ≤ 4398046511000) (hl : LView B0 w vl xs) (hm : LView B0 w vm ys) (hi1 : Ints xs) (hi2 : Ints ys) :
    Calls Tryz.prog 30 #[.pointer (some ⟨Wb, 0, none⟩), .agg #[.int .i64 4, .int .i64 a, .int .i64 b, .int .i64 c, .string s, .string t, vl, vm]] w fun e w' =>
      e = .returned (.bool true) ∧ (∃ bv' es', es'.length = es.length + 1 ∧ BookAt w' B0 Wb xv yv bv' es' (fun q => S q ∨ (w.heap.size ≤ q ∧ q < w'.heap.size))) ∧ Below B0 w w' ∧ Out S w w' := by
  have HI : Hid (Ints xs ∧ Ints ys) := ⟨hi1, hi2⟩
  clear hi1 hi2
  have HS : Hid (∀ q, S q → q < w.heap.size) := hS
  have HBK : Hid (BookAt w B0 Wb xv yv bv es S) := hbook
  have hWb : Wb < w.heap.size := hS _ hbook.wbB
  clear hS
  have hW0 : B0 ≤ Wb := hbook.wb0
  have HL : Hid (LView B0 w vl xs) := hl
  have HM : Hid (LView B0 w vm ys) := hm
  obtain ⟨lo, lc, hvl⟩ := hl.slice
  obtain ⟨mo, mc, hvm⟩ := hm.slice
  rw [hvl] at HL
  rw [hvm] at HM
  rw [hvl, hvm]
  clear hbook hl hm hvl hvm
  have hD : (cmpL xs ys).length ≤ 100000 := by have := cmpL_length xs ys; omega
  go_enter Tryz.func30, Tryz.ntmps30
  go_wp2_with fail
  refine (lent_any _ xs _ (by omega) ((HL.out.view hB0).kept ((Below.refl _ _).alloc (Nat.le_refl _) _))).mono ?_
  rintro e w1 ⟨rfl, o1, b1⟩
  have ob1 : w1.heap[w.heap.size]? = some (.cells #[.int .i64 4, .int .i64 a, .int .i64 b, .int .i64 c, .string s, .string t, .slice lo xs.length lc, .slice mo ys.length mc] 61 (0, 0)) := (b1.block _ (by simp)).trans (heap_alloc_new _ _)
  have c1 : Below w.heap.size w w1 := ((Below.refl _ w).alloc (Nat.le_refl _) _).trans (b1.mono (by simp))
  have p1 : Lent w1 (w.heap.size + 1) xs := by
    have h := o1
    rw [alloc_size1] at h
    exact h
  clear o1 b1
  have hs1 := c1.size
  have hp1 := p1.lt
  have k17 : w1.cell? ⟨w.heap.size, 7, none⟩ = some (.slice mo ys.length mc) := by rw [Lib.cell_of_heap ob1]; rfl
  go_wp2_with fail
  refine (lent_any _ ys _ (by omega) ((HM.out.view hB0).kept c1)).mono ?_
  rintro e w2 ⟨rfl, o2, b2⟩
  have p2 : Lent w2 w1.heap.size ys := o2
  have q1 : Lent w2 (w.heap.size + 1) xs := p1.kept (b2.block _ hp1)
  have ob2 := (b2.block _ (show w.heap.size < w1.heap.size by omega)).trans ob1
  have c2 : Below w.heap.size w w2 := c1.trans (b2.mono hs1)
  clear o2 p1 ob1 k17 c1
  have hp2 := p2.lt
  have hs2 := b2.size
  clear b2
  have k20 : w2.cell? ⟨w.heap.size, 0, none⟩ = some (.int .i64 4) := by rw [Lib.cell_of_heap ob2]; rfl
  have k26 : w2.cell? ⟨w.heap.size, 6, none⟩ = some (.slice lo xs.length lc) := by rw [Lib.cell_of_heap ob2]; rfl
  have k27 : w2.cell? ⟨w.heap.size, 7, none⟩ = some (.slice mo ys.length mc) := by rw [Lib.cell_of_heap ob2]; rfl
  have HC : Hid (∀ W : World, W.heap = w2.heap → Calls Tryz.prog 64 #[.slice (some ⟨w.heap.size + 1, 0, none⟩) xs.length (xs.length + 2), .slice (some ⟨w1.heap.size, 0, none⟩) ys.length (ys.length + 2)] W fun e w' => (∃ v', e = .returned (.tuple #[v', .int .i64 (cmpE xs ys), .int .i64 (cmpP xs ys)]) ∧ OwnOps w' W.heap.size v' (cmpL xs ys)) ∧ Below W.heap.size W w') :=
    fun W hW => ccomp_any ((own_head q1 _).heap hW) ((own_head p2 _).heap hW) HI.out.1 HI.out.2
  have hO2 : w.heap.size < w2.heap.size := by omega
  have n0 : (0 : Int) ≤ (xs.length : Int) := by omega
  have n1 : (xs.length : Int) ≤ (xs.length : Int) + 2 := by omega
  have n2 : (xs.length : Int) ≤ ((xs.length + 2 : Nat) : Int) := by omega
  have n3 : xs.length ≤ xs.length + 2 := by omega
  have m0 : (0 : Int) ≤ (ys.length : Int) := by omega
  have m1 : (ys.length : Int) ≤ (ys.length : Int) + 2 := by omega
  have m2 : (ys.length : Int) ≤ ((ys.length + 2 : Nat) : Int) := by omega
  have m3 : ys.length ≤ ys.length + 2 := by omega
  go_wp2
  go_region_held3 (fun w' => w'.cell? ⟨w.heap.size, 6, none⟩ = some (.slice lo xs.length lc) ∧ w'.cell? ⟨w.heap.size, 7, none⟩ = some (.slice mo ys.length mc)) (go_keep)
    (first | (go_at_call 64; refine (HC.out w2.drew rfl).mono ?_; rintro e w3 ⟨⟨v3, rfl, o3⟩, b3⟩; obtain ⟨a3, c3, hv3⟩ := o3.slice; subst hv3; have e6 := (b3.cell (p := ⟨w.heap.size, 6, none⟩) hO2).trans k26; have e7 := (b3.cell (p := ⟨w.heap.size, 7, none⟩) hO2).trans k27))
  have b23 : Below w2.heap.size w2 w3 := ((Below.refl w2.heap.size w2).drew).trans b3
  have c3' : Below w.heap.size w w3 := c2.trans (b23.mono (by omega))
  have hs3 := b23.size
  have HR : Hid (Calls Tryz.prog 65 #[.slice lo xs.length lc, .slice mo ys.length mc] w3 fun e w' => (∃ v', e = .returned (.tuple #[v', .int .i64 (cmpE xs ys), .int .i64 (cmpP xs ys)]) ∧ OwnOps w' w3.heap.size v' (cmpL xs ys)) ∧ Below w3.heap.size w3 w') :=
    rcomp_any ((HL.out.kept (c3'.mono hB0)).view (by omega)) ((HM.out.kept (c3'.mono hB0)).view (by omega)) HI.out.1 HI.out.2
  clear b3 k20 k26 k27 c3' HC
  rename Below w2.heap.size w2 w3 => b3
  go_wp2_with fail
  refine HR.out.mono ?_
  rintro e w4 ⟨⟨v4, rfl, o4⟩, b4⟩
  obtain ⟨a4, c4, hv4⟩ := o4.slice
  subst hv4
  have u4 : OwnOps w4 w2.heap.size (.slice a3 (cmpL xs ys).length c3) (cmpL xs ys) := own_block o3 (fun g hg => b4.block g (row_own_lt o3 hg))
  have hs4 := b4.size
  have b24 : Below w2.heap.size w2 w4 := b3.trans (b4.mono hs3)
  clear b3 b4 o3 e6 e7 HR n0 n1 n2 n3 m0 m1 m2 m3
  have HSAME : Hid (Calls Tryz.prog 58 #[.slice a3 (cmpL xs ys).length c3, .slice a4 (cmpL xs ys).length c4] w4 fun e w' => e = .returned (.bool true) ∧ ∃ n, w' = w4.drewN n) := sameOps_any (by omega) (View.of_own u4) (View.of_own o4)
  clear o4
  generalize hDD : cmpL xs ys = D at *
  generalize cmpE xs ys = E at *
  generalize cmpP xs ys = P at *
  go_wp2_with fail
  refine HSAME.out.mono ?_
  rintro e w5 ⟨rfl, n5, hw5⟩
  have u5 : OwnOps w5 w2.heap.size (.slice a3 D.length c3) D := by rw [hw5]; exact u4
  have b25 : Below w2.heap.size w2 w5 := by rw [hw5]; exact b24.trans (below_drewN _ _ _)
  clear hw5 u4 b24 HSAME
  have hs5 := b25.size
  have bk5 : BookAt w5 B0 Wb xv yv bv es S := HBK.out.kept (fun q hq => (b25.block q (by have : q < w.heap.size := HS.out q hq; omega)).trans (c2.block q (HS.out q hq))) (fun q hq => hq)
  have q15 : Lent w5 (w.heap.size + 1) xs := q1.kept (b25.block _ (by omega))
  have q25 : Lent w5 w1.heap.size ys := p2.kept (b25.block _ (by omega))
  have ob5 := (b25.block _ (show w.heap.size < w2.heap.size by omega)).trans ob2
  have c5 : Below w.heap.size w w5 := c2.trans (b25.mono (by omega))
  clear q1 p2 ob2 c2 b25
  go_wp2_with fail
  refine (bops_walk w5 B0 Wb xv yv bv es S w2.heap.size _ D bk5 (fun q hq => by have : q < w.heap.size := HS.out q hq; omega) hes u5 hD hs5 (by omega)).mono ?_
  rintro e w6 ⟨rfl, ⟨bv6, e6, bk6⟩, kp6, bb6⟩
  have hbvb : ∀ q, w.heap.size ≤ q → bv.ownBlock ≠ some q := fun q hq e => by have : q < w.heap.size := HS.out _ (HBK.out.lowr q e); omega
  have hs6 := bb6.size
  have ob6 := (kp6 _ (show w.heap.size < w2.heap.size by omega) (by omega) (hbvb _ (Nat.le_refl _))).trans ob5
  have q16 : Lent w6 (w.heap.size + 1) xs := q15.kept (kp6 _ (by omega) (by omega) (hbvb _ (by omega)))
  have q26 : Lent w6 w1.heap.size ys := q25.kept (kp6 _ (by omega) (by omega) (hbvb _ (by omega)))
  have O6 : Hid (∀ q, q < w.heap.size → ¬ S q → w6.heap[q]? = w.heap[q]?) := fun q hq hn => (kp6 q (by omega) (fun e => hn (by rw [e]; exact HBK.out.wbB)) (fun e => hn (HBK.out.lowr q e))).trans (c5.block q hq)
  have c6 : Below B0 w w6 := (c5.mono hB0).trans bb6
  have hl6 := c6.size
  clear bb6 kp6 q15 q25 ob5 c5 bk5 u5
  have k66 : w6.cell? ⟨w.heap.size, 6, none⟩ = some (.slice lo xs.length lc) := by rw [Lib.cell_of_heap ob6]; rfl
  have HBACK : Hid (Calls Tryz.prog 70 #[.slice (some ⟨w.heap.size + 1, 0, none⟩) (xs.length + 2) (xs.length + 2), .slice lo xs.length lc] w6 fun e w' => e = .returned (.bool true) ∧ w6.grownBy w' (some (w.heap.size + 1))) :=
    back_list (w.heap.size + 1) (w.heap.size + 1) xs _ w6 (by omega) q16 (Nat.le_refl _) ((HL.out.kept c6).view (by omega))
  go_wp2_with fail
  refine HBACK.out.mono ?_
  rintro e w7 ⟨rfl, g7⟩
  obtain ⟨c7, bk7, ob7, q27, hs7⟩ := after_backS HS.out g7 c6 bk6 ob6 q26 hB0 (by omega) (by omega) (by omega) (by omega) (by omega) (by omega)
  have O7 : Hid (∀ q, q < w.heap.size → ¬ S q → w7.heap[q]? = w.heap[q]?) := fun q hq hn => (g7.block q (by omega) (fun e => by injection e with e; omega)).trans (O6.out q hq hn)
  clear g7 c6 bk6 ob6 q26 q16 k66 HBACK O6
  have k77 : w7.cell? ⟨w.heap.size, 7, none⟩ = some (.slice mo ys.length mc) := by rw [Lib.cell_of_heap ob7]; rfl
  have HBACK : Hid (Calls Tryz.prog 70 #[.slice (some ⟨w1.heap.size, 0, none⟩) (ys.length + 2) (ys.length + 2), .slice mo ys.length mc] w7 fun e w' => e = .returned (.bool true) ∧ w7.grownBy w' (some w1.heap.size)) :=
    back_list w1.heap.size w1.heap.size ys _ w7 (by omega) q27 (Nat.le_refl _) ((HM.out.kept c7).view (by have := c7.size; omega))
  go_wp2_with fail
  refine HBACK.out.mono ?_
  rintro e w8 ⟨rfl, g8⟩
  have c8 : Below B0 w w8 := below_back g8 c7 (by omega) (by have := c7.size; omega)
  have bk8 : BookAt w8 B0 Wb xv yv bv6 (es ++ [e6]) (fun q => S q ∨ (w.heap.size ≤ q ∧ q < w8.heap.size)) := bk7.kept (fun q hq => g8.block q (by rcases hq with h | h; have := HS.out q h; omega; omega) (fun e => by injection e with e; rcases hq with h | h; have := HS.out q h; omega; omega)) (fun q hq => by have := g8.size; rcases hq with h | h; exact .inl h; exact .inr ⟨by omega, by omega⟩)
  have O8 : Out S w w8 := ⟨c8.os, c8.tape, c8.output, c8.size, fun q hq hn => (g8.block q (by omega) (fun e => by injection e with e; omega)).trans (O7.out q hq hn)⟩
  have HO8 : Hid (Out S w w8) := O8
  clear O8 O7 g8 c7 bk7 ob7 q27 k77 HBACK
  go_wp2
  go_ret
  exact ⟨rfl, ⟨bv6, es ++ [e6], by simp, bk8⟩, c8, HO8.out⟩
end Go.Proofs.YtabpiaaknjcnkaaGreat

/-
  The document's chains: what may be, what is there.
-/
namespace Go.Proofs.YtabpiaaknjcnkaaGreat
open Go.RowKit
set_option linter.unusedVariables false
set_option linter.unusedSimpArgs false
set_option maxRecDepth 100000

set_option maxHeartbeats 2000000 in
theorem ycan_any (f n cap : Nat) (ao : Option Addr) (w : World) (hb : f + n ≤ 9000000000000) :
    Calls Tryz.prog 72 #[.agg #[.int .i64 f, .slice ao n cap]] w fun e w' => e = .returned (.bool (decide (f + n ≤ 2147483647))) ∧ Below w.heap.size w w' := by
  have q1 : IntKind.i64.wrap ((f : Int) + (n : Int)) = (f : Int) + (n : Int) := by rw [IntKind.wrap_i64]; omega
  have q2 : IntKind.i64.wrap ((f : Int) + (n : Int) - 1) = (f : Int) + (n : Int) - 1 := by rw [IntKind.wrap_i64]; omega
  have HD : Hid (decide (f + n ≤ 2147483647) = decide ((f : Int) + (n : Int) - 1 < 2147483647)) := by
    unfold Hid; congr 1; apply propext; omega
  rw [HD.out]
  go_enter Tryz.func72, Tryz.ntmps72
  go_wp2
  go_ret
  exact ⟨rfl, (Below.refl _ _).alloc (Nat.le_refl _) _⟩
/-- Is a version there? -/
def yhasB (f n : Nat) (z : Int) : Bool := decide (0 < n ∧ (f : Int) ≤ z ∧ z < (f : Int) + n)
set_option maxHeartbeats 2000000 in
theorem yhas_any (f n cap : Nat) (ao : Option Addr) (z : Int) (w : World) (hb : f + n ≤ 9000000000000) :
    Calls Tryz.prog 77 #[.agg #[.int .i64 f, .slice ao n cap], .int .i64 z] w fun e w' => e = .returned (.bool (yhasB f n z)) ∧ Below w.heap.size w w' := by
  have q1 : IntKind.i64.wrap ((f : Int) + (n : Int)) = (f : Int) + (n : Int) := by rw [IntKind.wrap_i64]; omega
  by_cases h1 : 0 < n
  · by_cases h2 : (f : Int) ≤ z
    · have HE : Hid (yhasB f n z = decide (z < (f : Int) + n)) := by unfold Hid yhasB; simp [h1, h2]
      rw [HE.out]
      have h1I : (0 : Int) < (n : Int) := by omega
      go_enter Tryz.func77, Tryz.ntmps77
      go_wp2
      go_ret
      exact ⟨rfl, (Below.refl _ _).alloc (Nat.le_refl _) _⟩
    · have HE : Hid (yhasB f n z = false) := by unfold Hid yhasB; simp [h2]
      rw [HE.out]
      have h1I : (0 : Int) < (n : Int) := by omega
      go_enter Tryz.func77, Tryz.ntmps77
      go_wp2
      go_ret
      exact ⟨rfl, (Below.refl _ _).alloc (Nat.le_refl _) _⟩
  · have HE : Hid (yhasB f n z = false) := by unfold Hid yhasB; simp [h1]
    rw [HE.out]
    go_enter Tryz.func77, Tryz.ntmps77
    go_wp2
    go_ret
    exact ⟨rfl, (Below.refl _ _).alloc (Nat.le_refl _) _⟩
end Go.Proofs.YtabpiaaknjcnkaaGreat

/-
  Plain facts: what is written is read; what is read is what was written.
-/
namespace Go.Proofs.YtabpiaaknjcnkaaGreat
set_option linter.unusedVariables false
set_option linter.unusedSimpArgs false

theorem drop_byte {s : ByteArray} {i : Nat} (h : i < s.size) : s.data.toList.drop i = s[i] :: s.data.toList.drop (i + 1) := by
  rw [List.drop_eq_getElem_cons (by simpa using h)]; rfl
theorem drop_none {s : ByteArray} {i : Nat} : s.data.toList.drop i = [] ↔ s.size ≤ i := by
  rw [List.drop_eq_nil_iff, ← Lib.size_eq]
theorem at_of_drop {s : ByteArray} {i : Nat} {c : UInt8} {r : List UInt8} (h : s.data.toList.drop i = c :: r) : ∃ hi : i < s.size, s[i] = c ∧ s.data.toList.drop (i + 1) = r := by
  have hi : i < s.size := by
    rcases Nat.lt_or_ge i s.size with h' | h'
    · exact h'
    · rw [drop_none.2 h'] at h; cases h
  rw [drop_byte hi] at h
  injection h with h1 h2
  exact ⟨hi, h1, h2⟩
theorem split_more {m k acc : Nat} : acc + m % 128 * 128 ^ k + m / 128 * 128 ^ (k + 1) = acc + m * 128 ^ k := by
  rw [Nat.pow_succ, Nat.mul_comm (128 ^ k) 128, ← Nat.mul_assoc, Nat.add_assoc, ← Nat.add_mul]
  congr 2
  have := Nat.mod_add_div m 128
  omega
/-- A number that stands there is read. -/
theorem num_fwd {s : ByteArray} {start : Nat} : ∀ (f k acc m : Nat) (rest : List UInt8), (f = 0 → 0 < k) → s.data.toList.drop (start + k) = uN m ++ rest → m < 128 ^ f → (0 < k → 0 < m) → acc + m * 128 ^ k ≤ 2147483647 →
    numGo s start f k acc = .inr (acc + m * 128 ^ k, start + k + (uN m).length)
  | 0, k, acc, m, rest, hf, h, hm, h0, hb => by
    have h1 := h0 (hf rfl)
    simp at hm
    omega
  | f + 1, k, acc, m, rest, hf, h, hm, h0, hb => by
    by_cases h1 : m < 128
    · rw [uN_lt h1] at h ⊢
      obtain ⟨hi, hc, _⟩ := at_of_drop h
      have hcn : (s[start + k]).toNat = m := by rw [hc, byte_toNat (by omega)]
      have e : (s[start + k]).toNat % 128 * 128 ^ k = m * 128 ^ k := by rw [hcn, Nat.mod_eq_of_lt h1]
      rw [numGo_done hi (by omega) (by rw [e, hcn]; omega), e]
      rfl
    · rw [uN_ge h1] at h ⊢
      obtain ⟨hi, hc, hd⟩ := at_of_drop h
      have hcn : (s[start + k]).toNat = m % 128 + 128 := by rw [hc, byte_toNat (by omega)]
      have e : (s[start + k]).toNat % 128 = m % 128 := by rw [hcn]; omega
      have hmul := split_more (m := m) (k := k) (acc := acc)
      rw [numGo_more hi (by omega), e]
      have hlt : m / 128 < 128 ^ f := by rw [Nat.pow_succ] at hm; omega
      rw [num_fwd f (k + 1) (acc + m % 128 * 128 ^ k) (m / 128) rest (fun _ => by omega) hd hlt (fun _ => by omega) (by omega), hmul]
      simp only [List.length_cons]
      congr 2; omega
/-- What is read as a number is the number's bytes. -/
theorem num_back {s : ByteArray} {start : Nat} : ∀ (f k acc n nx : Nat), numGo s start f k acc = .inr (n, nx) → ∃ m, n = acc + m * 128 ^ k ∧ s.data.toList.drop (start + k) = uN m ++ s.data.toList.drop nx ∧ (0 < k → 0 < m) ∧ nx = start + k + (uN m).length
  | 0, k, acc, n, nx, h => by simp [numGo] at h
  | f + 1, k, acc, n, nx, h => by
    by_cases h1 : start + k < s.size
    · have hc256 : (s[start + k]).toNat < 256 := (s[start + k]).toNat_lt
      by_cases h2 : (s[start + k]).toNat < 128
      · by_cases h3 : 2147483647 < acc + (s[start + k]).toNat % 128 * 128 ^ k ∨ ((s[start + k]).toNat = 0 ∧ 0 < k)
        · rw [numGo_bad h1 h2 h3] at h; cases h
        · rw [numGo_done h1 h2 h3] at h
          simp only [Sum.inr.injEq, Prod.mk.injEq] at h
          obtain ⟨rfl, rfl⟩ := h
          refine ⟨(s[start + k]).toNat, by rw [Nat.mod_eq_of_lt h2], ?_, fun hk => by omega, ?_⟩
          · rw [drop_byte h1, uN_lt h2]; simp
          · rw [uN_lt h2]; rfl
      · rw [numGo_more h1 h2] at h
        obtain ⟨m, e1, e2, e3, e4⟩ := num_back f (k + 1) _ n nx h
        have hm := e3 (by omega)
        refine ⟨(s[start + k]).toNat % 128 + 128 * m, ?_, ?_, fun _ => by omega, ?_⟩
        · rw [e1, ← split_more (m := (s[start + k]).toNat % 128 + 128 * m)]
          congr 2
          · congr 1; omega
          · congr 1; omega
        · rw [drop_byte h1, show start + k + 1 = start + (k + 1) by omega, e2, uN_ge (n := (s[start + k]).toNat % 128 + 128 * m) (by omega)]
          rw [show ((s[start + k]).toNat % 128 + 128 * m) % 128 + 128 = (s[start + k]).toNat by omega, show ((s[start + k]).toNat % 128 + 128 * m) / 128 = m by omega]
          simp
        · rw [uN_ge (n := (s[start + k]).toNat % 128 + 128 * m) (by omega), show ((s[start + k]).toNat % 128 + 128 * m) / 128 = m by omega, List.length_cons]; omega
    · rw [numGo_end h1] at h; cases h
theorem numF_fwd {s : ByteArray} {start m : Nat} {rest : List UInt8} (h : s.data.toList.drop start = uN m ++ rest) (hm : m ≤ 2147483647) : numF s start = .inr (m, start + (uN m).length) := by
  have := num_fwd (s := s) (start := start) 5 0 0 m rest (by omega) (by simpa using h) (by omega) (by omega) (by omega)
  unfold numF; rw [this]; simp
theorem numF_back {s : ByteArray} {start n nx : Nat} (h : numF s start = .inr (n, nx)) : s.data.toList.drop start = uN n ++ s.data.toList.drop nx ∧ nx = start + (uN n).length := by
  obtain ⟨m, e1, e2, _, e4⟩ := num_back 5 0 0 n nx h
  obtain rfl : n = m := by simpa using e1
  exact ⟨by simpa using e2, by simpa using e4⟩
end Go.Proofs.YtabpiaaknjcnkaaGreat

/-
  Plain facts: a delta's code is read as that delta, and is the only one; cut off, or longer, it is none.
-/
namespace Go.Proofs.YtabpiaaknjcnkaaGreat
set_option linter.unusedVariables false
set_option linter.unusedSimpArgs false

/-- The op may stand there. -/
structure Fits (out : List DOp) (total : Nat) (o : DOp) : Prop where
  op : isOpB o.fr o.len o.tx 2000 = true
  behind : behind out.getLast? o = true
  room : total + sizeN o ≤ 2000
theorem fits_copy {out : List DOp} {total : Nat} {o : DOp} (h : Fits out total o) (hl : 0 < o.len) : 0 ≤ o.fr ∧ o.tx = ⟨#[]⟩ ∧ o.fr + o.len ≤ 2000 ∧ goesOn out o.fr o.len = false ∧ total + o.len.toNat ≤ 2000 := by
  obtain ⟨hn, hb⟩ := nice_of_isOp h.op
  have h1 : 0 ≤ o.fr ∧ o.tx.size = 0 := by rcases hn with ⟨_, a, b⟩ | ⟨a, _, _⟩ <;> first | exact ⟨a, b⟩ | omega
  refine ⟨h1.1, tx_empty h1.2, hb hl, ?_, ?_⟩
  · have := h.behind
    unfold goesOn
    cases hg : out.getLast? with
    | none => rfl
    | some l => rw [hg] at this; simp only [Go.Proofs.YtabpiaaknjcnkaaGreat.behind] at this; simp [this]
  · have := h.room
    unfold sizeN sizeI at this
    rw [if_pos hl] at this
    exact this
theorem fits_text {out : List DOp} {total : Nat} {o : DOp} (h : Fits out total o) (hl : ¬ 0 < o.len) : o.len = 0 ∧ o.fr = 0 ∧ 0 < o.tx.size ∧ lastText out = false ∧ total + o.tx.size ≤ 2000 := by
  obtain ⟨hn, hb⟩ := nice_of_isOp h.op
  have h1 : o.len = 0 ∧ o.fr = 0 ∧ 0 < o.tx.size := by rcases hn with ⟨a, _, _⟩ | h'; omega; exact h'
  refine ⟨h1.1, h1.2.1, h1.2.2, ?_, ?_⟩
  · have := h.behind
    unfold lastText
    cases hg : out.getLast? with
    | none => rfl
    | some l =>
      rw [hg] at this
      simp only [Go.Proofs.YtabpiaaknjcnkaaGreat.behind, followB, h1.1] at this
      by_cases hll : 0 < l.len <;> simp [hll] at this ⊢
  · have := h.room
    unfold sizeN sizeI at this
    rw [if_neg hl] at this
    omega

theorem read_fwd {s : ByteArray} {out : List DOp} {total at_ : Nat} {o : DOp} {rest : List UInt8} (h : Fits out total o) (hd : s.data.toList.drop at_ = encOp o ++ rest) : readF s out total at_ = .inr (o, at_ + (encOp o).length) := by
  by_cases hl : 0 < o.len
  · obtain ⟨h1, h2, h3, h4, h5⟩ := fits_copy h hl
    obtain ⟨f, l, t⟩ := o
    simp only at hl h1 h2 h3 h4 h5
    subst h2
    have e : encOp ⟨f, l, ⟨#[]⟩⟩ = uN (2 * l + 1).toNat ++ uN f.toNat := by unfold encOp; rw [if_pos hl]
    rw [e, List.append_assoc] at hd
    rw [e]
    have n1 := numF_fwd hd (by omega)
    have d2 : s.data.toList.drop (at_ + (uN (2 * l + 1).toNat).length) = uN f.toNat ++ rest := by
      rw [← List.drop_drop, hd, List.drop_left]
    have n2 := numF_fwd d2 (by omega)
    have hdiv : (2 * l + 1).toNat / 2 = l.toNat := by omega
    rw [readF_copy_ok n1 (by rw [hdiv]; omega) (by omega) n2 (by
      rw [hdiv]
      rintro (h | h)
      · omega
      · rw [show ((f.toNat : Nat) : Int) = f by omega, show ((l.toNat : Nat) : Int) = l by omega, h4] at h; cases h)]
    rw [hdiv, List.length_append]
    simp only [Sum.inr.injEq, Prod.mk.injEq, DOp.mk.injEq]
    refine ⟨⟨by omega, by omega, trivial⟩, by omega⟩
  · obtain ⟨h1, h2, h3, h4, h5⟩ := fits_text h hl
    obtain ⟨f, l, t⟩ := o
    simp only at hl h1 h2 h3 h4 h5
    subst h1 h2
    have e : encOp ⟨0, 0, t⟩ = uN (2 * t.size) ++ t.data.toList := by unfold encOp; simp
    rw [e, List.append_assoc] at hd
    rw [e]
    have n1 := numF_fwd hd (by omega)
    have d2 : s.data.toList.drop (at_ + (uN (2 * t.size)).length) = t.data.toList ++ rest := by
      rw [← List.drop_drop, hd, List.drop_left]
    have hle : at_ + (uN (2 * t.size)).length + t.size ≤ s.size := by
      have := congrArg List.length d2
      rw [List.length_drop, List.length_append, ← Lib.size_eq, ← Lib.size_eq] at this
      omega
    have hdiv : 2 * t.size / 2 = t.size := by omega
    rw [readF_text n1 (by rw [hdiv]; omega) (by omega), if_neg (by rw [h4]; simp), hdiv, if_neg (by omega), List.length_append, ← Lib.size_eq]
    simp only [Sum.inr.injEq, Prod.mk.injEq, DOp.mk.injEq, true_and]
    refine ⟨bytes_ext ?_, by omega⟩
    rw [ByteArray.data_extract, Array.toList_extract, List.extract_eq_take_drop, d2, show at_ + (uN (2 * t.size)).length + t.size - (at_ + (uN (2 * t.size)).length) = t.data.toList.length by rw [← Lib.size_eq]; omega, List.take_left]

theorem read_back {s : ByteArray} {out : List DOp} {total at_ nx : Nat} {o : DOp} (hst : at_ ≤ s.size) (ht : total ≤ 2000) (h : readF s out total at_ = .inr (o, nx)) : Fits out total o ∧ s.data.toList.drop at_ = encOp o ++ s.data.toList.drop nx := by
  obtain ⟨q1, q2, q3, q4, q5, q6, q7⟩ := readF_props hst ht h
  cases h1 : numF s at_ with
  | inl p => rw [readF_num h1] at h; cases h
  | inr q =>
    obtain ⟨n, n1⟩ := q
    obtain ⟨a1, a2, a3⟩ := numF_ok hst h1
    obtain ⟨b1, b2⟩ := numF_back h1
    by_cases hb : n / 2 = 0 ∨ 2000 < total + n / 2
    · rw [readF_len h1 hb] at h; cases h
    · by_cases h2 : n % 2 = 0
      · rw [readF_text h1 hb h2] at h
        split at h
        · cases h
        · rename_i hlt
          split at h
          · cases h
          · rename_i hend
            simp only [Sum.inr.injEq, Prod.mk.injEq] at h
            obtain ⟨rfl, rfl⟩ := h
            have hsz : (s.extract n1 (n1 + n / 2)).size = n / 2 := by rw [size_ext _ _ _ (by omega)]; omega
            refine ⟨⟨isOp_of q1 (fun hl => by simp at hl), ?_, q5⟩, ?_⟩
            · unfold lastText at hlt
              cases hg : out.getLast? with
              | none => rfl
              | some l => rw [hg] at hlt; simp only [Go.Proofs.YtabpiaaknjcnkaaGreat.behind, followB]; simp at hlt; simp [hlt]
            · unfold encOp
              simp only [Int.lt_irrefl, if_false]
              rw [hsz, show 2 * (n / 2) = n by omega, ByteArray.data_extract, Array.toList_extract, List.extract_eq_take_drop, show n1 + n / 2 - n1 = n / 2 by omega, List.append_assoc, ← List.drop_drop, List.take_append_drop]
              exact b1
      · cases h3 : numF s n1 with
        | inl p => rw [readF_copy_num h1 hb h2 h3] at h; cases h
        | inr q =>
          obtain ⟨f, b⟩ := q
          obtain ⟨c1, c2⟩ := numF_back h3
          by_cases h4 : 2000 < f + n / 2 ∨ goesOn out f (n / 2 : Nat) = true
          · rw [readF_copy_bad h1 hb h2 h3 h4] at h; cases h
          · rw [readF_copy_ok h1 hb h2 h3 h4] at h
            simp only [Sum.inr.injEq, Prod.mk.injEq] at h
            obtain ⟨rfl, rfl⟩ := h
            have hp : (0 : Int) < ((n / 2 : Nat) : Int) := by omega
            refine ⟨⟨isOp_of q1 (fun hl => by simp only; omega), ?_, q5⟩, ?_⟩
            · have h5 : ¬ goesOn out f (n / 2 : Nat) = true := fun h => h4 (.inr h)
              unfold goesOn at h5
              cases hg : out.getLast? with
              | none => rfl
              | some l => rw [hg] at h5; simp only [Go.Proofs.YtabpiaaknjcnkaaGreat.behind]; simpa using h5
            · unfold encOp
              simp only [if_pos hp]
              rw [show (2 * ((n / 2 : Nat) : Int) + 1).toNat = n by omega, show ((f : Nat) : Int).toNat = f by omega, List.append_assoc, ← c1]
              exact b1
end Go.Proofs.YtabpiaaknjcnkaaGreat
