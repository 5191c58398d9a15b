/- The texts LE, PN, D1, one behind the other. -/
import Derived.Test.YtabpiaaknjcnkaaGreatXS1S2L9
import Derived.Test.YtabpiaaknjcnkaaGreatXE2W9R6
import Derived.LoopTactic
import Derived.Deep.RegionHeld3
import Derived.Test.YtabpiaaknjcnkaaGreatXPCPDPU
import Derived.WalkLawsBesides
/-
  A step of Encode.
-/
namespace Go.Proofs.YtabpiaaknjcnkaaGreat
open Go.RowKit
set_option linter.unusedVariables false
set_option linter.unusedSimpArgs false
set_option maxRecDepth 100000

set_option maxHeartbeats 4000000 in
theorem wdeltas_enc (w : World) (B0 B1 Wb : Nat) (xv yv bv : Value) (es : List Entry) (hbook : BookAt w B0 Wb xv yv bv es (· < w.heap.size)) (hB0 : B0 ≤ w.heap.size) (hB01 : B0 ≤ B1) (hB1 : B1 ≤ w.heap.size) (a b c : Int) (s t : ByteArray) (vl vm : Value) (xs ys : List DOp)
    (hx : xs.length ≤ 4398046511000) (hy : ys.length ≤ 4398046511000) (hl : LView B1 w vl xs) (hm : LView B1 w vm ys) (hints : Ints xs) :
    Calls Tryz.prog 30 #[.pointer (some ⟨Wb, 0, none⟩), .agg #[.int .i64 5, .int .i64 a, .int .i64 b, .int .i64 c, .string s, .string t, vl, vm]] w fun e w' =>
      e = .returned (.bool true) ∧ BookAt w' B0 Wb xv yv bv es (· < w'.heap.size) ∧ Below B1 w w' := by
  have HN : Hid (Ints xs) := hints
  clear hints
  have HBK : Hid (BookAt w B0 Wb xv yv bv es (· < w.heap.size)) := hbook
  have hWb : Wb < w.heap.size := hbook.wbB
  have hW0 : B0 ≤ Wb := hbook.wb0
  have HL : Hid (LView B1 w vl xs) := hl
  have HM : Hid (LView B1 w vm ys) := hm
  obtain ⟨lo, lc, hvl⟩ := hl.slice
  obtain ⟨mo, mc, hvm⟩ := hm.slice
  rw [hvl] at HL
  rw [hvm] at HM
  rw [hvl, hvm]
  clear hbook hl hm hvl hvm
  go_enter Tryz.func30, Tryz.ntmps30
  go_wp2_with fail
  refine (lent_any _ xs _ (by omega) ((HL.out.view hB1).kept ((Below.refl _ _).alloc (Nat.le_refl _) _))).mono ?_
  rintro e w1 ⟨rfl, o1, b1⟩
  have ob1 : w1.heap[w.heap.size]? = some (.cells #[.int .i64 5, .int .i64 a, .int .i64 b, .int .i64 c, .string s, .string t, .slice lo xs.length lc, .slice mo ys.length mc] 61 (0, 0)) := (b1.block _ (by simp)).trans (heap_alloc_new _ _)
  have c1 : Below w.heap.size w w1 := ((Below.refl _ w).alloc (Nat.le_refl _) _).trans (b1.mono (by simp))
  have p1 : Lent w1 (w.heap.size + 1) xs := by
    have h := o1
    rw [alloc_size1] at h
    exact h
  clear o1 b1
  have hs1 := c1.size
  have hp1 := p1.lt
  have k17 : w1.cell? ⟨w.heap.size, 7, none⟩ = some (.slice mo ys.length mc) := by rw [Lib.cell_of_heap ob1]; rfl
  go_wp2_with fail
  refine (lent_any _ ys _ (by omega) ((HM.out.view hB1).kept c1)).mono ?_
  rintro e w2 ⟨rfl, o2, b2⟩
  have p2 : Lent w2 w1.heap.size ys := o2
  have q1 : Lent w2 (w.heap.size + 1) xs := p1.kept (b2.block _ hp1)
  have ob2 := (b2.block _ (show w.heap.size < w1.heap.size by omega)).trans ob1
  have c2 : Below w.heap.size w w2 := c1.trans (b2.mono hs1)
  clear o2 p1 ob1 k17 c1
  have hp2 := p2.lt
  have hs2 := b2.size
  clear b2
  have k20 : w2.cell? ⟨w.heap.size, 0, none⟩ = some (.int .i64 5) := by rw [Lib.cell_of_heap ob2]; rfl
  have k26 : w2.cell? ⟨w.heap.size, 6, none⟩ = some (.slice lo xs.length lc) := by rw [Lib.cell_of_heap ob2]; rfl
  have HC : Hid (∀ W : World, W.heap = w2.heap → Calls Tryz.prog 66 #[.slice (some ⟨w.heap.size + 1, 0, none⟩) xs.length (xs.length + 2)] W fun e w' => e = .returned (.tuple #[.string (encS xs), .int .i64 (encE xs), .int .i64 (encP xs)]) ∧ Below W.heap.size W w') :=
    fun W hW => cenc_any ((own_head q1 _).heap hW) HN.out
  have hO2 : w.heap.size < w2.heap.size := by omega
  have n0 : (0 : Int) ≤ (xs.length : Int) := by omega
  have n1 : (xs.length : Int) ≤ (xs.length : Int) + 2 := by omega
  have n2 : (xs.length : Int) ≤ ((xs.length + 2 : Nat) : Int) := by omega
  have n3 : xs.length ≤ xs.length + 2 := by omega
  go_wp2_with fail
  refine (HC.out _ rfl).mono ?_
  rintro e w3 ⟨rfl, b3⟩
  have e6 := (b3.cell (p := ⟨w.heap.size, 6, none⟩) hO2).trans k26
  have b23 : Below w2.heap.size w2 w3 := b3
  have c3 : Below w.heap.size w w3 := c2.trans (b23.mono (by omega))
  have hs3 := b23.size
  clear b3
  go_wp2_with fail
  refine (renc_any ((HL.out.kept (c3.mono hB1)).view (by omega)) HN.out).mono ?_
  rintro e w6 ⟨rfl, b6⟩
  have b26 : Below w2.heap.size w2 w6 := b23.trans (b6.mono hs3)
  have c26 : Below w.heap.size w w6 := c2.trans (b26.mono (by omega))
  have hs6 := b26.size
  have bk6 : BookAt w6 B0 Wb xv yv bv es (fun q => q < w.heap.size ∨ (w2.heap.size ≤ q ∧ q < w6.heap.size)) := HBK.out.kept (fun q hq => c26.block q hq) (fun q hq => .inl hq)
  have c6 : Below B1 w w6 := c26.mono hB1
  have hl6 := c6.size
  have ob6 := (b26.block _ hO2).trans ob2
  have q16 : Lent w6 (w.heap.size + 1) xs := q1.kept (b26.block _ (by omega))
  have q26 : Lent w6 w1.heap.size ys := p2.kept (b26.block _ (by omega))
  generalize encS xs = AS at *
  generalize encE xs = AE at *
  generalize encP xs = AP at *
  clear c2 ob2 q1 p2 k20 k26 b23 c3 b6 b26 c26 e6 HC
  have k66 : w6.cell? ⟨w.heap.size, 6, none⟩ = some (.slice lo xs.length lc) := by rw [Lib.cell_of_heap ob6]; rfl
  have HBACK : Hid (Calls Tryz.prog 70 #[.slice (some ⟨w.heap.size + 1, 0, none⟩) (xs.length + 2) (xs.length + 2), .slice lo xs.length lc] w6 fun e w' => e = .returned (.bool true) ∧ w6.grownBy w' (some (w.heap.size + 1))) :=
    back_list (w.heap.size + 1) (w.heap.size + 1) xs _ w6 (by omega) q16 (Nat.le_refl _) ((HL.out.kept c6).view (by omega))
  go_wp2_with fail
  refine HBACK.out.mono ?_
  rintro e w7 ⟨rfl, g7⟩
  have c7 : Below B1 w w7 := below_back g7 c6 (by omega) (by omega)
  obtain ⟨_, bk7, ob7, q27, hs7⟩ := after_back g7 (c6.mono hB01) bk6 ob6 q26 hB0 (by omega) (by omega) (by omega) (by omega) (by omega) (by omega)
  clear g7 c6 bk6 ob6 q26 q16 k66 HBACK
  have k77 : w7.cell? ⟨w.heap.size, 7, none⟩ = some (.slice mo ys.length mc) := by rw [Lib.cell_of_heap ob7]; rfl
  have HBACK : Hid (Calls Tryz.prog 70 #[.slice (some ⟨w1.heap.size, 0, none⟩) (ys.length + 2) (ys.length + 2), .slice mo ys.length mc] w7 fun e w' => e = .returned (.bool true) ∧ w7.grownBy w' (some w1.heap.size)) :=
    back_list w1.heap.size w1.heap.size ys _ w7 (by omega) q27 (Nat.le_refl _) ((HM.out.kept c7).view (by have := c7.size; omega))
  go_wp2_with fail
  refine HBACK.out.mono ?_
  rintro e w8 ⟨rfl, g8⟩
  have c8 : Below B1 w w8 := below_back g8 c7 (by omega) (by have := c7.size; omega)
  have bk8 : BookAt w8 B0 Wb xv yv bv es (· < w8.heap.size) := bk7.kept (fun q hq => g8.block q (by rcases hq with h | h <;> omega) (fun e => by injection e with e; rcases hq with h | h <;> omega)) (fun q hq => by have := g8.size; rcases hq with h | h <;> (show q < w8.heap.size; omega))
  clear g8 c7 bk7 ob7 q27 k77 HBACK
  go_wp2
  go_ret
  exact ⟨rfl, bk8, c8⟩
end Go.Proofs.YtabpiaaknjcnkaaGreat

/-
  Plain facts: reading a number, and a delta's code.
-/
namespace Go.Proofs.YtabpiaaknjcnkaaGreat
set_option linter.unusedVariables false
set_option linter.unusedSimpArgs false

/-- The number at a place (and the place behind it), or the place at which it fails. -/
def numGo (s : ByteArray) (start : Nat) : Nat → Nat → Nat → Nat ⊕ (Nat × Nat)
  | 0, _, _ => .inl start
  | f + 1, k, acc =>
    if h : start + k < s.size then
      if (s[start + k]).toNat < 128 then
        (if 2147483647 < acc + (s[start + k]).toNat % 128 * 128 ^ k ∨ ((s[start + k]).toNat = 0 ∧ 0 < k) then .inl start else .inr (acc + (s[start + k]).toNat % 128 * 128 ^ k, start + k + 1))
      else numGo s start f (k + 1) (acc + (s[start + k]).toNat % 128 * 128 ^ k)
    else .inl s.size
def numF (s : ByteArray) (start : Nat) : Nat ⊕ (Nat × Nat) := numGo s start 5 0 0

theorem numGo_end {s : ByteArray} {start f k acc : Nat} (h : ¬ start + k < s.size) : numGo s start (f + 1) k acc = .inl s.size := by rw [numGo, dif_neg h]
theorem numGo_more {s : ByteArray} {start f k acc : Nat} (h : start + k < s.size) (hc : ¬ (s[start + k]).toNat < 128) : numGo s start (f + 1) k acc = numGo s start f (k + 1) (acc + (s[start + k]).toNat % 128 * 128 ^ k) := by
  rw [numGo, dif_pos h, if_neg hc]
theorem numGo_bad {s : ByteArray} {start f k acc : Nat} (h : start + k < s.size) (hc : (s[start + k]).toNat < 128) (hb : 2147483647 < acc + (s[start + k]).toNat % 128 * 128 ^ k ∨ ((s[start + k]).toNat = 0 ∧ 0 < k)) : numGo s start (f + 1) k acc = .inl start := by
  rw [numGo, dif_pos h, if_pos hc, if_pos hb]
theorem numGo_done {s : ByteArray} {start f k acc : Nat} (h : start + k < s.size) (hc : (s[start + k]).toNat < 128) (hb : ¬ (2147483647 < acc + (s[start + k]).toNat % 128 * 128 ^ k ∨ ((s[start + k]).toNat = 0 ∧ 0 < k))) : numGo s start (f + 1) k acc = .inr (acc + (s[start + k]).toNat % 128 * 128 ^ k, start + k + 1) := by
  rw [numGo, dif_pos h, if_pos hc, if_neg hb]
theorem numGo_props {s : ByteArray} {start : Nat} : ∀ {f k acc : Nat}, start + k ≤ s.size → (∀ p, numGo s start f k acc = .inl p → p ≤ s.size) ∧ ∀ n nx, numGo s start f k acc = .inr (n, nx) → n ≤ 2147483647 ∧ start + k < nx ∧ nx ≤ s.size
  | 0, k, acc, h => ⟨fun p hp => by simp [numGo] at hp; omega, fun n nx hn => by simp [numGo] at hn⟩
  | f + 1, k, acc, h => by
    by_cases h1 : start + k < s.size
    · by_cases h2 : (s[start + k]).toNat < 128
      · by_cases h3 : 2147483647 < acc + (s[start + k]).toNat % 128 * 128 ^ k ∨ ((s[start + k]).toNat = 0 ∧ 0 < k)
        · rw [numGo_bad h1 h2 h3]
          exact ⟨fun p hp => by simp at hp; omega, fun n nx hn => by simp at hn⟩
        · rw [numGo_done h1 h2 h3]
          refine ⟨fun p hp => by simp at hp, fun n nx hn => ?_⟩
          simp only [Sum.inr.injEq, Prod.mk.injEq] at hn
          omega
      · rw [numGo_more h1 h2]
        obtain ⟨a, b⟩ := numGo_props (s := s) (start := start) (f := f) (k := k + 1) (acc := acc + (s[start + k]).toNat % 128 * 128 ^ k) (by omega)
        exact ⟨a, fun n nx hn => by have := b n nx hn; omega⟩
    · rw [numGo_end h1]
      exact ⟨fun p hp => by simp at hp; omega, fun n nx hn => by simp at hn⟩
theorem numF_ok {s : ByteArray} {start n nx : Nat} (hs : start ≤ s.size) (h : numF s start = .inr (n, nx)) : n ≤ 2147483647 ∧ start < nx ∧ nx ≤ s.size := by
  have := (numGo_props (s := s) (start := start) (f := 5) (k := 0) (acc := 0) (by omega)).2 n nx h
  omega
theorem numF_bad {s : ByteArray} {start p : Nat} (hs : start ≤ s.size) (h : numF s start = .inl p) : p ≤ s.size :=
  (numGo_props (s := s) (start := start) (f := 5) (k := 0) (acc := 0) (by omega)).1 p h

/-- Is the last one a TEXT? Does a COPY go on the last one? -/
def lastText (out : List DOp) : Bool := match out.getLast? with | none => false | some l => !decide (0 < l.len)
def goesOn (out : List DOp) (f n : Int) : Bool := match out.getLast? with | none => false | some l => !followB l.fr l.len f n
/-- An op that is read behind those ahead, of which so many bytes are made; or the place at which it fails. -/
def readF (s : ByteArray) (out : List DOp) (total at_ : Nat) : Nat ⊕ (DOp × Nat) :=
  match numF s at_ with
  | .inl p => .inl p
  | .inr (n, nx) =>
    if n / 2 = 0 ∨ 2000 < total + n / 2 then .inl at_
    else if n % 2 = 0 then
      (if lastText out = true then .inl at_
      else if s.size < nx + n / 2 then .inl s.size else .inr (⟨0, 0, s.extract nx (nx + n / 2)⟩, nx + n / 2))
    else match numF s nx with
      | .inl p => .inl p
      | .inr (from_, behind_) =>
        if 2000 < from_ + n / 2 ∨ goesOn out from_ (n / 2 : Nat) = true then .inl nx
        else .inr (⟨from_, (n / 2 : Nat), ⟨#[]⟩⟩, behind_)
def sizeN (o : DOp) : Nat := (sizeI o.len o.tx).toNat
def decGo (s : ByteArray) : Nat → List DOp → Nat → Nat → Nat ⊕ (List DOp × Nat)
  | 0, out, _, at_ => .inr (out, at_)
  | r + 1, out, total, at_ => match readF s out total at_ with
    | .inl p => .inl p
    | .inr (o, nx) => decGo s r (out ++ [o]) (total + sizeN o) nx
def decF (s : ByteArray) : Nat ⊕ List DOp :=
  match numF s 0 with
  | .inl p => .inl p
  | .inr (count, at_) => if 200 < count then .inl 0 else match decGo s count [] 0 at_ with
    | .inl p => .inl p
    | .inr (out, at') => if at' < s.size then .inl at' else .inr out
end Go.Proofs.YtabpiaaknjcnkaaGreat

/-
  The walks over the Reader.
-/
namespace Go.Proofs.YtabpiaaknjcnkaaGreat
open Go.RowKit
set_option linter.unusedVariables false
set_option linter.unusedSimpArgs false
set_option maxRecDepth 100000

set_option maxHeartbeats 1000000 in
theorem giveup_any (p : Int) (w : World) :
    Calls Tryz.prog 114 #[.int .i64 p] w fun e w' => e = .panicked [{ v := .iface 128 (.agg #[.int .i64 p]), recovered := false }] ∧ w' = w := by
  go_enter Tryz.func114, Tryz.ntmps114
  go_wp2
  exact ⟨rfl, rfl, rfl⟩

/-- A panic that tells a place. -/
abbrev gaveUp (p : Nat) : Ending := .panicked [{ v := .iface 128 (.agg #[.int .i64 p]), recovered := false }]
/-- A reader stands there. -/
def RAt (w : World) (rb : Nat) (s : ByteArray) (at_ : Nat) : Prop := w.heap[rb]? = some (.cells #[.string s, .int .i64 at_] 177 (0, 0))
/-- What reading leaves: all but the reader's own block. -/
structure Moved (rb : Nat) (w w' : World) : Prop where
  os : w'.os = w.os
  tape : w'.tape = w.tape
  output : w'.output = w.output
  size : w.heap.size ≤ w'.heap.size
  block : ∀ k, k < w.heap.size → k ≠ rb → w'.heap[k]? = w.heap[k]?
theorem Moved.of_below {rb : Nat} {w w' : World} (h : Below w.heap.size w w') : Moved rb w w' := ⟨h.os, h.tape, h.output, h.size, fun k hk _ => h.block k hk⟩
theorem Moved.refl (rb : Nat) (w : World) : Moved rb w w := .of_below (Below.refl _ _)
theorem Moved.trans {rb : Nat} {a b c : World} (h1 : Moved rb a b) (h2 : Moved rb b c) : Moved rb a c :=
  ⟨h2.os.trans h1.os, h2.tape.trans h1.tape, h2.output.trans h1.output, Nat.le_trans h1.size h2.size, fun k hk hne => (h2.block k (by have := h1.size; omega) hne).trans (h1.block k hk hne)⟩
theorem Moved.below {rb B : Nat} {w w' : World} (h : Moved rb w w') (h1 : B ≤ rb) (h2 : B ≤ w.heap.size) : Below B w w' := ⟨h.os, h.tape, h.output, h.size, fun k hk => h.block k (by omega) (by omega)⟩
theorem Moved.set (rb j : Nat) (w : World) (v : Value) : Moved rb w (w.setCell ⟨rb, j, none⟩ v) := by
  have h := (Below.refl 0 w).setCell (p := ⟨rb, j, none⟩) (Nat.zero_le _) v
  exact ⟨h.os, h.tape, h.output, h.size, fun k hk hne => far1 hne⟩
theorem RAt.kept {rb : Nat} {w w' : World} {s : ByteArray} {at_ : Nat} (h : RAt w rb s at_) (hb : Below w.heap.size w w') : RAt w' rb s at_ := (hb.block rb (lt_of_block h)).trans h
theorem RAt.cells {rb : Nat} {w : World} {s : ByteArray} {at_ : Nat} (h : RAt w rb s at_) : w.cell? ⟨rb, 0, none⟩ = some (.string s) ∧ w.cell? ⟨rb, 1, none⟩ = some (.int .i64 at_) ∧ ∀ j, w.frozen? ⟨rb, j, none⟩ = false :=
  ⟨by rw [Lib.cell_of_heap h]; rfl, by rw [Lib.cell_of_heap h]; rfl, fun j => Lib.frozen_of_heap h j⟩
theorem RAt.set {rb : Nat} {w : World} {s : ByteArray} {at_ : Nat} (h : RAt w rb s at_) (z : Int) (n : Nat) (hz : z = n) : RAt (w.setCell ⟨rb, 1, none⟩ (.int .i64 z)) rb s n := by
  subst hz
  exact Lib.heap_setCell_same h _

set_option maxHeartbeats 1000000 in
theorem toosoon_any (rb : Nat) (s : ByteArray) (at_ : Nat) (w : World) (h : RAt w rb s at_) :
    Calls Tryz.prog 147 #[.pointer (some ⟨rb, 0, none⟩)] w fun e w' => e = gaveUp s.size ∧ w = w' := by
  obtain ⟨c0, c1, c2⟩ := h.cells
  clear h
  go_enter Tryz.func147, Tryz.ntmps147
  go_wp2_with fail
  refine (giveup_any s.size _).mono ?_
  rintro e w' ⟨rfl, rfl⟩
  go_wp2
  exact ⟨rfl, rfl, rfl⟩

set_option maxHeartbeats 1000000 in
theorem atend_any (rb : Nat) (s : ByteArray) (at_ : Nat) (w : World) (h : RAt w rb s at_) :
    Calls Tryz.prog 111 #[.pointer (some ⟨rb, 0, none⟩)] w fun e w' => e = .returned (.bool (decide (at_ = s.size))) ∧ ∃ k, w' = w.drewN k := by
  obtain ⟨c0, c1, c2⟩ := h.cells
  clear h
  go_enter Tryz.func111, Tryz.ntmps111
  go_wp2
  go_quiet (fail)
  go_wp2
  go_ret
  exact ⟨ret_bool (by by_cases h : at_ = s.size <;> simp [h]; omega), _, rfl⟩
theorem RAt.drewN {rb : Nat} {w : World} {s : ByteArray} {at_ : Nat} (h : RAt w rb s at_) (k : Nat) : RAt (w.drewN k) rb s at_ := h

set_option maxHeartbeats 1000000 in
theorem next_end (rb : Nat) (s : ByteArray) (w : World) (h : RAt w rb s s.size) :
    Calls Tryz.prog 146 #[.pointer (some ⟨rb, 0, none⟩)] w fun e w' => e = gaveUp s.size ∧ Moved rb w w' := by
  have HR : Hid (RAt w rb s s.size) := h
  clear h
  go_enter Tryz.func146, Tryz.ntmps146
  go_wp2_with fail
  refine (atend_any rb s s.size _ HR.out).mono ?_
  rintro e w1 ⟨rfl, k, rfl⟩
  rw [show decide (s.size = s.size) = true from by simp]
  go_wp2_with fail
  refine (toosoon_any rb s s.size (w.drewN k) HR.out).mono ?_
  rintro e w' ⟨rfl, rfl⟩
  go_wp2
  exact ⟨rfl, rfl, .of_below (below_drewN0 _ _ _)⟩

set_option maxHeartbeats 1000000 in
theorem next_some (rb : Nat) (s : ByteArray) (at_ : Nat) (w : World) (h : RAt w rb s at_) (hlt : at_ < s.size) (hs : s.size ≤ 9223372036854775806) :
    Calls Tryz.prog 146 #[.pointer (some ⟨rb, 0, none⟩)] w fun e w' => e = .returned (.int .u8 (s[at_]).toNat) ∧ RAt w' rb s (at_ + 1) ∧ Moved rb w w' := by
  have HR0 : Hid (RAt w rb s at_) := h
  have HR : Hid (RAt (w.setCell ⟨rb, 1, none⟩ (.int .i64 ((at_ : Int) + 1))) rb s (at_ + 1)) := h.set _ _ (by omega)
  clear h
  go_enter Tryz.func146, Tryz.ntmps146
  go_wp2_with fail
  refine (atend_any rb s at_ _ HR0.out).mono ?_
  rintro e w1 ⟨rfl, nk, rfl⟩
  rw [show decide (at_ = s.size) = false from by simp; omega]
  obtain ⟨c0, c1, c2⟩ := (HR0.out.drewN nk).cells
  have q1 : (at_ : Int) < (s.size : Int) := by omega
  have q2 : (0 : Int) ≤ (at_ : Int) := by omega
  have q3 : IntKind.i64.wrap ((at_ : Int) + 1 - 1) = at_ := by rw [IntKind.wrap_i64]; omega
  have d0 : ((w.drewN nk).setCell ⟨rb, 1, none⟩ (.int .i64 ((at_ : Int) + 1))).cell? ⟨rb, 0, none⟩ = some (.string s) := (RAt.cells HR.out).1
  have d1 : ((w.drewN nk).setCell ⟨rb, 1, none⟩ (.int .i64 ((at_ : Int) + 1))).cell? ⟨rb, 1, none⟩ = some (.int .i64 ((at_ : Int) + 1)) := (RAt.cells HR.out).2.1
  go_wp2
  go_quiet (fail)
  go_wp2
  go_ret
  exact ⟨rfl, HR.out, ((Moved.of_below (below_drewN0 _ _ _)).trans (Moved.set _ _ _ _)).trans (.of_below (below_drewN0 _ _ _))⟩

set_option maxHeartbeats 1000000 in
theorem at_any (rb : Nat) (s : ByteArray) (at_ : Nat) (w : World) (h : RAt w rb s at_) :
    Calls Tryz.prog 112 #[.pointer (some ⟨rb, 0, none⟩)] w fun e w' => e = .returned (.int .i64 at_) ∧ w = w' := by
  obtain ⟨c0, c1, c2⟩ := h.cells
  clear h
  go_enter Tryz.func112, Tryz.ntmps112
  go_wp2
  go_ret
  exact ⟨rfl, rfl⟩
end Go.Proofs.YtabpiaaknjcnkaaGreat
