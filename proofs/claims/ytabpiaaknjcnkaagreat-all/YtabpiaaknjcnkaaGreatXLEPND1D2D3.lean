/- The texts LE, PN, D1, D2, D3, one behind the other. -/
import Derived.Test.YtabpiaaknjcnkaaGreatXR4L7L8P4S1S2L9LBLP
import Derived.Test.YtabpiaaknjcnkaaGreatXE2W9R6
import Derived.LoopTactic
import Derived.Deep.RegionHeld3
import Derived.Test.YtabpiaaknjcnkaaGreatXPCPDPU
import Derived.WalkLawsBesides
/-
  A step of Encode.
-/
namespace Go.Proofs.YtabpiaaknjcnkaaGreat
open Go.RowKit
set_option linter.unusedVariables false
set_option linter.unusedSimpArgs false
set_option maxRecDepth 100000

set_option maxHeartbeats 4000000 in
theorem wdeltas_enc (w : World) (B0 B1 Wb : Nat) (xv yv bv : Value) (es : List Entry) (hbook : BookAt w B0 Wb xv yv bv es (· < w.heap.size)) (hB0 : B0 ≤ w.heap.size) (hB01 : B0 ≤ B1) (hB1 : B1 ≤ w.heap.size) (a b c : Int) (s t : ByteArray) (vl vm : Value) (xs ys : List DOp)
    (hx : xs.length ≤ 4398046511000) (hy : ys.length ≤ 4398046511000) (hl : LView B1 w vl xs) (hm : LView B1 w vm ys) (hints : Ints xs) :
    Calls Tryz.prog 30 #[.pointer (some ⟨Wb, 0, none⟩), .agg #[.int .i64 5, .int .i64 a, .int .i64 b, .int .i64 c, .string s, .string t, vl, vm]] w fun e w' =>
      e = .returned (.bool true) ∧ BookAt w' B0 Wb xv yv bv es (· < w'.heap.size) ∧ Below B1 w w' := by
  have HN : Hid (Ints xs) := hints
  clear hints
  have HBK : Hid (BookAt w B0 Wb xv yv bv es (· < w.heap.size)) := hbook
  have hWb : Wb < w.heap.size := hbook.wbB
  have hW0 : B0 ≤ Wb := hbook.wb0
  have HL : Hid (LView B1 w vl xs) := hl
  have HM : Hid (LView B1 w vm ys) := hm
  obtain ⟨lo, lc, hvl⟩ := hl.slice
  obtain ⟨mo, mc, hvm⟩ := hm.slice
  rw [hvl] at HL
  rw [hvm] at HM
  rw [hvl, hvm]
  clear hbook hl hm hvl hvm
  go_enter Tryz.func30, Tryz.ntmps30
  go_wp2_with fail
  refine (lent_any _ xs _ (by omega) ((HL.out.view hB1).kept ((Below.refl _ _).alloc (Nat.le_refl _) _))).mono ?_
  rintro e w1 ⟨rfl, o1, b1⟩
  have ob1 : w1.heap[w.heap.size]? = some (.cells #[.int .i64 5, .int .i64 a, .int .i64 b, .int .i64 c, .string s, .string t, .slice lo xs.length lc, .slice mo ys.length mc] 61 (0, 0)) := (b1.block _ (by simp)).trans (heap_alloc_new _ _)
  have c1 : Below w.heap.size w w1 := ((Below.refl _ w).alloc (Nat.le_refl _) _).trans (b1.mono (by simp))
  have p1 : Lent w1 (w.heap.size + 1) xs := by
    have h := o1
    rw [alloc_size1] at h
    exact h
  clear o1 b1
  have hs1 := c1.size
  have hp1 := p1.lt
  have k17 : w1.cell? ⟨w.heap.size, 7, none⟩ = some (.slice mo ys.length mc) := by rw [Lib.cell_of_heap ob1]; rfl
  go_wp2_with fail
  refine (lent_any _ ys _ (by omega) ((HM.out.view hB1).kept c1)).mono ?_
  rintro e w2 ⟨rfl, o2, b2⟩
  have p2 : Lent w2 w1.heap.size ys := o2
  have q1 : Lent w2 (w.heap.size + 1) xs := p1.kept (b2.block _ hp1)
  have ob2 := (b2.block _ (show w.heap.size < w1.heap.size by omega)).trans ob1
  have c2 : Below w.heap.size w w2 := c1.trans (b2.mono hs1)
  clear o2 p1 ob1 k17 c1
  have hp2 := p2.lt
  have hs2 := b2.size
  clear b2
  have k20 : w2.cell? ⟨w.heap.size, 0, none⟩ = some (.int .i64 5) := by rw [Lib.cell_of_heap ob2]; rfl
  have k26 : w2.cell? ⟨w.heap.size, 6, none⟩ = some (.slice lo xs.length lc) := by rw [Lib.cell_of_heap ob2]; rfl
  have HC : Hid (∀ W : World, W.heap = w2.heap → Calls Tryz.prog 66 #[.slice (some ⟨w.heap.size + 1, 0, none⟩) xs.length (xs.length + 2)] W fun e w' => e = .returned (.tuple #[.string (encS xs), .int .i64 (encE xs), .int .i64 (encP xs)]) ∧ Below W.heap.size W w') :=
    fun W hW => cenc_any ((own_head q1 _).heap hW) HN.out
  have hO2 : w.heap.size < w2.heap.size := by omega
  have n0 : (0 : Int) ≤ (xs.length : Int) := by omega
  have n1 : (xs.length : Int) ≤ (xs.length : Int) + 2 := by omega
  have n2 : (xs.length : Int) ≤ ((xs.length + 2 : Nat) : Int) := by omega
  have n3 : xs.length ≤ xs.length + 2 := by omega
  go_wp2_with fail
  refine (HC.out _ rfl).mono ?_
  rintro e w3 ⟨rfl, b3⟩
  have e6 := (b3.cell (p := ⟨w.heap.size, 6, none⟩) hO2).trans k26
  have b23 : Below w2.heap.size w2 w3 := b3
  have c3 : Below w.heap.size w w3 := c2.trans (b23.mono (by omega))
  have hs3 := b23.size
  clear b3
  go_wp2_with fail
  refine (renc_any ((HL.out.kept (c3.mono hB1)).view (by omega)) HN.out).mono ?_
  rintro e w6 ⟨rfl, b6⟩
  have b26 : Below w2.heap.size w2 w6 := b23.trans (b6.mono hs3)
  have c26 : Below w.heap.size w w6 := c2.trans (b26.mono (by omega))
  have hs6 := b26.size
  have bk6 : BookAt w6 B0 Wb xv yv bv es (fun q => q < w.heap.size ∨ (w2.heap.size ≤ q ∧ q < w6.heap.size)) := HBK.out.kept (fun q hq => c26.block q hq) (fun q hq => .inl hq)
  have c6 : Below B1 w w6 := c26.mono hB1
  have hl6 := c6.size
  have ob6 := (b26.block _ hO2).trans ob2
  have q16 : Lent w6 (w.heap.size + 1) xs := q1.kept (b26.block _ (by omega))
  have q26 : Lent w6 w1.heap.size ys := p2.kept (b26.block _ (by omega))
  generalize encS xs = AS at *
  generalize encE xs = AE at *
  generalize encP xs = AP at *
  clear c2 ob2 q1 p2 k20 k26 b23 c3 b6 b26 c26 e6 HC
  have k66 : w6.cell? ⟨w.heap.size, 6, none⟩ = some (.slice lo xs.length lc) := by rw [Lib.cell_of_heap ob6]; rfl
  have HBACK : Hid (Calls Tryz.prog 70 #[.slice (some ⟨w.heap.size + 1, 0, none⟩) (xs.length + 2) (xs.length + 2), .slice lo xs.length lc] w6 fun e w' => e = .returned (.bool true) ∧ w6.grownBy w' (some (w.heap.size + 1))) :=
    back_list (w.heap.size + 1) (w.heap.size + 1) xs _ w6 (by omega) q16 (Nat.le_refl _) ((HL.out.kept c6).view (by omega))
  go_wp2_with fail
  refine HBACK.out.mono ?_
  rintro e w7 ⟨rfl, g7⟩
  have c7 : Below B1 w w7 := below_back g7 c6 (by omega) (by omega)
  obtain ⟨_, bk7, ob7, q27, hs7⟩ := after_back g7 (c6.mono hB01) bk6 ob6 q26 hB0 (by omega) (by omega) (by omega) (by omega) (by omega) (by omega)
  clear g7 c6 bk6 ob6 q26 q16 k66 HBACK
  have k77 : w7.cell? ⟨w.heap.size, 7, none⟩ = some (.slice mo ys.length mc) := by rw [Lib.cell_of_heap ob7]; rfl
  have HBACK : Hid (Calls Tryz.prog 70 #[.slice (some ⟨w1.heap.size, 0, none⟩) (ys.length + 2) (ys.length + 2), .slice mo ys.length mc] w7 fun e w' => e = .returned (.bool true) ∧ w7.grownBy w' (some w1.heap.size)) :=
    back_list w1.heap.size w1.heap.size ys _ w7 (by omega) q27 (Nat.le_refl _) ((HM.out.kept c7).view (by have := c7.size; omega))
  go_wp2_with fail
  refine HBACK.out.mono ?_
  rintro e w8 ⟨rfl, g8⟩
  have c8 : Below B1 w w8 := below_back g8 c7 (by omega) (by have := c7.size; omega)
  have bk8 : BookAt w8 B0 Wb xv yv bv es (· < w8.heap.size) := bk7.kept (fun q hq => g8.block q (by rcases hq with h | h <;> omega) (fun e => by injection e with e; rcases hq with h | h <;> omega)) (fun q hq => by have := g8.size; rcases hq with h | h <;> (show q < w8.heap.size; omega))
  clear g8 c7 bk7 ob7 q27 k77 HBACK
  go_wp2
  go_ret
  exact ⟨rfl, bk8, c8⟩
end Go.Proofs.YtabpiaaknjcnkaaGreat

/-
  Plain facts: reading a number, and a delta's code.
-/
namespace Go.Proofs.YtabpiaaknjcnkaaGreat
set_option linter.unusedVariables false
set_option linter.unusedSimpArgs false

/-- The number at a place (and the place behind it), or the place at which it fails. -/
def numGo (s : ByteArray) (start : Nat) : Nat → Nat → Nat → Nat ⊕ (Nat × Nat)
  | 0, _, _ => .inl start
  | f + 1, k, acc =>
    if h : start + k < s.size then
      if (s[start + k]).toNat < 128 then
        (if 2147483647 < acc + (s[start + k]).toNat % 128 * 128 ^ k ∨ ((s[start + k]).toNat = 0 ∧ 0 < k) then .inl start else .inr (acc + (s[start + k]).toNat % 128 * 128 ^ k, start + k + 1))
      else numGo s start f (k + 1) (acc + (s[start + k]).toNat % 128 * 128 ^ k)
    else .inl s.size
def numF (s : ByteArray) (start : Nat) : Nat ⊕ (Nat × Nat) := numGo s start 5 0 0

theorem numGo_end {s : ByteArray} {start f k acc : Nat} (h : ¬ start + k < s.size) : numGo s start (f + 1) k acc = .inl s.size := by rw [numGo, dif_neg h]
theorem numGo_more {s : ByteArray} {start f k acc : Nat} (h : start + k < s.size) (hc : ¬ (s[start + k]).toNat < 128) : numGo s start (f + 1) k acc = numGo s start f (k + 1) (acc + (s[start + k]).toNat % 128 * 128 ^ k) := by
  rw [numGo, dif_pos h, if_neg hc]
theorem numGo_bad {s : ByteArray} {start f k acc : Nat} (h : start + k < s.size) (hc : (s[start + k]).toNat < 128) (hb : 2147483647 < acc + (s[start + k]).toNat % 128 * 128 ^ k ∨ ((s[start + k]).toNat = 0 ∧ 0 < k)) : numGo s start (f + 1) k acc = .inl start := by
  rw [numGo, dif_pos h, if_pos hc, if_pos hb]
theorem numGo_done {s : ByteArray} {start f k acc : Nat} (h : start + k < s.size) (hc : (s[start + k]).toNat < 128) (hb : ¬ (2147483647 < acc + (s[start + k]).toNat % 128 * 128 ^ k ∨ ((s[start + k]).toNat = 0 ∧ 0 < k))) : numGo s start (f + 1) k acc = .inr (acc + (s[start + k]).toNat % 128 * 128 ^ k, start + k + 1) := by
  rw [numGo, dif_pos h, if_pos hc, if_neg hb]
theorem numGo_props {s : ByteArray} {start : Nat} : ∀ {f k acc : Nat}, start + k ≤ s.size → (∀ p, numGo s start f k acc = .inl p → p ≤ s.size) ∧ ∀ n nx, numGo s start f k acc = .inr (n, nx) → n ≤ 2147483647 ∧ start + k < nx ∧ nx ≤ s.size
  | 0, k, acc, h => ⟨fun p hp => by simp [numGo] at hp; omega, fun n nx hn => by simp [numGo] at hn⟩
  | f + 1, k, acc, h => by
    by_cases h1 : start + k < s.size
    · by_cases h2 : (s[start + k]).toNat < 128
      · by_cases h3 : 2147483647 < acc + (s[start + k]).toNat % 128 * 128 ^ k ∨ ((s[start + k]).toNat = 0 ∧ 0 < k)
        · rw [numGo_bad h1 h2 h3]
          exact ⟨fun p hp => by simp at hp; omega, fun n nx hn => by simp at hn⟩
        · rw [numGo_done h1 h2 h3]
          refine ⟨fun p hp => by simp at hp, fun n nx hn => ?_⟩
          simp only [Sum.inr.injEq, Prod.mk.injEq] at hn
          omega
      · rw [numGo_more h1 h2]
        obtain ⟨a, b⟩ := numGo_props (s := s) (start := start) (f := f) (k := k + 1) (acc := acc + (s[start + k]).toNat % 128 * 128 ^ k) (by omega)
        exact ⟨a, fun n nx hn => by have := b n nx hn; omega⟩
    · rw [numGo_end h1]
      exact ⟨fun p hp => by simp at hp; omega, fun n nx hn => by simp at hn⟩
theorem numF_ok {s : ByteArray} {start n nx : Nat} (hs : start ≤ s.size) (h : numF s start = .inr (n, nx)) : n ≤ 2147483647 ∧ start < nx ∧ nx ≤ s.size := by
  have := (numGo_props (s := s) (start := start) (f := 5) (k := 0) (acc := 0) (by omega)).2 n nx h
  omega
theorem numF_bad {s : ByteArray} {start p : Nat} (hs : start ≤ s.size) (h : numF s start = .inl p) : p ≤ s.size :=
  (numGo_props (s := s) (start := start) (f := 5) (k := 0) (acc := 0) (by omega)).1 p h

/-- Is the last one a TEXT? Does a COPY go on the last one? -/
def lastText (out : List DOp) : Bool := match out.getLast? with | none => false | some l => !decide (0 < l.len)
def goesOn (out : List DOp) (f n : Int) : Bool := match out.getLast? with | none => false | some l => !followB l.fr l.len f n
/-- An op that is read behind those ahead, of which so many bytes are made; or the place at which it fails. -/
def readF (s : ByteArray) (out : List DOp) (total at_ : Nat) : Nat ⊕ (DOp × Nat) :=
  match numF s at_ with
  | .inl p => .inl p
  | .inr (n, nx) =>
    if n / 2 = 0 ∨ 2000 < total + n / 2 then .inl at_
    else if n % 2 = 0 then
      (if lastText out = true then .inl at_
      else if s.size < nx + n / 2 then .inl s.size else .inr (⟨0, 0, s.extract nx (nx + n / 2)⟩, nx + n / 2))
    else match numF s nx with
      | .inl p => .inl p
      | .inr (from_, behind_) =>
        if 2000 < from_ + n / 2 ∨ goesOn out from_ (n / 2 : Nat) = true then .inl nx
        else .inr (⟨from_, (n / 2 : Nat), ⟨#[]⟩⟩, behind_)
def sizeN (o : DOp) : Nat := (sizeI o.len o.tx).toNat
def decGo (s : ByteArray) : Nat → List DOp → Nat → Nat → Nat ⊕ (List DOp × Nat)
  | 0, out, _, at_ => .inr (out, at_)
  | r + 1, out, total, at_ => match readF s out total at_ with
    | .inl p => .inl p
    | .inr (o, nx) => decGo s r (out ++ [o]) (total + sizeN o) nx
def decF (s : ByteArray) : Nat ⊕ List DOp :=
  match numF s 0 with
  | .inl p => .inl p
  | .inr (count, at_) => if 200 < count then .inl 0 else match decGo s count [] 0 at_ with
    | .inl p => .inl p
    | .inr (out, at') => if at' < s.size then .inl at' else .inr out
end Go.Proofs.YtabpiaaknjcnkaaGreat

/-
  The walks over the Reader.
-/
namespace Go.Proofs.YtabpiaaknjcnkaaGreat
open Go.RowKit
set_option linter.unusedVariables false
set_option linter.unusedSimpArgs false
set_option maxRecDepth 100000

set_option maxHeartbeats 1000000 in
theorem giveup_any (p : Int) (w : World) :
    Calls Tryz.prog 114 #[.int .i64 p] w fun e w' => e = .panicked [{ v := .iface 128 (.agg #[.int .i64 p]), recovered := false }] ∧ w' = w := by
  go_enter Tryz.func114, Tryz.ntmps114
  go_wp2
  exact ⟨rfl, rfl, rfl⟩

/-- A panic that tells a place. -/
abbrev gaveUp (p : Nat) : Ending := .panicked [{ v := .iface 128 (.agg #[.int .i64 p]), recovered := false }]
/-- A reader stands there. -/
def RAt (w : World) (rb : Nat) (s : ByteArray) (at_ : Nat) : Prop := w.heap[rb]? = some (.cells #[.string s, .int .i64 at_] 177 (0, 0))
/-- What reading leaves: all but the reader's own block. -/
structure Moved (rb : Nat) (w w' : World) : Prop where
  os : w'.os = w.os
  tape : w'.tape = w.tape
  output : w'.output = w.output
  size : w.heap.size ≤ w'.heap.size
  block : ∀ k, k < w.heap.size → k ≠ rb → w'.heap[k]? = w.heap[k]?
theorem Moved.of_below {rb : Nat} {w w' : World} (h : Below w.heap.size w w') : Moved rb w w' := ⟨h.os, h.tape, h.output, h.size, fun k hk _ => h.block k hk⟩
theorem Moved.refl (rb : Nat) (w : World) : Moved rb w w := .of_below (Below.refl _ _)
theorem Moved.trans {rb : Nat} {a b c : World} (h1 : Moved rb a b) (h2 : Moved rb b c) : Moved rb a c :=
  ⟨h2.os.trans h1.os, h2.tape.trans h1.tape, h2.output.trans h1.output, Nat.le_trans h1.size h2.size, fun k hk hne => (h2.block k (by have := h1.size; omega) hne).trans (h1.block k hk hne)⟩
theorem Moved.below {rb B : Nat} {w w' : World} (h : Moved rb w w') (h1 : B ≤ rb) (h2 : B ≤ w.heap.size) : Below B w w' := ⟨h.os, h.tape, h.output, h.size, fun k hk => h.block k (by omega) (by omega)⟩
theorem Moved.set (rb j : Nat) (w : World) (v : Value) : Moved rb w (w.setCell ⟨rb, j, none⟩ v) := by
  have h := (Below.refl 0 w).setCell (p := ⟨rb, j, none⟩) (Nat.zero_le _) v
  exact ⟨h.os, h.tape, h.output, h.size, fun k hk hne => far1 hne⟩
theorem RAt.kept {rb : Nat} {w w' : World} {s : ByteArray} {at_ : Nat} (h : RAt w rb s at_) (hb : Below w.heap.size w w') : RAt w' rb s at_ := (hb.block rb (lt_of_block h)).trans h
theorem RAt.cells {rb : Nat} {w : World} {s : ByteArray} {at_ : Nat} (h : RAt w rb s at_) : w.cell? ⟨rb, 0, none⟩ = some (.string s) ∧ w.cell? ⟨rb, 1, none⟩ = some (.int .i64 at_) ∧ ∀ j, w.frozen? ⟨rb, j, none⟩ = false :=
  ⟨by rw [Lib.cell_of_heap h]; rfl, by rw [Lib.cell_of_heap h]; rfl, fun j => Lib.frozen_of_heap h j⟩
theorem RAt.set {rb : Nat} {w : World} {s : ByteArray} {at_ : Nat} (h : RAt w rb s at_) (z : Int) (n : Nat) (hz : z = n) : RAt (w.setCell ⟨rb, 1, none⟩ (.int .i64 z)) rb s n := by
  subst hz
  exact Lib.heap_setCell_same h _

set_option maxHeartbeats 1000000 in
theorem toosoon_any (rb : Nat) (s : ByteArray) (at_ : Nat) (w : World) (h : RAt w rb s at_) :
    Calls Tryz.prog 147 #[.pointer (some ⟨rb, 0, none⟩)] w fun e w' => e = gaveUp s.size ∧ w = w' := by
  obtain ⟨c0, c1, c2⟩ := h.cells
  clear h
  go_enter Tryz.func147, Tryz.ntmps147
  go_wp2_with fail
  refine (giveup_any s.size _).mono ?_
  rintro e w' ⟨rfl, rfl⟩
  go_wp2
  exact ⟨rfl, rfl, rfl⟩

set_option maxHeartbeats 1000000 in
theorem atend_any (rb : Nat) (s : ByteArray) (at_ : Nat) (w : World) (h : RAt w rb s at_) :
    Calls Tryz.prog 111 #[.pointer (some ⟨rb, 0, none⟩)] w fun e w' => e = .returned (.bool (decide (at_ = s.size))) ∧ ∃ k, w' = w.drewN k := by
  obtain ⟨c0, c1, c2⟩ := h.cells
  clear h
  go_enter Tryz.func111, Tryz.ntmps111
  go_wp2
  go_quiet (fail)
  go_wp2
  go_ret
  exact ⟨ret_bool (by by_cases h : at_ = s.size <;> simp [h]; omega), _, rfl⟩
theorem RAt.drewN {rb : Nat} {w : World} {s : ByteArray} {at_ : Nat} (h : RAt w rb s at_) (k : Nat) : RAt (w.drewN k) rb s at_ := h

set_option maxHeartbeats 1000000 in
theorem next_end (rb : Nat) (s : ByteArray) (w : World) (h : RAt w rb s s.size) :
    Calls Tryz.prog 146 #[.pointer (some ⟨rb, 0, none⟩)] w fun e w' => e = gaveUp s.size ∧ Moved rb w w' := by
  have HR : Hid (RAt w rb s s.size) := h
  clear h
  go_enter Tryz.func146, Tryz.ntmps146
  go_wp2_with fail
  refine (atend_any rb s s.size _ HR.out).mono ?_
  rintro e w1 ⟨rfl, k, rfl⟩
  rw [show decide (s.size = s.size) = true from by simp]
  go_wp2_with fail
  refine (toosoon_any rb s s.size (w.drewN k) HR.out).mono ?_
  rintro e w' ⟨rfl, rfl⟩
  go_wp2
  exact ⟨rfl, rfl, .of_below (below_drewN0 _ _ _)⟩

set_option maxHeartbeats 1000000 in
theorem next_some (rb : Nat) (s : ByteArray) (at_ : Nat) (w : World) (h : RAt w rb s at_) (hlt : at_ < s.size) (hs : s.size ≤ 9223372036854775806) :
    Calls Tryz.prog 146 #[.pointer (some ⟨rb, 0, none⟩)] w fun e w' => e = .returned (.int .u8 (s[at_]).toNat) ∧ RAt w' rb s (at_ + 1) ∧ Moved rb w w' := by
  have HR0 : Hid (RAt w rb s at_) := h
  have HR : Hid (RAt (w.setCell ⟨rb, 1, none⟩ (.int .i64 ((at_ : Int) + 1))) rb s (at_ + 1)) := h.set _ _ (by omega)
  clear h
  go_enter Tryz.func146, Tryz.ntmps146
  go_wp2_with fail
  refine (atend_any rb s at_ _ HR0.out).mono ?_
  rintro e w1 ⟨rfl, nk, rfl⟩
  rw [show decide (at_ = s.size) = false from by simp; omega]
  obtain ⟨c0, c1, c2⟩ := (HR0.out.drewN nk).cells
  have q1 : (at_ : Int) < (s.size : Int) := by omega
  have q2 : (0 : Int) ≤ (at_ : Int) := by omega
  have q3 : IntKind.i64.wrap ((at_ : Int) + 1 - 1) = at_ := by rw [IntKind.wrap_i64]; omega
  have d0 : ((w.drewN nk).setCell ⟨rb, 1, none⟩ (.int .i64 ((at_ : Int) + 1))).cell? ⟨rb, 0, none⟩ = some (.string s) := (RAt.cells HR.out).1
  have d1 : ((w.drewN nk).setCell ⟨rb, 1, none⟩ (.int .i64 ((at_ : Int) + 1))).cell? ⟨rb, 1, none⟩ = some (.int .i64 ((at_ : Int) + 1)) := (RAt.cells HR.out).2.1
  go_wp2
  go_quiet (fail)
  go_wp2
  go_ret
  exact ⟨rfl, HR.out, ((Moved.of_below (below_drewN0 _ _ _)).trans (Moved.set _ _ _ _)).trans (.of_below (below_drewN0 _ _ _))⟩

set_option maxHeartbeats 1000000 in
theorem at_any (rb : Nat) (s : ByteArray) (at_ : Nat) (w : World) (h : RAt w rb s at_) :
    Calls Tryz.prog 112 #[.pointer (some ⟨rb, 0, none⟩)] w fun e w' => e = .returned (.int .i64 at_) ∧ w = w' := by
  obtain ⟨c0, c1, c2⟩ := h.cells
  clear h
  go_enter Tryz.func112, Tryz.ntmps112
  go_wp2
  go_ret
  exact ⟨rfl, rfl⟩
end Go.Proofs.YtabpiaaknjcnkaaGreat

/-
  The walk over Number.
-/
namespace Go.Proofs.YtabpiaaknjcnkaaGreat
open Go.RowKit
set_option linter.unusedVariables false
set_option linter.unusedSimpArgs false
set_option maxRecDepth 100000

/-- What Number does. -/
def NumPost (rb : Nat) (s : ByteArray) (start : Nat) (w : World) (e : Ending) (w' : World) : Prop :=
  ((∃ p, numF s start = .inl p ∧ e = gaveUp p) ∨ ∃ n nx : Nat, numF s start = .inr (n, nx) ∧ e = .returned (.int .i64 n) ∧ RAt w' rb s nx) ∧ Moved rb w w'

theorem or_num (k acc c : Nat) (hk : k ≤ 4) (ha : acc < 128 ^ k) (hc : c < 128) : bits BinOp.or IntKind.u64 (acc : Int) ((c * 128 ^ k : Nat) : Int) = ((acc + c * 128 ^ k : Nat) : Int) := by
  have hp : 128 ^ k ≤ 268435456 := Nat.le_trans (Nat.pow_le_pow_right (by decide) hk) (by decide)
  have hb : c * 128 ^ k < 18446744073709551616 := Nat.lt_of_le_of_lt (Nat.mul_le_mul (Nat.le_of_lt hc) hp) (by decide)
  rw [u64_or_nat acc (c * 128 ^ k) (by omega) hb]
  have e : (128 : Nat) ^ k = 2 ^ (7 * k) := by rw [Nat.pow_mul]
  rw [e] at ha ⊢
  have := Nat.two_pow_add_eq_or_of_lt (i := 7 * k) (b := acc) ha c
  rw [Nat.or_comm, Nat.mul_comm c, ← this]
  congr 1; omega

set_option maxHeartbeats 8000000 in
theorem number_any (rb : Nat) (s : ByteArray) (start : Nat) (w : World) (h : RAt w rb s start) (hst : start ≤ s.size) (hs : s.size ≤ 9223372036854775000) :
    Calls Tryz.prog 134 #[.pointer (some ⟨rb, 0, none⟩)] w (NumPost rb s start w) := by
  obtain ⟨c0, c1, c2⟩ := h.cells
  have HR : Hid (RAt w rb s start) := h
  clear h
  go_enter Tryz.func134, Tryz.ntmps134
  go_wp2
  go_loopw [4, 11] (fun m c wr => ∃ k acc : Nat, k ≤ 5 ∧ c = .int .i64 k ∧ m = .int .u64 acc ∧ Hid (acc < 128 ^ k) ∧ Hid (numGo s start (5 - k) k acc = numF s start) ∧ Hid (RAt wr rb s (start + k)) ∧ Hid (Moved rb w wr) ∧ start + k ≤ s.size) (fun _ c _ => 6 - (intOf c).toNat)
  case atStart => exact ⟨0, 0, by omega, rfl, rfl, by simp [Hid], rfl, HR, Moved.refl _ _, by omega⟩
  case round =>
    obtain ⟨k, acc, hk, rfl, rfl, HA, HN, HRk, HM, hle⟩ := hrel
    clear c0 c1 c2 HR
    by_cases hlt : k < 5
    · by_cases hin : start + k < s.size
      · have hc256 : (s[start + k]).toNat < 256 := (s[start + k]).toNat_lt
        have HMore : Hid (128 ≤ (s[start + k]).toNat → numF s start = numGo s start (4 - k) (k + 1) (acc + (s[start + k]).toNat % 128 * 128 ^ k)) := fun h => by
          rw [← HN.out, show 5 - k = (4 - k) + 1 by omega, numGo_more hin (by omega)]
        have HBad : Hid ((s[start + k]).toNat < 128 → (2147483647 < acc + (s[start + k]).toNat % 128 * 128 ^ k ∨ ((s[start + k]).toNat = 0 ∧ 0 < k)) → numF s start = .inl start) := fun h h' => by
          rw [← HN.out, show 5 - k = (4 - k) + 1 by omega, numGo_bad hin h h']
        have HDone : Hid ((s[start + k]).toNat < 128 → ¬ (2147483647 < acc + (s[start + k]).toNat % 128 * 128 ^ k ∨ ((s[start + k]).toNat = 0 ∧ 0 < k)) → numF s start = .inr (acc + (s[start + k]).toNat % 128 * 128 ^ k, start + k + 1)) := fun h h' => by
          rw [← HN.out, show 5 - k = (4 - k) + 1 by omega, numGo_done hin h h']
        have HO : Hid (bits BinOp.or IntKind.u64 (acc : Int) (((s[start + k]).toNat % 128 * 128 ^ k : Nat) : Int) = ((acc + (s[start + k]).toNat % 128 * 128 ^ k : Nat) : Int)) := or_num k acc _ (by omega) HA.out (by omega)
        have HLt : Hid (acc + (s[start + k]).toNat % 128 * 128 ^ k < 128 ^ (k + 1)) := by
          have h1 := HA.out
          have h2 : (s[start + k]).toNat % 128 ≤ 127 := by omega
          have h3 := Nat.mul_le_mul_right (128 ^ k) h2
          show _ < 128 ^ (k + 1)
          rw [Nat.pow_succ]; omega
        go_wp2_with fail
        refine (next_some rb s (start + k) wr HRk.out hin (by omega)).mono ?_
        rintro e w1 ⟨rfl, hr1, hm1⟩
        have HR1 : Hid (RAt w1 rb s (start + k + 1)) := hr1
        have HM1 : Hid (Moved rb w w1) := HM.out.trans hm1
        clear hr1 hm1 HRk HM HN
        generalize (s[start + k]).toNat = c at *
        generalize hAA : acc + c % 128 * 128 ^ k = A at *
        rcases (show k = 0 ∨ k = 1 ∨ k = 2 ∨ k = 3 ∨ k = 4 by omega) with rfl | rfl | rfl | rfl | rfl
        · have hB : bits BinOp.or IntKind.u64 (acc : Int) ((c : Int) % 128) = (A : Int) := by have := HO.out; simpa using this
          skip
          clear HO hAA HA
          by_cases h128 : 128 ≤ c
          · have HE := HMore.out h128
            have HN2 : Hid (numGo s start (5 - 1) 1 A = numF s start) := HE.symm
            clear HE HMore HBad HDone
            go_wp2
            go_roundw
            case rel => exact ⟨1, A, by omega, by go_num, rfl, HLt, HN2, HR1, HM1, by omega⟩
            case measure => simp [intOf]
          · have h128' : c < 128 := by omega
            by_cases hv : 2147483647 < A
            · exact absurd HLt.out (by simp; omega)
            · have hv' : (A : Int) ≤ 2147483647 := by omega
              by_cases hc0 : c = 0
              · have HE : Hid (numF s start = .inr (A, start + 0 + 1)) := HDone.out h128' (fun h => by omega)
                have hB0 : bits BinOp.or IntKind.u64 (acc : Int) 0 = (A : Int) := by rw [hc0] at hB; simpa using hB
                clear HMore HBad HDone
                go_wp2
                go_ret
                exact ⟨.inr ⟨A, _, HE.out, rfl, HR1.out⟩, HM1.out⟩
              · have HE : Hid (numF s start = .inr (A, start + 0 + 1)) := HDone.out h128' (fun h => by omega)
                clear HMore HBad HDone
                go_wp2
                go_ret
                exact ⟨.inr ⟨A, _, HE.out, rfl, HR1.out⟩, HM1.out⟩
        · have hB : bits BinOp.or IntKind.u64 (acc : Int) ((c : Int) % 128 * 128) = (A : Int) := by have := HO.out; simpa using this
          skip
          clear HO hAA HA
          by_cases h128 : 128 ≤ c
          · have HE := HMore.out h128
            have HN2 : Hid (numGo s start (5 - 2) 2 A = numF s start) := HE.symm
            clear HE HMore HBad HDone
            go_wp2
            go_roundw
            case rel => exact ⟨2, A, by omega, by go_num, rfl, HLt, HN2, HR1, HM1, by omega⟩
            case measure => simp [intOf]
          · have h128' : c < 128 := by omega
            by_cases hv : 2147483647 < A
            · have HE : Hid (numF s start = .inl start) := HBad.out h128' (.inl hv)
              have hv' : (2147483647 : Int) < (A : Int) := by omega
              clear HMore HBad HDone
              by_cases hc0 : c = 0
              all_goals
                go_wp2
                exact ⟨rfl, .inl ⟨start, HE.out, rfl⟩, HM1.out⟩
            · have hv' : (A : Int) ≤ 2147483647 := by omega
              by_cases hc0 : c = 0
              · have HE : Hid (numF s start = .inl start) := HBad.out h128' (.inr ⟨hc0, by omega⟩)
                clear HMore HBad HDone
                go_wp2
                exact ⟨rfl, .inl ⟨start, HE.out, rfl⟩, HM1.out⟩
              · have HE : Hid (numF s start = .inr (A, start + 1 + 1)) := HDone.out h128' (fun h => by omega)
                clear HMore HBad HDone
                go_wp2
                go_ret
                exact ⟨.inr ⟨A, _, HE.out, rfl, HR1.out⟩, HM1.out⟩
        · have hB : bits BinOp.or IntKind.u64 (acc : Int) ((c : Int) % 128 * 16384) = (A : Int) := by have := HO.out; simpa using this
          skip
          clear HO hAA HA
          by_cases h128 : 128 ≤ c
          · have HE := HMore.out h128
            have HN2 : Hid (numGo s start (5 - 3) 3 A = numF s start) := HE.symm
            clear HE HMore HBad HDone
            go_wp2
            go_roundw
            case rel => exact ⟨3, A, by omega, by go_num, rfl, HLt, HN2, HR1, HM1, by omega⟩
            case measure => simp [intOf]
          · have h128' : c < 128 := by omega
            by_cases hv : 2147483647 < A
            · have HE : Hid (numF s start = .inl start) := HBad.out h128' (.inl hv)
              have hv' : (2147483647 : Int) < (A : Int) := by omega
              clear HMore HBad HDone
              by_cases hc0 : c = 0
              all_goals
                go_wp2
                exact ⟨rfl, .inl ⟨start, HE.out, rfl⟩, HM1.out⟩
            · have hv' : (A : Int) ≤ 2147483647 := by omega
              by_cases hc0 : c = 0
              · have HE : Hid (numF s start = .inl start) := HBad.out h128' (.inr ⟨hc0, by omega⟩)
                clear HMore HBad HDone
                go_wp2
                exact ⟨rfl, .inl ⟨start, HE.out, rfl⟩, HM1.out⟩
              · have HE : Hid (numF s start = .inr (A, start + 2 + 1)) := HDone.out h128' (fun h => by omega)
                clear HMore HBad HDone
                go_wp2
                go_ret
                exact ⟨.inr ⟨A, _, HE.out, rfl, HR1.out⟩, HM1.out⟩
        · have hB : bits BinOp.or IntKind.u64 (acc : Int) ((c : Int) % 128 * 2097152) = (A : Int) := by have := HO.out; simpa using this
          skip
          clear HO hAA HA
          by_cases h128 : 128 ≤ c
          · have HE := HMore.out h128
            have HN2 : Hid (numGo s start (5 - 4) 4 A = numF s start) := HE.symm
            clear HE HMore HBad HDone
            go_wp2
            go_roundw
            case rel => exact ⟨4, A, by omega, by go_num, rfl, HLt, HN2, HR1, HM1, by omega⟩
            case measure => simp [intOf]
          · have h128' : c < 128 := by omega
            by_cases hv : 2147483647 < A
            · have HE : Hid (numF s start = .inl start) := HBad.out h128' (.inl hv)
              have hv' : (2147483647 : Int) < (A : Int) := by omega
              clear HMore HBad HDone
              by_cases hc0 : c = 0
              all_goals
                go_wp2
                exact ⟨rfl, .inl ⟨start, HE.out, rfl⟩, HM1.out⟩
            · have hv' : (A : Int) ≤ 2147483647 := by omega
              by_cases hc0 : c = 0
              · have HE : Hid (numF s start = .inl start) := HBad.out h128' (.inr ⟨hc0, by omega⟩)
                clear HMore HBad HDone
                go_wp2
                exact ⟨rfl, .inl ⟨start, HE.out, rfl⟩, HM1.out⟩
              · have HE : Hid (numF s start = .inr (A, start + 3 + 1)) := HDone.out h128' (fun h => by omega)
                clear HMore HBad HDone
                go_wp2
                go_ret
                exact ⟨.inr ⟨A, _, HE.out, rfl, HR1.out⟩, HM1.out⟩
        · have hB : bits BinOp.or IntKind.u64 (acc : Int) ((c : Int) % 128 * 268435456) = (A : Int) := by have := HO.out; simpa using this
          skip
          clear HO hAA HA
          by_cases h128 : 128 ≤ c
          · have HE := HMore.out h128
            have HN2 : Hid (numGo s start (5 - 5) 5 A = numF s start) := HE.symm
            clear HE HMore HBad HDone
            go_wp2
            go_roundw
            case rel => exact ⟨5, A, by omega, by go_num, rfl, HLt, HN2, HR1, HM1, by omega⟩
            case measure => simp [intOf]
          · have h128' : c < 128 := by omega
            by_cases hv : 2147483647 < A
            · have HE : Hid (numF s start = .inl start) := HBad.out h128' (.inl hv)
              have hv' : (2147483647 : Int) < (A : Int) := by omega
              clear HMore HBad HDone
              by_cases hc0 : c = 0
              all_goals
                go_wp2
                exact ⟨rfl, .inl ⟨start, HE.out, rfl⟩, HM1.out⟩
            · have hv' : (A : Int) ≤ 2147483647 := by omega
              by_cases hc0 : c = 0
              · have HE : Hid (numF s start = .inl start) := HBad.out h128' (.inr ⟨hc0, by omega⟩)
                clear HMore HBad HDone
                go_wp2
                exact ⟨rfl, .inl ⟨start, HE.out, rfl⟩, HM1.out⟩
              · have HE : Hid (numF s start = .inr (A, start + 4 + 1)) := HDone.out h128' (fun h => by omega)
                clear HMore HBad HDone
                go_wp2
                go_ret
                exact ⟨.inr ⟨A, _, HE.out, rfl, HR1.out⟩, HM1.out⟩
      · have hse : start + k = s.size := by omega
        have HE : Hid (numF s start = .inl s.size) := by
          show numF s start = _
          rw [← HN.out, show 5 - k = (4 - k) + 1 by omega, numGo_end (by omega)]
        rw [hse] at HRk
        go_wp2_with fail
        refine (next_end rb s wr HRk.out).mono ?_
        rintro e w1 ⟨rfl, hm1⟩
        have HM1 : Hid (Moved rb w w1) := HM.out.trans hm1
        clear hm1
        go_wp2
        exact ⟨rfl, .inl ⟨s.size, HE.out, rfl⟩, HM1.out⟩
    · have HE : Hid (numF s start = .inl start) := by
        show numF s start = _
        rw [← HN.out, show 5 - k = 0 by omega]; rfl
      go_wp2
      exact ⟨rfl, .inl ⟨start, HE.out, rfl⟩, HM.out⟩
end Go.Proofs.YtabpiaaknjcnkaaGreat

/-
  The walks over Text, End, readCopy and readOp.
-/
namespace Go.Proofs.YtabpiaaknjcnkaaGreat
open Go.RowKit
set_option linter.unusedVariables false
set_option linter.unusedSimpArgs false
set_option maxRecDepth 100000

set_option maxHeartbeats 1000000 in
theorem text_end (rb : Nat) (s : ByteArray) (at_ n : Nat) (w : World) (h : RAt w rb s at_) (hlt : at_ ≤ s.size) (hn : s.size < at_ + n) (hs : s.size ≤ 9223372036854775000) (hn2 : n ≤ 2000) :
    Calls Tryz.prog 135 #[.pointer (some ⟨rb, 0, none⟩), .int .i64 n] w fun e w' => e = gaveUp s.size ∧ Moved rb w w' := by
  obtain ⟨c0, c1, c2⟩ := h.cells
  have HR : Hid (RAt w rb s at_) := h
  have q1 : IntKind.i64.wrap ((s.size : Int) - (at_ : Int)) = (s.size : Int) - at_ := by rw [IntKind.wrap_i64]; omega
  have q2 : (s.size : Int) - (at_ : Int) < (n : Int) := by omega
  clear h
  go_enter Tryz.func135, Tryz.ntmps135
  go_wp2
  go_quiet (fail)
  go_wp2_with fail
  refine (toosoon_any rb s at_ (w.drewN nq) HR.out).mono ?_
  rintro e w' ⟨rfl, rfl⟩
  go_wp2
  exact ⟨rfl, rfl, .of_below (below_drewN0 _ _ _)⟩

set_option maxHeartbeats 1000000 in
theorem text_some (rb : Nat) (s : ByteArray) (at_ n : Nat) (w : World) (h : RAt w rb s at_) (hn : at_ + n ≤ s.size) (hs : s.size ≤ 9223372036854775000) (hn2 : n ≤ 2000) :
    Calls Tryz.prog 135 #[.pointer (some ⟨rb, 0, none⟩), .int .i64 n] w fun e w' => e = .returned (.string (s.extract at_ (at_ + n))) ∧ RAt w' rb s (at_ + n) ∧ Moved rb w w' := by
  obtain ⟨c0, c1, c2⟩ := h.cells
  have HR : Hid (RAt (w.setCell ⟨rb, 1, none⟩ (.int .i64 ((at_ : Int) + n))) rb s (at_ + n)) := h.set _ _ (by omega)
  have q1 : IntKind.i64.wrap ((s.size : Int) - (at_ : Int)) = (s.size : Int) - at_ := by rw [IntKind.wrap_i64]; omega
  have q2 : ¬ (s.size : Int) - (at_ : Int) < (n : Int) := by omega
  have q3 : IntKind.i64.wrap ((at_ : Int) + (n : Int)) = (at_ : Int) + n := by rw [IntKind.wrap_i64]; omega
  clear h
  go_enter Tryz.func135, Tryz.ntmps135
  go_wp2
  go_quiet (fail)
  go_wp2
  have d0 : ((w.drewN nq).setCell ⟨rb, 1, none⟩ (.int .i64 ((at_ : Int) + n))).cell? ⟨rb, 0, none⟩ = some (.string s) := (RAt.cells HR.out).1
  have d1 : ((w.drewN nq).setCell ⟨rb, 1, none⟩ (.int .i64 ((at_ : Int) + n))).cell? ⟨rb, 1, none⟩ = some (.int .i64 ((at_ : Int) + n)) := (RAt.cells HR.out).2.1
  have HC : Hid (∀ W, Calls Tryz.prog 54 #[.string (s.extract at_ (at_ + n))] W fun e w' => e = .returned (.string (s.extract at_ (at_ + n))) ∧ Below W.heap.size W w') := fun W => clone_any _ W (by rw [size_ext _ _ _ hn]; omega)
  have HR1 : Hid (RAt ((w.drewN nq).setCell ⟨rb, 1, none⟩ (.int .i64 ((at_ : Int) + n))) rb s (at_ + n)) := HR.out
  have hrb : rb < ((w.drewN nq).setCell ⟨rb, 1, none⟩ (.int .i64 ((at_ : Int) + n))).heap.size := lt_of_block HR1.out
  have HM1 : Hid (Moved rb w ((w.drewN nq).setCell ⟨rb, 1, none⟩ (.int .i64 ((at_ : Int) + n)))) := (Moved.of_below (below_drewN0 _ _ _)).trans (Moved.set _ _ _ _)
  generalize ((w.drewN nq).setCell ⟨rb, 1, none⟩ (.int .i64 ((at_ : Int) + n))) = W1 at *
  have r1 : (0 : Int) ≤ (at_ : Int) := by omega
  have r2 : (at_ : Int) ≤ (at_ : Int) + (n : Int) := by omega
  have r3 : (at_ : Int) + (n : Int) ≤ (s.size : Int) := by omega
  clear HR c0 c1 c2 q1 q2 q3
  go_region_held3 (fun w' => w'.cell? ⟨rb, 0, none⟩ = some (.string s) ∧ w'.cell? ⟨rb, 1, none⟩ = some (.int .i64 ((at_ : Int) + n))) (go_keep)
    (first | (go_at_call 54; refine (HC.out _).mono ?_; rintro e w3 ⟨rfl, hb3⟩; have e0 := (hb3.cell (p := ⟨rb, 0, none⟩) hrb).trans d0; have e1 := (hb3.cell (p := ⟨rb, 1, none⟩) hrb).trans d1))
  have HR3 : Hid (RAt w3 rb s (at_ + n)) := RAt.kept (w := W1.drew) HR1.out hb3
  have HM3 : Hid (Moved rb w w3) := (HM1.out.trans (Moved.of_below (Below.refl _ _).drew)).trans (Moved.of_below hb3)
  clear hb3 e0 e1 HC HR1 HM1 d0 d1
  go_wp2
  go_ret
  exact ⟨rfl, HR3.out, HM3.out⟩

set_option maxHeartbeats 1000000 in
theorem end_more (rb : Nat) (s : ByteArray) (at_ : Nat) (w : World) (h : RAt w rb s at_) (hlt : at_ < s.size) :
    Calls Tryz.prog 129 #[.pointer (some ⟨rb, 0, none⟩)] w fun e w' => e = gaveUp at_ ∧ Moved rb w w' := by
  have HR : Hid (RAt w rb s at_) := h
  clear h
  go_enter Tryz.func129, Tryz.ntmps129
  go_wp2_with fail
  refine (atend_any rb s at_ _ HR.out).mono ?_
  rintro e w1 ⟨rfl, k, rfl⟩
  rw [show decide (at_ = s.size) = false from by simp; omega]
  obtain ⟨c0, c1, c2⟩ := (HR.out.drewN k).cells
  go_wp2_with fail
  refine (giveup_any at_ _).mono ?_
  rintro e w' ⟨rfl, rfl⟩
  go_wp2
  exact ⟨rfl, rfl, .of_below (below_drewN0 _ _ _)⟩
set_option maxHeartbeats 1000000 in
theorem end_none (rb : Nat) (s : ByteArray) (at_ : Nat) (w : World) (h : RAt w rb s at_) (hlt : ¬ at_ < s.size) (hle : at_ ≤ s.size) :
    Calls Tryz.prog 129 #[.pointer (some ⟨rb, 0, none⟩)] w fun e w' => e = .returned (.tuple #[]) ∧ Moved rb w w' := by
  have HR : Hid (RAt w rb s at_) := h
  clear h
  go_enter Tryz.func129, Tryz.ntmps129
  go_wp2_with fail
  refine (atend_any rb s at_ _ HR.out).mono ?_
  rintro e w1 ⟨rfl, k, rfl⟩
  rw [show decide (at_ = s.size) = true from by simp; omega]
  go_wp2
  refine bodyPost_end (results_none rfl _ _ _) rfl ?_
  exact ⟨rfl, .of_below (below_drewN0 _ _ _)⟩

theorem OwnOps.moved {w w' : World} {base rb at_ : Nat} {v : Value} {xs : List DOp} {s : ByteArray} (h : OwnOps w base v xs) (hr : RAt w rb s at_) (hm : Moved rb w w') : OwnOps w' base v xs := by
  refine own_block h (fun g hg => hm.block g (row_own_lt h hg) (fun e => ?_))
  subst e
  rcases h.2 with ⟨hv, _⟩ | ⟨g', cap, cur, hv, _, hb, _⟩
  · rw [hv] at hg; cases hg
  · rw [hv] at hg; cases hg
    unfold RAt at hr
    rw [hb] at hr
    simp at hr

/-- What readCopy does. -/
def CopyPost (rb : Nat) (s : ByteArray) (out : List DOp) (n nx : Nat) (w : World) (e : Ending) (w' : World) : Prop :=
  ((∃ p, e = gaveUp p ∧ (numF s nx = .inl p ∨ ∃ f b, numF s nx = .inr (f, b) ∧ (2000 < f + n ∨ goesOn out f n = true) ∧ p = nx)) ∨
    ∃ f b : Nat, numF s nx = .inr (f, b) ∧ ¬ (2000 < f + n ∨ goesOn out f n = true) ∧ e = .returned (.agg #[.int .i64 f, .int .i64 n, .string ⟨#[]⟩]) ∧ RAt w' rb s b) ∧ Moved rb w w'

theorem isOp_num (f n : Nat) (hn : 0 < n) : isOpB f n ⟨#[]⟩ 2000 = decide (f + n ≤ 2000) := by
  unfold isOpB
  rw [if_pos (by omega), show (⟨#[]⟩ : ByteArray).toList.isEmpty = true from by rw [isEmpty_iff]; rfl]
  simp; omega

end Go.Proofs.YtabpiaaknjcnkaaGreat
