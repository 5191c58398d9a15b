/- The texts ZA, PV, V1, one behind the other. -/
import Derived.Test.YtabpiaaknjcnkaaGreatXS1S2L9
import Derived.LoopTactic
import Derived.Deep.RegionHeld3
import Derived.Test.YtabpiaaknjcnkaaGreatXPCPDPU
import Derived.Test.YtabpiaaknjcnkaaGreatXR4L7L8P4
import Derived.Test.YtabpiaaknjcnkaaGreatXP3WA
import Derived.Test.YtabpiaaknjcnkaaGreatXW5W6W7W2
import Derived.Test.YtabpiaaknjcnkaaGreatXE2W9R6
import Derived.Deep.RegionLaw
/-
  A step of Apply, a step of Sum: all below B1 is as it was.
-/
namespace Go.Proofs.YtabpiaaknjcnkaaGreat
open Go.RowKit
set_option linter.unusedVariables false
set_option linter.unusedSimpArgs false
set_option maxRecDepth 100000

set_option maxHeartbeats 4000000 in
theorem wdeltas_sumS (w : World) (B0 B1 Wb : Nat) (xv yv bv : Value) (es : List Entry) (hbook : BookAt w B0 Wb xv yv bv es (· < w.heap.size)) (hB0 : B0 ≤ w.heap.size) (hB01 : B0 ≤ B1) (hB1 : B1 ≤ w.heap.size) (a b c : Int) (s t : ByteArray) (vl vm : Value) (xs ys : List DOp)
    (hs : s.size ≤ 9223372036854775806) (hx : xs.length ≤ 4398046511000) (hy : ys.length ≤ 4398046511000) (hl : LView B1 w vl xs) (hm : LView B1 w vm ys) :
    Calls Tryz.prog 30 #[.pointer (some ⟨Wb, 0, none⟩), .agg #[.int .i64 3, .int .i64 a, .int .i64 b, .int .i64 c, .string s, .string t, vl, vm]] w fun e w' =>
      e = .returned (.bool true) ∧ BookAt w' B0 Wb xv yv bv es (· < w'.heap.size) ∧ Below B1 w w' := by
  have HBK : Hid (BookAt w B0 Wb xv yv bv es (· < w.heap.size)) := hbook
  have hWb : Wb < w.heap.size := hbook.wbB
  have hW0 : B0 ≤ Wb := hbook.wb0
  have HL : Hid (LView B1 w vl xs) := hl
  have HM : Hid (LView B1 w vm ys) := hm
  obtain ⟨lo, lc, hvl⟩ := hl.slice
  obtain ⟨mo, mc, hvm⟩ := hm.slice
  rw [hvl] at HL
  rw [hvm] at HM
  rw [hvl, hvm]
  clear hbook hl hm hvl hvm
  go_enter Tryz.func30, Tryz.ntmps30
  go_wp2_with fail
  refine (lent_any _ xs _ (by omega) ((HL.out.view hB1).kept ((Below.refl _ _).alloc (Nat.le_refl _) _))).mono ?_
  rintro e w1 ⟨rfl, o1, b1⟩
  have ob1 : w1.heap[w.heap.size]? = some (.cells #[.int .i64 3, .int .i64 a, .int .i64 b, .int .i64 c, .string s, .string t, .slice lo xs.length lc, .slice mo ys.length mc] 61 (0, 0)) := (b1.block _ (by simp)).trans (heap_alloc_new _ _)
  have c1 : Below w.heap.size w w1 := ((Below.refl _ w).alloc (Nat.le_refl _) _).trans (b1.mono (by simp))
  have p1 : Lent w1 (w.heap.size + 1) xs := by
    have h := o1
    rw [alloc_size1] at h
    exact h
  clear o1 b1
  have hs1 := c1.size
  have hp1 := p1.lt
  have k17 : w1.cell? ⟨w.heap.size, 7, none⟩ = some (.slice mo ys.length mc) := by rw [Lib.cell_of_heap ob1]; rfl
  go_wp2_with fail
  refine (lent_any _ ys _ (by omega) ((HM.out.view hB1).kept c1)).mono ?_
  rintro e w2 ⟨rfl, o2, b2⟩
  have p2 : Lent w2 w1.heap.size ys := o2
  have q1 : Lent w2 (w.heap.size + 1) xs := p1.kept (b2.block _ hp1)
  have ob2 := (b2.block _ (show w.heap.size < w1.heap.size by omega)).trans ob1
  have c2 : Below w.heap.size w w2 := c1.trans (b2.mono hs1)
  clear o2 p1 ob1 k17 c1
  have hp2 := p2.lt
  have hs2 := b2.size
  clear b2
  have k20 : w2.cell? ⟨w.heap.size, 0, none⟩ = some (.int .i64 3) := by rw [Lib.cell_of_heap ob2]; rfl
  have k24 : w2.cell? ⟨w.heap.size, 4, none⟩ = some (.string s) := by rw [Lib.cell_of_heap ob2]; rfl
  go_wp2_with fail
  refine (csum_any s _ hs).mono ?_
  rintro e w3 ⟨rfl, rfl⟩
  go_wp2_with fail
  refine (rsum_any s _ hs).mono ?_
  rintro e w3 ⟨rfl, rfl⟩
  generalize sumL s.data.toList = N at *
  generalize hw6 : w2 = w6 at *
  have bk6 : BookAt w6 B0 Wb xv yv bv es (fun q => q < w.heap.size ∨ (w6.heap.size ≤ q ∧ q < w6.heap.size)) := HBK.out.kept (fun q hq => c2.block q hq) (fun q hq => .inl hq)
  have c6 : Below B1 w w6 := c2.mono hB1
  have hl6 := c6.size
  have ob6 := ob2
  have q16 := q1
  have q26 := p2
  clear c2 ob2 q1 p2 k20 k24
  have k66 : w6.cell? ⟨w.heap.size, 6, none⟩ = some (.slice lo xs.length lc) := by rw [Lib.cell_of_heap ob6]; rfl
  have HBACK : Hid (Calls Tryz.prog 70 #[.slice (some ⟨w.heap.size + 1, 0, none⟩) (xs.length + 2) (xs.length + 2), .slice lo xs.length lc] w6 fun e w' => e = .returned (.bool true) ∧ w6.grownBy w' (some (w.heap.size + 1))) :=
    back_list (w.heap.size + 1) (w.heap.size + 1) xs _ w6 (by omega) q16 (Nat.le_refl _) ((HL.out.kept c6).view (by omega))
  go_wp2_with fail
  refine HBACK.out.mono ?_
  rintro e w7 ⟨rfl, g7⟩
  have c7 : Below B1 w w7 := below_back g7 c6 (by omega) (by omega)
  obtain ⟨_, bk7, ob7, q27, hs7⟩ := after_back g7 (c6.mono hB01) bk6 ob6 q26 hB0 (by omega) (by omega) (by omega) (by omega) (by omega) (by omega)
  clear g7 c6 bk6 ob6 q26 q16 k66 HBACK
  have k77 : w7.cell? ⟨w.heap.size, 7, none⟩ = some (.slice mo ys.length mc) := by rw [Lib.cell_of_heap ob7]; rfl
  have HBACK : Hid (Calls Tryz.prog 70 #[.slice (some ⟨w1.heap.size, 0, none⟩) (ys.length + 2) (ys.length + 2), .slice mo ys.length mc] w7 fun e w' => e = .returned (.bool true) ∧ w7.grownBy w' (some w1.heap.size)) :=
    back_list w1.heap.size w1.heap.size ys _ w7 (by omega) q27 (Nat.le_refl _) ((HM.out.kept c7).view (by have := c7.size; omega))
  go_wp2_with fail
  refine HBACK.out.mono ?_
  rintro e w8 ⟨rfl, g8⟩
  have c8 : Below B1 w w8 := below_back g8 c7 (by omega) (by have := c7.size; omega)
  have bk8 : BookAt w8 B0 Wb xv yv bv es (· < w8.heap.size) := bk7.kept (fun q hq => g8.block q (by rcases hq with h | h <;> omega) (fun e => by injection e with e; rcases hq with h | h <;> omega)) (fun q hq => by have := g8.size; rcases hq with h | h <;> (show q < w8.heap.size; omega))
  clear g8 c7 bk7 ob7 q27 k77 HBACK
  go_wp2
  go_ret
  exact ⟨rfl, bk8, c8⟩

set_option maxHeartbeats 4000000 in
theorem wdeltas_applyS (w : World) (B0 B1 Wb : Nat) (xv yv bv : Value) (es : List Entry) (hbook : BookAt w B0 Wb xv yv bv es (· < w.heap.size)) (hB0 : B0 ≤ w.heap.size) (hB01 : B0 ≤ B1) (hB1 : B1 ≤ w.heap.size) (a b c : Int) (s t : ByteArray) (vl vm : Value) (xs ys : List DOp)
    (hs : s.size ≤ 9223372036854775806) (hx : xs.length ≤ 4398046511000) (hy : ys.length ≤ 4398046511000) (hl : LView B1 w vl xs) (hm : LView B1 w vm ys) (hlen : ∀ o ∈ xs, o.len ≤ 9223372036854775807) (htx : ∀ o ∈ xs, o.tx.size ≤ 9223372036854770000) :
    Calls Tryz.prog 30 #[.pointer (some ⟨Wb, 0, none⟩), .agg #[.int .i64 2, .int .i64 a, .int .i64 b, .int .i64 c, .string s, .string t, vl, vm]] w fun e w' =>
      e = .returned (.bool true) ∧ BookAt w' B0 Wb xv yv bv es (· < w'.heap.size) ∧ Below B1 w w' := by
  have HN : Hid (∀ o ∈ xs, o.len ≤ 9223372036854775807) := hlen
  have HT : Hid (∀ o ∈ xs, o.tx.size ≤ 9223372036854770000) := htx
  clear hlen htx
  have HBK : Hid (BookAt w B0 Wb xv yv bv es (· < w.heap.size)) := hbook
  have hWb : Wb < w.heap.size := hbook.wbB
  have hW0 : B0 ≤ Wb := hbook.wb0
  have HL : Hid (LView B1 w vl xs) := hl
  have HM : Hid (LView B1 w vm ys) := hm
  obtain ⟨lo, lc, hvl⟩ := hl.slice
  obtain ⟨mo, mc, hvm⟩ := hm.slice
  rw [hvl] at HL
  rw [hvm] at HM
  rw [hvl, hvm]
  clear hbook hl hm hvl hvm
  go_enter Tryz.func30, Tryz.ntmps30
  go_wp2_with fail
  refine (lent_any _ xs _ (by omega) ((HL.out.view hB1).kept ((Below.refl _ _).alloc (Nat.le_refl _) _))).mono ?_
  rintro e w1 ⟨rfl, o1, b1⟩
  have ob1 : w1.heap[w.heap.size]? = some (.cells #[.int .i64 2, .int .i64 a, .int .i64 b, .int .i64 c, .string s, .string t, .slice lo xs.length lc, .slice mo ys.length mc] 61 (0, 0)) := (b1.block _ (by simp)).trans (heap_alloc_new _ _)
  have c1 : Below w.heap.size w w1 := ((Below.refl _ w).alloc (Nat.le_refl _) _).trans (b1.mono (by simp))
  have p1 : Lent w1 (w.heap.size + 1) xs := by
    have h := o1
    rw [alloc_size1] at h
    exact h
  clear o1 b1
  have hs1 := c1.size
  have hp1 := p1.lt
  have k17 : w1.cell? ⟨w.heap.size, 7, none⟩ = some (.slice mo ys.length mc) := by rw [Lib.cell_of_heap ob1]; rfl
  go_wp2_with fail
  refine (lent_any _ ys _ (by omega) ((HM.out.view hB1).kept c1)).mono ?_
  rintro e w2 ⟨rfl, o2, b2⟩
  have p2 : Lent w2 w1.heap.size ys := o2
  have q1 : Lent w2 (w.heap.size + 1) xs := p1.kept (b2.block _ hp1)
  have ob2 := (b2.block _ (show w.heap.size < w1.heap.size by omega)).trans ob1
  have c2 : Below w.heap.size w w2 := c1.trans (b2.mono hs1)
  clear o2 p1 ob1 k17 c1
  have hp2 := p2.lt
  have hs2 := b2.size
  clear b2
  have k20 : w2.cell? ⟨w.heap.size, 0, none⟩ = some (.int .i64 2) := by rw [Lib.cell_of_heap ob2]; rfl
  have k24 : w2.cell? ⟨w.heap.size, 4, none⟩ = some (.string s) := by rw [Lib.cell_of_heap ob2]; rfl
  have k26 : w2.cell? ⟨w.heap.size, 6, none⟩ = some (.slice lo xs.length lc) := by rw [Lib.cell_of_heap ob2]; rfl
  have HC : Hid (∀ W : World, W.heap = w2.heap → Calls Tryz.prog 60 #[.string s, .slice (some ⟨w.heap.size + 1, 0, none⟩) xs.length (xs.length + 2)] W fun e w' => e = .returned (.tuple #[.string (appS s xs), .int .i64 (appE s xs), .int .i64 (appP s xs)]) ∧ Below W.heap.size W w') :=
    fun W hW => capply_any (by omega) (by omega) ((own_head q1 _).heap hW) HN.out
  have hO2 : w.heap.size < w2.heap.size := by omega
  have n0 : (0 : Int) ≤ (xs.length : Int) := by omega
  have n1 : (xs.length : Int) ≤ (xs.length : Int) + 2 := by omega
  have n2 : (xs.length : Int) ≤ ((xs.length + 2 : Nat) : Int) := by omega
  have n3 : xs.length ≤ xs.length + 2 := by omega
  go_wp2
  go_region_held3 (fun w' => w'.cell? ⟨w.heap.size, 4, none⟩ = some (.string s) ∧ w'.cell? ⟨w.heap.size, 6, none⟩ = some (.slice lo xs.length lc)) (go_keep)
    (first | (go_at_call 60; refine (HC.out w2.drew rfl).mono ?_; rintro e w3 ⟨rfl, b3⟩; have e4 := (b3.cell (p := ⟨w.heap.size, 4, none⟩) hO2).trans k24; have e6 := (b3.cell (p := ⟨w.heap.size, 6, none⟩) hO2).trans k26))
  have b23 : Below w2.heap.size w2 w3 := ((Below.refl w2.heap.size w2).drew).trans b3
  have c3 : Below w.heap.size w w3 := c2.trans (b23.mono (by omega))
  have hs3 := b23.size
  clear b3
  go_wp2_with fail
  refine (rapply_any (by omega) (by omega) ((HL.out.kept (c3.mono hB1)).view (by omega)) HN.out HT.out).mono ?_
  rintro e w6 ⟨rfl, b6⟩
  have b26 : Below w2.heap.size w2 w6 := b23.trans (b6.mono hs3)
  have c26 : Below w.heap.size w w6 := c2.trans (b26.mono (by omega))
  have hs6 := b26.size
  have bk6 : BookAt w6 B0 Wb xv yv bv es (fun q => q < w.heap.size ∨ (w2.heap.size ≤ q ∧ q < w6.heap.size)) := HBK.out.kept (fun q hq => c26.block q hq) (fun q hq => .inl hq)
  have c6 : Below B1 w w6 := c26.mono hB1
  have hl6 := c6.size
  have ob6 := (b26.block _ hO2).trans ob2
  have q16 : Lent w6 (w.heap.size + 1) xs := q1.kept (b26.block _ (by omega))
  have q26 : Lent w6 w1.heap.size ys := p2.kept (b26.block _ (by omega))
  generalize appS s xs = AS at *
  generalize appE s xs = AE at *
  generalize appP s xs = AP at *
  clear c2 ob2 q1 p2 k20 k24 k26 b23 c3 b6 b26 c26 e4 e6 HC
  have k66 : w6.cell? ⟨w.heap.size, 6, none⟩ = some (.slice lo xs.length lc) := by rw [Lib.cell_of_heap ob6]; rfl
  have HBACK : Hid (Calls Tryz.prog 70 #[.slice (some ⟨w.heap.size + 1, 0, none⟩) (xs.length + 2) (xs.length + 2), .slice lo xs.length lc] w6 fun e w' => e = .returned (.bool true) ∧ w6.grownBy w' (some (w.heap.size + 1))) :=
    back_list (w.heap.size + 1) (w.heap.size + 1) xs _ w6 (by omega) q16 (Nat.le_refl _) ((HL.out.kept c6).view (by omega))
  go_wp2_with fail
  refine HBACK.out.mono ?_
  rintro e w7 ⟨rfl, g7⟩
  have c7 : Below B1 w w7 := below_back g7 c6 (by omega) (by omega)
  obtain ⟨_, bk7, ob7, q27, hs7⟩ := after_back g7 (c6.mono hB01) bk6 ob6 q26 hB0 (by omega) (by omega) (by omega) (by omega) (by omega) (by omega)
  clear g7 c6 bk6 ob6 q26 q16 k66 HBACK
  have k77 : w7.cell? ⟨w.heap.size, 7, none⟩ = some (.slice mo ys.length mc) := by rw [Lib.cell_of_heap ob7]; rfl
  have HBACK : Hid (Calls Tryz.prog 70 #[.slice (some ⟨w1.heap.size, 0, none⟩) (ys.length + 2) (ys.length + 2), .slice mo ys.length mc] w7 fun e w' => e = .returned (.bool true) ∧ w7.grownBy w' (some w1.heap.size)) :=
    back_list w1.heap.size w1.heap.size ys _ w7 (by omega) q27 (Nat.le_refl _) ((HM.out.kept c7).view (by have := c7.size; omega))
  go_wp2_with fail
  refine HBACK.out.mono ?_
  rintro e w8 ⟨rfl, g8⟩
  have c8 : Below B1 w w8 := below_back g8 c7 (by omega) (by have := c7.size; omega)
  have bk8 : BookAt w8 B0 Wb xv yv bv es (· < w8.heap.size) := bk7.kept (fun q hq => g8.block q (by rcases hq with h | h <;> omega) (fun e => by injection e with e; rcases hq with h | h <;> omega)) (fun q hq => by have := g8.size; rcases hq with h | h <;> (show q < w8.heap.size; omega))
  clear g8 c7 bk7 ob7 q27 k77 HBACK
  go_wp2
  go_ret
  exact ⟨rfl, bk8, c8⟩
end Go.Proofs.YtabpiaaknjcnkaaGreat

/-
  Plain facts: records, chains and vaults.
-/
namespace Go.Proofs.YtabpiaaknjcnkaaGreat
set_option linter.unusedVariables false
set_option linter.unusedSimpArgs false

/-- Four bytes, the lowest first. -/
def le4 (v : Nat) : List UInt8 := [UInt8.ofNat v, UInt8.ofNat (v / 256), UInt8.ofNat (v / 65536), UInt8.ofNat (v / 16777216)]
def bodyF (c : Nat) (t : List UInt8) : List UInt8 := 70 :: (uN c ++ t)
def bodyD (c : Nat) (xs : List DOp) : List UInt8 := 68 :: (uN c ++ encL xs)
def bodyP (c n : Nat) : List UInt8 := 80 :: (uN c ++ uN n)
/-- A body's record. -/
def recL (b : List UInt8) : List UInt8 := uN b.length ++ b ++ le4 (sumL b)
theorem recL_length (b : List UInt8) : (recL b).length = (uN b.length).length + b.length + 4 := by simp [recL, le4]; omega

/-- A chain: how many versions have gone; the texts of those that there are. -/
structure Chn where
  gone : Nat
  texts : List ByteArray
structure Vlt where
  log : List UInt8
  ch : Nat → Chn
def Chn.last (c : Chn) : Nat := c.gone + c.texts.length
def Chn.first (c : Chn) : Nat := min (c.gone + 1) c.last
def Chn.has (c : Chn) (n : Int) : Prop := (c.gone : Int) < n ∧ n ≤ c.last

/-- What a Backup adds to the log. -/
def addedL (c : Nat) (last : Option ByteArray) (t : ByteArray) : List UInt8 :=
  match last with
  | none => recL (bodyF c t.data.toList)
  | some b => if (recL (bodyD c (diffF b t))).length < (recL (bodyF c t.data.toList)).length then recL (bodyD c (diffF b t)) else recL (bodyF c t.data.toList)
def noVault : Vlt := ⟨[], fun _ => ⟨0, []⟩⟩
def Vlt.put (s : Vlt) (c : Nat) (t : ByteArray) : Vlt :=
  ⟨s.log ++ addedL c (s.ch c).texts.getLast? t, fun i => if i = c then ⟨(s.ch c).gone, (s.ch c).texts ++ [t]⟩ else s.ch i⟩
def Vlt.drop (s : Vlt) (c n : Nat) : Vlt :=
  ⟨s.log ++ recL (bodyP c n), fun i => if i = c then ⟨n - 1, (s.ch c).texts.drop (n - (s.ch c).gone - 1)⟩ else s.ch i⟩
/-- There is no room for a text's full record, or no number for it. -/
def Vlt.full (s : Vlt) (c : Nat) (t : ByteArray) : Prop := 20000 < s.log.length + (recL (bodyF c t.data.toList)).length ∨ (s.ch c).last = 2147483647
def Vlt.noRoom (s : Vlt) (c n : Nat) : Prop := 20000 < s.log.length + (recL (bodyP c n)).length

/-- What every vault keeps to. -/
structure Vlt.Ok (s : Vlt) : Prop where
  log : s.log.length ≤ 20000
  last : ∀ i, (s.ch i).last ≤ 2147483647
  size : ∀ i, ∀ t ∈ (s.ch i).texts, t.size ≤ 2000
  none : ∀ i, (s.ch i).texts = [] → (s.ch i).gone = 0
theorem noVault_ok : noVault.Ok := ⟨by simp [noVault], fun i => by simp [noVault, Chn.last], fun i t h => by simp [noVault] at h, fun i _ => rfl⟩

theorem addedL_le (c : Nat) (l : Option ByteArray) (t : ByteArray) : (addedL c l t).length ≤ (recL (bodyF c t.data.toList)).length := by
  unfold addedL
  split
  · exact Nat.le_refl _
  · split
    · omega
    · exact Nat.le_refl _
theorem put_ok {s : Vlt} (h : s.Ok) {c : Nat} {t : ByteArray} (ht : t.size ≤ 2000) (hf : ¬ s.full c t) : (s.put c t).Ok := by
  have h1 := addedL_le c (s.ch c).texts.getLast? t
  have h2 := h.log
  have h3 := h.last c
  unfold Vlt.full at hf
  refine ⟨?_, fun i => ?_, fun i u hu => ?_, fun i hi => ?_⟩
  · simp only [Vlt.put, List.length_append]; omega
  · simp only [Vlt.put]
    split
    · unfold Chn.last at *; simp only [List.length_append, List.length_cons, List.length_nil]; omega
    · exact h.last i
  · simp only [Vlt.put] at hu
    split at hu
    · rcases List.mem_append.1 hu with hu | hu
      · exact h.size _ _ hu
      · obtain rfl : u = t := by simpa using hu
        exact ht
    · exact h.size _ _ hu
  · simp only [Vlt.put] at hi ⊢
    split at hi
    · simp at hi
    · rename_i hne; rw [if_neg hne]; exact h.none i hi
theorem drop_ok {s : Vlt} (h : s.Ok) {c n : Nat} (hh : (s.ch c).has n) (hr : ¬ s.noRoom c n) : (s.drop c n).Ok := by
  have h2 := h.log
  have h3 := h.last c
  unfold Vlt.noRoom at hr
  unfold Chn.has Chn.last at hh
  refine ⟨?_, fun i => ?_, fun i u hu => ?_, fun i hi => ?_⟩
  · simp only [Vlt.drop, List.length_append]; omega
  · simp only [Vlt.drop]
    split
    · unfold Chn.last at *; simp only [List.length_drop]; omega
    · exact h.last i
  · simp only [Vlt.drop] at hu
    split at hu
    · exact h.size _ _ (List.mem_of_mem_drop hu)
    · exact h.size _ _ hu
  · simp only [Vlt.drop] at hi ⊢
    split at hi
    · simp at hi; omega
    · rename_i hne; rw [if_neg hne]; exact h.none i hi

theorem isOpB_wide {f l b b' : Int} {t : ByteArray} (h : isOpB f l t b = true) (hb : b ≤ b') : isOpB f l t b' = true := by
  unfold isOpB at h ⊢
  split at h
  · rename_i hl
    rw [if_pos hl]
    simp only [Bool.and_eq_true, decide_eq_true_eq] at h ⊢
    exact ⟨h.1, by omega⟩
  · rename_i hl
    rw [if_neg hl]; exact h
theorem fault_wide {b b' : Int} (hb : b ≤ b') : ∀ (xs : List DOp) (p : Option DOp) (i : Nat) (m : Int), faultGo b xs p i m = i + xs.length → faultGo b' xs p i m = i + xs.length := by
  intro xs
  induction xs with
  | nil => intro p i m _; simp [faultGo]
  | cons o r ih =>
    intro p i m h
    have hle := fun p' i' m' => (faultGo_le b r p' i' m').1
    rw [faultGo] at h ⊢
    rw [List.length_cons] at h ⊢
    split at h
    · omega
    · rename_i h0
      rw [if_neg h0]
      by_cases h1 : isOpB o.fr o.len o.tx b = false
      · rw [if_pos h1] at h; omega
      · rw [if_neg h1] at h
        have h1' : isOpB o.fr o.len o.tx b = true := by simpa using h1
        rw [if_neg (by rw [isOpB_wide h1' hb]; simp)]
        split at h
        · omega
        · rename_i h2
          rw [if_neg h2]
          split at h
          · omega
          · rename_i h3
            rw [if_neg h3]
            rw [ih _ _ _ (by rw [h]; omega)]; omega
/-- What Diff makes is a delta. -/
theorem diffF_fault {b t : ByteArray} (hb : b.size ≤ 2000) (ht : t.size ≤ 2000) : faultF (diffF b t) 2000 = (diffF b t).length := by
  have key : faultF (diffF b t) b.size = (diffF b t).length := by
    unfold diffF
    split
    · by_cases h0 : t.size = 0
      · rw [addT_of_zero h0]; simp [faultF, faultGo]
      · have he : t.extract 0 t.size = t := by simp
        rw [addT_of_pos (by omega)]
        have := fault_text (base := b) (next := t) (b := (b.size : Int)) (p := none) (ts := 0) (at_ := t.size) (i := 0) (m := 0) (r := []) (.inl rfl) (by omega) (Nat.le_refl _) (by omega) (by omega)
        rw [he] at this
        unfold faultF; rw [this]; simp [faultGo]
    · rename_i hl
      have := fault_go (at_start b t) none 0 0 (.inl rfl) (by have : (descGo b t (t.size + 1) 0 0).length = (descF b t).length := rfl; omega) (by omega) (by omega)
      simpa [descF, faultF] using this
  have := fault_wide (b := b.size) (b' := 2000) (by omega) (diffF b t) none 0 0 (by unfold faultF at key; rw [key]; omega)
  unfold faultF; rw [this]; omega
end Go.Proofs.YtabpiaaknjcnkaaGreat

/-
  The walks over package record: what a record is made of.
-/
namespace Go.Proofs.YtabpiaaknjcnkaaGreat
open Go.RowKit
set_option linter.unusedVariables false
set_option linter.unusedSimpArgs false
set_option maxRecDepth 100000

theorem own_first (w : World) (base : Nat) (hb : base ≤ w.heap.size) (c : UInt8) : OwnBytes (w.alloc (.cells #[.int .u8 c.toNat] 5)) base (.slice (some ⟨w.heap.size, 0, none⟩) 1 1) [c] :=
  ⟨by simp, .inr ⟨w.heap.size, 1, _, rfl, hb, heap_alloc_new _ _, Nat.le_refl _, by unfold maxLen; omega, by simp, by simp [byteV]⟩⟩

/-- A string behind a row of bytes, at a step of a region that draws its order. -/
theorem step_append_str {w : World} {ops : Array Oper} {o : Oper} {a : Act} {K : Act → World → Prop} {Q : Exit → Act → World → Prop} {E : Prop} (hgd : o.guard = none) (sl x : Operand)
    (ho : o.op = .call { callee := .builtin .append, args := #[sl, x], argTypes := #[48, 9] })
    (base : Nat) (v : Value) (bs : List UInt8) (hs : a.eval sl = v) (hown : OwnBytes w base v bs) (s : ByteArray) (hx : a.eval x = .string s) (hl : bs.length + s.size ≤ 1000000) (hbase : base ≤ w.heap.size)
    (h : ∀ v' w', OwnBytes w' base v' (bs ++ s.data.toList) → w.grownBy w' v.ownBlock → K (a.put o.dst v') w') :
    if Region.wanted o (yielded ops a.tmps) = true then Oper.wp Tryz.prog o a w K Q else E := by
  have hw : Region.wanted o (yielded ops a.tmps) = true := by simp [Region.wanted, hgd]
  rw [if_pos hw]
  obtain ⟨i0, hi, hz0, hz1, hz2⟩ := info_parts Tryz.infoByte
  obtain ⟨v', w', hr, h2, h3, h4⟩ := Lib.run_append_own_string (P := Tryz.prog) w base 48 9 o.type 5 i0 Tryz.underlying48 Tryz.underlying9 hi hz0 hz1 hz2 v bs.length (bs.map byteV) hown s (by unfold maxLen; omega) (by omega) hbase
  unfold Oper.wp execOp
  simp only [ho, resolve, invoke, builtin, Sem.run_bind, Sem.run_pure, Result.andThen_ok, List.map_toArray, List.map_cons, List.map_nil, hs, hx, hr]
  refine h v' w' ?_ h3
  unfold OwnBytes
  rw [List.map_append, List.length_append, ← Lib.size_eq]
  exact h2

theorem OwnBytes.wide {w : World} {base b : Nat} {v : Value} {bs : List UInt8} (h : OwnBytes w base v bs) (hb : b ≤ base) : OwnBytes w b v bs := by
  refine ⟨h.1, ?_⟩
  rcases h.2 with h' | ⟨g, cap, cur, rfl, hg, hr⟩
  · exact .inl h'
  · exact .inr ⟨g, cap, cur, rfl, by omega, hr⟩
theorem grown_cell {w w' : World} {base : Nat} {v : Value} {bs : List UInt8} (ho : OwnBytes w base v bs) (hg : w.grownBy w' v.ownBlock) (hb : base ≤ w.heap.size) (q j : Nat) (hq : q < base) : w'.cell? ⟨q, j, none⟩ = w.cell? ⟨q, j, none⟩ :=
  World.cell?_of_block (a := ⟨q, j, none⟩) (hg.block q (by omega) (fun e => by have := row_own_ge ho e.symm; omega))

set_option maxHeartbeats 2000000 in
theorem begin_any (L : UInt8) (c : Nat) (w : World) (hc : c < 128) :
    Calls Tryz.prog 175 #[.agg #[.int .u8 L.toNat, .int .i64 c]] w fun e w' => ∃ v, e = .returned v ∧ OwnBytes w' w.heap.size v (L :: uN c) ∧ Below w.heap.size w w' := by
  have HO : Hid (OwnBytes ((w.alloc (.cells #[.int .u8 L.toNat, .int .i64 c] 145)).alloc (.cells #[.int .u8 L.toNat] 5)) w.heap.size (.slice (some ⟨w.heap.size + 1, 0, none⟩) 1 1) [L]) := by
    have := own_first (w.alloc (.cells #[.int .u8 L.toNat, .int .i64 c] 145)) w.heap.size (by simp) L
    simpa [Hid] using this
  have HB : Hid (Below w.heap.size w ((w.alloc (.cells #[.int .u8 L.toNat, .int .i64 c] 145)).alloc (.cells #[.int .u8 L.toNat] 5))) := ((Below.refl _ _).alloc (Nat.le_refl _) _).alloc (by simp) _
  go_enter Tryz.func175, Tryz.ntmps175
  go_wp2_with fail
  refine (addnum_any _ [L] c w.heap.size _ HO.out (by simp; omega) (by simp) (by omega)).mono ?_
  rintro e w1 ⟨v1, rfl, ho1, hb1, _⟩
  have R1 : Below w.heap.size w w1 := HB.out.trans hb1
  have R2 : Hid (OwnBytes w1 w.heap.size v1 (L :: uN c)) := ho1
  clear ho1 hb1 HB HO
  go_wp2
  go_ret
  exact ⟨v1, rfl, R2.out, R1⟩

set_option maxHeartbeats 4000000 in
theorem fbody_any (c : Nat) (t : ByteArray) (w : World) (hc : c < 128) (ht : t.size ≤ 2000) :
    Calls Tryz.prog 177 #[.agg #[.int .u8 70, .int .i64 c, .string t]] w fun e w' => ∃ v, e = .returned v ∧ OwnBytes w' w.heap.size v (bodyF c t.data.toList) ∧ Below w.heap.size w w' := by
  have hu := uN_length (n := c) (by omega)
  have hq : w.heap.size < (w.alloc (.cells #[.int .u8 70, .int .i64 c, .string t] 155)).heap.size := by simp
  have k0 : (w.alloc (.cells #[.int .u8 70, .int .i64 c, .string t] 155)).cell? ⟨w.heap.size, 0, none⟩ = some (.int .u8 70) := by simp
  have k1 : (w.alloc (.cells #[.int .u8 70, .int .i64 c, .string t] 155)).cell? ⟨w.heap.size, 1, none⟩ = some (.int .i64 c) := by simp
  have k2 : (w.alloc (.cells #[.int .u8 70, .int .i64 c, .string t] 155)).cell? ⟨w.heap.size, 2, none⟩ = some (.string t) := by simp
  have HC : Hid (∀ W : World, Calls Tryz.prog 175 #[.agg #[.int .u8 70, .int .i64 c]] W fun e w' => ∃ v, e = .returned v ∧ OwnBytes w' W.heap.size v (70 :: uN c) ∧ Below W.heap.size W w') := fun W => begin_any 70 c W hc
  go_enter Tryz.func177, Tryz.ntmps177
  go_wp2
  go_region_held3 (fun w' => w'.cell? ⟨w.heap.size, 0, none⟩ = some (.int .u8 70) ∧ w'.cell? ⟨w.heap.size, 1, none⟩ = some (.int .i64 c) ∧ w'.cell? ⟨w.heap.size, 2, none⟩ = some (.string t)) (go_keep)
    (first | (go_at_call 175; refine (HC.out _).mono ?_; rintro e w3 ⟨v3, rfl, o3, hb3⟩; have e0 := (hb3.cell (p := ⟨w.heap.size, 0, none⟩) hq).trans k0; have e1 := (hb3.cell (p := ⟨w.heap.size, 1, none⟩) hq).trans k1; have e2 := (hb3.cell (p := ⟨w.heap.size, 2, none⟩) hq).trans k2) | (refine step_append_str rfl (.tmp 5) (.tmp 7) rfl _ _ _ (by simp [Act.eval, Act.put]) o3 t (by simp [Act.eval, Act.put]) (by simp; omega) (by have := hb3.size; simp at this ⊢; omega) ?_; intro v4 w4 o4 hg4; have hs3 := hb3.size; have e0 := (grown_cell o3 hg4 hs3 _ 0 hq).trans e0; have e1 := (grown_cell o3 hg4 hs3 _ 1 hq).trans e1; have e2 := (grown_cell o3 hg4 hs3 _ 2 hq).trans e2))
  all_goals
    have R1 : Below w.heap.size w w4 := by
      have h1 : Below w.heap.size w w3 := (((Below.refl w.heap.size w).alloc (Nat.le_refl _) (.cells #[.int .u8 70, .int .i64 c, .string t] 155)).drew).trans (hb3.mono (by simp))
      exact h1.grown hg4 h1.size (fun k hk => by have := row_own_ge o3 hk; simp at this; omega)
    have R2 : Hid (OwnBytes w4 w.heap.size v4 (bodyF c t.data.toList)) := by
      have := OwnBytes.wide (b := w.heap.size) o4 (by simp)
      simpa [bodyF, Hid] using this
    clear o3 o4 hb3 hg4 hs3
    go_wp2
    go_ret
    exact ⟨v4, rfl, R2.out, R1⟩

set_option maxHeartbeats 4000000 in
theorem pbody_any (c n : Nat) (w : World) (hc : c < 128) (hn : n < 34359738368) :
    Calls Tryz.prog 174 #[.agg #[.int .u8 80, .int .i64 c, .int .i64 n]] w fun e w' => ∃ v, e = .returned v ∧ OwnBytes w' w.heap.size v (bodyP c n) ∧ Below w.heap.size w w' := by
  have hu := uN_length (n := c) (by omega)
  have hq : w.heap.size < (w.alloc (.cells #[.int .u8 80, .int .i64 c, .int .i64 n] 147)).heap.size := by simp
  have k0 : (w.alloc (.cells #[.int .u8 80, .int .i64 c, .int .i64 n] 147)).cell? ⟨w.heap.size, 0, none⟩ = some (.int .u8 80) := by simp
  have k1 : (w.alloc (.cells #[.int .u8 80, .int .i64 c, .int .i64 n] 147)).cell? ⟨w.heap.size, 1, none⟩ = some (.int .i64 c) := by simp
  have k2 : (w.alloc (.cells #[.int .u8 80, .int .i64 c, .int .i64 n] 147)).cell? ⟨w.heap.size, 2, none⟩ = some (.int .i64 n) := by simp
  have HC : Hid (∀ W : World, Calls Tryz.prog 175 #[.agg #[.int .u8 80, .int .i64 c]] W fun e w' => ∃ v, e = .returned v ∧ OwnBytes w' W.heap.size v (80 :: uN c) ∧ Below W.heap.size W w') := fun W => begin_any 80 c W hc
  go_enter Tryz.func174, Tryz.ntmps174
  go_wp2
  go_region_held3 (fun w' => w'.cell? ⟨w.heap.size, 0, none⟩ = some (.int .u8 80) ∧ w'.cell? ⟨w.heap.size, 1, none⟩ = some (.int .i64 c) ∧ w'.cell? ⟨w.heap.size, 2, none⟩ = some (.int .i64 n)) (go_keep)
    (first | (go_at_call 175; refine (HC.out _).mono ?_; rintro e w3 ⟨v3, rfl, o3, hb3⟩; have e0 := (hb3.cell (p := ⟨w.heap.size, 0, none⟩) hq).trans k0; have e1 := (hb3.cell (p := ⟨w.heap.size, 1, none⟩) hq).trans k1; have e2 := (hb3.cell (p := ⟨w.heap.size, 2, none⟩) hq).trans k2) | (go_at_call 132; refine (addnum_any _ _ n _ _ o3 hb3.size (by simp; omega) hn).mono ?_; rintro e w4 ⟨v4, rfl, o4, hb4, _⟩; have e0 := (hb4.cell (p := ⟨w.heap.size, 0, none⟩) hq).trans e0; have e1 := (hb4.cell (p := ⟨w.heap.size, 1, none⟩) hq).trans e1; have e2 := (hb4.cell (p := ⟨w.heap.size, 2, none⟩) hq).trans e2))
  all_goals
    have R1 : Below w.heap.size w w4 := by
      have h1 : Below w.heap.size w w3 := (((Below.refl w.heap.size w).alloc (Nat.le_refl _) (.cells #[.int .u8 80, .int .i64 c, .int .i64 n] 147)).drew).trans (hb3.mono (by simp))
      exact h1.trans (hb4.mono (by simp))
    have R2 : Hid (OwnBytes w4 w.heap.size v4 (bodyP c n)) := by
      have := OwnBytes.wide (b := w.heap.size) o4 (by simp)
      simpa [bodyP, Hid] using this
    clear o3 o4 hb3 hb4
    go_wp2
    go_ret
    exact ⟨v4, rfl, R2.out, R1⟩

set_option maxHeartbeats 4000000 in
theorem dbody_any (c : Nat) (v : Value) (xs : List DOp) (w : World) (hc : c < 128) (hv : View w v xs) (hD : Delta xs 2000) :
    Calls Tryz.prog 180 #[.agg #[.int .u8 68, .int .i64 c, v]] w fun e w' => ∃ v, e = .returned v ∧ OwnBytes w' w.heap.size v (bodyD c xs) ∧ Below w.heap.size w w' := by
  obtain ⟨ao, c1, hv1⟩ := hv.slice
  rw [hv1] at hv ⊢
  have HV : Hid (View w (.slice ao xs.length c1) xs) := hv
  have HD : Hid (Delta xs 2000) := hD
  clear hv hv1 hD
  have hu := uN_length (n := c) (by omega)
  have hq : w.heap.size < (w.alloc (.cells #[.int .u8 68, .int .i64 c, .slice ao xs.length c1] 180)).heap.size := by simp
  have k0 : (w.alloc (.cells #[.int .u8 68, .int .i64 c, .slice ao xs.length c1] 180)).cell? ⟨w.heap.size, 0, none⟩ = some (.int .u8 68) := by simp
  have k1 : (w.alloc (.cells #[.int .u8 68, .int .i64 c, .slice ao xs.length c1] 180)).cell? ⟨w.heap.size, 1, none⟩ = some (.int .i64 c) := by simp
  have k2 : (w.alloc (.cells #[.int .u8 68, .int .i64 c, .slice ao xs.length c1] 180)).cell? ⟨w.heap.size, 2, none⟩ = some (.slice ao xs.length c1) := by simp
  have HC : Hid (∀ W : World, Calls Tryz.prog 175 #[.agg #[.int .u8 68, .int .i64 c]] W fun e w' => ∃ v, e = .returned v ∧ OwnBytes w' W.heap.size v (68 :: uN c) ∧ Below W.heap.size W w') := fun W => begin_any 68 c W hc
  go_enter Tryz.func180, Tryz.ntmps180
  go_wp2
  go_region_held3 (fun w' => w'.cell? ⟨w.heap.size, 0, none⟩ = some (.int .u8 68) ∧ w'.cell? ⟨w.heap.size, 1, none⟩ = some (.int .i64 c) ∧ w'.cell? ⟨w.heap.size, 2, none⟩ = some (.slice ao xs.length c1)) (go_keep)
    (first | (go_at_call 175; refine (HC.out _).mono ?_; rintro e w3 ⟨v3, rfl, o3, hb3⟩; have h13 : Below w.heap.size w w3 := (((Below.refl w.heap.size w).alloc (Nat.le_refl _) (.cells #[.int .u8 68, .int .i64 c, .slice ao xs.length c1] 180)).drew).trans (hb3.mono (by simp)); have e0 := (hb3.cell (p := ⟨w.heap.size, 0, none⟩) hq).trans k0; have e1 := (hb3.cell (p := ⟨w.heap.size, 1, none⟩) hq).trans k1; have e2 := (hb3.cell (p := ⟨w.heap.size, 2, none⟩) hq).trans k2) | (go_at_call 126; refine (addcode_any HV.out h13 (by simp) HD.out o3 hb3.size (by simp; omega)).mono ?_; rintro e w4 ⟨v4, rfl, o4, hb4, _⟩; have e0 := (hb4.cell (p := ⟨w.heap.size, 0, none⟩) hq).trans e0; have e1 := (hb4.cell (p := ⟨w.heap.size, 1, none⟩) hq).trans e1; have e2 := (hb4.cell (p := ⟨w.heap.size, 2, none⟩) hq).trans e2))
  all_goals
    have R1 : Below w.heap.size w w4 := h13.trans (hb4.mono (by simp))
    have R2 : Hid (OwnBytes w4 w.heap.size v4 (bodyD c xs)) := by
      have := OwnBytes.wide (b := w.heap.size) o4 (by simp)
      simpa [bodyD, Hid] using this
    clear o3 o4 hb3 hb4 h13
    go_wp2
    go_ret
    exact ⟨v4, rfl, R2.out, R1⟩
end Go.Proofs.YtabpiaaknjcnkaaGreat
