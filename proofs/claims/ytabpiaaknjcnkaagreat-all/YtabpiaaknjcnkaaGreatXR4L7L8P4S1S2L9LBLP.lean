/- The texts R4, L7, L8, P4, S1, S2, L9, LB, LP, one behind the other. -/
import Derived.Test.YtabpiaaknjcnkaaGreatR2
import Derived.Test.YtabpiaaknjcnkaaGreatXP3WAWCL1L2
import Derived.LoopTactic
import Derived.Test.YtabpiaaknjcnkaaGreatXL6R1
import Derived.Test.YtabpiaaknjcnkaaGreatR3
import Derived.Lib.Strings
import Derived.Test.YtabpiaaknjcnkaaGreatXP1W1W3W4
import Derived.Laws.BitsAllLaws
import Derived.Deep.RegionHeld3
/-
  The document's answer: Apply; the program's Apply in the same words.
-/
namespace Go.Proofs.YtabpiaaknjcnkaaGreat
open Go.RowKit
set_option linter.unusedVariables false
set_option linter.unusedSimpArgs false
set_option maxRecDepth 100000

def appS (base : ByteArray) (xs : List DOp) : ByteArray := if 2000 < base.size then ⟨#[]⟩ else if faultF xs base.size < xs.length then ⟨#[]⟩ else ⟨(madeL base.data.toList xs).toArray⟩
def appE (base : ByteArray) (xs : List DOp) : Int := if 2000 < base.size then 1 else if faultF xs base.size < xs.length then 2 else 0
def appP (base : ByteArray) (xs : List DOp) : Int := if 2000 < base.size then 0 else if faultF xs base.size < xs.length then faultF xs base.size else 0

set_option maxHeartbeats 1000000 in
theorem wrong_nil (ao : Option Addr) (cap : Nat) (bs : Int) (w : World) :
    Calls Tryz.prog 96 #[.slice ao 0 cap, .int .i64 bs] w fun e w' => e = .returned (.int .i64 (-1)) ∧ w = w' := by
  go_enter Tryz.func96, Tryz.ntmps96
  go_wp2
  go_loopw [5, 6] (fun m c wr => m = .int .i64 0 ∧ c = .int .i64 0 ∧ w = wr) (fun _ _ _ => 0)
  case atStart => exact ⟨rfl, rfl, rfl⟩
  case round =>
    obtain ⟨rfl, rfl, rfl⟩ := hrel
    go_wp2
    go_ret
    exact ⟨rfl, rfl⟩

set_option maxHeartbeats 1000000 in
theorem made_nil (base : ByteArray) (ao : Option Addr) (cap : Nat) (w : World) :
    Calls Tryz.prog 97 #[.string base, .slice ao 0 cap] w fun e w' => e = .returned (.string ⟨#[]⟩) ∧ w = w' := by
  go_enter Tryz.func97, Tryz.ntmps97
  go_wp2
  go_loopw [5, 6] (fun m c wr => m = .string ⟨#[]⟩ ∧ c = .int .i64 0 ∧ w = wr) (fun _ _ _ => 0)
  case atStart => exact ⟨rfl, rfl, rfl⟩
  case round =>
    obtain ⟨rfl, rfl, rfl⟩ := hrel
    go_wp2
    go_ret
    exact ⟨rfl, rfl⟩

set_option maxHeartbeats 1000000 in
theorem rapply_long (base : ByteArray) (v : Value) (w : World) (h : 2000 < base.size) (hs : base.size ≤ 9223372036854775807) :
    Calls Tryz.prog 61 #[.string base, v] w fun e w' => e = .returned (.tuple #[.string ⟨#[]⟩, .int .i64 1, .int .i64 0]) ∧ w' = w := by
  go_enter Tryz.func61, Tryz.ntmps61
  go_wp2
  go_ret3
  exact ⟨rfl, rfl⟩

set_option maxHeartbeats 1000000 in
theorem rapply_nil (base : ByteArray) (ao : Option Addr) (cap : Nat) (w : World) (h : base.size ≤ 2000) :
    Calls Tryz.prog 61 #[.string base, .slice ao 0 cap] w fun e w' => e = .returned (.tuple #[.string ⟨#[]⟩, .int .i64 0, .int .i64 0]) ∧ Below w.heap.size w w' := by
  go_enter Tryz.func61, Tryz.ntmps61
  go_wp2_with fail
  refine (wrong_nil ao cap _ _).mono ?_
  rintro e w1 ⟨rfl, rfl⟩
  go_wp2_with fail
  refine (made_nil base ao cap _).mono ?_
  rintro e w1 ⟨rfl, rfl⟩
  go_wp2
  go_ret3
  exact ⟨rfl, Below.refl _ _⟩

set_option maxHeartbeats 1000000 in
theorem rapply_fault (base : ByteArray) (b off cap : Nat) (xs : List DOp) (w : World) (h : base.size ≤ 2000) (hx : xs.length ≤ 5000000000000) (hr : ReadsAt w b off xs) (hl : ∀ o ∈ xs, o.len ≤ 9223372036854775807) (hts : ∀ o ∈ xs, o.tx.size ≤ 9223372036854770000) (hbw : b < w.heap.size)
    (hf : faultF xs base.size < xs.length) :
    Calls Tryz.prog 61 #[.string base, .slice (some ⟨b, off, none⟩) xs.length cap] w fun e w' => e = .returned (.tuple #[.string ⟨#[]⟩, .int .i64 2, .int .i64 (faultF xs base.size)]) ∧ Below w.heap.size w w' := by
  have HC : Hid (Calls Tryz.prog 96 #[.slice (some ⟨b, off, none⟩) xs.length cap, .int .i64 base.size] w fun e w' => e = .returned (.int .i64 (faultF xs base.size)) ∧ Below w.heap.size w w') := by
    have := wrong_two b off cap xs base.size w (by omega) (by omega) hx hr hl hts hbw
    rw [wrongI, if_pos hf] at this
    exact this
  clear hr hl hts hf
  generalize hft : faultF xs base.size = ft at *
  clear hft
  go_enter Tryz.func61, Tryz.ntmps61
  go_wp2_with fail
  refine HC.out.mono ?_
  rintro e w1 ⟨rfl, hb1⟩
  go_wp2
  go_ret3
  exact ⟨rfl, hb1⟩

set_option maxHeartbeats 1000000 in
theorem rapply_ok (base : ByteArray) (b off cap : Nat) (xs : List DOp) (w : World) (h : base.size ≤ 2000) (hx : xs.length ≤ 5000000000000) (hr : ReadsAt w b off xs) (hl : ∀ o ∈ xs, o.len ≤ 9223372036854775807) (hts : ∀ o ∈ xs, o.tx.size ≤ 9223372036854770000) (hbw : b < w.heap.size)
    (hf : faultF xs base.size = xs.length) :
    Calls Tryz.prog 61 #[.string base, .slice (some ⟨b, off, none⟩) xs.length cap] w fun e w' => e = .returned (.tuple #[.string ⟨(madeL base.data.toList xs).toArray⟩, .int .i64 0, .int .i64 0]) ∧ Below w.heap.size w w' := by
  obtain ⟨hall, hsum⟩ := fault_all (b := (base.size : Int)) (xs := xs) (p := none) (i := 0) (m := 0) (by rw [Nat.zero_add]; exact hf) (by omega)
  have hml := madeL_length (B := base.data.toList) (xs := xs) (by rw [← Lib.size_eq]; exact hall)
  have hmade : (madeL base.data.toList xs).length ≤ 2000 := by omega
  have HC : Hid (Calls Tryz.prog 96 #[.slice (some ⟨b, off, none⟩) xs.length cap, .int .i64 base.size] w fun e w' => e = .returned (.int .i64 (-1)) ∧ Below w.heap.size w w') := by
    have := wrong_two b off cap xs base.size w (by omega) (by omega) hx hr hl hts hbw
    rw [wrongI, if_neg (by omega)] at this
    exact this
  have HM : Hid (∀ w1, Below w.heap.size w w1 → Calls Tryz.prog 97 #[.string base, .slice (some ⟨b, off, none⟩) xs.length cap] w1 fun e w' => e = .returned (.string ⟨(madeL base.data.toList xs).toArray⟩) ∧ ∃ n, w' = w1.drewN n) := by
    intro w1 hb
    refine made_two base b off cap xs w1 h hx (fun i o ho => ?_) hall hmade
    obtain ⟨r0, r1, r2⟩ := hr i o ho
    exact ⟨(hb.cell (p := ⟨b, _, none⟩) hbw).trans r0, (hb.cell (p := ⟨b, _, none⟩) hbw).trans r1, (hb.cell (p := ⟨b, _, none⟩) hbw).trans r2⟩
  clear hall hsum hml hf hr hl hts hmade
  go_enter Tryz.func61, Tryz.ntmps61
  go_wp2_with fail
  refine HC.out.mono ?_
  rintro e w1 ⟨rfl, hb1⟩
  go_wp2_with fail
  refine (HM.out w1 hb1).mono ?_
  rintro e w2 ⟨rfl, n, hw2⟩
  have R : Below w.heap.size w w2 := by rw [hw2]; exact hb1.trans (below_drewN _ _ _)
  clear hw2
  go_wp2
  go_ret3
  exact ⟨rfl, R⟩

/-- What Apply of the document's answer says, in one. -/
theorem rapply_any {base : ByteArray} {v : Value} {xs : List DOp} {w : World} (hs : base.size ≤ 9223372036854775807) (hx : xs.length ≤ 5000000000000) (hv : View w v xs) (hl : ∀ o ∈ xs, o.len ≤ 9223372036854775807) (hts : ∀ o ∈ xs, o.tx.size ≤ 9223372036854770000) :
    Calls Tryz.prog 61 #[.string base, v] w fun e w' => e = .returned (.tuple #[.string (appS base xs), .int .i64 (appE base xs), .int .i64 (appP base xs)]) ∧ Below w.heap.size w w' := by
  unfold appS appE appP
  by_cases h : 2000 < base.size
  · simp only [if_pos h]
    exact (rapply_long base v w h hs).mono (fun e w' ⟨a, b⟩ => ⟨a, by rw [b]; exact Below.refl _ _⟩)
  · simp only [if_neg h]
    rcases hv with ⟨rfl, ao, cap, rfl⟩ | ⟨b, off, cap, rfl, hbw, hr⟩
    · exact rapply_nil base ao cap w (by omega)
    · by_cases hf : faultF xs base.size < xs.length
      · simp only [if_pos hf]
        exact rapply_fault base b off cap xs w (by omega) hx hr hl hts hbw hf
      · simp only [if_neg hf]
        exact rapply_ok base b off cap xs w (by omega) hx hr hl hts hbw (by have := faultF_le xs base.size; omega)

/-- What Apply of the program says, in one. -/
theorem capply_any {base : ByteArray} {v : Value} {xs : List DOp} {w : World} (hs : base.size ≤ 9223372036854775807) (hx : xs.length ≤ 5000000000000) (hv : View w v xs) (hl : ∀ o ∈ xs, o.len ≤ 9223372036854775807) :
    Calls Tryz.prog 60 #[.string base, v] w fun e w' => e = .returned (.tuple #[.string (appS base xs), .int .i64 (appE base xs), .int .i64 (appP base xs)]) ∧ Below w.heap.size w w' := by
  refine capply_of ?_
  unfold appS appE appP
  by_cases h : 2000 < base.size
  · simp only [if_pos h]
    exact (apply_long base v w h hs).mono (fun e w' ⟨a, b⟩ => ⟨a, by rw [b]; exact Below.refl _ _⟩)
  · simp only [if_neg h]
    rcases hv with ⟨rfl, ao, cap, rfl⟩ | ⟨b, off, cap, rfl, hbw, hr⟩
    · exact apply_nil base ao cap w (by omega)
    · by_cases hf : faultF xs base.size < xs.length
      · simp only [if_pos hf]
        exact apply_fault base b off cap xs w (by omega) hx hr hl hbw hf
      · simp only [if_neg hf]
        exact apply_ok base b off cap xs w (by omega) hx hr hl hbw (by have := faultF_le xs base.size; omega)
end Go.Proofs.YtabpiaaknjcnkaaGreat

/-
  A step of Diff, Apply or Sum: the common words.
-/
namespace Go.Proofs.YtabpiaaknjcnkaaGreat
open Go.RowKit
set_option linter.unusedVariables false
set_option linter.unusedSimpArgs false
set_option maxRecDepth 100000

/-- A list of the script's: it lies below B0. -/
def LView (B0 : Nat) (w : World) (v : Value) (xs : List DOp) : Prop :=
  (xs = [] ∧ ∃ ao cap, v = .slice ao 0 cap) ∨ ∃ b off cap, v = .slice (some ⟨b, off, none⟩) xs.length cap ∧ b < B0 ∧ ReadsAt w b off xs
theorem LView.kept {B0 : Nat} {w w' : World} {v : Value} {xs : List DOp} (h : LView B0 w v xs) (hb : Below B0 w w') : LView B0 w' v xs := by
  rcases h with h | ⟨b, off, cap, rfl, hlt, hr⟩
  · exact .inl h
  · refine .inr ⟨b, off, cap, rfl, hlt, fun i o ho => ?_⟩
    obtain ⟨r0, r1, r2⟩ := hr i o ho
    exact ⟨(hb.cell (p := ⟨b, _, none⟩) hlt).trans r0, (hb.cell (p := ⟨b, _, none⟩) hlt).trans r1, (hb.cell (p := ⟨b, _, none⟩) hlt).trans r2⟩
theorem LView.view {B0 : Nat} {w : World} {v : Value} {xs : List DOp} (h : LView B0 w v xs) (hb : B0 ≤ w.heap.size) : View w v xs := by
  rcases h with h | ⟨b, off, cap, rfl, hlt, hr⟩
  · exact .inl h
  · exact .inr ⟨b, off, cap, rfl, by omega, hr⟩
theorem LView.slice {B0 : Nat} {w : World} {v : Value} {xs : List DOp} (h : LView B0 w v xs) : ∃ ao cap, v = .slice ao xs.length cap := by
  rcases h with ⟨rfl, ao, cap, rfl⟩ | ⟨b, off, cap, rfl, _⟩
  · exact ⟨ao, cap, rfl⟩
  · exact ⟨_, _, rfl⟩

/-- The book stands where its blocks stand. -/
theorem BookAt.kept {w w' : World} {B0 Wb : Nat} {xv yv bv : Value} {es : List Entry} {S S' : Nat → Prop} (h : BookAt w B0 Wb xv yv bv es S) (hk : ∀ q, S q → w'.heap[q]? = w.heap[q]?) (hS : ∀ q, S q → S' q) : BookAt w' B0 Wb xv yv bv es S' := by
  refine ⟨by rw [hk _ h.wbB]; exact h.blk, h.wb0, hS _ h.wbB, row_block h.row (fun g hg => hk g (h.lowr g hg)), fun g hg => hS _ (h.lowr g hg), fun e he => ?_⟩
  have k := h.each e he
  exact ⟨own_block k.l (fun g hg => hk g (k.lowl g hg)), own_block k.a (fun g hg => hk g (k.lowa g hg)), own_block k.b (fun g hg => hk g (k.lowb g hg)), own_block k.c (fun g hg => hk g (k.lowc g hg)), k.n,
    fun g hg => hS _ (k.lowl g hg), fun g hg => hS _ (k.lowa g hg), fun g hg => hS _ (k.lowb g hg), fun g hg => hS _ (k.lowc g hg)⟩

def dLong (s t : ByteArray) : Prop := 2000 < s.size ∨ 2000 < t.size
def dLongDec (s t : ByteArray) : Decidable (dLong s t) := inferInstanceAs (Decidable (_ ∨ _))
def dL (s t : ByteArray) : List DOp := @ite _ (dLong s t) (dLongDec s t) [] (diffF s t)
def dE (s t : ByteArray) : Int := @ite _ (dLong s t) (dLongDec s t) 1 0

set_option maxHeartbeats 1000000 in
theorem rdiff_long (base next : ByteArray) (w : World) (hs : base.size ≤ 9223372036854775807) (hn : next.size ≤ 9223372036854775807) (h : 2000 < base.size ∨ 2000 < next.size) :
    Calls Tryz.prog 57 #[.string base, .string next] w fun e w' => e = .returned (.tuple #[.slice none 0 0, .int .i64 1]) ∧ w' = w := by
  by_cases h1 : 2000 < base.size
  · go_enter Tryz.func57, Tryz.ntmps57
    go_wp2
    go_ret2
    exact ⟨rfl, rfl⟩
  · have h2 : 2000 < next.size := by omega
    clear h
    go_enter Tryz.func57, Tryz.ntmps57
    go_wp2
    go_ret2
    exact ⟨rfl, rfl⟩

theorem cdiff_any (s t : ByteArray) (w : World) (hs : s.size ≤ 9223372036854775807) (ht : t.size ≤ 9223372036854775807) :
    Calls Tryz.prog 56 #[.string s, .string t] w fun e w' => ∃ ao cap, e = .returned (.tuple #[.slice ao (dL s t).length cap, .int .i64 (dE s t)]) ∧ OwnOps w' w.heap.size (.slice ao (dL s t).length cap) (dL s t) ∧ Below w.heap.size w w' := by
  unfold dL dE
  by_cases h : dLong s t
  · simp only [if_pos h]
    refine (cdiff_long s t w hs ht h).mono ?_
    rintro e w' ⟨rfl, rfl⟩
    exact ⟨none, 0, rfl, OwnOps.nil _ _, Below.refl _ _⟩
  · simp only [if_neg h]
    unfold dLong at h
    refine (cdiff_ok s t w (by omega) (by omega)).mono ?_
    rintro e w' ⟨v, rfl, ho, hb⟩
    obtain ⟨ao, cap, rfl⟩ := ho.slice
    exact ⟨ao, cap, rfl, ho, hb⟩
theorem rdiff_any (s t : ByteArray) (w : World) (hs : s.size ≤ 9223372036854775807) (ht : t.size ≤ 9223372036854775807) :
    Calls Tryz.prog 57 #[.string s, .string t] w fun e w' => ∃ ao cap, e = .returned (.tuple #[.slice ao (dL s t).length cap, .int .i64 (dE s t)]) ∧ OwnOps w' w.heap.size (.slice ao (dL s t).length cap) (dL s t) ∧ Below w.heap.size w w' := by
  unfold dL dE
  by_cases h : dLong s t
  · simp only [if_pos h]
    refine (rdiff_long s t w hs ht h).mono ?_
    rintro e w' ⟨rfl, rfl⟩
    exact ⟨none, 0, rfl, OwnOps.nil _ _, Below.refl _ _⟩
  · simp only [if_neg h]
    unfold dLong at h
    refine (rdiff_ok s t w (by omega) (by omega)).mono ?_
    rintro e w' ⟨v, rfl, ho, hb⟩
    obtain ⟨ao, cap, rfl⟩ := ho.slice
    exact ⟨ao, cap, rfl, ho, hb⟩
theorem dL_length (s t : ByteArray) : (dL s t).length ≤ 100000 := by
  unfold dL
  by_cases h : dLong s t
  · rw [if_pos h]; simp
  · rw [if_neg h]
    unfold dLong at h
    have := @descF_length s t
    unfold diffF
    split
    · unfold addT; split <;> simp
    · omega
end Go.Proofs.YtabpiaaknjcnkaaGreat

/-
  A step of Diff: the answers are the same, the list comes into the book, what was lent reads as it did.
-/
namespace Go.Proofs.YtabpiaaknjcnkaaGreat
open Go.RowKit
set_option linter.unusedVariables false
set_option linter.unusedSimpArgs false
set_option maxRecDepth 100000

/-- What a lent list is, once it lies there. -/
def Lent (w : World) (g : Nat) (xs : List DOp) : Prop := OwnOps w g (.slice (some ⟨g, 0, none⟩) (xs.length + 2) (xs.length + 2)) (xs ++ notYours :: [noOp])
theorem Lent.kept {w w' : World} {g : Nat} {xs : List DOp} (h : Lent w g xs) (hk : w'.heap[g]? = w.heap[g]?) : Lent w' g xs := own_block h (fun q hq => by
  obtain rfl : g = q := by simpa [Value.ownBlock] using hq
  exact hk)
theorem Lent.lt {w : World} {g : Nat} {xs : List DOp} (h : Lent w g xs) : g < w.heap.size := row_own_lt h rfl

theorem below_back {B0 g : Nat} {w w6 w7 : World} (g7 : w6.grownBy w7 (some g)) (c6 : Below B0 w w6) (hg : B0 ≤ g) (hB : B0 ≤ w6.heap.size) : Below B0 w w7 :=
  c6.trans ⟨g7.os, g7.tape, g7.output, g7.size, fun k hk => g7.block k (by omega) (fun e => by injection e with e; omega)⟩

/-- Behind the first of the two: all else stands. -/
theorem after_back {w w6 w7 : World} {B0 Wb g1 g2 h0 h2 : Nat} {xv yv bv : Value} {es : List Entry} {ys : List DOp} {o : Obj} (g7 : w6.grownBy w7 (some g1)) (c6 : Below B0 w w6) (bk6 : BookAt w6 B0 Wb xv yv bv es (fun q => q < h0 ∨ (h2 ≤ q ∧ q < w6.heap.size))) (ob6 : w6.heap[h0]? = some o) (q26 : Lent w6 g2 ys)
    (hB0 : B0 ≤ h0) (hg1 : g1 = h0 + 1) (hg2 : g1 < g2) (hh2 : g2 < h2) (hh6 : h2 ≤ w6.heap.size) (h6 : h0 < w6.heap.size) (hB6 : B0 ≤ w6.heap.size) :
    Below B0 w w7 ∧ BookAt w7 B0 Wb xv yv bv es (fun q => q < h0 ∨ (h2 ≤ q ∧ q < w7.heap.size)) ∧ w7.heap[h0]? = some o ∧ Lent w7 g2 ys ∧ w6.heap.size ≤ w7.heap.size := by
  have hs := g7.size
  refine ⟨below_back g7 c6 (by omega) hB6, bk6.kept (fun q hq => g7.block q (by rcases hq with h | h <;> omega) (fun e => by injection e with e; rcases hq with h | h <;> omega)) (fun q hq => by rcases hq with h | h; exact .inl h; exact .inr ⟨h.1, by omega⟩), ?_, q26.kept (g7.block _ (by omega) (fun e => by injection e with e; omega)), hs⟩
  rw [g7.block h0 h6 (fun e => by injection e with e; omega)]; exact ob6

end Go.Proofs.YtabpiaaknjcnkaaGreat

/-
  Plain facts on the sum: a move is one to one; a byte that is another one makes another sum.
-/
namespace Go.Proofs.YtabpiaaknjcnkaaGreat
set_option linter.unusedVariables false
set_option linter.unusedSimpArgs false

/-- One move to the right. -/
def mv (x : Nat) : Nat := if x % 2 = 1 then (x / 2) ^^^ 3988292384 else x / 2
def mvs : Nat → Nat → Nat
  | 0, x => x
  | k + 1, x => mv (mvs k x)

theorem mv_lt {x : Nat} (h : x < 4294967296) : mv x < 4294967296 := by
  unfold mv
  split
  · exact Nat.xor_lt_two_pow (n := 32) (by omega) (by decide)
  · omega
theorem mvs_lt {x : Nat} (h : x < 4294967296) (k : Nat) : mvs k x < 4294967296 := by
  induction k with
  | zero => exact h
  | succ k ih => exact mv_lt ih

/-- A byte. -/
def upd (v c : Nat) : Nat := mvs 8 (v ^^^ c)
theorem xor_lt {v c : Nat} (hv : v < 4294967296) (hc : c < 256) : v ^^^ c < 4294967296 := Nat.xor_lt_two_pow (n := 32) hv (by omega)
theorem upd_lt {v c : Nat} (hv : v < 4294967296) (hc : c < 256) : upd v c < 4294967296 := mvs_lt (xor_lt hv hc) 8
def run (v : Nat) (l : List UInt8) : Nat := l.foldl (fun v c => upd v c.toNat) v
theorem run_lt {v : Nat} (hv : v < 4294967296) (l : List UInt8) : run v l < 4294967296 := by
  induction l generalizing v with
  | nil => exact hv
  | cons c r ih => exact ih (upd_lt hv c.toNat_lt)
theorem run_snoc (v : Nat) (l : List UInt8) (c : UInt8) : run v (l ++ [c]) = upd (run v l) c.toNat := by simp [run]
def sumL (l : List UInt8) : Nat := 4294967295 - run 4294967295 l
theorem sumL_lt (l : List UInt8) : sumL l < 4294967296 := by unfold sumL; omega

/-! Three ways to the same byte step. -/
theorem xor_ones {v : Nat} (h : v < 4294967296) : 4294967295 ^^^ v = 4294967295 - v := by
  apply Nat.eq_of_testBit_eq
  intro i
  have h1 := Nat.testBit_two_pow_sub_succ (x := v) (n := 32) h i
  rw [show 2 ^ 32 - (v + 1) = 4294967295 - v from by omega] at h1
  rw [h1, Nat.testBit_xor, show (4294967295 : Nat) = 2 ^ 32 - 1 from rfl, Nat.testBit_two_pow_sub_one]
  by_cases hi : i < 32
  · simp [hi]
  · have : v.testBit i = false := Nat.testBit_lt_two_pow (Nat.lt_of_lt_of_le h (by
      have : (2 : Nat) ^ 32 ≤ 2 ^ i := Nat.pow_le_pow_right (by decide) (by omega)
      simpa using this))
    simp [hi, this]
end Go.Proofs.YtabpiaaknjcnkaaGreat

/-
  The walks over the sums of the statements.
-/
namespace Go.Proofs.YtabpiaaknjcnkaaGreat
open Go.RowKit
set_option linter.unusedVariables false
set_option linter.unusedSimpArgs false
set_option maxRecDepth 100000

theorem and1 (y : Nat) (h : y < 4294967296) : bits BinOp.and IntKind.u32 (y : Int) 1 = ((y % 2 : Nat) : Int) := by
  have := u32_and_nat y 1 h (by decide)
  rw [nat_mask1] at this
  exact this
theorem xorP (y : Nat) (h : y < 4294967296) : bits BinOp.xor IntKind.u32 ((y : Int) / 2) 3988292384 = ((y / 2 ^^^ 3988292384 : Nat) : Int) := by
  have := u32_xor_nat (y / 2) 3988292384 (by omega) (by decide)
  rw [← this]; rfl
theorem odd_of {y : Nat} (h : y < 4294967296) (hb : (bits BinOp.and IntKind.u32 (y : Int) 1 == 1) = true) : y % 2 = 1 := by
  rw [and1 y h] at hb
  have : ((y % 2 : Nat) : Int) = 1 := by simpa using hb
  omega
theorem even_of {y : Nat} (h : y < 4294967296) (hb : (bits BinOp.and IntKind.u32 (y : Int) 1 == 1) = false) : ¬ y % 2 = 1 := by
  rw [and1 y h] at hb
  have : ¬ ((y % 2 : Nat) : Int) = 1 := by simpa using hb
  omega
theorem byte_at (s : ByteArray) (k : Nat) (h : k < s.size) : s.data.toList.take (k + 1) = s.data.toList.take k ++ [s[k]] := by
  rw [List.take_succ_eq_append_getElem (by simpa using h)]; rfl

/-- The walk at the k-th byte. -/
def st (s : ByteArray) (k : Nat) : Nat := run 4294967295 (s.data.toList.take k)
theorem st_zero (s : ByteArray) : st s 0 = 4294967295 := by simp [st, run]
theorem st_lt (s : ByteArray) (k : Nat) : st s k < 4294967296 := run_lt (by decide) _
theorem st_succ (s : ByteArray) (k : Nat) (h : k < s.size) : st s (k + 1) = upd (st s k) s[k].toNat := by
  rw [st, byte_at s k h, run_snoc]; rfl
theorem st_end (s : ByteArray) : sumL s.data.toList = 4294967295 - st s s.size := by
  rw [st, List.take_of_length_le (by rw [Lib.size_eq]; exact Nat.le_refl _)]; rfl

theorem ret_u32 {a b : Int} (h : a = b) : Ending.returned (.int .u32 a) = .returned (.int .u32 b) := by rw [h]

theorem val_u32 {a b : Int} (h : a = b) : Value.int .u32 a = .int .u32 b := by rw [h]

theorem odd2 {y : Nat} (h : ((y : Int) % 2 == 1) = true) : y % 2 = 1 := by
  have : (y : Int) % 2 = 1 := by simpa using h
  omega
theorem even2 {y : Nat} (h : ((y : Int) % 2 == 1) = false) : ¬ y % 2 = 1 := by
  have : ¬ (y : Int) % 2 = 1 := by simpa using h
  omega
set_option maxHeartbeats 1000000 in
theorem rsum_any (s : ByteArray) (w : World) (hs : s.size ≤ 9223372036854775806) :
    Calls Tryz.prog 63 #[.string s] w fun e w' => e = .returned (.int .u32 (sumL s.data.toList)) ∧ w = w' := by
  go_enter Tryz.func63, Tryz.ntmps63
  go_wp2
  go_loop [3, 4] (fun v i => ∃ k : Nat, k ≤ s.size ∧ i = .int .i64 k ∧ v = .int .u32 (st s k)) (fun _ i => s.size + 1 - (intOf i).toNat)
  case atStart => exact ⟨0, by omega, rfl, val_u32 (by rw [st_zero]; rfl)⟩
  case round =>
    obtain ⟨k, hk, rfl, rfl⟩ := hrel
    by_cases hlt : k < s.size
    · have hv := st_lt s k
      have hc : s[k].toNat < 256 := s[k].toNat_lt
      have HS : Hid (st s (k + 1) = mvs 8 (st s k ^^^ s[k].toNat)) := st_succ s k hlt
      generalize hst : st s k = v at *
      clear hst
      have hx : v ^^^ s[k].toNat < 4294967296 := xor_lt hv hc
      have HX : Hid (bits BinOp.xor IntKind.u32 (v : Int) (s[k].toNat : Int) = ((v ^^^ s[k].toNat : Nat) : Int)) := u32_xor_nat v s[k].toNat hv (by omega)
      go_wp2
      rw [HX.out]
      generalize hxx : v ^^^ s[k].toNat = x at *
      clear hxx HX
      go_loop [3, 5] (fun y i => ∃ j : Nat, j ≤ 8 ∧ i = .int .i64 j ∧ y = .int .u32 (mvs j x)) (fun _ i => 9 - (intOf i).toNat)
      case atStart => exact ⟨0, by omega, rfl, rfl⟩
      case round =>
        obtain ⟨j, hj, rfl, rfl⟩ := hrel
        have hy := mvs_lt hx j
        by_cases hj8 : j < 8
        · have HN : Hid (mvs (j + 1) x = mv (mvs j x)) := rfl
          generalize hyy : mvs j x = y at *
          clear hyy
          go_wp2
          · have ho : y % 2 = 1 := odd2 (by assumption)
            go_round
            case rel => exact ⟨j + 1, by omega, by go_num, val_u32 (by rw [HN.out, mv, if_pos ho, xorP y hy])⟩
            case measure => simp [intOf]; omega
          · have ho : ¬ y % 2 = 1 := even2 (by assumption)
            go_round
            case rel => exact ⟨j + 1, by omega, by go_num, val_u32 (by rw [HN.out, mv, if_neg ho]; omega)⟩
            case measure => simp [intOf]; omega
        · have HE : Hid (mvs j x = st s (k + 1)) := by
            show mvs j x = _
            rw [HS.out, show j = 8 from by omega]
          go_wp2
          go_round
          case rel => exact ⟨k + 1, by omega, by go_num, val_u32 (by rw [HE.out])⟩
          case measure => simp [intOf]; omega
    · have hl := st_lt s k
      go_wp2
      go_ret
      refine ⟨ret_u32 ?_, rfl⟩
      rw [st_end, ← show k = s.size from by omega]
      generalize st s k = v at *
      omega

end Go.Proofs.YtabpiaaknjcnkaaGreat

/-
  The walks over the program's own sum.
-/
namespace Go.Proofs.YtabpiaaknjcnkaaGreat
open Go.RowKit
set_option linter.unusedVariables false
set_option linter.unusedSimpArgs false
set_option maxRecDepth 100000

set_option maxHeartbeats 1000000 in
theorem eight_any (x : Nat) (w : World) (hx : x < 4294967296) :
    Calls Tryz.prog 122 #[.int .u32 x] w fun e w' => e = .returned (.int .u32 (mvs 8 x)) ∧ w = w' := by
  go_enter Tryz.func122, Tryz.ntmps122
  go_wp2
  go_loop [0, 4] (fun v i => ∃ k : Nat, k ≤ 8 ∧ i = .int .i64 k ∧ v = .int .u32 (mvs k x)) (fun _ i => 9 - (intOf i).toNat)
  case atStart => exact ⟨0, by omega, rfl, rfl⟩
  case round =>
    obtain ⟨k, hk, rfl, rfl⟩ := hrel
    have hy := mvs_lt hx k
    by_cases hlt : k < 8
    · have HN : Hid (mvs (k + 1) x = mv (mvs k x)) := rfl
      generalize hyy : mvs k x = y at *
      clear hyy
      go_wp2
      · go_round
        case rel => exact ⟨k + 1, by omega, by go_num, val_u32 (by rw [HN.out, mv, if_pos (odd_of hy (by assumption)), xorP y hy])⟩
        case measure => simp [intOf]; omega
      · go_round
        case rel => exact ⟨k + 1, by omega, by go_num, val_u32 (by rw [HN.out, mv, if_neg (even_of hy (by assumption))]; omega)⟩
        case measure => simp [intOf]; omega
    · have HE : Hid (mvs k x = mvs 8 x) := by show mvs k x = _; rw [show k = 8 from by omega]
      go_wp2
      go_ret
      exact ⟨ret_u32 (by rw [HE.out]), rfl⟩

set_option maxHeartbeats 1000000 in
theorem of_any (s : ByteArray) (w : World) (hs : s.size ≤ 9223372036854775806) :
    Calls Tryz.prog 98 #[.string s] w fun e w' => e = .returned (.int .u32 (sumL s.data.toList)) ∧ w = w' := by
  go_enter Tryz.func98, Tryz.ntmps98
  go_wp2
  go_loop [3, 7] (fun v i => ∃ k : Nat, k ≤ s.size ∧ i = .int .i64 k ∧ v = .int .u32 (st s k)) (fun _ i => s.size + 1 - (intOf i).toNat)
  case atStart => exact ⟨0, by omega, rfl, val_u32 (by rw [st_zero]; rfl)⟩
  case round =>
    obtain ⟨k, hk, rfl, rfl⟩ := hrel
    have hv := st_lt s k
    by_cases hlt : k < s.size
    · have hc : s[k].toNat < 256 := s[k].toNat_lt
      have HS : Hid (st s (k + 1) = mvs 8 (st s k ^^^ s[k].toNat)) := by
        show st s (k + 1) = _
        rw [st_succ s k hlt]; rfl
      generalize hst : st s k = v at *
      clear hst
      have hz : v ^^^ s[k].toNat < 4294967296 := Nat.xor_lt_two_pow (n := 32) (by omega) (by omega)
      have HX : Hid (bits BinOp.xor IntKind.u32 (v : Int) (s[k].toNat : Int) = ((v ^^^ s[k].toNat : Nat) : Int)) := u32_xor_nat v s[k].toNat (by omega) (by omega)
      go_wp2_with fail
      rw [HX.out]
      generalize hxx : v ^^^ s[k].toNat = x at *
      clear hxx HX
      refine (eight_any x _ (by omega)).mono ?_
      rintro e w' ⟨rfl, rfl⟩
      go_wp2
      go_round
      case rel => exact ⟨k + 1, by omega, by go_num, val_u32 (by rw [HS.out])⟩
      case measure => simp [intOf]; omega
    · go_wp2
      go_ret
      refine ⟨ret_u32 ?_, rfl⟩
      rw [st_end, ← show k = s.size from by omega]
      have h1 := u32_xor_nat (st s k) 4294967295 hv (by decide)
      rw [Nat.xor_comm, xor_ones hv] at h1
      exact h1

set_option maxHeartbeats 1000000 in
theorem csum_any (s : ByteArray) (w : World) (hs : s.size ≤ 9223372036854775806) :
    Calls Tryz.prog 62 #[.string s] w fun e w' => e = .returned (.int .u32 (sumL s.data.toList)) ∧ w = w' := by
  go_enter Tryz.func62, Tryz.ntmps62
  go_wp2_with fail
  refine (of_any s _ hs).mono ?_
  rintro e w' ⟨rfl, rfl⟩
  go_wp2
  go_ret
  exact ⟨rfl, rfl⟩
end Go.Proofs.YtabpiaaknjcnkaaGreat

/-
  A step of Apply, a step of Sum.
-/
namespace Go.Proofs.YtabpiaaknjcnkaaGreat
open Go.RowKit
set_option linter.unusedVariables false
set_option linter.unusedSimpArgs false
set_option maxRecDepth 100000

theorem View.heap {w W : World} {v : Value} {xs : List DOp} (h : View w v xs) (hW : W.heap = w.heap) : View W v xs := by
  rcases h with h | ⟨b, off, cap, rfl, hlt, hr⟩
  · exact .inl h
  · refine .inr ⟨b, off, cap, rfl, by rw [hW]; exact hlt, fun i o ho => ?_⟩
    obtain ⟨r0, r1, r2⟩ := hr i o ho
    have hc : ∀ p : Addr, W.cell? p = w.cell? p := fun p => World.cell?_of_block (by rw [hW])
    exact ⟨(hc _).trans r0, (hc _).trans r1, (hc _).trans r2⟩

end Go.Proofs.YtabpiaaknjcnkaaGreat

/-
  A step of the script, of the kinds up to 3.
-/
namespace Go.Proofs.YtabpiaaknjcnkaaGreat
open Go.RowKit
set_option linter.unusedVariables false
set_option linter.unusedSimpArgs false
set_option maxRecDepth 100000

/-- The raw arguments of a step. -/
structure Raw (B0 : Nat) (w : World) (s t : ByteArray) (vl vm : Value) (xs ys : List DOp) : Prop where
  hs : s.size ≤ 9223372036854770000
  ht : t.size ≤ 9223372036854770000
  hx : xs.length ≤ 4398046511000
  hy : ys.length ≤ 4398046511000
  hl : LView B0 w vl xs
  hm : LView B0 w vm ys
  len : ∀ o ∈ xs, o.len ≤ 9223372036854775807
  tx : ∀ o ∈ xs, o.tx.size ≤ 9223372036854770000
theorem Raw.kept {B0 : Nat} {w w' : World} {s t : ByteArray} {vl vm : Value} {xs ys : List DOp} (h : Raw B0 w s t vl vm xs ys) (hb : Below B0 w w') : Raw B0 w' s t vl vm xs ys :=
  ⟨h.hs, h.ht, h.hx, h.hy, h.hl.kept hb, h.hm.kept hb, h.len, h.tx⟩

end Go.Proofs.YtabpiaaknjcnkaaGreat

/-
  A whole script, of the kinds up to 3.
-/
namespace Go.Proofs.YtabpiaaknjcnkaaGreat
open Go.RowKit
set_option linter.unusedVariables false
set_option linter.unusedSimpArgs false
set_option maxRecDepth 100000

/-- A step of a script, as its data say it. -/
structure SOp where
  k : Int
  a : Int
  b : Int
  c : Int
  s : ByteArray
  t : ByteArray
  vl : Value
  vm : Value
  xs : List DOp
  ys : List DOp

/-- The script lies there. -/
def ScriptAt (w : World) (b off : Nat) (L : List SOp) : Prop := ∀ i o, L[i]? = some o →
  w.cell? ⟨b, off + i * 8, none⟩ = some (.int .i64 o.k) ∧ w.cell? ⟨b, off + i * 8 + 1, none⟩ = some (.int .i64 o.a) ∧ w.cell? ⟨b, off + i * 8 + 2, none⟩ = some (.int .i64 o.b) ∧ w.cell? ⟨b, off + i * 8 + 3, none⟩ = some (.int .i64 o.c) ∧
  w.cell? ⟨b, off + i * 8 + 4, none⟩ = some (.string o.s) ∧ w.cell? ⟨b, off + i * 8 + 5, none⟩ = some (.string o.t) ∧ w.cell? ⟨b, off + i * 8 + 6, none⟩ = some o.vl ∧ w.cell? ⟨b, off + i * 8 + 7, none⟩ = some o.vm ∧
  Raw w.heap.size w o.s o.t o.vl o.vm o.xs o.ys

/-- A script that may be empty. -/
def Script (w : World) (ao : Option Addr) (L : List SOp) : Prop := L = [] ∨ ∃ b off, ao = some ⟨b, off, none⟩ ∧ b < w.heap.size ∧ ScriptAt w b off L

theorem raw_hello (B0 : Nat) (w : World) : Raw B0 w ⟨#[104, 101, 108, 108, 111, 32, 119, 111, 114, 108, 100]⟩ ⟨#[104, 101, 108, 108, 111, 32, 119, 111, 114, 116, 104, 121]⟩ (.slice none 0 0) (.slice none 0 0) [] [] :=
  ⟨by decide, by decide, by simp, by simp, .inl ⟨rfl, none, 0, rfl⟩, .inl ⟨rfl, none, 0, rfl⟩, by simp, by simp⟩

end Go.Proofs.YtabpiaaknjcnkaaGreat
