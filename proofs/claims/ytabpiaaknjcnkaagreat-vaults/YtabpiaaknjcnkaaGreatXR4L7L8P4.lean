/- The texts R4, L7, L8, P4, one behind the other. -/
import Derived.Test.YtabpiaaknjcnkaaGreatR2
import Derived.Test.YtabpiaaknjcnkaaGreatXWCL1L2
import Derived.LoopTactic
import Derived.Test.YtabpiaaknjcnkaaGreatXL6R1
import Derived.Test.YtabpiaaknjcnkaaGreatR3
import Derived.Lib.Strings
/-
  The document's answer: Apply; the program's Apply in the same words.
-/
namespace Go.Proofs.YtabpiaaknjcnkaaGreat
open Go.RowKit
set_option linter.unusedVariables false
set_option linter.unusedSimpArgs false
set_option maxRecDepth 100000

def appS (base : ByteArray) (xs : List DOp) : ByteArray := if 2000 < base.size then ⟨#[]⟩ else if faultF xs base.size < xs.length then ⟨#[]⟩ else ⟨(madeL base.data.toList xs).toArray⟩
def appE (base : ByteArray) (xs : List DOp) : Int := if 2000 < base.size then 1 else if faultF xs base.size < xs.length then 2 else 0
def appP (base : ByteArray) (xs : List DOp) : Int := if 2000 < base.size then 0 else if faultF xs base.size < xs.length then faultF xs base.size else 0

set_option maxHeartbeats 1000000 in
theorem wrong_nil (ao : Option Addr) (cap : Nat) (bs : Int) (w : World) :
    Calls Tryz.prog 96 #[.slice ao 0 cap, .int .i64 bs] w fun e w' => e = .returned (.int .i64 (-1)) ∧ w = w' := by
  go_enter Tryz.func96, Tryz.ntmps96
  go_wp2
  go_loopw [5, 6] (fun m c wr => m = .int .i64 0 ∧ c = .int .i64 0 ∧ w = wr) (fun _ _ _ => 0)
  case atStart => exact ⟨rfl, rfl, rfl⟩
  case round =>
    obtain ⟨rfl, rfl, rfl⟩ := hrel
    go_wp2
    go_ret
    exact ⟨rfl, rfl⟩

set_option maxHeartbeats 1000000 in
theorem made_nil (base : ByteArray) (ao : Option Addr) (cap : Nat) (w : World) :
    Calls Tryz.prog 97 #[.string base, .slice ao 0 cap] w fun e w' => e = .returned (.string ⟨#[]⟩) ∧ w = w' := by
  go_enter Tryz.func97, Tryz.ntmps97
  go_wp2
  go_loopw [5, 6] (fun m c wr => m = .string ⟨#[]⟩ ∧ c = .int .i64 0 ∧ w = wr) (fun _ _ _ => 0)
  case atStart => exact ⟨rfl, rfl, rfl⟩
  case round =>
    obtain ⟨rfl, rfl, rfl⟩ := hrel
    go_wp2
    go_ret
    exact ⟨rfl, rfl⟩

set_option maxHeartbeats 1000000 in
theorem rapply_long (base : ByteArray) (v : Value) (w : World) (h : 2000 < base.size) (hs : base.size ≤ 9223372036854775807) :
    Calls Tryz.prog 61 #[.string base, v] w fun e w' => e = .returned (.tuple #[.string ⟨#[]⟩, .int .i64 1, .int .i64 0]) ∧ w' = w := by
  go_enter Tryz.func61, Tryz.ntmps61
  go_wp2
  go_ret3
  exact ⟨rfl, rfl⟩

set_option maxHeartbeats 1000000 in
theorem rapply_nil (base : ByteArray) (ao : Option Addr) (cap : Nat) (w : World) (h : base.size ≤ 2000) :
    Calls Tryz.prog 61 #[.string base, .slice ao 0 cap] w fun e w' => e = .returned (.tuple #[.string ⟨#[]⟩, .int .i64 0, .int .i64 0]) ∧ Below w.heap.size w w' := by
  go_enter Tryz.func61, Tryz.ntmps61
  go_wp2_with fail
  refine (wrong_nil ao cap _ _).mono ?_
  rintro e w1 ⟨rfl, rfl⟩
  go_wp2_with fail
  refine (made_nil base ao cap _).mono ?_
  rintro e w1 ⟨rfl, rfl⟩
  go_wp2
  go_ret3
  exact ⟨rfl, Below.refl _ _⟩

set_option maxHeartbeats 1000000 in
theorem rapply_fault (base : ByteArray) (b off cap : Nat) (xs : List DOp) (w : World) (h : base.size ≤ 2000) (hx : xs.length ≤ 5000000000000) (hr : ReadsAt w b off xs) (hl : ∀ o ∈ xs, o.len ≤ 9223372036854775807) (hts : ∀ o ∈ xs, o.tx.size ≤ 9223372036854770000) (hbw : b < w.heap.size)
    (hf : faultF xs base.size < xs.length) :
    Calls Tryz.prog 61 #[.string base, .slice (some ⟨b, off, none⟩) xs.length cap] w fun e w' => e = .returned (.tuple #[.string ⟨#[]⟩, .int .i64 2, .int .i64 (faultF xs base.size)]) ∧ Below w.heap.size w w' := by
  have HC : Hid (Calls Tryz.prog 96 #[.slice (some ⟨b, off, none⟩) xs.length cap, .int .i64 base.size] w fun e w' => e = .returned (.int .i64 (faultF xs base.size)) ∧ Below w.heap.size w w') := by
    have := wrong_two b off cap xs base.size w (by omega) (by omega) hx hr hl hts hbw
    rw [wrongI, if_pos hf] at this
    exact this
  clear hr hl hts hf
  generalize hft : faultF xs base.size = ft at *
  clear hft
  go_enter Tryz.func61, Tryz.ntmps61
  go_wp2_with fail
  refine HC.out.mono ?_
  rintro e w1 ⟨rfl, hb1⟩
  go_wp2
  go_ret3
  exact ⟨rfl, hb1⟩

set_option maxHeartbeats 1000000 in
theorem rapply_ok (base : ByteArray) (b off cap : Nat) (xs : List DOp) (w : World) (h : base.size ≤ 2000) (hx : xs.length ≤ 5000000000000) (hr : ReadsAt w b off xs) (hl : ∀ o ∈ xs, o.len ≤ 9223372036854775807) (hts : ∀ o ∈ xs, o.tx.size ≤ 9223372036854770000) (hbw : b < w.heap.size)
    (hf : faultF xs base.size = xs.length) :
    Calls Tryz.prog 61 #[.string base, .slice (some ⟨b, off, none⟩) xs.length cap] w fun e w' => e = .returned (.tuple #[.string ⟨(madeL base.data.toList xs).toArray⟩, .int .i64 0, .int .i64 0]) ∧ Below w.heap.size w w' := by
  obtain ⟨hall, hsum⟩ := fault_all (b := (base.size : Int)) (xs := xs) (p := none) (i := 0) (m := 0) (by rw [Nat.zero_add]; exact hf) (by omega)
  have hml := madeL_length (B := base.data.toList) (xs := xs) (by rw [← Lib.size_eq]; exact hall)
  have hmade : (madeL base.data.toList xs).length ≤ 2000 := by omega
  have HC : Hid (Calls Tryz.prog 96 #[.slice (some ⟨b, off, none⟩) xs.length cap, .int .i64 base.size] w fun e w' => e = .returned (.int .i64 (-1)) ∧ Below w.heap.size w w') := by
    have := wrong_two b off cap xs base.size w (by omega) (by omega) hx hr hl hts hbw
    rw [wrongI, if_neg (by omega)] at this
    exact this
  have HM : Hid (∀ w1, Below w.heap.size w w1 → Calls Tryz.prog 97 #[.string base, .slice (some ⟨b, off, none⟩) xs.length cap] w1 fun e w' => e = .returned (.string ⟨(madeL base.data.toList xs).toArray⟩) ∧ ∃ n, w' = w1.drewN n) := by
    intro w1 hb
    refine made_two base b off cap xs w1 h hx (fun i o ho => ?_) hall hmade
    obtain ⟨r0, r1, r2⟩ := hr i o ho
    exact ⟨(hb.cell (p := ⟨b, _, none⟩) hbw).trans r0, (hb.cell (p := ⟨b, _, none⟩) hbw).trans r1, (hb.cell (p := ⟨b, _, none⟩) hbw).trans r2⟩
  clear hall hsum hml hf hr hl hts hmade
  go_enter Tryz.func61, Tryz.ntmps61
  go_wp2_with fail
  refine HC.out.mono ?_
  rintro e w1 ⟨rfl, hb1⟩
  go_wp2_with fail
  refine (HM.out w1 hb1).mono ?_
  rintro e w2 ⟨rfl, n, hw2⟩
  have R : Below w.heap.size w w2 := by rw [hw2]; exact hb1.trans (below_drewN _ _ _)
  clear hw2
  go_wp2
  go_ret3
  exact ⟨rfl, R⟩

/-- What Apply of the document's answer says, in one. -/
theorem rapply_any {base : ByteArray} {v : Value} {xs : List DOp} {w : World} (hs : base.size ≤ 9223372036854775807) (hx : xs.length ≤ 5000000000000) (hv : View w v xs) (hl : ∀ o ∈ xs, o.len ≤ 9223372036854775807) (hts : ∀ o ∈ xs, o.tx.size ≤ 9223372036854770000) :
    Calls Tryz.prog 61 #[.string base, v] w fun e w' => e = .returned (.tuple #[.string (appS base xs), .int .i64 (appE base xs), .int .i64 (appP base xs)]) ∧ Below w.heap.size w w' := by
  unfold appS appE appP
  by_cases h : 2000 < base.size
  · simp only [if_pos h]
    exact (rapply_long base v w h hs).mono (fun e w' ⟨a, b⟩ => ⟨a, by rw [b]; exact Below.refl _ _⟩)
  · simp only [if_neg h]
    rcases hv with ⟨rfl, ao, cap, rfl⟩ | ⟨b, off, cap, rfl, hbw, hr⟩
    · exact rapply_nil base ao cap w (by omega)
    · by_cases hf : faultF xs base.size < xs.length
      · simp only [if_pos hf]
        exact rapply_fault base b off cap xs w (by omega) hx hr hl hts hbw hf
      · simp only [if_neg hf]
        exact rapply_ok base b off cap xs w (by omega) hx hr hl hts hbw (by have := faultF_le xs base.size; omega)

/-- What Apply of the program says, in one. -/
theorem capply_any {base : ByteArray} {v : Value} {xs : List DOp} {w : World} (hs : base.size ≤ 9223372036854775807) (hx : xs.length ≤ 5000000000000) (hv : View w v xs) (hl : ∀ o ∈ xs, o.len ≤ 9223372036854775807) :
    Calls Tryz.prog 60 #[.string base, v] w fun e w' => e = .returned (.tuple #[.string (appS base xs), .int .i64 (appE base xs), .int .i64 (appP base xs)]) ∧ Below w.heap.size w w' := by
  refine capply_of ?_
  unfold appS appE appP
  by_cases h : 2000 < base.size
  · simp only [if_pos h]
    exact (apply_long base v w h hs).mono (fun e w' ⟨a, b⟩ => ⟨a, by rw [b]; exact Below.refl _ _⟩)
  · simp only [if_neg h]
    rcases hv with ⟨rfl, ao, cap, rfl⟩ | ⟨b, off, cap, rfl, hbw, hr⟩
    · exact apply_nil base ao cap w (by omega)
    · by_cases hf : faultF xs base.size < xs.length
      · simp only [if_pos hf]
        exact apply_fault base b off cap xs w (by omega) hx hr hl hbw hf
      · simp only [if_neg hf]
        exact apply_ok base b off cap xs w (by omega) hx hr hl hbw (by have := faultF_le xs base.size; omega)
end Go.Proofs.YtabpiaaknjcnkaaGreat

/-
  A step of Diff, Apply or Sum: the common words.
-/
namespace Go.Proofs.YtabpiaaknjcnkaaGreat
open Go.RowKit
set_option linter.unusedVariables false
set_option linter.unusedSimpArgs false
set_option maxRecDepth 100000

/-- A list of the script's: it lies below B0. -/
def LView (B0 : Nat) (w : World) (v : Value) (xs : List DOp) : Prop :=
  (xs = [] ∧ ∃ ao cap, v = .slice ao 0 cap) ∨ ∃ b off cap, v = .slice (some ⟨b, off, none⟩) xs.length cap ∧ b < B0 ∧ ReadsAt w b off xs
theorem LView.kept {B0 : Nat} {w w' : World} {v : Value} {xs : List DOp} (h : LView B0 w v xs) (hb : Below B0 w w') : LView B0 w' v xs := by
  rcases h with h | ⟨b, off, cap, rfl, hlt, hr⟩
  · exact .inl h
  · refine .inr ⟨b, off, cap, rfl, hlt, fun i o ho => ?_⟩
    obtain ⟨r0, r1, r2⟩ := hr i o ho
    exact ⟨(hb.cell (p := ⟨b, _, none⟩) hlt).trans r0, (hb.cell (p := ⟨b, _, none⟩) hlt).trans r1, (hb.cell (p := ⟨b, _, none⟩) hlt).trans r2⟩
theorem LView.view {B0 : Nat} {w : World} {v : Value} {xs : List DOp} (h : LView B0 w v xs) (hb : B0 ≤ w.heap.size) : View w v xs := by
  rcases h with h | ⟨b, off, cap, rfl, hlt, hr⟩
  · exact .inl h
  · exact .inr ⟨b, off, cap, rfl, by omega, hr⟩
theorem LView.slice {B0 : Nat} {w : World} {v : Value} {xs : List DOp} (h : LView B0 w v xs) : ∃ ao cap, v = .slice ao xs.length cap := by
  rcases h with ⟨rfl, ao, cap, rfl⟩ | ⟨b, off, cap, rfl, _⟩
  · exact ⟨ao, cap, rfl⟩
  · exact ⟨_, _, rfl⟩

/-- The book stands where its blocks stand. -/
theorem BookAt.kept {w w' : World} {B0 Wb : Nat} {xv yv bv : Value} {es : List Entry} {S S' : Nat → Prop} (h : BookAt w B0 Wb xv yv bv es S) (hk : ∀ q, S q → w'.heap[q]? = w.heap[q]?) (hS : ∀ q, S q → S' q) : BookAt w' B0 Wb xv yv bv es S' := by
  refine ⟨by rw [hk _ h.wbB]; exact h.blk, h.wb0, hS _ h.wbB, row_block h.row (fun g hg => hk g (h.lowr g hg)), fun g hg => hS _ (h.lowr g hg), fun e he => ?_⟩
  have k := h.each e he
  exact ⟨own_block k.l (fun g hg => hk g (k.lowl g hg)), own_block k.a (fun g hg => hk g (k.lowa g hg)), own_block k.b (fun g hg => hk g (k.lowb g hg)), own_block k.c (fun g hg => hk g (k.lowc g hg)), k.n,
    fun g hg => hS _ (k.lowl g hg), fun g hg => hS _ (k.lowa g hg), fun g hg => hS _ (k.lowb g hg), fun g hg => hS _ (k.lowc g hg)⟩

def dLong (s t : ByteArray) : Prop := 2000 < s.size ∨ 2000 < t.size
def dLongDec (s t : ByteArray) : Decidable (dLong s t) := inferInstanceAs (Decidable (_ ∨ _))
def dL (s t : ByteArray) : List DOp := @ite _ (dLong s t) (dLongDec s t) [] (diffF s t)
def dE (s t : ByteArray) : Int := @ite _ (dLong s t) (dLongDec s t) 1 0

set_option maxHeartbeats 1000000 in
theorem rdiff_long (base next : ByteArray) (w : World) (hs : base.size ≤ 9223372036854775807) (hn : next.size ≤ 9223372036854775807) (h : 2000 < base.size ∨ 2000 < next.size) :
    Calls Tryz.prog 57 #[.string base, .string next] w fun e w' => e = .returned (.tuple #[.slice none 0 0, .int .i64 1]) ∧ w' = w := by
  by_cases h1 : 2000 < base.size
  · go_enter Tryz.func57, Tryz.ntmps57
    go_wp2
    go_ret2
    exact ⟨rfl, rfl⟩
  · have h2 : 2000 < next.size := by omega
    clear h
    go_enter Tryz.func57, Tryz.ntmps57
    go_wp2
    go_ret2
    exact ⟨rfl, rfl⟩

theorem cdiff_any (s t : ByteArray) (w : World) (hs : s.size ≤ 9223372036854775807) (ht : t.size ≤ 9223372036854775807) :
    Calls Tryz.prog 56 #[.string s, .string t] w fun e w' => ∃ ao cap, e = .returned (.tuple #[.slice ao (dL s t).length cap, .int .i64 (dE s t)]) ∧ OwnOps w' w.heap.size (.slice ao (dL s t).length cap) (dL s t) ∧ Below w.heap.size w w' := by
  unfold dL dE
  by_cases h : dLong s t
  · simp only [if_pos h]
    refine (cdiff_long s t w hs ht h).mono ?_
    rintro e w' ⟨rfl, rfl⟩
    exact ⟨none, 0, rfl, OwnOps.nil _ _, Below.refl _ _⟩
  · simp only [if_neg h]
    unfold dLong at h
    refine (cdiff_ok s t w (by omega) (by omega)).mono ?_
    rintro e w' ⟨v, rfl, ho, hb⟩
    obtain ⟨ao, cap, rfl⟩ := ho.slice
    exact ⟨ao, cap, rfl, ho, hb⟩
theorem rdiff_any (s t : ByteArray) (w : World) (hs : s.size ≤ 9223372036854775807) (ht : t.size ≤ 9223372036854775807) :
    Calls Tryz.prog 57 #[.string s, .string t] w fun e w' => ∃ ao cap, e = .returned (.tuple #[.slice ao (dL s t).length cap, .int .i64 (dE s t)]) ∧ OwnOps w' w.heap.size (.slice ao (dL s t).length cap) (dL s t) ∧ Below w.heap.size w w' := by
  unfold dL dE
  by_cases h : dLong s t
  · simp only [if_pos h]
    refine (rdiff_long s t w hs ht h).mono ?_
    rintro e w' ⟨rfl, rfl⟩
    exact ⟨none, 0, rfl, OwnOps.nil _ _, Below.refl _ _⟩
  · simp only [if_neg h]
    unfold dLong at h
    refine (rdiff_ok s t w (by omega) (by omega)).mono ?_
    rintro e w' ⟨v, rfl, ho, hb⟩
    obtain ⟨ao, cap, rfl⟩ := ho.slice
    exact ⟨ao, cap, rfl, ho, hb⟩
theorem dL_length (s t : ByteArray) : (dL s t).length ≤ 100000 := by
  unfold dL
  by_cases h : dLong s t
  · rw [if_pos h]; simp
  · rw [if_neg h]
    unfold dLong at h
    have := @descF_length s t
    unfold diffF
    split
    · unfold addT; split <;> simp
    · omega
end Go.Proofs.YtabpiaaknjcnkaaGreat

/-
  A step of Diff: the answers are the same, the list comes into the book, what was lent reads as it did.
-/
namespace Go.Proofs.YtabpiaaknjcnkaaGreat
open Go.RowKit
set_option linter.unusedVariables false
set_option linter.unusedSimpArgs false
set_option maxRecDepth 100000

/-- What a lent list is, once it lies there. -/
def Lent (w : World) (g : Nat) (xs : List DOp) : Prop := OwnOps w g (.slice (some ⟨g, 0, none⟩) (xs.length + 2) (xs.length + 2)) (xs ++ notYours :: [noOp])
theorem Lent.kept {w w' : World} {g : Nat} {xs : List DOp} (h : Lent w g xs) (hk : w'.heap[g]? = w.heap[g]?) : Lent w' g xs := own_block h (fun q hq => by
  obtain rfl : g = q := by simpa [Value.ownBlock] using hq
  exact hk)
theorem Lent.lt {w : World} {g : Nat} {xs : List DOp} (h : Lent w g xs) : g < w.heap.size := row_own_lt h rfl

theorem below_back {B0 g : Nat} {w w6 w7 : World} (g7 : w6.grownBy w7 (some g)) (c6 : Below B0 w w6) (hg : B0 ≤ g) (hB : B0 ≤ w6.heap.size) : Below B0 w w7 :=
  c6.trans ⟨g7.os, g7.tape, g7.output, g7.size, fun k hk => g7.block k (by omega) (fun e => by injection e with e; omega)⟩

/-- Behind the first of the two: all else stands. -/
theorem after_back {w w6 w7 : World} {B0 Wb g1 g2 h0 h2 : Nat} {xv yv bv : Value} {es : List Entry} {ys : List DOp} {o : Obj} (g7 : w6.grownBy w7 (some g1)) (c6 : Below B0 w w6) (bk6 : BookAt w6 B0 Wb xv yv bv es (fun q => q < h0 ∨ (h2 ≤ q ∧ q < w6.heap.size))) (ob6 : w6.heap[h0]? = some o) (q26 : Lent w6 g2 ys)
    (hB0 : B0 ≤ h0) (hg1 : g1 = h0 + 1) (hg2 : g1 < g2) (hh2 : g2 < h2) (hh6 : h2 ≤ w6.heap.size) (h6 : h0 < w6.heap.size) (hB6 : B0 ≤ w6.heap.size) :
    Below B0 w w7 ∧ BookAt w7 B0 Wb xv yv bv es (fun q => q < h0 ∨ (h2 ≤ q ∧ q < w7.heap.size)) ∧ w7.heap[h0]? = some o ∧ Lent w7 g2 ys ∧ w6.heap.size ≤ w7.heap.size := by
  have hs := g7.size
  refine ⟨below_back g7 c6 (by omega) hB6, bk6.kept (fun q hq => g7.block q (by rcases hq with h | h <;> omega) (fun e => by injection e with e; rcases hq with h | h <;> omega)) (fun q hq => by rcases hq with h | h; exact .inl h; exact .inr ⟨h.1, by omega⟩), ?_, q26.kept (g7.block _ (by omega) (fun e => by injection e with e; omega)), hs⟩
  rw [g7.block h0 h6 (fun e => by injection e with e; omega)]; exact ob6

set_option maxHeartbeats 4000000 in
theorem wdeltas_diff (w : World) (B0 Wb : Nat) (xv yv bv : Value) (es : List Entry) (hbook : BookAt w B0 Wb xv yv bv es (· < w.heap.size)) (hes : es.length ≤ 1300000000000) (hB0 : B0 ≤ w.heap.size) (a b c : Int) (s t : ByteArray) (vl vm : Value) (xs ys : List DOp)
    (hs : s.size ≤ 9223372036854775807) (ht : t.size ≤ 9223372036854775807) (hx : xs.length ≤ 4398046511000) (hy : ys.length ≤ 4398046511000) (hl : LView B0 w vl xs) (hm : LView B0 w vm ys) :
    Calls Tryz.prog 30 #[.pointer (some ⟨Wb, 0, none⟩), .agg #[.int .i64 1, .int .i64 a, .int .i64 b, .int .i64 c, .string s, .string t, vl, vm]] w fun e w' =>
      e = .returned (.bool true) ∧ (∃ bv' es', es'.length = es.length + 1 ∧ BookAt w' B0 Wb xv yv bv' es' (· < w'.heap.size)) ∧ Below B0 w w' := by
  have HBK : Hid (BookAt w B0 Wb xv yv bv es (· < w.heap.size)) := hbook
  have hWb : Wb < w.heap.size := hbook.wbB
  have hW0 : B0 ≤ Wb := hbook.wb0
  have HL : Hid (LView B0 w vl xs) := hl
  have HM : Hid (LView B0 w vm ys) := hm
  obtain ⟨lo, lc, hvl⟩ := hl.slice
  obtain ⟨mo, mc, hvm⟩ := hm.slice
  rw [hvl] at HL
  rw [hvm] at HM
  rw [hvl, hvm]
  clear hbook hl hm hvl hvm
  have hD := dL_length s t
  go_enter Tryz.func30, Tryz.ntmps30
  go_wp2_with fail
  refine (lent_any _ xs _ (by omega) ((HL.out.view hB0).kept ((Below.refl _ _).alloc (Nat.le_refl _) _))).mono ?_
  rintro e w1 ⟨rfl, o1, b1⟩
  have ob1 : w1.heap[w.heap.size]? = some (.cells #[.int .i64 1, .int .i64 a, .int .i64 b, .int .i64 c, .string s, .string t, .slice lo xs.length lc, .slice mo ys.length mc] 61 (0, 0)) := (b1.block _ (by simp)).trans (heap_alloc_new _ _)
  have c1 : Below w.heap.size w w1 := ((Below.refl _ w).alloc (Nat.le_refl _) _).trans (b1.mono (by simp))
  have p1 : Lent w1 (w.heap.size + 1) xs := by
    have h := o1
    rw [alloc_size1] at h
    exact h
  clear o1 b1
  have hs1 := c1.size
  have hp1 := p1.lt
  have k17 : w1.cell? ⟨w.heap.size, 7, none⟩ = some (.slice mo ys.length mc) := by rw [Lib.cell_of_heap ob1]; rfl
  go_wp2_with fail
  refine (lent_any _ ys _ (by omega) ((HM.out.view hB0).kept c1)).mono ?_
  rintro e w2 ⟨rfl, o2, b2⟩
  have p2 : Lent w2 w1.heap.size ys := o2
  have q1 : Lent w2 (w.heap.size + 1) xs := p1.kept (b2.block _ hp1)
  have ob2 := (b2.block _ (show w.heap.size < w1.heap.size by omega)).trans ob1
  have c2 : Below w.heap.size w w2 := c1.trans (b2.mono hs1)
  clear o2 p1 ob1 k17 c1
  have hp2 := p2.lt
  have hs2 := b2.size
  clear b2
  have k20 : w2.cell? ⟨w.heap.size, 0, none⟩ = some (.int .i64 1) := by rw [Lib.cell_of_heap ob2]; rfl
  have k24 : w2.cell? ⟨w.heap.size, 4, none⟩ = some (.string s) := by rw [Lib.cell_of_heap ob2]; rfl
  have k25 : w2.cell? ⟨w.heap.size, 5, none⟩ = some (.string t) := by rw [Lib.cell_of_heap ob2]; rfl
  go_wp2_with fail
  refine (cdiff_any s t _ hs ht).mono ?_
  rintro e w3 ⟨a3, c3, rfl, o3, b3⟩
  have k34 : w3.cell? ⟨w.heap.size, 4, none⟩ = some (.string s) := (b3.cell (p := ⟨w.heap.size, 4, none⟩) (by show w.heap.size < w2.heap.size; omega)).trans k24
  have k35 : w3.cell? ⟨w.heap.size, 5, none⟩ = some (.string t) := (b3.cell (p := ⟨w.heap.size, 5, none⟩) (by show w.heap.size < w2.heap.size; omega)).trans k25
  have hs3 := b3.size
  clear k20 k24 k25
  go_wp2_with fail
  refine (rdiff_any s t _ hs ht).mono ?_
  rintro e w4 ⟨a4, c4, rfl, o4, b4⟩
  have u4 : OwnOps w4 w2.heap.size (.slice a3 (dL s t).length c3) (dL s t) := own_block o3 (fun g hg => b4.block g (row_own_lt o3 hg))
  have hs4 := b4.size
  have b24 : Below w2.heap.size w2 w4 := b3.trans (b4.mono hs3)
  clear k34 k35 b3 b4 o3
  have HSAME : Hid (Calls Tryz.prog 58 #[.slice a3 (dL s t).length c3, .slice a4 (dL s t).length c4] w4 fun e w' => e = .returned (.bool true) ∧ ∃ n, w' = w4.drewN n) := sameOps_any (by omega) (View.of_own u4) (View.of_own o4)
  clear o4
  generalize hDD : dL s t = D at *
  generalize dE s t = E at *
  go_wp2_with fail
  refine HSAME.out.mono ?_
  rintro e w5 ⟨rfl, n5, hw5⟩
  have u5 : OwnOps w5 w2.heap.size (.slice a3 D.length c3) D := by rw [hw5]; exact u4
  have b25 : Below w2.heap.size w2 w5 := by rw [hw5]; exact b24.trans (below_drewN _ _ _)
  clear hw5 u4 b24 HSAME
  have hs5 := b25.size
  have bk5 : BookAt w5 B0 Wb xv yv bv es (· < w.heap.size) := HBK.out.kept (fun q hq => (b25.block q (by have : q < w.heap.size := hq; omega)).trans (c2.block q hq)) (fun q hq => hq)
  have q15 : Lent w5 (w.heap.size + 1) xs := q1.kept (b25.block _ (by omega))
  have q25 : Lent w5 w1.heap.size ys := p2.kept (b25.block _ (by omega))
  have ob5 := (b25.block _ (show w.heap.size < w2.heap.size by omega)).trans ob2
  have c5 : Below w.heap.size w w5 := c2.trans (b25.mono (by omega))
  clear q1 p2 ob2 c2 b25
  go_wp2_with fail
  refine (bops_walk w5 B0 Wb xv yv bv es (· < w.heap.size) w2.heap.size _ D bk5 (fun q hq => by have : q < w.heap.size := hq; omega) hes u5 hD hs5 (by omega)).mono ?_
  rintro e w6 ⟨rfl, ⟨bv6, e6, bk6⟩, kp6, bb6⟩
  have hbvb : ∀ q, w.heap.size ≤ q → bv.ownBlock ≠ some q := fun q hq e => by have : q < w.heap.size := HBK.out.lowr q e; omega
  have hs6 := bb6.size
  have ob6 := (kp6 _ (show w.heap.size < w2.heap.size by omega) (by omega) (hbvb _ (Nat.le_refl _))).trans ob5
  have q16 : Lent w6 (w.heap.size + 1) xs := q15.kept (kp6 _ (by omega) (by omega) (hbvb _ (by omega)))
  have q26 : Lent w6 w1.heap.size ys := q25.kept (kp6 _ (by omega) (by omega) (hbvb _ (by omega)))
  have c6 : Below B0 w w6 := (c5.mono hB0).trans bb6
  have hl6 := c6.size
  clear bb6 kp6 q15 q25 ob5 c5 bk5 u5
  have k66 : w6.cell? ⟨w.heap.size, 6, none⟩ = some (.slice lo xs.length lc) := by rw [Lib.cell_of_heap ob6]; rfl
  have HBACK : Hid (Calls Tryz.prog 70 #[.slice (some ⟨w.heap.size + 1, 0, none⟩) (xs.length + 2) (xs.length + 2), .slice lo xs.length lc] w6 fun e w' => e = .returned (.bool true) ∧ w6.grownBy w' (some (w.heap.size + 1))) :=
    back_list (w.heap.size + 1) (w.heap.size + 1) xs _ w6 (by omega) q16 (Nat.le_refl _) ((HL.out.kept c6).view (by omega))
  go_wp2_with fail
  refine HBACK.out.mono ?_
  rintro e w7 ⟨rfl, g7⟩
  obtain ⟨c7, bk7, ob7, q27, hs7⟩ := after_back g7 c6 bk6 ob6 q26 hB0 (by omega) (by omega) (by omega) (by omega) (by omega) (by omega)
  clear g7 c6 bk6 ob6 q26 q16 k66 HBACK
  have k77 : w7.cell? ⟨w.heap.size, 7, none⟩ = some (.slice mo ys.length mc) := by rw [Lib.cell_of_heap ob7]; rfl
  have HBACK : Hid (Calls Tryz.prog 70 #[.slice (some ⟨w1.heap.size, 0, none⟩) (ys.length + 2) (ys.length + 2), .slice mo ys.length mc] w7 fun e w' => e = .returned (.bool true) ∧ w7.grownBy w' (some w1.heap.size)) :=
    back_list w1.heap.size w1.heap.size ys _ w7 (by omega) q27 (Nat.le_refl _) ((HM.out.kept c7).view (by have := c7.size; omega))
  go_wp2_with fail
  refine HBACK.out.mono ?_
  rintro e w8 ⟨rfl, g8⟩
  have c8 : Below B0 w w8 := below_back g8 c7 (by omega) (by have := c7.size; omega)
  have bk8 : BookAt w8 B0 Wb xv yv bv6 (es ++ [e6]) (· < w8.heap.size) := bk7.kept (fun q hq => g8.block q (by rcases hq with h | h <;> omega) (fun e => by injection e with e; rcases hq with h | h <;> omega)) (fun q hq => by have := g8.size; rcases hq with h | h <;> (show q < w8.heap.size; omega))
  clear g8 c7 bk7 ob7 q27 k77 HBACK
  go_wp2
  go_ret
  exact ⟨rfl, ⟨bv6, es ++ [e6], by simp, bk8⟩, c8⟩
end Go.Proofs.YtabpiaaknjcnkaaGreat

/-
  Plain facts on the sum: a move is one to one; a byte that is another one makes another sum.
-/
namespace Go.Proofs.YtabpiaaknjcnkaaGreat
set_option linter.unusedVariables false
set_option linter.unusedSimpArgs false

/-- One move to the right. -/
def mv (x : Nat) : Nat := if x % 2 = 1 then (x / 2) ^^^ 3988292384 else x / 2
def mvs : Nat → Nat → Nat
  | 0, x => x
  | k + 1, x => mv (mvs k x)

theorem mv_lt {x : Nat} (h : x < 4294967296) : mv x < 4294967296 := by
  unfold mv
  split
  · exact Nat.xor_lt_two_pow (n := 32) (by omega) (by decide)
  · omega
theorem mvs_lt {x : Nat} (h : x < 4294967296) (k : Nat) : mvs k x < 4294967296 := by
  induction k with
  | zero => exact h
  | succ k ih => exact mv_lt ih

theorem xor_mod2 (x y : Nat) : (x ^^^ y) % 2 = (x % 2 + y % 2) % 2 := by
  have h : (x ^^^ y).testBit 0 = (x.testBit 0 ^^ y.testBit 0) := Nat.testBit_xor ..
  simp only [Nat.testBit_zero] at h
  have hx : x % 2 = 0 ∨ x % 2 = 1 := by omega
  have hy : y % 2 = 0 ∨ y % 2 = 1 := by omega
  have hz : (x ^^^ y) % 2 = 0 ∨ (x ^^^ y) % 2 = 1 := by omega
  rcases hx with hx | hx <;> rcases hy with hy | hy <;> rcases hz with hz | hz <;> simp_all
theorem xor_div2 (x y : Nat) : (x ^^^ y) / 2 = (x / 2) ^^^ (y / 2) := by
  have := Nat.shiftRight_xor_distrib (a := x) (b := y) (i := 1)
  simpa [Nat.shiftRight_succ] using this
theorem xor_cancel {a b p : Nat} (h : a ^^^ p = b ^^^ p) : a = b := by
  have := congrArg (· ^^^ p) h
  simpa [Nat.xor_assoc] using this

/-- With the polynomial the highest bit is set. -/
theorem high {a : Nat} (h : a < 2147483648) : 2147483648 ≤ a ^^^ 3988292384 := by
  have hb : (a ^^^ 3988292384).testBit 31 = true := by
    rw [Nat.testBit_xor, Nat.testBit_lt_two_pow (by simpa using h)]
    decide
  exact Nat.ge_two_pow_of_testBit hb

theorem mv_inj {x y : Nat} (hx : x < 4294967296) (hy : y < 4294967296) (h : mv x = mv y) : x = y := by
  unfold mv at h
  have h1 : x / 2 < 2147483648 := by omega
  have h2 : y / 2 < 2147483648 := by omega
  have g1 := high h1
  have g2 := high h2
  split at h <;> split at h
  · have := xor_cancel h; omega
  · omega
  · omega
  · omega
theorem mvs_inj {x y : Nat} (hx : x < 4294967296) (hy : y < 4294967296) (k : Nat) (h : mvs k x = mvs k y) : x = y := by
  induction k with
  | zero => exact h
  | succ k ih => exact ih (mv_inj (mvs_lt hx k) (mvs_lt hy k) h)

/-- A byte. -/
def upd (v c : Nat) : Nat := mvs 8 (v ^^^ c)
theorem xor_lt {v c : Nat} (hv : v < 4294967296) (hc : c < 256) : v ^^^ c < 4294967296 := Nat.xor_lt_two_pow (n := 32) hv (by omega)
theorem upd_lt {v c : Nat} (hv : v < 4294967296) (hc : c < 256) : upd v c < 4294967296 := mvs_lt (xor_lt hv hc) 8
theorem upd_inj_v {v w c : Nat} (hv : v < 4294967296) (hw : w < 4294967296) (hc : c < 256) (h : upd v c = upd w c) : v = w :=
  xor_cancel (mvs_inj (xor_lt hv hc) (xor_lt hw hc) 8 h)
theorem upd_inj_c {v c d : Nat} (hv : v < 4294967296) (hc : c < 256) (hd : d < 256) (h : upd v c = upd v d) : c = d := by
  have := mvs_inj (xor_lt hv hc) (xor_lt hv hd) 8 h
  rw [Nat.xor_comm v c, Nat.xor_comm v d] at this
  exact xor_cancel this

def run (v : Nat) (l : List UInt8) : Nat := l.foldl (fun v c => upd v c.toNat) v
theorem run_lt {v : Nat} (hv : v < 4294967296) (l : List UInt8) : run v l < 4294967296 := by
  induction l generalizing v with
  | nil => exact hv
  | cons c r ih => exact ih (upd_lt hv c.toNat_lt)
theorem run_snoc (v : Nat) (l : List UInt8) (c : UInt8) : run v (l ++ [c]) = upd (run v l) c.toNat := by simp [run]
theorem run_append (v : Nat) (l m : List UInt8) : run v (l ++ m) = run (run v l) m := by simp [run]
theorem run_inj {v w : Nat} (hv : v < 4294967296) (hw : w < 4294967296) (l : List UInt8) (h : run v l = run w l) : v = w := by
  induction l generalizing v w with
  | nil => exact h
  | cons c r ih => exact upd_inj_v hv hw c.toNat_lt (ih (upd_lt hv c.toNat_lt) (upd_lt hw c.toNat_lt) h)

def sumL (l : List UInt8) : Nat := 4294967295 - run 4294967295 l
theorem sumL_lt (l : List UInt8) : sumL l < 4294967296 := by unfold sumL; omega

/-- One byte that is another one makes another sum. -/
theorem sumL_other (a b : List UInt8) (c d : UInt8) (h : c ≠ d) : sumL (a ++ c :: b) ≠ sumL (a ++ d :: b) := by
  intro e
  have hv : run 4294967295 a < 4294967296 := run_lt (by decide) a
  have h1 := run_lt (by decide : (4294967295 : Nat) < 4294967296) (a ++ c :: b)
  have h2 := run_lt (by decide : (4294967295 : Nat) < 4294967296) (a ++ d :: b)
  have e2 : run 4294967295 (a ++ c :: b) = run 4294967295 (a ++ d :: b) := by unfold sumL at e; omega
  rw [run_append, run_append] at e2
  have e3 : upd (run 4294967295 a) c.toNat = upd (run 4294967295 a) d.toNat :=
    run_inj (upd_lt hv c.toNat_lt) (upd_lt hv d.toNat_lt) b e2
  exact h (UInt8.toNat_inj.1 (upd_inj_c hv c.toNat_lt d.toNat_lt e3))

/-! Three ways to the same byte step. -/
theorem mv_xor_even (x y : Nat) : mv (x ^^^ 2 * y) = mv x ^^^ y := by
  have hm : (x ^^^ 2 * y) % 2 = x % 2 := by rw [xor_mod2]; omega
  have hd : (x ^^^ 2 * y) / 2 = x / 2 ^^^ y := by rw [xor_div2, Nat.mul_div_cancel_left _ (by decide)]
  unfold mv
  rw [hm, hd]
  split
  · rw [Nat.xor_assoc, Nat.xor_assoc, Nat.xor_comm y]
  · rfl
theorem mvs_xor (k x y : Nat) : mvs k (x ^^^ 2 ^ k * y) = mvs k x ^^^ y := by
  induction k generalizing y with
  | zero => simp [mvs]
  | succ k ih =>
    show mv (mvs k (x ^^^ 2 ^ (k + 1) * y)) = mv (mvs k x) ^^^ y
    rw [show 2 ^ (k + 1) * y = 2 ^ k * (2 * y) from by rw [Nat.pow_succ, Nat.mul_assoc], ih, mv_xor_even]

/-- By the lowest byte, and what is moved. -/
theorem upd_low {v c : Nat} (hc : c < 256) : upd v c = mvs 8 ((v % 256) ^^^ c) ^^^ (v / 256) := by
  have e : v ^^^ c = ((v % 256) ^^^ c) ^^^ 2 ^ 8 * (v / 256) := by
    have hv : v = (v % 256) ^^^ (2 ^ 8 * (v / 256)) := by
      apply Nat.eq_of_testBit_eq
      intro i
      rw [Nat.testBit_xor, show (256 : Nat) = 2 ^ 8 from rfl, Nat.testBit_mod_two_pow, Nat.testBit_two_pow_mul, Nat.testBit_div_two_pow]
      by_cases hi : i < 8
      · have : ¬ 8 ≤ i := by omega
        simp [hi, this]
      · have : 8 ≤ i := by omega
        simp [hi, this]
    have h1 : v ^^^ c = ((v % 256) ^^^ (2 ^ 8 * (v / 256))) ^^^ c := by rw [← hv]
    rw [h1, Nat.xor_assoc, Nat.xor_comm (2 ^ 8 * (v / 256)), Nat.xor_assoc]
  rw [upd, e, mvs_xor]

/-- Bit by bit, against the byte's own bits. -/
def bitStep (v b : Nat) : Nat := if v % 2 ≠ b then (v / 2) ^^^ 3988292384 else v / 2
def bitRun (c : Nat) : Nat → Nat → Nat
  | 0, v => v
  | k + 1, v => bitStep (bitRun c k v) (c / 2 ^ k % 2)
theorem bitRun_eq (v c k : Nat) : bitRun c k v = mvs k (v ^^^ c) ^^^ (c / 2 ^ k) := by
  induction k with
  | zero => simp [bitRun, mvs, Nat.xor_assoc]
  | succ k ih =>
    show bitStep (bitRun c k v) (c / 2 ^ k % 2) = mv (mvs k (v ^^^ c)) ^^^ (c / 2 ^ (k + 1))
    rw [ih]
    generalize mvs k (v ^^^ c) = u
    have hm : (u ^^^ c / 2 ^ k) % 2 = (u % 2 + c / 2 ^ k % 2) % 2 := xor_mod2 _ _
    have hd : (u ^^^ c / 2 ^ k) / 2 = u / 2 ^^^ c / 2 ^ (k + 1) := by rw [xor_div2, Nat.div_div_eq_div_mul, ← Nat.pow_succ]
    unfold bitStep mv
    rw [hd]
    by_cases hu : u % 2 = 1
    · rw [if_pos (by omega), if_pos hu, Nat.xor_assoc, Nat.xor_assoc, Nat.xor_comm (c / 2 ^ (k + 1))]
    · rw [if_neg (by omega), if_neg hu]
theorem bitRun_upd (v c : Nat) (hc : c < 256) : bitRun c 8 v = upd v c := by
  rw [bitRun_eq, show c / 2 ^ 8 = 0 from by omega, Nat.xor_zero, upd]
theorem xor_ones {v : Nat} (h : v < 4294967296) : 4294967295 ^^^ v = 4294967295 - v := by
  apply Nat.eq_of_testBit_eq
  intro i
  have h1 := Nat.testBit_two_pow_sub_succ (x := v) (n := 32) h i
  rw [show 2 ^ 32 - (v + 1) = 4294967295 - v from by omega] at h1
  rw [h1, Nat.testBit_xor, show (4294967295 : Nat) = 2 ^ 32 - 1 from rfl, Nat.testBit_two_pow_sub_one]
  by_cases hi : i < 32
  · simp [hi]
  · have : v.testBit i = false := Nat.testBit_lt_two_pow (Nat.lt_of_lt_of_le h (by
      have : (2 : Nat) ^ 32 ≤ 2 ^ i := Nat.pow_le_pow_right (by decide) (by omega)
      simpa using this))
    simp [hi, this]
theorem bitRun_lt {v c : Nat} (hv : v < 4294967296) (hc : c < 256) (k : Nat) : bitRun c k v < 4294967296 := by
  rw [bitRun_eq]
  refine Nat.xor_lt_two_pow (n := 32) (mvs_lt (xor_lt hv hc) k) ?_
  have : c / 2 ^ k ≤ c := Nat.div_le_self _ _
  omega
end Go.Proofs.YtabpiaaknjcnkaaGreat
