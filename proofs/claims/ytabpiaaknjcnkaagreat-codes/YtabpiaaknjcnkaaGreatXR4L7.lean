/- The texts R4, L7, one behind the other. -/
import Derived.Test.YtabpiaaknjcnkaaGreatR2
import Derived.Test.YtabpiaaknjcnkaaGreatXWCL1
import Derived.LoopTactic
import Derived.Test.YtabpiaaknjcnkaaGreatXL6R1
import Derived.Test.YtabpiaaknjcnkaaGreatR3
/-
  The document's answer: Apply; the program's Apply in the same words.
-/
namespace Go.Proofs.YtabpiaaknjcnkaaGreat
open Go.RowKit
set_option linter.unusedVariables false
set_option linter.unusedSimpArgs false
set_option maxRecDepth 100000

def appS (base : ByteArray) (xs : List DOp) : ByteArray := if 2000 < base.size then ⟨#[]⟩ else if faultF xs base.size < xs.length then ⟨#[]⟩ else ⟨(madeL base.data.toList xs).toArray⟩
def appE (base : ByteArray) (xs : List DOp) : Int := if 2000 < base.size then 1 else if faultF xs base.size < xs.length then 2 else 0
def appP (base : ByteArray) (xs : List DOp) : Int := if 2000 < base.size then 0 else if faultF xs base.size < xs.length then faultF xs base.size else 0

set_option maxHeartbeats 1000000 in
theorem wrong_nil (ao : Option Addr) (cap : Nat) (bs : Int) (w : World) :
    Calls Tryz.prog 96 #[.slice ao 0 cap, .int .i64 bs] w fun e w' => e = .returned (.int .i64 (-1)) ∧ w = w' := by
  go_enter Tryz.func96, Tryz.ntmps96
  go_wp2
  go_loopw [5, 6] (fun m c wr => m = .int .i64 0 ∧ c = .int .i64 0 ∧ w = wr) (fun _ _ _ => 0)
  case atStart => exact ⟨rfl, rfl, rfl⟩
  case round =>
    obtain ⟨rfl, rfl, rfl⟩ := hrel
    go_wp2
    go_ret
    exact ⟨rfl, rfl⟩

set_option maxHeartbeats 1000000 in
theorem made_nil (base : ByteArray) (ao : Option Addr) (cap : Nat) (w : World) :
    Calls Tryz.prog 97 #[.string base, .slice ao 0 cap] w fun e w' => e = .returned (.string ⟨#[]⟩) ∧ w = w' := by
  go_enter Tryz.func97, Tryz.ntmps97
  go_wp2
  go_loopw [5, 6] (fun m c wr => m = .string ⟨#[]⟩ ∧ c = .int .i64 0 ∧ w = wr) (fun _ _ _ => 0)
  case atStart => exact ⟨rfl, rfl, rfl⟩
  case round =>
    obtain ⟨rfl, rfl, rfl⟩ := hrel
    go_wp2
    go_ret
    exact ⟨rfl, rfl⟩

set_option maxHeartbeats 1000000 in
theorem rapply_long (base : ByteArray) (v : Value) (w : World) (h : 2000 < base.size) (hs : base.size ≤ 9223372036854775807) :
    Calls Tryz.prog 61 #[.string base, v] w fun e w' => e = .returned (.tuple #[.string ⟨#[]⟩, .int .i64 1, .int .i64 0]) ∧ w' = w := by
  go_enter Tryz.func61, Tryz.ntmps61
  go_wp2
  go_ret3
  exact ⟨rfl, rfl⟩

set_option maxHeartbeats 1000000 in
theorem rapply_nil (base : ByteArray) (ao : Option Addr) (cap : Nat) (w : World) (h : base.size ≤ 2000) :
    Calls Tryz.prog 61 #[.string base, .slice ao 0 cap] w fun e w' => e = .returned (.tuple #[.string ⟨#[]⟩, .int .i64 0, .int .i64 0]) ∧ Below w.heap.size w w' := by
  go_enter Tryz.func61, Tryz.ntmps61
  go_wp2_with fail
  refine (wrong_nil ao cap _ _).mono ?_
  rintro e w1 ⟨rfl, rfl⟩
  go_wp2_with fail
  refine (made_nil base ao cap _).mono ?_
  rintro e w1 ⟨rfl, rfl⟩
  go_wp2
  go_ret3
  exact ⟨rfl, Below.refl _ _⟩

set_option maxHeartbeats 1000000 in
theorem rapply_fault (base : ByteArray) (b off cap : Nat) (xs : List DOp) (w : World) (h : base.size ≤ 2000) (hx : xs.length ≤ 5000000000000) (hr : ReadsAt w b off xs) (hl : ∀ o ∈ xs, o.len ≤ 9223372036854775807) (hts : ∀ o ∈ xs, o.tx.size ≤ 9223372036854770000) (hbw : b < w.heap.size)
    (hf : faultF xs base.size < xs.length) :
    Calls Tryz.prog 61 #[.string base, .slice (some ⟨b, off, none⟩) xs.length cap] w fun e w' => e = .returned (.tuple #[.string ⟨#[]⟩, .int .i64 2, .int .i64 (faultF xs base.size)]) ∧ Below w.heap.size w w' := by
  have HC : Hid (Calls Tryz.prog 96 #[.slice (some ⟨b, off, none⟩) xs.length cap, .int .i64 base.size] w fun e w' => e = .returned (.int .i64 (faultF xs base.size)) ∧ Below w.heap.size w w') := by
    have := wrong_two b off cap xs base.size w (by omega) (by omega) hx hr hl hts hbw
    rw [wrongI, if_pos hf] at this
    exact this
  clear hr hl hts hf
  generalize hft : faultF xs base.size = ft at *
  clear hft
  go_enter Tryz.func61, Tryz.ntmps61
  go_wp2_with fail
  refine HC.out.mono ?_
  rintro e w1 ⟨rfl, hb1⟩
  go_wp2
  go_ret3
  exact ⟨rfl, hb1⟩

set_option maxHeartbeats 1000000 in
theorem rapply_ok (base : ByteArray) (b off cap : Nat) (xs : List DOp) (w : World) (h : base.size ≤ 2000) (hx : xs.length ≤ 5000000000000) (hr : ReadsAt w b off xs) (hl : ∀ o ∈ xs, o.len ≤ 9223372036854775807) (hts : ∀ o ∈ xs, o.tx.size ≤ 9223372036854770000) (hbw : b < w.heap.size)
    (hf : faultF xs base.size = xs.length) :
    Calls Tryz.prog 61 #[.string base, .slice (some ⟨b, off, none⟩) xs.length cap] w fun e w' => e = .returned (.tuple #[.string ⟨(madeL base.data.toList xs).toArray⟩, .int .i64 0, .int .i64 0]) ∧ Below w.heap.size w w' := by
  obtain ⟨hall, hsum⟩ := fault_all (b := (base.size : Int)) (xs := xs) (p := none) (i := 0) (m := 0) (by rw [Nat.zero_add]; exact hf) (by omega)
  have hml := madeL_length (B := base.data.toList) (xs := xs) (by rw [← Lib.size_eq]; exact hall)
  have hmade : (madeL base.data.toList xs).length ≤ 2000 := by omega
  have HC : Hid (Calls Tryz.prog 96 #[.slice (some ⟨b, off, none⟩) xs.length cap, .int .i64 base.size] w fun e w' => e = .returned (.int .i64 (-1)) ∧ Below w.heap.size w w') := by
    have := wrong_two b off cap xs base.size w (by omega) (by omega) hx hr hl hts hbw
    rw [wrongI, if_neg (by omega)] at this
    exact this
  have HM : Hid (∀ w1, Below w.heap.size w w1 → Calls Tryz.prog 97 #[.string base, .slice (some ⟨b, off, none⟩) xs.length cap] w1 fun e w' => e = .returned (.string ⟨(madeL base.data.toList xs).toArray⟩) ∧ ∃ n, w' = w1.drewN n) := by
    intro w1 hb
    refine made_two base b off cap xs w1 h hx (fun i o ho => ?_) hall hmade
    obtain ⟨r0, r1, r2⟩ := hr i o ho
    exact ⟨(hb.cell (p := ⟨b, _, none⟩) hbw).trans r0, (hb.cell (p := ⟨b, _, none⟩) hbw).trans r1, (hb.cell (p := ⟨b, _, none⟩) hbw).trans r2⟩
  clear hall hsum hml hf hr hl hts hmade
  go_enter Tryz.func61, Tryz.ntmps61
  go_wp2_with fail
  refine HC.out.mono ?_
  rintro e w1 ⟨rfl, hb1⟩
  go_wp2_with fail
  refine (HM.out w1 hb1).mono ?_
  rintro e w2 ⟨rfl, n, hw2⟩
  have R : Below w.heap.size w w2 := by rw [hw2]; exact hb1.trans (below_drewN _ _ _)
  clear hw2
  go_wp2
  go_ret3
  exact ⟨rfl, R⟩

/-- What Apply of the document's answer says, in one. -/
theorem rapply_any {base : ByteArray} {v : Value} {xs : List DOp} {w : World} (hs : base.size ≤ 9223372036854775807) (hx : xs.length ≤ 5000000000000) (hv : View w v xs) (hl : ∀ o ∈ xs, o.len ≤ 9223372036854775807) (hts : ∀ o ∈ xs, o.tx.size ≤ 9223372036854770000) :
    Calls Tryz.prog 61 #[.string base, v] w fun e w' => e = .returned (.tuple #[.string (appS base xs), .int .i64 (appE base xs), .int .i64 (appP base xs)]) ∧ Below w.heap.size w w' := by
  unfold appS appE appP
  by_cases h : 2000 < base.size
  · simp only [if_pos h]
    exact (rapply_long base v w h hs).mono (fun e w' ⟨a, b⟩ => ⟨a, by rw [b]; exact Below.refl _ _⟩)
  · simp only [if_neg h]
    rcases hv with ⟨rfl, ao, cap, rfl⟩ | ⟨b, off, cap, rfl, hbw, hr⟩
    · exact rapply_nil base ao cap w (by omega)
    · by_cases hf : faultF xs base.size < xs.length
      · simp only [if_pos hf]
        exact rapply_fault base b off cap xs w (by omega) hx hr hl hts hbw hf
      · simp only [if_neg hf]
        exact rapply_ok base b off cap xs w (by omega) hx hr hl hts hbw (by have := faultF_le xs base.size; omega)

/-- What Apply of the program says, in one. -/
theorem capply_any {base : ByteArray} {v : Value} {xs : List DOp} {w : World} (hs : base.size ≤ 9223372036854775807) (hx : xs.length ≤ 5000000000000) (hv : View w v xs) (hl : ∀ o ∈ xs, o.len ≤ 9223372036854775807) :
    Calls Tryz.prog 60 #[.string base, v] w fun e w' => e = .returned (.tuple #[.string (appS base xs), .int .i64 (appE base xs), .int .i64 (appP base xs)]) ∧ Below w.heap.size w w' := by
  refine capply_of ?_
  unfold appS appE appP
  by_cases h : 2000 < base.size
  · simp only [if_pos h]
    exact (apply_long base v w h hs).mono (fun e w' ⟨a, b⟩ => ⟨a, by rw [b]; exact Below.refl _ _⟩)
  · simp only [if_neg h]
    rcases hv with ⟨rfl, ao, cap, rfl⟩ | ⟨b, off, cap, rfl, hbw, hr⟩
    · exact apply_nil base ao cap w (by omega)
    · by_cases hf : faultF xs base.size < xs.length
      · simp only [if_pos hf]
        exact apply_fault base b off cap xs w (by omega) hx hr hl hbw hf
      · simp only [if_neg hf]
        exact apply_ok base b off cap xs w (by omega) hx hr hl hbw (by have := faultF_le xs base.size; omega)
end Go.Proofs.YtabpiaaknjcnkaaGreat

/-
  A step of Diff, Apply or Sum: the common words.
-/
namespace Go.Proofs.YtabpiaaknjcnkaaGreat
open Go.RowKit
set_option linter.unusedVariables false
set_option linter.unusedSimpArgs false
set_option maxRecDepth 100000

/-- A list of the script's: it lies below B0. -/
def LView (B0 : Nat) (w : World) (v : Value) (xs : List DOp) : Prop :=
  (xs = [] ∧ ∃ ao cap, v = .slice ao 0 cap) ∨ ∃ b off cap, v = .slice (some ⟨b, off, none⟩) xs.length cap ∧ b < B0 ∧ ReadsAt w b off xs
theorem LView.kept {B0 : Nat} {w w' : World} {v : Value} {xs : List DOp} (h : LView B0 w v xs) (hb : Below B0 w w') : LView B0 w' v xs := by
  rcases h with h | ⟨b, off, cap, rfl, hlt, hr⟩
  · exact .inl h
  · refine .inr ⟨b, off, cap, rfl, hlt, fun i o ho => ?_⟩
    obtain ⟨r0, r1, r2⟩ := hr i o ho
    exact ⟨(hb.cell (p := ⟨b, _, none⟩) hlt).trans r0, (hb.cell (p := ⟨b, _, none⟩) hlt).trans r1, (hb.cell (p := ⟨b, _, none⟩) hlt).trans r2⟩
theorem LView.view {B0 : Nat} {w : World} {v : Value} {xs : List DOp} (h : LView B0 w v xs) (hb : B0 ≤ w.heap.size) : View w v xs := by
  rcases h with h | ⟨b, off, cap, rfl, hlt, hr⟩
  · exact .inl h
  · exact .inr ⟨b, off, cap, rfl, by omega, hr⟩
theorem LView.slice {B0 : Nat} {w : World} {v : Value} {xs : List DOp} (h : LView B0 w v xs) : ∃ ao cap, v = .slice ao xs.length cap := by
  rcases h with ⟨rfl, ao, cap, rfl⟩ | ⟨b, off, cap, rfl, _⟩
  · exact ⟨ao, cap, rfl⟩
  · exact ⟨_, _, rfl⟩

/-- The book stands where its blocks stand. -/
theorem BookAt.kept {w w' : World} {B0 Wb : Nat} {xv yv bv : Value} {es : List Entry} {S S' : Nat → Prop} (h : BookAt w B0 Wb xv yv bv es S) (hk : ∀ q, S q → w'.heap[q]? = w.heap[q]?) (hS : ∀ q, S q → S' q) : BookAt w' B0 Wb xv yv bv es S' := by
  refine ⟨by rw [hk _ h.wbB]; exact h.blk, h.wb0, hS _ h.wbB, row_block h.row (fun g hg => hk g (h.lowr g hg)), fun g hg => hS _ (h.lowr g hg), fun e he => ?_⟩
  have k := h.each e he
  exact ⟨own_block k.l (fun g hg => hk g (k.lowl g hg)), own_block k.a (fun g hg => hk g (k.lowa g hg)), own_block k.b (fun g hg => hk g (k.lowb g hg)), own_block k.c (fun g hg => hk g (k.lowc g hg)), k.n,
    fun g hg => hS _ (k.lowl g hg), fun g hg => hS _ (k.lowa g hg), fun g hg => hS _ (k.lowb g hg), fun g hg => hS _ (k.lowc g hg)⟩

def dLong (s t : ByteArray) : Prop := 2000 < s.size ∨ 2000 < t.size
def dLongDec (s t : ByteArray) : Decidable (dLong s t) := inferInstanceAs (Decidable (_ ∨ _))
def dL (s t : ByteArray) : List DOp := @ite _ (dLong s t) (dLongDec s t) [] (diffF s t)
def dE (s t : ByteArray) : Int := @ite _ (dLong s t) (dLongDec s t) 1 0

set_option maxHeartbeats 1000000 in
theorem rdiff_long (base next : ByteArray) (w : World) (hs : base.size ≤ 9223372036854775807) (hn : next.size ≤ 9223372036854775807) (h : 2000 < base.size ∨ 2000 < next.size) :
    Calls Tryz.prog 57 #[.string base, .string next] w fun e w' => e = .returned (.tuple #[.slice none 0 0, .int .i64 1]) ∧ w' = w := by
  by_cases h1 : 2000 < base.size
  · go_enter Tryz.func57, Tryz.ntmps57
    go_wp2
    go_ret2
    exact ⟨rfl, rfl⟩
  · have h2 : 2000 < next.size := by omega
    clear h
    go_enter Tryz.func57, Tryz.ntmps57
    go_wp2
    go_ret2
    exact ⟨rfl, rfl⟩

theorem cdiff_any (s t : ByteArray) (w : World) (hs : s.size ≤ 9223372036854775807) (ht : t.size ≤ 9223372036854775807) :
    Calls Tryz.prog 56 #[.string s, .string t] w fun e w' => ∃ ao cap, e = .returned (.tuple #[.slice ao (dL s t).length cap, .int .i64 (dE s t)]) ∧ OwnOps w' w.heap.size (.slice ao (dL s t).length cap) (dL s t) ∧ Below w.heap.size w w' := by
  unfold dL dE
  by_cases h : dLong s t
  · simp only [if_pos h]
    refine (cdiff_long s t w hs ht h).mono ?_
    rintro e w' ⟨rfl, rfl⟩
    exact ⟨none, 0, rfl, OwnOps.nil _ _, Below.refl _ _⟩
  · simp only [if_neg h]
    unfold dLong at h
    refine (cdiff_ok s t w (by omega) (by omega)).mono ?_
    rintro e w' ⟨v, rfl, ho, hb⟩
    obtain ⟨ao, cap, rfl⟩ := ho.slice
    exact ⟨ao, cap, rfl, ho, hb⟩
theorem rdiff_any (s t : ByteArray) (w : World) (hs : s.size ≤ 9223372036854775807) (ht : t.size ≤ 9223372036854775807) :
    Calls Tryz.prog 57 #[.string s, .string t] w fun e w' => ∃ ao cap, e = .returned (.tuple #[.slice ao (dL s t).length cap, .int .i64 (dE s t)]) ∧ OwnOps w' w.heap.size (.slice ao (dL s t).length cap) (dL s t) ∧ Below w.heap.size w w' := by
  unfold dL dE
  by_cases h : dLong s t
  · simp only [if_pos h]
    refine (rdiff_long s t w hs ht h).mono ?_
    rintro e w' ⟨rfl, rfl⟩
    exact ⟨none, 0, rfl, OwnOps.nil _ _, Below.refl _ _⟩
  · simp only [if_neg h]
    unfold dLong at h
    refine (rdiff_ok s t w (by omega) (by omega)).mono ?_
    rintro e w' ⟨v, rfl, ho, hb⟩
    obtain ⟨ao, cap, rfl⟩ := ho.slice
    exact ⟨ao, cap, rfl, ho, hb⟩
theorem dL_length (s t : ByteArray) : (dL s t).length ≤ 100000 := by
  unfold dL
  by_cases h : dLong s t
  · rw [if_pos h]; simp
  · rw [if_neg h]
    unfold dLong at h
    have := @descF_length s t
    unfold diffF
    split
    · unfold addT; split <;> simp
    · omega
end Go.Proofs.YtabpiaaknjcnkaaGreat
