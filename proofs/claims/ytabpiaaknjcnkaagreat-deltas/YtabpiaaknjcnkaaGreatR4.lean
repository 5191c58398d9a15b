/-
  The document's answer: Apply; the program's Apply in the same words.
-/
import Derived.Test.YtabpiaaknjcnkaaGreatR2
import Derived.Test.YtabpiaaknjcnkaaGreatL1
import Derived.LoopTactic
namespace Go.Proofs.YtabpiaaknjcnkaaGreat
open Go.RowKit
set_option linter.unusedVariables false
set_option linter.unusedSimpArgs false
set_option maxRecDepth 100000

def appS (base : ByteArray) (xs : List DOp) : ByteArray := if 2000 < base.size then ⟨#[]⟩ else if faultF xs base.size < xs.length then ⟨#[]⟩ else ⟨(madeL base.data.toList xs).toArray⟩
def appE (base : ByteArray) (xs : List DOp) : Int := if 2000 < base.size then 1 else if faultF xs base.size < xs.length then 2 else 0
def appP (base : ByteArray) (xs : List DOp) : Int := if 2000 < base.size then 0 else if faultF xs base.size < xs.length then faultF xs base.size else 0

set_option maxHeartbeats 1000000 in
theorem wrong_nil (ao : Option Addr) (cap : Nat) (bs : Int) (w : World) :
    Calls Tryz.prog 96 #[.slice ao 0 cap, .int .i64 bs] w fun e w' => e = .returned (.int .i64 (-1)) ∧ w = w' := by
  go_enter Tryz.func96, Tryz.ntmps96
  go_wp2
  go_loopw [5, 6] (fun m c wr => m = .int .i64 0 ∧ c = .int .i64 0 ∧ w = wr) (fun _ _ _ => 0)
  case atStart => exact ⟨rfl, rfl, rfl⟩
  case round =>
    obtain ⟨rfl, rfl, rfl⟩ := hrel
    go_wp2
    go_ret
    exact ⟨rfl, rfl⟩

set_option maxHeartbeats 1000000 in
theorem made_nil (base : ByteArray) (ao : Option Addr) (cap : Nat) (w : World) :
    Calls Tryz.prog 97 #[.string base, .slice ao 0 cap] w fun e w' => e = .returned (.string ⟨#[]⟩) ∧ w = w' := by
  go_enter Tryz.func97, Tryz.ntmps97
  go_wp2
  go_loopw [5, 6] (fun m c wr => m = .string ⟨#[]⟩ ∧ c = .int .i64 0 ∧ w = wr) (fun _ _ _ => 0)
  case atStart => exact ⟨rfl, rfl, rfl⟩
  case round =>
    obtain ⟨rfl, rfl, rfl⟩ := hrel
    go_wp2
    go_ret
    exact ⟨rfl, rfl⟩

set_option maxHeartbeats 1000000 in
theorem rapply_long (base : ByteArray) (v : Value) (w : World) (h : 2000 < base.size) (hs : base.size ≤ 9223372036854775807) :
    Calls Tryz.prog 61 #[.string base, v] w fun e w' => e = .returned (.tuple #[.string ⟨#[]⟩, .int .i64 1, .int .i64 0]) ∧ w' = w := by
  go_enter Tryz.func61, Tryz.ntmps61
  go_wp2
  go_ret3
  exact ⟨rfl, rfl⟩

set_option maxHeartbeats 1000000 in
theorem rapply_nil (base : ByteArray) (ao : Option Addr) (cap : Nat) (w : World) (h : base.size ≤ 2000) :
    Calls Tryz.prog 61 #[.string base, .slice ao 0 cap] w fun e w' => e = .returned (.tuple #[.string ⟨#[]⟩, .int .i64 0, .int .i64 0]) ∧ Below w.heap.size w w' := by
  go_enter Tryz.func61, Tryz.ntmps61
  go_wp2_with fail
  refine (wrong_nil ao cap _ _).mono ?_
  rintro e w1 ⟨rfl, rfl⟩
  go_wp2_with fail
  refine (made_nil base ao cap _).mono ?_
  rintro e w1 ⟨rfl, rfl⟩
  go_wp2
  go_ret3
  exact ⟨rfl, Below.refl _ _⟩

set_option maxHeartbeats 1000000 in
theorem rapply_fault (base : ByteArray) (b off cap : Nat) (xs : List DOp) (w : World) (h : base.size ≤ 2000) (hx : xs.length ≤ 5000000000000) (hr : ReadsAt w b off xs) (hl : ∀ o ∈ xs, o.len ≤ 9223372036854775807) (hts : ∀ o ∈ xs, o.tx.size ≤ 9223372036854770000) (hbw : b < w.heap.size)
    (hf : faultF xs base.size < xs.length) :
    Calls Tryz.prog 61 #[.string base, .slice (some ⟨b, off, none⟩) xs.length cap] w fun e w' => e = .returned (.tuple #[.string ⟨#[]⟩, .int .i64 2, .int .i64 (faultF xs base.size)]) ∧ Below w.heap.size w w' := by
  have HC : Hid (Calls Tryz.prog 96 #[.slice (some ⟨b, off, none⟩) xs.length cap, .int .i64 base.size] w fun e w' => e = .returned (.int .i64 (faultF xs base.size)) ∧ Below w.heap.size w w') := by
    have := wrong_two b off cap xs base.size w (by omega) (by omega) hx hr hl hts hbw
    rw [wrongI, if_pos hf] at this
    exact this
  clear hr hl hts hf
  generalize hft : faultF xs base.size = ft at *
  clear hft
  go_enter Tryz.func61, Tryz.ntmps61
  go_wp2_with fail
  refine HC.out.mono ?_
  rintro e w1 ⟨rfl, hb1⟩
  go_wp2
  go_ret3
  exact ⟨rfl, hb1⟩

set_option maxHeartbeats 1000000 in
theorem rapply_ok (base : ByteArray) (b off cap : Nat) (xs : List DOp) (w : World) (h : base.size ≤ 2000) (hx : xs.length ≤ 5000000000000) (hr : ReadsAt w b off xs) (hl : ∀ o ∈ xs, o.len ≤ 9223372036854775807) (hts : ∀ o ∈ xs, o.tx.size ≤ 9223372036854770000) (hbw : b < w.heap.size)
    (hf : faultF xs base.size = xs.length) :
    Calls Tryz.prog 61 #[.string base, .slice (some ⟨b, off, none⟩) xs.length cap] w fun e w' => e = .returned (.tuple #[.string ⟨(madeL base.data.toList xs).toArray⟩, .int .i64 0, .int .i64 0]) ∧ Below w.heap.size w w' := by
  obtain ⟨hall, hsum⟩ := fault_all (b := (base.size : Int)) (xs := xs) (p := none) (i := 0) (m := 0) (by rw [Nat.zero_add]; exact hf) (by omega)
  have hml := madeL_length (B := base.data.toList) (xs := xs) (by rw [← Lib.size_eq]; exact hall)
  have hmade : (madeL base.data.toList xs).length ≤ 2000 := by omega
  have HC : Hid (Calls Tryz.prog 96 #[.slice (some ⟨b, off, none⟩) xs.length cap, .int .i64 base.size] w fun e w' => e = .returned (.int .i64 (-1)) ∧ Below w.heap.size w w') := by
    have := wrong_two b off cap xs base.size w (by omega) (by omega) hx hr hl hts hbw
    rw [wrongI, if_neg (by omega)] at this
    exact this
  have HM : Hid (∀ w1, Below w.heap.size w w1 → Calls Tryz.prog 97 #[.string base, .slice (some ⟨b, off, none⟩) xs.length cap] w1 fun e w' => e = .returned (.string ⟨(madeL base.data.toList xs).toArray⟩) ∧ ∃ n, w' = w1.drewN n) := by
    intro w1 hb
    refine made_two base b off cap xs w1 h hx (fun i o ho => ?_) hall hmade
    obtain ⟨r0, r1, r2⟩ := hr i o ho
    exact ⟨(hb.cell (p := ⟨b, _, none⟩) hbw).trans r0, (hb.cell (p := ⟨b, _, none⟩) hbw).trans r1, (hb.cell (p := ⟨b, _, none⟩) hbw).trans r2⟩
  clear hall hsum hml hf hr hl hts hmade
  go_enter Tryz.func61, Tryz.ntmps61
  go_wp2_with fail
  refine HC.out.mono ?_
  rintro e w1 ⟨rfl, hb1⟩
  go_wp2_with fail
  refine (HM.out w1 hb1).mono ?_
  rintro e w2 ⟨rfl, n, hw2⟩
  have R : Below w.heap.size w w2 := by rw [hw2]; exact hb1.trans (below_drewN _ _ _)
  clear hw2
  go_wp2
  go_ret3
  exact ⟨rfl, R⟩

/-- What Apply of the document's answer says, in one. -/
theorem rapply_any {base : ByteArray} {v : Value} {xs : List DOp} {w : World} (hs : base.size ≤ 9223372036854775807) (hx : xs.length ≤ 5000000000000) (hv : View w v xs) (hl : ∀ o ∈ xs, o.len ≤ 9223372036854775807) (hts : ∀ o ∈ xs, o.tx.size ≤ 9223372036854770000) :
    Calls Tryz.prog 61 #[.string base, v] w fun e w' => e = .returned (.tuple #[.string (appS base xs), .int .i64 (appE base xs), .int .i64 (appP base xs)]) ∧ Below w.heap.size w w' := by
  unfold appS appE appP
  by_cases h : 2000 < base.size
  · simp only [if_pos h]
    exact (rapply_long base v w h hs).mono (fun e w' ⟨a, b⟩ => ⟨a, by rw [b]; exact Below.refl _ _⟩)
  · simp only [if_neg h]
    rcases hv with ⟨rfl, ao, cap, rfl⟩ | ⟨b, off, cap, rfl, hbw, hr⟩
    · exact rapply_nil base ao cap w (by omega)
    · by_cases hf : faultF xs base.size < xs.length
      · simp only [if_pos hf]
        exact rapply_fault base b off cap xs w (by omega) hx hr hl hts hbw hf
      · simp only [if_neg hf]
        exact rapply_ok base b off cap xs w (by omega) hx hr hl hts hbw (by have := faultF_le xs base.size; omega)

/-- What Apply of the program says, in one. -/
theorem capply_any {base : ByteArray} {v : Value} {xs : List DOp} {w : World} (hs : base.size ≤ 9223372036854775807) (hx : xs.length ≤ 5000000000000) (hv : View w v xs) (hl : ∀ o ∈ xs, o.len ≤ 9223372036854775807) :
    Calls Tryz.prog 60 #[.string base, v] w fun e w' => e = .returned (.tuple #[.string (appS base xs), .int .i64 (appE base xs), .int .i64 (appP base xs)]) ∧ Below w.heap.size w w' := by
  refine capply_of ?_
  unfold appS appE appP
  by_cases h : 2000 < base.size
  · simp only [if_pos h]
    exact (apply_long base v w h hs).mono (fun e w' ⟨a, b⟩ => ⟨a, by rw [b]; exact Below.refl _ _⟩)
  · simp only [if_neg h]
    rcases hv with ⟨rfl, ao, cap, rfl⟩ | ⟨b, off, cap, rfl, hbw, hr⟩
    · exact apply_nil base ao cap w (by omega)
    · by_cases hf : faultF xs base.size < xs.length
      · simp only [if_pos hf]
        exact apply_fault base b off cap xs w (by omega) hx hr hl hbw hf
      · simp only [if_neg hf]
        exact apply_ok base b off cap xs w (by omega) hx hr hl hbw (by have := faultF_le xs base.size; omega)
end Go.Proofs.YtabpiaaknjcnkaaGreat
