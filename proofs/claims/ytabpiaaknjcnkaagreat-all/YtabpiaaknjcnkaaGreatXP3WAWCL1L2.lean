/- The texts P3, WA, WC, L1, L2, one behind the other. -/
import Derived.Test.YtabpiaaknjcnkaaGreatXW8WBP2
import Derived.LoopTactic
import Derived.Test.YtabpiaaknjcnkaaGreatXW5W6W7W2
import Derived.Deep.QuietTactic
import Derived.BigQuiet
/-
  Plain facts on rows that are deltas: each op is one, and all together make at most 2000 bytes.
-/
namespace Go.Proofs.YtabpiaaknjcnkaaGreat
set_option linter.unusedVariables false
set_option linter.unusedSimpArgs false

theorem faultGo_le (b : Int) (xs : List DOp) (p : Option DOp) (i : Nat) (m : Int) : i ≤ faultGo b xs p i m ∧ faultGo b xs p i m ≤ i + xs.length := by
  induction xs generalizing p i m with
  | nil => simp [faultGo]
  | cons o r ih =>
    have := ih (some o) (i + 1) (m + sizeI o.len o.tx)
    rw [faultGo]
    simp only [List.length_cons]
    repeat' split
    all_goals omega
theorem faultF_le (xs : List DOp) (b : Int) : faultF xs b ≤ xs.length := by have := faultGo_le b xs none 0 0; unfold faultF; omega

def sumI : List DOp → Int
  | [] => 0
  | o :: r => sizeI o.len o.tx + sumI r

theorem fault_all {b : Int} {xs : List DOp} {p : Option DOp} {i : Nat} {m : Int} (h : faultGo b xs p i m = i + xs.length) (hm : m ≤ 2000) :
    (∀ o ∈ xs, isOpB o.fr o.len o.tx b = true) ∧ m + sumI xs ≤ 2000 := by
  induction xs generalizing p i m with
  | nil => simp [sumI]; exact hm
  | cons o r ih =>
    rw [faultGo] at h
    simp only [List.length_cons] at h
    by_cases h1 : i = 200
    · rw [if_pos h1] at h; omega
    · rw [if_neg h1] at h
      by_cases h2 : isOpB o.fr o.len o.tx b = false
      · rw [if_pos h2] at h; omega
      · rw [if_neg h2] at h
        by_cases h3 : behind p o = false
        · rw [if_pos h3] at h; omega
        · rw [if_neg h3] at h
          by_cases h4 : 2000 - m < sizeI o.len o.tx
          · rw [if_pos h4] at h; omega
          · rw [if_neg h4] at h
            obtain ⟨g1, g2⟩ := ih (p := some o) (i := i + 1) (m := m + sizeI o.len o.tx) (by omega) (by omega)
            refine ⟨fun q hq => ?_, by simp only [sumI]; omega⟩
            rcases List.mem_cons.1 hq with rfl | hq
            · simpa using h2
            · exact g1 q hq

theorem opBytes_length {B : List UInt8} {o : DOp} (h : isOpB o.fr o.len o.tx B.length = true) : ((opBytes B o).length : Int) = sizeI o.len o.tx := by
  by_cases hl : 0 < o.len
  · rw [opBytes, if_pos hl, sizeI, if_pos hl]
    rw [isOpB, if_pos hl] at h
    simp at h
    simp; omega
  · rw [opBytes, if_neg hl, sizeI, if_neg hl, Lib.size_eq]

theorem madeL_length {B : List UInt8} {xs : List DOp} (h : ∀ o ∈ xs, isOpB o.fr o.len o.tx B.length = true) : ((madeL B xs).length : Int) = sumI xs := by
  induction xs with
  | nil => rfl
  | cons o r ih =>
    have h1 := opBytes_length (h o (by simp))
    have h2 := ih (fun q hq => h q (by simp [hq]))
    simp only [madeL, List.flatMap_cons, List.length_append, sumI] at h2 ⊢
    omega

theorem madeL_take_succ (B : List UInt8) (xs : List DOp) (k : Nat) (o : DOp) (h : xs[k]? = some o) : madeL B (xs.take (k + 1)) = madeL B (xs.take k) ++ opBytes B o := by
  rw [List.take_add_one, h]; simp [madeL]

theorem madeL_take_le (B : List UInt8) (xs : List DOp) (k : Nat) : (madeL B (xs.take k)).length ≤ (madeL B xs).length := by
  conv => rhs; rw [← List.take_append_drop k xs]
  simp only [madeL, List.flatMap_append, List.length_append]
  omega
end Go.Proofs.YtabpiaaknjcnkaaGreat

/-
  The walks over delta.Apply and coffer.Apply.
-/
namespace Go.Proofs.YtabpiaaknjcnkaaGreat
open Go.RowKit
set_option linter.unusedVariables false
set_option linter.unusedSimpArgs false
set_option maxRecDepth 100000

theorem row_kept {w w1 : World} {base : Nat} {e : TypeId} {size n : Nat} {v : Value} {xs : List Value} (h : w.ownsRow base e size v n xs) (hb : Below w.heap.size w w1) : w1.ownsRow base e size v n xs := by
  refine ⟨h.1, ?_⟩
  rcases h.2 with h' | ⟨g, cap, cur, rfl, hg, hbk, hr⟩
  · exact .inl h'
  · refine .inr ⟨g, cap, cur, rfl, hg, ?_, hr⟩
    have hlt : g < w.heap.size := by
      rcases Nat.lt_or_ge g w.heap.size with h' | h'
      · exact h'
      · simp [Array.getElem?_eq_none h'] at hbk
    rw [hb.block g hlt]
    exact hbk
theorem builder_kept {T e : TypeId} {B b : Nat} {bs : List Value} {w w1 : World} (h : Lib.IsBuilder T e B b bs w) (hb : Below w.heap.size w w1) : Lib.IsBuilder T e B b bs w1 := by
  rcases h with h | h
  · obtain ⟨hB, v, hbk, hown, hne⟩ := h
    have hlt := Lib.BuilderAt.lt ⟨hB, v, hbk, hown, hne⟩
    exact .inl ⟨hB, v, by rw [hb.block b hlt]; exact hbk, row_kept hown hb, hne⟩
  · obtain ⟨hB, v, hbk, hown, hne⟩ := h
    have hlt := Lib.BuilderAt.lt ⟨hB, v, hbk, hown, hne⟩
    exact .inr ⟨hB, v, by rw [hb.block b hlt]; exact hbk, row_kept hown hb, hne⟩

set_option maxHeartbeats 1000000 in
theorem firstFault_nil (ao : Option Addr) (cap : Nat) (bs : Int) (w : World) :
    Calls Tryz.prog 118 #[.slice ao 0 cap, .int .i64 bs] w fun e w' => e = .returned (.int .i64 0) ∧ w = w' := by
  go_enter Tryz.func118, Tryz.ntmps118
  go_wp2
  go_loopw [5, 10] (fun m c wr => c = .int .i64 0 ∧ m = .int .i64 0 ∧ w = wr) (fun _ _ _ => 0)
  case atStart => exact ⟨rfl, rfl, rfl⟩
  case round =>
    obtain ⟨rfl, rfl, rfl⟩ := hrel
    go_wp2
    go_ret
    exact ⟨rfl, rfl⟩

set_option maxHeartbeats 1000000 in
theorem apply_long (base : ByteArray) (v : Value) (w : World) (h : 2000 < base.size) (hs : base.size ≤ 9223372036854775807) :
    Calls Tryz.prog 95 #[.string base, v] w fun e w' => e = .returned (.tuple #[.string ⟨#[]⟩, .int .i64 1, .int .i64 0]) ∧ w' = w := by
  go_enter Tryz.func95, Tryz.ntmps95
  go_wp2
  go_ret3
  exact ⟨rfl, rfl⟩

set_option maxHeartbeats 1000000 in
theorem apply_fault (base : ByteArray) (b off cap : Nat) (xs : List DOp) (w : World) (h : base.size ≤ 2000) (hx : xs.length ≤ 5000000000000) (hr : ReadsAt w b off xs) (hl : ∀ o ∈ xs, o.len ≤ 9223372036854775807) (hbw : b < w.heap.size)
    (hf : faultF xs base.size < xs.length) :
    Calls Tryz.prog 95 #[.string base, .slice (some ⟨b, off, none⟩) xs.length cap] w fun e w' => e = .returned (.tuple #[.string ⟨#[]⟩, .int .i64 2, .int .i64 (faultF xs base.size)]) ∧ Below w.heap.size w w' := by
  have HR : Hid (ReadsAt w b off xs) := hr
  clear hr
  go_enter Tryz.func95, Tryz.ntmps95
  go_wp2_with fail
  refine (firstFault_any b off cap xs base.size _ (by omega) (by omega) hx HR.out hl hbw).mono ?_
  rintro e w1 ⟨rfl, hb1⟩
  generalize hft : faultF xs base.size = ft at *
  have HFT : Hid (faultF xs base.size = ft) := hft
  clear hft
  go_wp2
  go_ret3
  exact ⟨by rw [HFT.out]; rfl, hb1⟩

set_option maxHeartbeats 1000000 in
theorem apply_nil (base : ByteArray) (ao : Option Addr) (cap : Nat) (w : World) (h : base.size ≤ 2000) :
    Calls Tryz.prog 95 #[.string base, .slice ao 0 cap] w fun e w' => e = .returned (.tuple #[.string ⟨#[]⟩, .int .i64 0, .int .i64 0]) ∧ Below w.heap.size w w' := by
  go_enter Tryz.func95, Tryz.ntmps95
  go_wp2_with fail
  refine (firstFault_nil ao cap base.size _).mono ?_
  rintro e w1 ⟨rfl, rfl⟩
  have hI := Lib.fresh_isBuilder 162 5 w
  go_wp2
  go_loopw [25] (fun c wr => c = .int .i64 0 ∧ (w.alloc (.cells #[.pointer none, .slice none 0 0] 162)) = wr) (fun _ _ => 0)
  case atStart => exact ⟨rfl, rfl⟩
  case round =>
    obtain ⟨rfl, rfl⟩ := hrel
    go_wp2_with fail
    refine (Tryz.Builder_String_any w.heap.size w.heap.size [] _ hI (by simp)).mono ?_
    rintro e w2 ⟨rfl, hb2⟩
    have R : Below w.heap.size w w2 := ((Below.refl _ _).alloc (Nat.le_refl _) _).trans hb2
    clear hb2 hI
    go_wp2
    go_ret3
    exact ⟨rfl, R⟩

set_option maxHeartbeats 4000000 in
theorem apply_ok (base : ByteArray) (b off cap : Nat) (xs : List DOp) (w : World) (h : base.size ≤ 2000) (hx : xs.length ≤ 5000000000000) (hr : ReadsAt w b off xs) (hl : ∀ o ∈ xs, o.len ≤ 9223372036854775807) (hbw : b < w.heap.size)
    (hf : faultF xs base.size = xs.length) :
    Calls Tryz.prog 95 #[.string base, .slice (some ⟨b, off, none⟩) xs.length cap] w fun e w' => e = .returned (.tuple #[.string ⟨(madeL base.data.toList xs).toArray⟩, .int .i64 0, .int .i64 0]) ∧ Below w.heap.size w w' := by
  have HR : Hid (ReadsAt w b off xs) := hr
  clear hr
  obtain ⟨hall, hsum⟩ := fault_all (b := (base.size : Int)) (xs := xs) (p := none) (i := 0) (m := 0) (by rw [Nat.zero_add]; exact hf) (by omega)
  have hml := madeL_length (B := base.data.toList) (xs := xs) (by rw [← Lib.size_eq]; exact hall)
  have HA : Hid (∀ o ∈ xs, isOpB o.fr o.len o.tx base.size = true) := hall
  have hmade : (madeL base.data.toList xs).length ≤ 2000 := by omega
  have HF : Hid (faultF xs base.size = xs.length) := hf
  clear hall hsum hml hf
  go_enter Tryz.func95, Tryz.ntmps95
  go_wp2_with fail
  refine (firstFault_any b off cap xs base.size _ (by omega) (by omega) hx HR.out hl hbw).mono ?_
  rintro e w1 ⟨rfl, hb1⟩
  rw [HF.out]
  have hI := Lib.fresh_isBuilder 162 5 w1
  have hsz1 := hb1.size
  go_wp2
  go_loopw [25] (fun c wr => ∃ k : Nat, k ≤ xs.length ∧ c = .int .i64 k ∧ Lib.IsBuilder 162 5 w1.heap.size w1.heap.size (Lib.byteCells (madeL base.data.toList (xs.take k))) wr ∧ Below w1.heap.size w1 wr) (fun c _ => xs.length + 1 - (intOf c).toNat)
  case atStart => exact ⟨0, by omega, rfl, hI, (Below.refl _ _).alloc (Nat.le_refl _) _⟩
  case round =>
    obtain ⟨k, hk, rfl, hI2, hb2⟩ := hrel
    have hsz2 := hb2.size
    by_cases hlt : k < xs.length
    · obtain ⟨⟨f, l, t⟩, ho⟩ : ∃ o, xs[k]? = some o := ⟨xs[k], by simp [hlt]⟩
      obtain ⟨r0, r1, r2⟩ := HR.out k _ ho
      have hop := HA.out _ (List.mem_of_getElem? ho)
      simp only at hop
      have hb12 : Below w.heap.size w wr := hb1.trans (hb2.mono hsz1)
      have c0 : wr.cell? ⟨b, off + k * 3, none⟩ = some (.int .i64 f) := (hb12.cell (p := ⟨b, _, none⟩) hbw).trans r0
      have c1 : wr.cell? ⟨b, off + k * 3 + 1, none⟩ = some (.int .i64 l) := (hb12.cell (p := ⟨b, _, none⟩) hbw).trans r1
      have c2 : wr.cell? ⟨b, off + k * 3 + 2, none⟩ = some (.string t) := (hb12.cell (p := ⟨b, _, none⟩) hbw).trans r2
      have hsucc := madeL_take_succ base.data.toList xs k _ ho
      have hle := madeL_take_le base.data.toList xs (k + 1)
      rw [hsucc, List.length_append] at hle
      have HS : Hid (madeL base.data.toList (xs.take (k + 1)) = madeL base.data.toList (xs.take k) ++ opBytes base.data.toList ⟨f, l, t⟩) := hsucc
      clear hsucc r0 r1 r2 ho
      generalize hM : madeL base.data.toList (xs.take k) = M at *
      clear hM
      by_cases hl0 : 0 < l
      · obtain ⟨hf0, hfl⟩ := isOpB_copy hop hl0
        obtain ⟨fn, rfl⟩ := Int.eq_ofNat_of_zero_le hf0
        obtain ⟨ln, rfl⟩ := Int.eq_ofNat_of_zero_le (Int.le_of_lt hl0)
        have hfl' : fn + ln ≤ base.size := by omega
        have HB : Hid (opBytes base.data.toList ⟨fn, ln, t⟩ = (base.extract fn (fn + ln)).data.toList) := by
          show opBytes _ _ = _
          rw [opBytes, if_pos hl0, Lib.extract_data]; simp
        rw [HB.out, ← Lib.size_eq] at hle
        clear hop
        go_wp2_with fail
        refine (isCopy_any (fn : Int) (ln : Int) t _).mono ?_
        rintro e w3 ⟨rfl, hb3⟩
        rw [show decide (0 < (ln : Int)) = true from by simp; omega]
        have hb3' : Below wr.heap.size wr w3 := ((Below.refl _ wr).alloc (Nat.le_refl _) _).trans (hb3.mono (by simp))
        have hI3 := builder_kept hI2 hb3'
        have k0 : w3.cell? ⟨wr.heap.size, 0, none⟩ = some (.int .i64 (fn : Int)) := (hb3.cell (p := ⟨wr.heap.size, 0, none⟩) (by simp)).trans (by simp)
        have k1 : w3.cell? ⟨wr.heap.size, 1, none⟩ = some (.int .i64 (ln : Int)) := (hb3.cell (p := ⟨wr.heap.size, 1, none⟩) (by simp)).trans (by simp)
        have k2 : w3.cell? ⟨wr.heap.size, 2, none⟩ = some (.string t) := (hb3.cell (p := ⟨wr.heap.size, 2, none⟩) (by simp)).trans (by simp)
        have hsz3 := hb3'.size
        have hblen : (Lib.byteCells M).length + (base.extract fn (fn + ln)).size ≤ 140737488355328 := by rw [Lib.byteCells_length]; omega
        clear hb3 c0 c1 c2 hI2
        go_wp2_with fail
        refine (writeString_any w1.heap.size w1.heap.size (Lib.byteCells M) (base.extract fn (fn + ln)) _ hI3 hblen (by omega)).mono ?_
        rintro e w4 ⟨rfl, hI4, hb4⟩
        have R1 : Lib.IsBuilder 162 5 w1.heap.size w1.heap.size (Lib.byteCells (madeL base.data.toList (xs.take (k + 1)))) w4 := by
          rw [HS.out, HB.out, Lib.byteCells_append]; exact .inr hI4
        have R2 : Below w1.heap.size w1 w4 := hb2.trans ((hb3'.mono hsz2).trans hb4)
        clear hb4 hI4 hI3 hb3' hb2 hblen
        go_wp2
        go_roundw
        case rel => exact ⟨k + 1, by omega, by go_num, R1, R2⟩
        case measure => simp [intOf]; omega
      · have HB : Hid (opBytes base.data.toList ⟨f, l, t⟩ = t.data.toList) := by
          show opBytes _ _ = _
          rw [opBytes, if_neg hl0]
        rw [HB.out, ← Lib.size_eq] at hle
        clear hop
        go_wp2_with fail
        refine (isCopy_any f l t _).mono ?_
        rintro e w3 ⟨rfl, hb3⟩
        rw [show decide (0 < l) = false from by simp; omega]
        have hb3' : Below wr.heap.size wr w3 := ((Below.refl _ wr).alloc (Nat.le_refl _) _).trans (hb3.mono (by simp))
        have hI3 := builder_kept hI2 hb3'
        have k0 : w3.cell? ⟨wr.heap.size, 0, none⟩ = some (.int .i64 f) := (hb3.cell (p := ⟨wr.heap.size, 0, none⟩) (by simp)).trans (by simp)
        have k1 : w3.cell? ⟨wr.heap.size, 1, none⟩ = some (.int .i64 l) := (hb3.cell (p := ⟨wr.heap.size, 1, none⟩) (by simp)).trans (by simp)
        have k2 : w3.cell? ⟨wr.heap.size, 2, none⟩ = some (.string t) := (hb3.cell (p := ⟨wr.heap.size, 2, none⟩) (by simp)).trans (by simp)
        have hsz3 := hb3'.size
        have hblen : (Lib.byteCells M).length + (t).size ≤ 140737488355328 := by rw [Lib.byteCells_length]; omega
        clear hb3 c0 c1 c2 hI2
        go_wp2_with fail
        refine (writeString_any w1.heap.size w1.heap.size (Lib.byteCells M) (t) _ hI3 hblen (by omega)).mono ?_
        rintro e w4 ⟨rfl, hI4, hb4⟩
        have R1 : Lib.IsBuilder 162 5 w1.heap.size w1.heap.size (Lib.byteCells (madeL base.data.toList (xs.take (k + 1)))) w4 := by
          rw [HS.out, HB.out, Lib.byteCells_append]; exact .inr hI4
        have R2 : Below w1.heap.size w1 w4 := hb2.trans ((hb3'.mono hsz2).trans hb4)
        clear hb4 hI4 hI3 hb3' hb2 hblen
        go_wp2
        go_roundw
        case rel => exact ⟨k + 1, by omega, by go_num, R1, R2⟩
        case measure => simp [intOf]; omega
    · go_wp2_with fail
      rw [List.take_of_length_le (by omega)] at hI2
      refine (Tryz.Builder_String_any w1.heap.size w1.heap.size (madeL base.data.toList xs) _ hI2 hsz2).mono ?_
      rintro e w2 ⟨rfl, hb3⟩
      have R : Below w.heap.size w w2 := hb1.trans ((hb2.trans hb3).mono hsz1)
      clear hb3 hI hI2
      go_wp2
      go_ret3
      exact ⟨rfl, R⟩
set_option maxHeartbeats 1000000 in
theorem capply_of {base : ByteArray} {v : Value} {w : World} {s : ByteArray} {e0 p0 : Int} (h : Calls Tryz.prog 95 #[.string base, v] w fun e w' => e = .returned (.tuple #[.string s, .int .i64 e0, .int .i64 p0]) ∧ Below w.heap.size w w') :
    Calls Tryz.prog 60 #[.string base, v] w fun e w' => e = .returned (.tuple #[.string s, .int .i64 e0, .int .i64 p0]) ∧ Below w.heap.size w w' := by
  have H : Hid (Calls Tryz.prog 95 #[.string base, v] w fun e w' => e = .returned (.tuple #[.string s, .int .i64 e0, .int .i64 p0]) ∧ Below w.heap.size w w') := h
  clear h
  go_enter Tryz.func60, Tryz.ntmps60
  go_wp2_with fail
  refine H.out.mono ?_
  rintro e w1 ⟨rfl, hb⟩
  go_wp2
  go_ret3
  exact ⟨rfl, hb⟩
end Go.Proofs.YtabpiaaknjcnkaaGreat

/-
  What Diff finds, read and applied.
-/
namespace Go.Proofs.YtabpiaaknjcnkaaGreat
open Go.RowKit
set_option linter.unusedVariables false
set_option linter.unusedSimpArgs false
set_option maxRecDepth 100000

theorem opCells_get (D : List DOp) (i : Nat) (o : DOp) (h : D[i]? = some o) :
    (opCells D)[i * 3]? = some (.int .i64 o.fr) ∧ (opCells D)[i * 3 + 1]? = some (.int .i64 o.len) ∧ (opCells D)[i * 3 + 2]? = some (.string o.tx) := by
  induction D generalizing i with
  | nil => simp at h
  | cons q r ih =>
    have e : opCells (q :: r) = .int .i64 q.fr :: .int .i64 q.len :: .string q.tx :: opCells r := rfl
    cases i with
    | zero => simp at h; subst h; simp [e]
    | succ i =>
      have := ih i (by simpa using h)
      rw [e, show (i + 1) * 3 = i * 3 + 3 from by omega]
      simpa using this

theorem reads_of_own {w : World} {base : Nat} {v : Value} {D : List DOp} (h : OwnOps w base v D) :
    (v = .slice none 0 0 ∧ D = []) ∨ ∃ g cap, v = .slice (some ⟨g, 0, none⟩) D.length cap ∧ g < w.heap.size ∧ base ≤ g ∧ ReadsAt w g 0 D := by
  rcases h.2 with ⟨rfl, h0⟩ | ⟨g, cap, cur, rfl, hg, hbk, hr⟩
  · exact .inl ⟨rfl, List.eq_nil_of_length_eq_zero h0⟩
  · refine .inr ⟨g, cap, rfl, row_own_lt h rfl, hg, ?_⟩
    intro i o ho
    have hi : i < D.length := (List.getElem?_eq_some_iff.1 ho).1
    obtain ⟨a0, a1, a2⟩ := opCells_get D i o ho
    refine ⟨?_, ?_, ?_⟩
    · rw [Nat.zero_add]; exact (World.ownsRow.cellAt h (i * 3) (by omega)).trans a0
    · rw [Nat.zero_add]; exact (World.ownsRow.cellAt h (i * 3 + 1) (by omega)).trans a1
    · rw [Nat.zero_add]; exact (World.ownsRow.cellAt h (i * 3 + 2) (by omega)).trans a2

end Go.Proofs.YtabpiaaknjcnkaaGreat

/-
  The statement's small functions over lists of ops: sameOps, full.
-/
namespace Go.Proofs.YtabpiaaknjcnkaaGreat
open Go.RowKit
set_option linter.unusedVariables false
set_option linter.unusedSimpArgs false
set_option maxRecDepth 100000

/-- A list of ops, wherever it lies. -/
def View (w : World) (v : Value) (xs : List DOp) : Prop :=
  (xs = [] ∧ ∃ ao cap, v = .slice ao 0 cap) ∨ ∃ b off cap, v = .slice (some ⟨b, off, none⟩) xs.length cap ∧ b < w.heap.size ∧ ReadsAt w b off xs

theorem View.kept {w w' : World} {v : Value} {xs : List DOp} (h : View w v xs) (hb : Below w.heap.size w w') : View w' v xs := by
  rcases h with h | ⟨b, off, cap, rfl, hlt, hr⟩
  · exact .inl h
  · refine .inr ⟨b, off, cap, rfl, by have := hb.size; omega, fun i o ho => ?_⟩
    obtain ⟨r0, r1, r2⟩ := hr i o ho
    exact ⟨(hb.cell (p := ⟨b, _, none⟩) hlt).trans r0, (hb.cell (p := ⟨b, _, none⟩) hlt).trans r1, (hb.cell (p := ⟨b, _, none⟩) hlt).trans r2⟩
theorem View.of_own {w : World} {base : Nat} {v : Value} {xs : List DOp} (h : OwnOps w base v xs) : View w v xs := by
  rcases reads_of_own h with ⟨rfl, rfl⟩ | ⟨g, cap, rfl, hg, _, hr⟩
  · exact .inl ⟨rfl, _, _, rfl⟩
  · exact .inr ⟨g, 0, cap, rfl, hg, hr⟩

set_option maxHeartbeats 2000000 in
theorem sameOps_two (b off cap b' off' cap' : Nat) (xs : List DOp) (w : World) (hx : xs.length ≤ 1000000000000000) (h1 : ReadsAt w b off xs) (h2 : ReadsAt w b' off' xs) :
    Calls Tryz.prog 58 #[.slice (some ⟨b, off, none⟩) xs.length cap, .slice (some ⟨b', off', none⟩) xs.length cap'] w fun e w' => e = .returned (.bool true) ∧ ∃ n, w' = w.drewN n := by
  have H1 : Hid (ReadsAt w b off xs) := h1
  have H2 : Hid (ReadsAt w b' off' xs) := h2
  clear h1 h2
  go_enter Tryz.func58, Tryz.ntmps58
  go_wp2
  go_loopw [5] (fun i wr => ∃ k n : Nat, k ≤ xs.length ∧ i = .int .i64 k ∧ wr = w.drewN n) (fun i _ => xs.length + 1 - (intOf i).toNat)
  case atStart => exact ⟨0, 0, by omega, rfl, rfl⟩
  case round =>
    obtain ⟨k, n, hk, rfl, hwr⟩ := hrel
    by_cases hlt : k < xs.length
    · obtain ⟨⟨f, l, t⟩, ho⟩ : ∃ o, xs[k]? = some o := ⟨xs[k], by simp [hlt]⟩
      obtain ⟨r0, r1, r2⟩ := H1.out k _ ho
      obtain ⟨s0, s1, s2⟩ := H2.out k _ ho
      subst hwr
      have c0 : (w.drewN n).cell? ⟨b, off + k * 3, none⟩ = some (.int .i64 f) := r0
      have c1 : (w.drewN n).cell? ⟨b, off + k * 3 + 1, none⟩ = some (.int .i64 l) := r1
      have c2 : (w.drewN n).cell? ⟨b, off + k * 3 + 2, none⟩ = some (.string t) := r2
      have d0 : (w.drewN n).cell? ⟨b', off' + k * 3, none⟩ = some (.int .i64 f) := s0
      have d1 : (w.drewN n).cell? ⟨b', off' + k * 3 + 1, none⟩ = some (.int .i64 l) := s1
      have d2 : (w.drewN n).cell? ⟨b', off' + k * 3 + 2, none⟩ = some (.string t) := s2
      clear ho
      have q1 : (k : Int) < (xs.length : Int) := by omega
      have q2 : (0 : Int) ≤ (k : Int) := by omega
      go_wp2
      go_quiet (fail)
      go_wp2
      go_roundw
      case rel => exact ⟨k + 1, n + nq, by omega, by go_num, rfl⟩
      case measure => simp [intOf]; omega
    · subst hwr
      go_wp2
      go_ret
      exact ⟨rfl, n, rfl⟩

set_option maxHeartbeats 1000000 in
theorem sameOps_nil (ao ao' : Option Addr) (cap cap' : Nat) (w : World) :
    Calls Tryz.prog 58 #[.slice ao 0 cap, .slice ao' 0 cap'] w fun e w' => e = .returned (.bool true) ∧ ∃ n, w' = w.drewN n := by
  go_enter Tryz.func58, Tryz.ntmps58
  go_wp2
  go_loopw [5] (fun i wr => i = .int .i64 0 ∧ w = wr) (fun _ _ => 0)
  case atStart => exact ⟨rfl, rfl⟩
  case round =>
    obtain ⟨rfl, rfl⟩ := hrel
    go_wp2
    go_ret
    exact ⟨rfl, 0, rfl⟩

/-- Two lists that read the same are the same. -/
theorem sameOps_any {va vb : Value} {xs : List DOp} {w : World} (hx : xs.length ≤ 1000000000000000) (h1 : View w va xs) (h2 : View w vb xs) :
    Calls Tryz.prog 58 #[va, vb] w fun e w' => e = .returned (.bool true) ∧ ∃ n, w' = w.drewN n := by
  rcases h1 with ⟨h0, ao, cap, rfl⟩ | ⟨b, off, cap, rfl, _, r1⟩
  · rcases h2 with ⟨_, ao', cap', rfl⟩ | ⟨b', off', cap', rfl, _, r2⟩
    · exact sameOps_nil ao ao' cap cap' w
    · subst h0; exact sameOps_nil ao _ cap cap' w
  · rcases h2 with ⟨h0, ao', cap', rfl⟩ | ⟨b', off', cap', rfl, _, r2⟩
    · subst h0; exact sameOps_nil _ ao' cap cap' w
    · exact sameOps_two b off cap b' off' cap' xs w hx r1 r2

/-- A mark of the book's. -/
def mark (m : Int) : DOp := ⟨m, 0, ⟨#[]⟩⟩

set_option maxHeartbeats 2000000 in
theorem full_two (b off cap n : Nat) (m : Int) (w : World) (hx : n ≤ 1000000000000000) (h1 : ReadsAt w b off (List.replicate n (mark m))) :
    Calls Tryz.prog 41 #[.slice (some ⟨b, off, none⟩) n cap, .int .i64 m] w fun e w' => e = .returned (.bool true) ∧ w = w' := by
  have H1 : Hid (ReadsAt w b off (List.replicate n (mark m))) := h1
  clear h1
  go_enter Tryz.func41, Tryz.ntmps41
  go_wp2
  go_loop [5] (fun i => ∃ k : Nat, k ≤ n ∧ i = .int .i64 k) (fun i => n + 1 - (intOf i).toNat)
  case atStart => exact ⟨0, by omega, rfl⟩
  case round =>
    obtain ⟨k, hk, rfl⟩ := hrel
    by_cases hlt : k < n
    · obtain ⟨r0, r1, r2⟩ := H1.out k (mark m) (by simp [hlt])
      have c0 : w.cell? ⟨b, off + k * 3, none⟩ = some (.int .i64 m) := r0
      have c1 : w.cell? ⟨b, off + k * 3 + 1, none⟩ = some (.int .i64 0) := r1
      have c2 : w.cell? ⟨b, off + k * 3 + 2, none⟩ = some (.string ⟨#[]⟩) := r2
      clear r0 r1 r2
      go_wp2
      go_round
      case rel => exact ⟨k + 1, by omega, by go_num⟩
      case measure => simp [intOf]; omega
    · go_wp2
      go_ret
      exact ⟨rfl, rfl⟩

set_option maxHeartbeats 1000000 in
theorem full_nil (ao : Option Addr) (cap : Nat) (m : Int) (w : World) :
    Calls Tryz.prog 41 #[.slice ao 0 cap, .int .i64 m] w fun e w' => e = .returned (.bool true) ∧ w = w' := by
  go_enter Tryz.func41, Tryz.ntmps41
  go_wp2
  go_loop [5] (fun i => i = .int .i64 0) (fun _ => 0)
  case atStart => rfl
  case round =>
    subst hrel
    go_wp2
    go_ret
    exact ⟨rfl, rfl⟩

theorem full_any {v : Value} {n : Nat} {m : Int} {w : World} (hx : n ≤ 1000000000000000) (h : View w v (List.replicate n (mark m))) :
    Calls Tryz.prog 41 #[v, .int .i64 m] w fun e w' => e = .returned (.bool true) ∧ w = w' := by
  rcases h with ⟨h0, ao, cap, rfl⟩ | ⟨b, off, cap, rfl, _, r1⟩
  · exact full_nil ao cap m w
  · have := full_two b off cap n m w hx r1
    simpa using this
end Go.Proofs.YtabpiaaknjcnkaaGreat

/-
  Lists that are lent: a list with spare room behind it, and the look whether it reads as it was.
-/
namespace Go.Proofs.YtabpiaaknjcnkaaGreat
open Go.RowKit
set_option linter.unusedVariables false
set_option linter.unusedSimpArgs false
set_option maxRecDepth 100000

def notYours : DOp := ⟨0, 0, ⟨#[110, 111, 116, 32, 121, 111, 117, 114, 115]⟩⟩
def noOp : DOp := ⟨0, 0, ⟨#[]⟩⟩

theorem opCells_all_one (xs : List DOp) : ∀ u ∈ opCells xs, u.oneCell' = true := by
  intro u hu
  simp only [opCells, List.mem_flatMap] at hu
  obtain ⟨o, _, ho⟩ := hu
  simp at ho
  rcases ho with rfl | rfl | rfl <;> rfl

/-- The cells that a view reads, one behind the other. -/
theorem View.cells {w : World} {b off : Nat} {xs : List DOp} (h : ReadsAt w b off xs) : ∀ j u, (opCells xs)[j]? = some u → w.cell? ((⟨b, off, none⟩ : Addr).add j) = some u := by
  intro j u hu
  have hj : j < xs.length * 3 := by
    have := (List.getElem?_eq_some_iff.1 hu).1
    rwa [opCells_length] at this
  obtain ⟨o, ho⟩ : ∃ o, xs[j / 3]? = some o := ⟨xs[j / 3]'(by omega), by simp⟩
  obtain ⟨a0, a1, a2⟩ := opCells_get xs (j / 3) o ho
  obtain ⟨r0, r1, r2⟩ := h (j / 3) o ho
  have hadd : (⟨b, off, none⟩ : Addr).add j = ⟨b, off + j, none⟩ := by unfold Addr.add; split <;> simp_all
  rw [hadd]
  have h3 : j % 3 = 0 ∨ j % 3 = 1 ∨ j % 3 = 2 := by omega
  rcases h3 with h3 | h3 | h3
  · have e : j = j / 3 * 3 := by omega
    rw [e] at hu ⊢
    rw [← hu, a0, show off + j / 3 * 3 = off + j / 3 * 3 from rfl]; exact r0
  · have e : j = j / 3 * 3 + 1 := by omega
    rw [e] at hu ⊢
    rw [← hu, a1]; exact r1
  · have e : j = j / 3 * 3 + 2 := by omega
    rw [e] at hu ⊢
    rw [← hu, a2]; exact r2

/-- 'copy' of so many ops onto a row of the call's own. -/
theorem run_copy_ops (w : World) (ty : TypeId) (g dLen dCap : Nat) (sp : Option Addr) (n sCap : Nat) (cur : Array Value) (hg : w.heap[g]? = some (.cells cur 63 (0, 0))) (xs : List DOp) (hx : xs.length = n) (hle : n ≤ dLen) (hfit : n * 3 ≤ cur.size)
    (hsrc : 0 < n → ∃ ad, sp = some ad ∧ ∀ j u, (opCells xs)[j]? = some u → w.cell? (ad.add j) = some u) :
    (Builtin.copy_ #[59, 59] ty #[.slice (some ⟨g, 0, none⟩) dLen dCap, .slice sp n sCap]).run Tryz.prog w = .ok (goInt n) (w.setRow g (opCells xs ++ cur.toList.drop (n * 3)).toArray) := by
  obtain ⟨i0, hi, hz0, hz1, hz2⟩ := info_parts Tryz.infoOp
  have hst := run_storeCells_at Tryz.prog g 0 63 (opCells xs) 0 cur w hg (by rw [opCells_length]; omega) (opCells_all_one xs)
  simp only [Nat.add_zero, Nat.zero_add, List.take_zero, List.nil_append] at hst
  rw [opCells_length, hx] at hst
  have hmin : Nat.min n dLen = n := Nat.min_eq_left hle
  cases sp with
  | none =>
    have hn0 : n = 0 := by
      rcases Nat.eq_zero_or_pos n with h | h
      · exact h
      · obtain ⟨ad, h1, _⟩ := hsrc h; cases h1
    subst hn0
    have hx0 : xs = [] := List.eq_nil_of_length_eq_zero hx
    subst hx0
    simp [opCells] at hst ⊢
    simp [Builtin.copy_, run_underlying Tryz.underlying59, Builtin.lenOf, Builtin.firstCells, sizeOf, typeInfo, hi, hst]
  | some ad =>
    have hf := run_firstCells_some (P := Tryz.prog) w i0.size n ad n sCap (opCells xs) (by rw [opCells_length, hx, hz1]) (fun j u h => by
      rcases Nat.eq_zero_or_pos n with h0 | h0
      · have : xs = [] := List.eq_nil_of_length_eq_zero (by omega)
        subst this; simp [opCells] at h
      · obtain ⟨ad', h1, h2⟩ := hsrc h0
        cases h1; exact h2 j u h)
    simp [Builtin.copy_, run_underlying Tryz.underlying59, Builtin.lenOf, sizeOf, typeInfo, hi, hmin, hf, hst]

theorem opCells_drop (L : List DOp) (n : Nat) : (opCells L).drop (n * 3) = opCells (L.drop n) := by
  by_cases h : n ≤ L.length
  · conv => lhs; rw [← List.take_append_drop n L, opCells_append]
    have hl : (opCells (L.take n)).length = n * 3 := by rw [opCells_length, List.length_take, Nat.min_eq_left h]
    rw [← hl, List.drop_left]
  · rw [List.drop_of_length_le (by rw [opCells_length]; omega), List.drop_of_length_le (by omega)]; rfl
theorem made_ops (k : Nat) : (madeCells #[.int .i64 0, .int .i64 0, .string ⟨#[]⟩] (k * 3)).toList = opCells (List.replicate k noOp) := by
  apply List.ext_getElem?
  intro j
  by_cases hj : j < k * 3
  · obtain ⟨a0, a1, a2⟩ := opCells_get (List.replicate k noOp) (j / 3) noOp (by rw [List.getElem?_replicate, if_pos (by omega)])
    have hm : (madeCells #[Value.int .i64 0, .int .i64 0, .string ⟨#[]⟩] (k * 3)).toList[j]? = some (#[Value.int .i64 0, .int .i64 0, .string ⟨#[]⟩][j % 3]!) := by
      simp [madeCells, hj]
    rw [hm]
    have h3 : j % 3 = 0 ∨ j % 3 = 1 ∨ j % 3 = 2 := by omega
    rcases h3 with h3 | h3 | h3
    · have e : j = j / 3 * 3 := by omega
      rw [h3]; conv => rhs; rw [e]
      rw [a0]; rfl
    · have e : j = j / 3 * 3 + 1 := by omega
      rw [h3]; conv => rhs; rw [e]
      rw [a1]; rfl
    · have e : j = j / 3 * 3 + 2 := by omega
      rw [h3]; conv => rhs; rw [e]
      rw [a2]; rfl
  · rw [List.getElem?_eq_none (by rw [Array.length_toList, size_madeCells]; omega), List.getElem?_eq_none (by rw [opCells_length, List.length_replicate]; omega)]
theorem set_op (A B : List DOp) (o : DOp) (f l : Int) (t : ByteArray) :
    (((opCells (A ++ o :: B)).set (A.length * 3) (.int .i64 f)).set (A.length * 3 + 1) (.int .i64 l)).set (A.length * 3 + 2) (.string t) = opCells (A ++ ⟨f, l, t⟩ :: B) := by
  have e : ∀ q : DOp, opCells (A ++ q :: B) = opCells A ++ (.int .i64 q.fr :: .int .i64 q.len :: .string q.tx :: opCells B) := fun q => by rw [opCells_append]; rfl
  rw [e, e]
  have hl := opCells_length A
  rw [List.set_append_right _ _ (by omega), List.set_append_right _ _ (by omega), List.set_append_right _ _ (by omega)]
  congr 1
  rw [show A.length * 3 - (opCells A).length = 0 from by omega, show A.length * 3 + 1 - (opCells A).length = 1 from by omega, show A.length * 3 + 2 - (opCells A).length = 2 from by omega]
  rfl

/-- An op stored over another one. -/
theorem own_set {w : World} {base g cap : Nat} {A B : List DOp} {o : DOp} {n : Nat} (h : OwnOps w base (.slice (some ⟨g, 0, none⟩) n cap) (A ++ o :: B)) (f l : Int) (t : ByteArray) :
    OwnOps (((w.setCell ⟨g, A.length * 3, none⟩ (.int .i64 f)).setCell ⟨g, A.length * 3 + 1, none⟩ (.int .i64 l)).setCell ⟨g, A.length * 3 + 2, none⟩ (.string t)) base (.slice (some ⟨g, 0, none⟩) n cap) (A ++ ⟨f, l, t⟩ :: B) := by
  rcases h.2 with ⟨h', _⟩ | ⟨g', cap', cur, hv, hg, hbk, h1, h2, h3, h4⟩
  · cases h'
  · cases hv
    have hlen : (A ++ o :: B).length = A.length + (B.length + 1) := by simp
    have hlen2 : (A ++ ⟨f, l, t⟩ :: B).length = A.length + (B.length + 1) := by simp
    refine ⟨opCells_length _, .inr ⟨g, cap, _, by rw [hlen, hlen2], hg, Lib.heap_setCell_same (Lib.heap_setCell_same (Lib.heap_setCell_same hbk _) _) _, by omega, h2, by simpa using h3, ?_⟩⟩
    have h4' : cur.toList = opCells (A ++ o :: B) ++ cur.toList.drop ((A ++ o :: B).length * 3) := by
      conv => lhs; rw [← List.take_append_drop ((A ++ o :: B).length * 3) cur.toList, h4]
    have hcl : (opCells (A ++ o :: B)).length = (A.length + (B.length + 1)) * 3 := by rw [opCells_length, hlen]
    simp only [Array.toList_setIfInBounds]
    rw [h4', List.set_append_left _ _ (by omega), List.set_append_left _ _ (by rw [List.length_set]; omega), List.set_append_left _ _ (by rw [List.length_set, List.length_set]; omega), set_op]
    rw [List.take_left' (by rw [opCells_length])]

theorem own_cells {w : World} {base g cap n : Nat} {A B : List DOp} {o : DOp} (h : OwnOps w base (.slice (some ⟨g, 0, none⟩) n cap) (A ++ o :: B)) :
    w.cell? ⟨g, A.length * 3, none⟩ = some (.int .i64 o.fr) ∧ w.cell? ⟨g, A.length * 3 + 1, none⟩ = some (.int .i64 o.len) ∧ w.cell? ⟨g, A.length * 3 + 2, none⟩ = some (.string o.tx) ∧
    ∀ j, w.frozen? ⟨g, j, none⟩ = false := by
  have hget := opCells_get (A ++ o :: B) A.length o (by simp)
  rcases h.2 with ⟨h', _⟩ | ⟨g', cap', cur, hv, hg, hbk, h1, h2, h3, h4⟩
  · cases h'
  · cases hv
    have hc : ∀ j, j < (A ++ o :: B).length * 3 → w.cell? ⟨g, j, none⟩ = (opCells (A ++ o :: B))[j]? := by
      intro j hj
      rw [Lib.cell_of_heap hbk, ← h4, List.getElem?_take_of_lt hj, Array.getElem?_toList]
    have hl : (A ++ o :: B).length = A.length + (B.length + 1) := by simp
    exact ⟨(hc _ (by omega)).trans hget.1, (hc _ (by omega)).trans hget.2.1, (hc _ (by omega)).trans hget.2.2, fun j => Lib.frozen_of_heap hbk j⟩
end Go.Proofs.YtabpiaaknjcnkaaGreat
