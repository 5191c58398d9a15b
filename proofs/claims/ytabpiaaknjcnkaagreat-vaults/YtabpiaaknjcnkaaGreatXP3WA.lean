/- The texts P3, WA, one behind the other. -/
import Derived.Test.YtabpiaaknjcnkaaGreatP2
import Derived.Test.YtabpiaaknjcnkaaGreatXW8WB
import Derived.LoopTactic
/-
  Plain facts on rows that are deltas: each op is one, and all together make at most 2000 bytes.
-/
namespace Go.Proofs.YtabpiaaknjcnkaaGreat
set_option linter.unusedVariables false
set_option linter.unusedSimpArgs false

theorem faultGo_le (b : Int) (xs : List DOp) (p : Option DOp) (i : Nat) (m : Int) : i ≤ faultGo b xs p i m ∧ faultGo b xs p i m ≤ i + xs.length := by
  induction xs generalizing p i m with
  | nil => simp [faultGo]
  | cons o r ih =>
    have := ih (some o) (i + 1) (m + sizeI o.len o.tx)
    rw [faultGo]
    simp only [List.length_cons]
    repeat' split
    all_goals omega
theorem faultF_le (xs : List DOp) (b : Int) : faultF xs b ≤ xs.length := by have := faultGo_le b xs none 0 0; unfold faultF; omega

def sumI : List DOp → Int
  | [] => 0
  | o :: r => sizeI o.len o.tx + sumI r

theorem fault_all {b : Int} {xs : List DOp} {p : Option DOp} {i : Nat} {m : Int} (h : faultGo b xs p i m = i + xs.length) (hm : m ≤ 2000) :
    (∀ o ∈ xs, isOpB o.fr o.len o.tx b = true) ∧ m + sumI xs ≤ 2000 := by
  induction xs generalizing p i m with
  | nil => simp [sumI]; exact hm
  | cons o r ih =>
    rw [faultGo] at h
    simp only [List.length_cons] at h
    by_cases h1 : i = 200
    · rw [if_pos h1] at h; omega
    · rw [if_neg h1] at h
      by_cases h2 : isOpB o.fr o.len o.tx b = false
      · rw [if_pos h2] at h; omega
      · rw [if_neg h2] at h
        by_cases h3 : behind p o = false
        · rw [if_pos h3] at h; omega
        · rw [if_neg h3] at h
          by_cases h4 : 2000 - m < sizeI o.len o.tx
          · rw [if_pos h4] at h; omega
          · rw [if_neg h4] at h
            obtain ⟨g1, g2⟩ := ih (p := some o) (i := i + 1) (m := m + sizeI o.len o.tx) (by omega) (by omega)
            refine ⟨fun q hq => ?_, by simp only [sumI]; omega⟩
            rcases List.mem_cons.1 hq with rfl | hq
            · simpa using h2
            · exact g1 q hq

theorem opBytes_length {B : List UInt8} {o : DOp} (h : isOpB o.fr o.len o.tx B.length = true) : ((opBytes B o).length : Int) = sizeI o.len o.tx := by
  by_cases hl : 0 < o.len
  · rw [opBytes, if_pos hl, sizeI, if_pos hl]
    rw [isOpB, if_pos hl] at h
    simp at h
    simp; omega
  · rw [opBytes, if_neg hl, sizeI, if_neg hl, Lib.size_eq]

theorem madeL_length {B : List UInt8} {xs : List DOp} (h : ∀ o ∈ xs, isOpB o.fr o.len o.tx B.length = true) : ((madeL B xs).length : Int) = sumI xs := by
  induction xs with
  | nil => rfl
  | cons o r ih =>
    have h1 := opBytes_length (h o (by simp))
    have h2 := ih (fun q hq => h q (by simp [hq]))
    simp only [madeL, List.flatMap_cons, List.length_append, sumI] at h2 ⊢
    omega

theorem madeL_take_succ (B : List UInt8) (xs : List DOp) (k : Nat) (o : DOp) (h : xs[k]? = some o) : madeL B (xs.take (k + 1)) = madeL B (xs.take k) ++ opBytes B o := by
  rw [List.take_add_one, h]; simp [madeL]

theorem madeL_take_le (B : List UInt8) (xs : List DOp) (k : Nat) : (madeL B (xs.take k)).length ≤ (madeL B xs).length := by
  conv => rhs; rw [← List.take_append_drop k xs]
  simp only [madeL, List.flatMap_append, List.length_append]
  omega
end Go.Proofs.YtabpiaaknjcnkaaGreat

/-
  The walks over delta.Apply and coffer.Apply.
-/
namespace Go.Proofs.YtabpiaaknjcnkaaGreat
open Go.RowKit
set_option linter.unusedVariables false
set_option linter.unusedSimpArgs false
set_option maxRecDepth 100000

theorem row_kept {w w1 : World} {base : Nat} {e : TypeId} {size n : Nat} {v : Value} {xs : List Value} (h : w.ownsRow base e size v n xs) (hb : Below w.heap.size w w1) : w1.ownsRow base e size v n xs := by
  refine ⟨h.1, ?_⟩
  rcases h.2 with h' | ⟨g, cap, cur, rfl, hg, hbk, hr⟩
  · exact .inl h'
  · refine .inr ⟨g, cap, cur, rfl, hg, ?_, hr⟩
    have hlt : g < w.heap.size := by
      rcases Nat.lt_or_ge g w.heap.size with h' | h'
      · exact h'
      · simp [Array.getElem?_eq_none h'] at hbk
    rw [hb.block g hlt]
    exact hbk
theorem builder_kept {T e : TypeId} {B b : Nat} {bs : List Value} {w w1 : World} (h : Lib.IsBuilder T e B b bs w) (hb : Below w.heap.size w w1) : Lib.IsBuilder T e B b bs w1 := by
  rcases h with h | h
  · obtain ⟨hB, v, hbk, hown, hne⟩ := h
    have hlt := Lib.BuilderAt.lt ⟨hB, v, hbk, hown, hne⟩
    exact .inl ⟨hB, v, by rw [hb.block b hlt]; exact hbk, row_kept hown hb, hne⟩
  · obtain ⟨hB, v, hbk, hown, hne⟩ := h
    have hlt := Lib.BuilderAt.lt ⟨hB, v, hbk, hown, hne⟩
    exact .inr ⟨hB, v, by rw [hb.block b hlt]; exact hbk, row_kept hown hb, hne⟩

set_option maxHeartbeats 1000000 in
theorem firstFault_nil (ao : Option Addr) (cap : Nat) (bs : Int) (w : World) :
    Calls Tryz.prog 118 #[.slice ao 0 cap, .int .i64 bs] w fun e w' => e = .returned (.int .i64 0) ∧ w = w' := by
  go_enter Tryz.func118, Tryz.ntmps118
  go_wp2
  go_loopw [5, 10] (fun m c wr => c = .int .i64 0 ∧ m = .int .i64 0 ∧ w = wr) (fun _ _ _ => 0)
  case atStart => exact ⟨rfl, rfl, rfl⟩
  case round =>
    obtain ⟨rfl, rfl, rfl⟩ := hrel
    go_wp2
    go_ret
    exact ⟨rfl, rfl⟩

set_option maxHeartbeats 1000000 in
theorem apply_long (base : ByteArray) (v : Value) (w : World) (h : 2000 < base.size) (hs : base.size ≤ 9223372036854775807) :
    Calls Tryz.prog 95 #[.string base, v] w fun e w' => e = .returned (.tuple #[.string ⟨#[]⟩, .int .i64 1, .int .i64 0]) ∧ w' = w := by
  go_enter Tryz.func95, Tryz.ntmps95
  go_wp2
  go_ret3
  exact ⟨rfl, rfl⟩

set_option maxHeartbeats 1000000 in
theorem apply_fault (base : ByteArray) (b off cap : Nat) (xs : List DOp) (w : World) (h : base.size ≤ 2000) (hx : xs.length ≤ 5000000000000) (hr : ReadsAt w b off xs) (hl : ∀ o ∈ xs, o.len ≤ 9223372036854775807) (hbw : b < w.heap.size)
    (hf : faultF xs base.size < xs.length) :
    Calls Tryz.prog 95 #[.string base, .slice (some ⟨b, off, none⟩) xs.length cap] w fun e w' => e = .returned (.tuple #[.string ⟨#[]⟩, .int .i64 2, .int .i64 (faultF xs base.size)]) ∧ Below w.heap.size w w' := by
  have HR : Hid (ReadsAt w b off xs) := hr
  clear hr
  go_enter Tryz.func95, Tryz.ntmps95
  go_wp2_with fail
  refine (firstFault_any b off cap xs base.size _ (by omega) (by omega) hx HR.out hl hbw).mono ?_
  rintro e w1 ⟨rfl, hb1⟩
  generalize hft : faultF xs base.size = ft at *
  have HFT : Hid (faultF xs base.size = ft) := hft
  clear hft
  go_wp2
  go_ret3
  exact ⟨by rw [HFT.out]; rfl, hb1⟩

set_option maxHeartbeats 1000000 in
theorem apply_nil (base : ByteArray) (ao : Option Addr) (cap : Nat) (w : World) (h : base.size ≤ 2000) :
    Calls Tryz.prog 95 #[.string base, .slice ao 0 cap] w fun e w' => e = .returned (.tuple #[.string ⟨#[]⟩, .int .i64 0, .int .i64 0]) ∧ Below w.heap.size w w' := by
  go_enter Tryz.func95, Tryz.ntmps95
  go_wp2_with fail
  refine (firstFault_nil ao cap base.size _).mono ?_
  rintro e w1 ⟨rfl, rfl⟩
  have hI := Lib.fresh_isBuilder 162 5 w
  go_wp2
  go_loopw [25] (fun c wr => c = .int .i64 0 ∧ (w.alloc (.cells #[.pointer none, .slice none 0 0] 162)) = wr) (fun _ _ => 0)
  case atStart => exact ⟨rfl, rfl⟩
  case round =>
    obtain ⟨rfl, rfl⟩ := hrel
    go_wp2_with fail
    refine (Tryz.Builder_String_any w.heap.size w.heap.size [] _ hI (by simp)).mono ?_
    rintro e w2 ⟨rfl, hb2⟩
    have R : Below w.heap.size w w2 := ((Below.refl _ _).alloc (Nat.le_refl _) _).trans hb2
    clear hb2 hI
    go_wp2
    go_ret3
    exact ⟨rfl, R⟩

set_option maxHeartbeats 4000000 in
theorem apply_ok (base : ByteArray) (b off cap : Nat) (xs : List DOp) (w : World) (h : base.size ≤ 2000) (hx : xs.length ≤ 5000000000000) (hr : ReadsAt w b off xs) (hl : ∀ o ∈ xs, o.len ≤ 9223372036854775807) (hbw : b < w.heap.size)
    (hf : faultF xs base.size = xs.length) :
    Calls Tryz.prog 95 #[.string base, .slice (some ⟨b, off, none⟩) xs.length cap] w fun e w' => e = .returned (.tuple #[.string ⟨(madeL base.data.toList xs).toArray⟩, .int .i64 0, .int .i64 0]) ∧ Below w.heap.size w w' := by
  have HR : Hid (ReadsAt w b off xs) := hr
  clear hr
  obtain ⟨hall, hsum⟩ := fault_all (b := (base.size : Int)) (xs := xs) (p := none) (i := 0) (m := 0) (by rw [Nat.zero_add]; exact hf) (by omega)
  have hml := madeL_length (B := base.data.toList) (xs := xs) (by rw [← Lib.size_eq]; exact hall)
  have HA : Hid (∀ o ∈ xs, isOpB o.fr o.len o.tx base.size = true) := hall
  have hmade : (madeL base.data.toList xs).length ≤ 2000 := by omega
  have HF : Hid (faultF xs base.size = xs.length) := hf
  clear hall hsum hml hf
  go_enter Tryz.func95, Tryz.ntmps95
  go_wp2_with fail
  refine (firstFault_any b off cap xs base.size _ (by omega) (by omega) hx HR.out hl hbw).mono ?_
  rintro e w1 ⟨rfl, hb1⟩
  rw [HF.out]
  have hI := Lib.fresh_isBuilder 162 5 w1
  have hsz1 := hb1.size
  go_wp2
  go_loopw [25] (fun c wr => ∃ k : Nat, k ≤ xs.length ∧ c = .int .i64 k ∧ Lib.IsBuilder 162 5 w1.heap.size w1.heap.size (Lib.byteCells (madeL base.data.toList (xs.take k))) wr ∧ Below w1.heap.size w1 wr) (fun c _ => xs.length + 1 - (intOf c).toNat)
  case atStart => exact ⟨0, by omega, rfl, hI, (Below.refl _ _).alloc (Nat.le_refl _) _⟩
  case round =>
    obtain ⟨k, hk, rfl, hI2, hb2⟩ := hrel
    have hsz2 := hb2.size
    by_cases hlt : k < xs.length
    · obtain ⟨⟨f, l, t⟩, ho⟩ : ∃ o, xs[k]? = some o := ⟨xs[k], by simp [hlt]⟩
      obtain ⟨r0, r1, r2⟩ := HR.out k _ ho
      have hop := HA.out _ (List.mem_of_getElem? ho)
      simp only at hop
      have hb12 : Below w.heap.size w wr := hb1.trans (hb2.mono hsz1)
      have c0 : wr.cell? ⟨b, off + k * 3, none⟩ = some (.int .i64 f) := (hb12.cell (p := ⟨b, _, none⟩) hbw).trans r0
      have c1 : wr.cell? ⟨b, off + k * 3 + 1, none⟩ = some (.int .i64 l) := (hb12.cell (p := ⟨b, _, none⟩) hbw).trans r1
      have c2 : wr.cell? ⟨b, off + k * 3 + 2, none⟩ = some (.string t) := (hb12.cell (p := ⟨b, _, none⟩) hbw).trans r2
      have hsucc := madeL_take_succ base.data.toList xs k _ ho
      have hle := madeL_take_le base.data.toList xs (k + 1)
      rw [hsucc, List.length_append] at hle
      have HS : Hid (madeL base.data.toList (xs.take (k + 1)) = madeL base.data.toList (xs.take k) ++ opBytes base.data.toList ⟨f, l, t⟩) := hsucc
      clear hsucc r0 r1 r2 ho
      generalize hM : madeL base.data.toList (xs.take k) = M at *
      clear hM
      by_cases hl0 : 0 < l
      · obtain ⟨hf0, hfl⟩ := isOpB_copy hop hl0
        obtain ⟨fn, rfl⟩ := Int.eq_ofNat_of_zero_le hf0
        obtain ⟨ln, rfl⟩ := Int.eq_ofNat_of_zero_le (Int.le_of_lt hl0)
        have hfl' : fn + ln ≤ base.size := by omega
        have HB : Hid (opBytes base.data.toList ⟨fn, ln, t⟩ = (base.extract fn (fn + ln)).data.toList) := by
          show opBytes _ _ = _
          rw [opBytes, if_pos hl0, Lib.extract_data]; simp
        rw [HB.out, ← Lib.size_eq] at hle
        clear hop
        go_wp2_with fail
        refine (isCopy_any (fn : Int) (ln : Int) t _).mono ?_
        rintro e w3 ⟨rfl, hb3⟩
        rw [show decide (0 < (ln : Int)) = true from by simp; omega]
        have hb3' : Below wr.heap.size wr w3 := ((Below.refl _ wr).alloc (Nat.le_refl _) _).trans (hb3.mono (by simp))
        have hI3 := builder_kept hI2 hb3'
        have k0 : w3.cell? ⟨wr.heap.size, 0, none⟩ = some (.int .i64 (fn : Int)) := (hb3.cell (p := ⟨wr.heap.size, 0, none⟩) (by simp)).trans (by simp)
        have k1 : w3.cell? ⟨wr.heap.size, 1, none⟩ = some (.int .i64 (ln : Int)) := (hb3.cell (p := ⟨wr.heap.size, 1, none⟩) (by simp)).trans (by simp)
        have k2 : w3.cell? ⟨wr.heap.size, 2, none⟩ = some (.string t) := (hb3.cell (p := ⟨wr.heap.size, 2, none⟩) (by simp)).trans (by simp)
        have hsz3 := hb3'.size
        have hblen : (Lib.byteCells M).length + (base.extract fn (fn + ln)).size ≤ 140737488355328 := by rw [Lib.byteCells_length]; omega
        clear hb3 c0 c1 c2 hI2
        go_wp2_with fail
        refine (writeString_any w1.heap.size w1.heap.size (Lib.byteCells M) (base.extract fn (fn + ln)) _ hI3 hblen (by omega)).mono ?_
        rintro e w4 ⟨rfl, hI4, hb4⟩
        have R1 : Lib.IsBuilder 162 5 w1.heap.size w1.heap.size (Lib.byteCells (madeL base.data.toList (xs.take (k + 1)))) w4 := by
          rw [HS.out, HB.out, Lib.byteCells_append]; exact .inr hI4
        have R2 : Below w1.heap.size w1 w4 := hb2.trans ((hb3'.mono hsz2).trans hb4)
        clear hb4 hI4 hI3 hb3' hb2 hblen
        go_wp2
        go_roundw
        case rel => exact ⟨k + 1, by omega, by go_num, R1, R2⟩
        case measure => simp [intOf]; omega
      · have HB : Hid (opBytes base.data.toList ⟨f, l, t⟩ = t.data.toList) := by
          show opBytes _ _ = _
          rw [opBytes, if_neg hl0]
        rw [HB.out, ← Lib.size_eq] at hle
        clear hop
        go_wp2_with fail
        refine (isCopy_any f l t _).mono ?_
        rintro e w3 ⟨rfl, hb3⟩
        rw [show decide (0 < l) = false from by simp; omega]
        have hb3' : Below wr.heap.size wr w3 := ((Below.refl _ wr).alloc (Nat.le_refl _) _).trans (hb3.mono (by simp))
        have hI3 := builder_kept hI2 hb3'
        have k0 : w3.cell? ⟨wr.heap.size, 0, none⟩ = some (.int .i64 f) := (hb3.cell (p := ⟨wr.heap.size, 0, none⟩) (by simp)).trans (by simp)
        have k1 : w3.cell? ⟨wr.heap.size, 1, none⟩ = some (.int .i64 l) := (hb3.cell (p := ⟨wr.heap.size, 1, none⟩) (by simp)).trans (by simp)
        have k2 : w3.cell? ⟨wr.heap.size, 2, none⟩ = some (.string t) := (hb3.cell (p := ⟨wr.heap.size, 2, none⟩) (by simp)).trans (by simp)
        have hsz3 := hb3'.size
        have hblen : (Lib.byteCells M).length + (t).size ≤ 140737488355328 := by rw [Lib.byteCells_length]; omega
        clear hb3 c0 c1 c2 hI2
        go_wp2_with fail
        refine (writeString_any w1.heap.size w1.heap.size (Lib.byteCells M) (t) _ hI3 hblen (by omega)).mono ?_
        rintro e w4 ⟨rfl, hI4, hb4⟩
        have R1 : Lib.IsBuilder 162 5 w1.heap.size w1.heap.size (Lib.byteCells (madeL base.data.toList (xs.take (k + 1)))) w4 := by
          rw [HS.out, HB.out, Lib.byteCells_append]; exact .inr hI4
        have R2 : Below w1.heap.size w1 w4 := hb2.trans ((hb3'.mono hsz2).trans hb4)
        clear hb4 hI4 hI3 hb3' hb2 hblen
        go_wp2
        go_roundw
        case rel => exact ⟨k + 1, by omega, by go_num, R1, R2⟩
        case measure => simp [intOf]; omega
    · go_wp2_with fail
      rw [List.take_of_length_le (by omega)] at hI2
      refine (Tryz.Builder_String_any w1.heap.size w1.heap.size (madeL base.data.toList xs) _ hI2 hsz2).mono ?_
      rintro e w2 ⟨rfl, hb3⟩
      have R : Below w.heap.size w w2 := hb1.trans ((hb2.trans hb3).mono hsz1)
      clear hb3 hI hI2
      go_wp2
      go_ret3
      exact ⟨rfl, R⟩
set_option maxHeartbeats 1000000 in
theorem capply_of {base : ByteArray} {v : Value} {w : World} {s : ByteArray} {e0 p0 : Int} (h : Calls Tryz.prog 95 #[.string base, v] w fun e w' => e = .returned (.tuple #[.string s, .int .i64 e0, .int .i64 p0]) ∧ Below w.heap.size w w') :
    Calls Tryz.prog 60 #[.string base, v] w fun e w' => e = .returned (.tuple #[.string s, .int .i64 e0, .int .i64 p0]) ∧ Below w.heap.size w w' := by
  have H : Hid (Calls Tryz.prog 95 #[.string base, v] w fun e w' => e = .returned (.tuple #[.string s, .int .i64 e0, .int .i64 p0]) ∧ Below w.heap.size w w') := h
  clear h
  go_enter Tryz.func60, Tryz.ntmps60
  go_wp2_with fail
  refine H.out.mono ?_
  rintro e w1 ⟨rfl, hb⟩
  go_wp2
  go_ret3
  exact ⟨rfl, hb⟩
end Go.Proofs.YtabpiaaknjcnkaaGreat
