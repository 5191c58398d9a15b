/- The texts WB, WA, one behind the other. -/
import Derived.Test.YtabpiaaknjcnkabGreatXW1W3W4
import Derived.Test.YtabpiaaknjcnkabGreatShelf
import Derived.Test.YtabpiaaknjcnkabGreatW8
import Derived.Test.YtabpiaaknjcnkabGreatXP3PC
import Derived.LoopTactic
/-
  The walks over the Builder's copyCheck and WriteString.
-/
namespace Go.Proofs.YtabpiaaknjcnkabGreat
open Go.RowKit
set_option linter.unusedVariables false
set_option linter.unusedSimpArgs false
set_option maxRecDepth 100000

theorem Tryz.infoByte : (Tryz.prog.info? 5).map (fun i => (i.zero, i.size, i.bytes)) = some (some (.int .u8 0), 1, 1) := by kernel_rfl
theorem Tryz.sizeBuilder : (Tryz.prog.info? 84).map (·.size) = some 2 := by kernel_rfl
theorem Tryz.liesBuilder : liesAt Tryz.prog Tryz.prog.depth 84 (2 / Tryz.prog.cellsOf 84) 0 84 1 = true := by kernel_rfl

set_option maxHeartbeats 1000000 in
theorem copyCheck_used (b : Nat) (w : World) (h0 : w.cell? ⟨b, 0, none⟩ = some (.pointer (some ⟨b, 0, none⟩))) :
    Calls Tryz.prog 73 #[.pointer (some ⟨b, 0, none⟩)] w fun e w' => e = .returned (.tuple #[]) ∧ w' = w := by
  obtain ⟨j, hj, _⟩ := Option.map_eq_some_iff.1 Tryz.sizeBuilder
  go_enter Tryz.func73, Tryz.ntmps73
  go_wp2
  rw [Lib.run_neq_ptr_same w _ Tryz.underlying82 hj]
  go_wp2
  go_end0
  exact ⟨rfl, rfl⟩

set_option maxHeartbeats 1000000 in
theorem copyCheck_fresh (b : Nat) (w : World) (h0 : w.cell? ⟨b, 0, none⟩ = some (.pointer none)) (hsh : w.shape? b = some (84, 2)) (hfz : w.frozen? ⟨b, 0, none⟩ = false) :
    Calls Tryz.prog 73 #[.pointer (some ⟨b, 0, none⟩)] w fun e w' => e = .returned (.tuple #[]) ∧ w' = w.setCell ⟨b, 0, none⟩ (.pointer (some ⟨b, 0, none⟩)) := by
  obtain ⟨j, hj, hjs⟩ := Option.map_eq_some_iff.1 Tryz.sizeBuilder
  go_enter Tryz.func73, Tryz.ntmps73
  go_wp2
  rw [Lib.run_to_unsafe w ⟨b, 0, none⟩ Tryz.underlying82 Tryz.underlying138 hj (by rw [hjs]; decide) hsh (Nat.zero_lt_succ 1)]
  simp only [Result.andThen]
  rw [Oper.upon_value]
  go_wp2
  rw [run_callFunc_extern Tryz.func88 (by kernel_rfl) (by kernel_rfl) (by kernel_rfl) (e := Extern.AbiNoEscape.same) (by kernel_rfl)]
  rw [Lib.run_noEscape]
  simp only [Result.andThen]
  rw [Oper.upon_value]
  go_wp2
  rw [Lib.run_from_unsafe w ⟨b, 0, none⟩ Tryz.underlying138 Tryz.underlying82 hj hsh Tryz.liesBuilder]
  simp only [Result.andThen]
  rw [Oper.upon_value]
  go_wp2
  go_end0
  exact ⟨rfl, rfl⟩

theorem copyCheck_any (B b : Nat) (bs : List Value) (w : World) (h : Lib.IsBuilder 84 5 B b bs w) :
    Calls Tryz.prog 73 #[.pointer (some ⟨b, 0, none⟩)] w fun e w' => e = .returned (.tuple #[]) ∧ (Lib.BuilderAt 84 5 B b (.pointer (some ⟨b, 0, none⟩)) bs w' ∧ Below B w w') := by
  rcases h with h | h
  · refine (copyCheck_fresh b w h.cell0 h.shape h.frozen0).mono ?_
    rintro e w' ⟨rfl, rfl⟩
    exact ⟨rfl, h.used _, (Below.refl B w).setCell (p := ⟨b, 0, none⟩) h.1 _⟩
  · refine (copyCheck_used b w h.cell0).mono ?_
    rintro e w' ⟨rfl, rfl⟩
    exact ⟨rfl, h, Below.refl B _⟩

set_option maxHeartbeats 2000000 in
theorem writeString_any (B b : Nat) (bs : List Value) (s : ByteArray) (w : World) (h : Lib.IsBuilder 84 5 B b bs w) (hlen : bs.length + s.size ≤ 140737488355328) (hBw : B ≤ w.heap.size) :
    Calls Tryz.prog 44 #[.pointer (some ⟨b, 0, none⟩), .string s] w fun e w' => e = .returned (.tuple #[.int .i64 s.size, .nilIface]) ∧ (Lib.BuilderAt 84 5 B b (.pointer (some ⟨b, 0, none⟩)) (bs ++ Lib.strCells s) w' ∧ Below B w w') := by
  obtain ⟨i0, hi, hz0, hz1, hz2⟩ := info_parts Tryz.infoByte
  go_enter Tryz.func44, Tryz.ntmps44
  go_wp2_with (go_at_call 73; refine (copyCheck_any B b bs _ h).mono ?_)
  rintro e w1 ⟨rfl, h1, hb1⟩
  obtain ⟨hB, v, hbk, hown, hne⟩ := h1
  have c0 : w1.cell? ⟨b, 0, none⟩ = some (.pointer (some ⟨b, 0, none⟩)) := by rw [Lib.cell_of_heap hbk]; rfl
  have c1 : w1.cell? ⟨b, 1, none⟩ = some v := by rw [Lib.cell_of_heap hbk]; rfl
  go_wp2_with (at_builtin; refine Lib.wpList_append_own_string _ rfl _ _ 41 9 rfl B 5 i0 Tryz.underlying41 Tryz.underlying9 hi hz0 hz1 hz2 _ _ _ rfl hown s rfl ?c3 ?c4 ?c5 ?_)
  case c3 => unfold maxLen; omega
  case c4 => omega
  case c5 => have := hb1.size; omega
  intro v' w2 hown' hgrow _
  have hlt : b < w1.heap.size := by
    rcases Nat.lt_or_ge b w1.heap.size with h' | h'
    · exact h'
    · simp [Array.getElem?_eq_none h'] at hbk
  have hb2 : w2.heap[b]? = some (.cells #[.pointer (some ⟨b, 0, none⟩), v] 84 (0, 0)) := by
    rw [hgrow.block b hlt (fun e => hne e.symm)]
    exact hbk
  have d0 : w2.cell? ⟨b, 0, none⟩ = some (.pointer (some ⟨b, 0, none⟩)) := by rw [Lib.cell_of_heap hb2]; rfl
  have d1 : w2.cell? ⟨b, 1, none⟩ = some v := by rw [Lib.cell_of_heap hb2]; rfl
  have f1 : w2.frozen? ⟨b, 1, none⟩ = false := Lib.frozen_of_heap hb2 1
  obtain ⟨ao, n', cap, rfl⟩ : ∃ ao n' cap, v' = .slice ao n' cap := by
    rcases hown'.2 with ⟨hv, _⟩ | ⟨g, cap, cur, hv, _⟩
    · exact ⟨_, _, _, hv⟩
    · exact ⟨_, _, _, hv⟩
  go_wp2
  go_ret2
  refine ⟨rfl, ?_, ?_⟩
  · exact Lib.BuilderAt.put (T := 84) (e := 5) hB hb2 (bs' := bs ++ Lib.strCells s) (by rw [List.length_append, Lib.strCells_length]; exact hown') (by decide)
  · exact (hb1.grown hgrow (by have := hb1.size; omega) (fun k hk => (hown.lt k hk).1)).setCell (p := ⟨b, 1, none⟩) hB _
end Go.Proofs.YtabpiaaknjcnkabGreat

/-
  The walks over delta.Apply and coffer.Apply.
-/
namespace Go.Proofs.YtabpiaaknjcnkabGreat
open Go.RowKit
set_option linter.unusedVariables false
set_option linter.unusedSimpArgs false
set_option maxRecDepth 100000

theorem row_kept {w w1 : World} {base : Nat} {e : TypeId} {size n : Nat} {v : Value} {xs : List Value} (h : w.ownsRow base e size v n xs) (hb : Below w.heap.size w w1) : w1.ownsRow base e size v n xs := by
  refine ⟨h.1, ?_⟩
  rcases h.2 with h' | ⟨g, cap, cur, rfl, hg, hbk, hr⟩
  · exact .inl h'
  · refine .inr ⟨g, cap, cur, rfl, hg, ?_, hr⟩
    have hlt : g < w.heap.size := by
      rcases Nat.lt_or_ge g w.heap.size with h' | h'
      · exact h'
      · simp [Array.getElem?_eq_none h'] at hbk
    rw [hb.block g hlt]
    exact hbk
theorem builder_kept {T e : TypeId} {B b : Nat} {bs : List Value} {w w1 : World} (h : Lib.IsBuilder T e B b bs w) (hb : Below w.heap.size w w1) : Lib.IsBuilder T e B b bs w1 := by
  rcases h with h | h
  · obtain ⟨hB, v, hbk, hown, hne⟩ := h
    have hlt := Lib.BuilderAt.lt ⟨hB, v, hbk, hown, hne⟩
    exact .inl ⟨hB, v, by rw [hb.block b hlt]; exact hbk, row_kept hown hb, hne⟩
  · obtain ⟨hB, v, hbk, hown, hne⟩ := h
    have hlt := Lib.BuilderAt.lt ⟨hB, v, hbk, hown, hne⟩
    exact .inr ⟨hB, v, by rw [hb.block b hlt]; exact hbk, row_kept hown hb, hne⟩

set_option maxHeartbeats 1000000 in
theorem firstFault_nil (ao : Option Addr) (cap : Nat) (bs : Int) (w : World) :
    Calls Tryz.prog 42 #[.slice ao 0 cap, .int .i64 bs] w fun e w' => e = .returned (.int .i64 0) ∧ w = w' := by
  go_enter Tryz.func42, Tryz.ntmps42
  go_wp2
  go_loopw [5, 10] (fun m c wr => c = .int .i64 0 ∧ m = .int .i64 0 ∧ w = wr) (fun _ _ _ => 0)
  case atStart => exact ⟨rfl, rfl, rfl⟩
  case round =>
    obtain ⟨rfl, rfl, rfl⟩ := hrel
    go_wp2
    go_ret
    exact ⟨rfl, rfl⟩

set_option maxHeartbeats 1000000 in
theorem apply_long (base : ByteArray) (v : Value) (w : World) (h : 2000 < base.size) (hs : base.size ≤ 9223372036854775807) :
    Calls Tryz.prog 29 #[.string base, v] w fun e w' => e = .returned (.tuple #[.string ⟨#[]⟩, .int .i64 1, .int .i64 0]) ∧ w' = w := by
  go_enter Tryz.func29, Tryz.ntmps29
  go_wp2
  go_ret3
  exact ⟨rfl, rfl⟩

set_option maxHeartbeats 1000000 in
theorem apply_fault (base : ByteArray) (b off cap : Nat) (xs : List DOp) (w : World) (h : base.size ≤ 2000) (hx : xs.length ≤ 5000000000000) (hr : ReadsAt w b off xs) (hl : ∀ o ∈ xs, o.len ≤ 9223372036854775807) (hbw : b < w.heap.size)
    (hf : faultF xs base.size < xs.length) :
    Calls Tryz.prog 29 #[.string base, .slice (some ⟨b, off, none⟩) xs.length cap] w fun e w' => e = .returned (.tuple #[.string ⟨#[]⟩, .int .i64 2, .int .i64 (faultF xs base.size)]) ∧ Below w.heap.size w w' := by
  have HR : Hid (ReadsAt w b off xs) := hr
  clear hr
  go_enter Tryz.func29, Tryz.ntmps29
  go_wp2_with fail
  refine (firstFault_any b off cap xs base.size _ (by omega) (by omega) hx HR.out hl hbw).mono ?_
  rintro e w1 ⟨rfl, hb1⟩
  generalize hft : faultF xs base.size = ft at *
  have HFT : Hid (faultF xs base.size = ft) := hft
  clear hft
  go_wp2
  go_ret3
  exact ⟨by rw [HFT.out]; rfl, hb1⟩

set_option maxHeartbeats 1000000 in
theorem apply_nil (base : ByteArray) (ao : Option Addr) (cap : Nat) (w : World) (h : base.size ≤ 2000) :
    Calls Tryz.prog 29 #[.string base, .slice ao 0 cap] w fun e w' => e = .returned (.tuple #[.string ⟨#[]⟩, .int .i64 0, .int .i64 0]) ∧ Below w.heap.size w w' := by
  go_enter Tryz.func29, Tryz.ntmps29
  go_wp2_with fail
  refine (firstFault_nil ao cap base.size _).mono ?_
  rintro e w1 ⟨rfl, rfl⟩
  have hI := Lib.fresh_isBuilder 84 5 w
  go_wp2
  go_loopw [25] (fun c wr => c = .int .i64 0 ∧ (w.alloc (.cells #[.pointer none, .slice none 0 0] 84)) = wr) (fun _ _ => 0)
  case atStart => exact ⟨rfl, rfl⟩
  case round =>
    obtain ⟨rfl, rfl⟩ := hrel
    go_wp2_with fail
    refine (Tryz.Builder_String_any w.heap.size w.heap.size [] _ hI (by simp)).mono ?_
    rintro e w2 ⟨rfl, hb2⟩
    have R : Below w.heap.size w w2 := ((Below.refl _ _).alloc (Nat.le_refl _) _).trans hb2
    clear hb2 hI
    go_wp2
    go_ret3
    exact ⟨rfl, R⟩

set_option maxHeartbeats 4000000 in
theorem apply_ok (base : ByteArray) (b off cap : Nat) (xs : List DOp) (w : World) (h : base.size ≤ 2000) (hx : xs.length ≤ 5000000000000) (hr : ReadsAt w b off xs) (hl : ∀ o ∈ xs, o.len ≤ 9223372036854775807) (hbw : b < w.heap.size)
    (hf : faultF xs base.size = xs.length) :
    Calls Tryz.prog 29 #[.string base, .slice (some ⟨b, off, none⟩) xs.length cap] w fun e w' => e = .returned (.tuple #[.string ⟨(madeL base.data.toList xs).toArray⟩, .int .i64 0, .int .i64 0]) ∧ Below w.heap.size w w' := by
  have HR : Hid (ReadsAt w b off xs) := hr
  clear hr
  obtain ⟨hall, hsum⟩ := fault_all (b := (base.size : Int)) (xs := xs) (p := none) (i := 0) (m := 0) (by rw [Nat.zero_add]; exact hf) (by omega)
  have hml := madeL_length (B := base.data.toList) (xs := xs) (by rw [← Lib.size_eq]; exact hall)
  have HA : Hid (∀ o ∈ xs, isOpB o.fr o.len o.tx base.size = true) := hall
  have hmade : (madeL base.data.toList xs).length ≤ 2000 := by omega
  have HF : Hid (faultF xs base.size = xs.length) := hf
  clear hall hsum hml hf
  go_enter Tryz.func29, Tryz.ntmps29
  go_wp2_with fail
  refine (firstFault_any b off cap xs base.size _ (by omega) (by omega) hx HR.out hl hbw).mono ?_
  rintro e w1 ⟨rfl, hb1⟩
  rw [HF.out]
  have hI := Lib.fresh_isBuilder 84 5 w1
  have hsz1 := hb1.size
  go_wp2
  go_loopw [25] (fun c wr => ∃ k : Nat, k ≤ xs.length ∧ c = .int .i64 k ∧ Lib.IsBuilder 84 5 w1.heap.size w1.heap.size (Lib.byteCells (madeL base.data.toList (xs.take k))) wr ∧ Below w1.heap.size w1 wr) (fun c _ => xs.length + 1 - (intOf c).toNat)
  case atStart => exact ⟨0, by omega, rfl, hI, (Below.refl _ _).alloc (Nat.le_refl _) _⟩
  case round =>
    obtain ⟨k, hk, rfl, hI2, hb2⟩ := hrel
    have hsz2 := hb2.size
    by_cases hlt : k < xs.length
    · obtain ⟨⟨f, l, t⟩, ho⟩ : ∃ o, xs[k]? = some o := ⟨xs[k], by simp [hlt]⟩
      obtain ⟨r0, r1, r2⟩ := HR.out k _ ho
      have hop := HA.out _ (List.mem_of_getElem? ho)
      simp only at hop
      have hb12 : Below w.heap.size w wr := hb1.trans (hb2.mono hsz1)
      have c0 : wr.cell? ⟨b, off + k * 3, none⟩ = some (.int .i64 f) := (hb12.cell (p := ⟨b, _, none⟩) hbw).trans r0
      have c1 : wr.cell? ⟨b, off + k * 3 + 1, none⟩ = some (.int .i64 l) := (hb12.cell (p := ⟨b, _, none⟩) hbw).trans r1
      have c2 : wr.cell? ⟨b, off + k * 3 + 2, none⟩ = some (.string t) := (hb12.cell (p := ⟨b, _, none⟩) hbw).trans r2
      have hsucc := madeL_take_succ base.data.toList xs k _ ho
      have hle := madeL_take_le base.data.toList xs (k + 1)
      rw [hsucc, List.length_append] at hle
      have HS : Hid (madeL base.data.toList (xs.take (k + 1)) = madeL base.data.toList (xs.take k) ++ opBytes base.data.toList ⟨f, l, t⟩) := hsucc
      clear hsucc r0 r1 r2 ho
      generalize hM : madeL base.data.toList (xs.take k) = M at *
      clear hM
      by_cases hl0 : 0 < l
      · obtain ⟨hf0, hfl⟩ := isOpB_copy hop hl0
        obtain ⟨fn, rfl⟩ := Int.eq_ofNat_of_zero_le hf0
        obtain ⟨ln, rfl⟩ := Int.eq_ofNat_of_zero_le (Int.le_of_lt hl0)
        have hfl' : fn + ln ≤ base.size := by omega
        have HB : Hid (opBytes base.data.toList ⟨fn, ln, t⟩ = (base.extract fn (fn + ln)).data.toList) := by
          show opBytes _ _ = _
          rw [opBytes, if_pos hl0, Lib.extract_data]; simp
        rw [HB.out, ← Lib.size_eq] at hle
        clear hop
        go_wp2_with fail
        refine (isCopy_any (fn : Int) (ln : Int) t _).mono ?_
        rintro e w3 ⟨rfl, hb3⟩
        rw [show decide (0 < (ln : Int)) = true from by simp; omega]
        have hb3' : Below wr.heap.size wr w3 := ((Below.refl _ wr).alloc (Nat.le_refl _) _).trans (hb3.mono (by simp))
        have hI3 := builder_kept hI2 hb3'
        have k0 : w3.cell? ⟨wr.heap.size, 0, none⟩ = some (.int .i64 (fn : Int)) := (hb3.cell (p := ⟨wr.heap.size, 0, none⟩) (by simp)).trans (by simp)
        have k1 : w3.cell? ⟨wr.heap.size, 1, none⟩ = some (.int .i64 (ln : Int)) := (hb3.cell (p := ⟨wr.heap.size, 1, none⟩) (by simp)).trans (by simp)
        have k2 : w3.cell? ⟨wr.heap.size, 2, none⟩ = some (.string t) := (hb3.cell (p := ⟨wr.heap.size, 2, none⟩) (by simp)).trans (by simp)
        have hsz3 := hb3'.size
        have hblen : (Lib.byteCells M).length + (base.extract fn (fn + ln)).size ≤ 140737488355328 := by rw [Lib.byteCells_length]; omega
        clear hb3 c0 c1 c2 hI2
        go_wp2_with fail
        refine (writeString_any w1.heap.size w1.heap.size (Lib.byteCells M) (base.extract fn (fn + ln)) _ hI3 hblen (by omega)).mono ?_
        rintro e w4 ⟨rfl, hI4, hb4⟩
        have R1 : Lib.IsBuilder 84 5 w1.heap.size w1.heap.size (Lib.byteCells (madeL base.data.toList (xs.take (k + 1)))) w4 := by
          rw [HS.out, HB.out, Lib.byteCells_append]; exact .inr hI4
        have R2 : Below w1.heap.size w1 w4 := hb2.trans ((hb3'.mono hsz2).trans hb4)
        clear hb4 hI4 hI3 hb3' hb2 hblen
        go_wp2
        go_roundw
        case rel => exact ⟨k + 1, by omega, by go_num, R1, R2⟩
        case measure => simp [intOf]; omega
      · have HB : Hid (opBytes base.data.toList ⟨f, l, t⟩ = t.data.toList) := by
          show opBytes _ _ = _
          rw [opBytes, if_neg hl0]
        rw [HB.out, ← Lib.size_eq] at hle
        clear hop
        go_wp2_with fail
        refine (isCopy_any f l t _).mono ?_
        rintro e w3 ⟨rfl, hb3⟩
        rw [show decide (0 < l) = false from by simp; omega]
        have hb3' : Below wr.heap.size wr w3 := ((Below.refl _ wr).alloc (Nat.le_refl _) _).trans (hb3.mono (by simp))
        have hI3 := builder_kept hI2 hb3'
        have k0 : w3.cell? ⟨wr.heap.size, 0, none⟩ = some (.int .i64 f) := (hb3.cell (p := ⟨wr.heap.size, 0, none⟩) (by simp)).trans (by simp)
        have k1 : w3.cell? ⟨wr.heap.size, 1, none⟩ = some (.int .i64 l) := (hb3.cell (p := ⟨wr.heap.size, 1, none⟩) (by simp)).trans (by simp)
        have k2 : w3.cell? ⟨wr.heap.size, 2, none⟩ = some (.string t) := (hb3.cell (p := ⟨wr.heap.size, 2, none⟩) (by simp)).trans (by simp)
        have hsz3 := hb3'.size
        have hblen : (Lib.byteCells M).length + (t).size ≤ 140737488355328 := by rw [Lib.byteCells_length]; omega
        clear hb3 c0 c1 c2 hI2
        go_wp2_with fail
        refine (writeString_any w1.heap.size w1.heap.size (Lib.byteCells M) (t) _ hI3 hblen (by omega)).mono ?_
        rintro e w4 ⟨rfl, hI4, hb4⟩
        have R1 : Lib.IsBuilder 84 5 w1.heap.size w1.heap.size (Lib.byteCells (madeL base.data.toList (xs.take (k + 1)))) w4 := by
          rw [HS.out, HB.out, Lib.byteCells_append]; exact .inr hI4
        have R2 : Below w1.heap.size w1 w4 := hb2.trans ((hb3'.mono hsz2).trans hb4)
        clear hb4 hI4 hI3 hb3' hb2 hblen
        go_wp2
        go_roundw
        case rel => exact ⟨k + 1, by omega, by go_num, R1, R2⟩
        case measure => simp [intOf]; omega
    · go_wp2_with fail
      rw [List.take_of_length_le (by omega)] at hI2
      refine (Tryz.Builder_String_any w1.heap.size w1.heap.size (madeL base.data.toList xs) _ hI2 hsz2).mono ?_
      rintro e w2 ⟨rfl, hb3⟩
      have R : Below w.heap.size w w2 := hb1.trans ((hb2.trans hb3).mono hsz1)
      clear hb3 hI hI2
      go_wp2
      go_ret3
      exact ⟨rfl, R⟩
set_option maxHeartbeats 1000000 in
theorem capply_of {base : ByteArray} {v : Value} {w : World} {s : ByteArray} {e0 p0 : Int} (h : Calls Tryz.prog 29 #[.string base, v] w fun e w' => e = .returned (.tuple #[.string s, .int .i64 e0, .int .i64 p0]) ∧ Below w.heap.size w w') :
    Calls Tryz.prog 12 #[.string base, v] w fun e w' => e = .returned (.tuple #[.string s, .int .i64 e0, .int .i64 p0]) ∧ Below w.heap.size w w' := by
  have H : Hid (Calls Tryz.prog 29 #[.string base, v] w fun e w' => e = .returned (.tuple #[.string s, .int .i64 e0, .int .i64 p0]) ∧ Below w.heap.size w w') := h
  clear h
  go_enter Tryz.func12, Tryz.ntmps12
  go_wp2_with fail
  refine H.out.mono ?_
  rintro e w1 ⟨rfl, hb⟩
  go_wp2
  go_ret3
  exact ⟨rfl, hb⟩
end Go.Proofs.YtabpiaaknjcnkabGreat
