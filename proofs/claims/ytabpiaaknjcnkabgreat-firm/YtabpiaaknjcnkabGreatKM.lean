/-
  The walk over Firm.
-/
import Derived.Test.YtabpiaaknjcnkabGreatXVMKTPFVQ
import Derived.Test.YtabpiaaknjcnkabGreatXRGRH
import Derived.Deep.OwnRows
namespace Go.Proofs.YtabpiaaknjcnkabGreat
open Go.RowKit
set_option linter.unusedVariables false
set_option linter.unusedSimpArgs false
set_option maxRecDepth 100000

/-- So many zero bytes. -/
def zeros (n : Nat) : ByteArray := ⟨(List.replicate n 0).toArray⟩
theorem zeros_size (n : Nat) : (zeros n).size = n := by rw [Lib.size_eq]; simp [zeros]
theorem make_zeros (n : Nat) (hn : n ≤ 1000000) (W : World) : (Instr.makeSlice 41 (.int .i64 (n : Int)) (.int .i64 (n : Int))).run Tryz.prog W = .ok (.slice (some ⟨W.heap.size, 0, none⟩) n n) (W.alloc (.cells (madeCells #[.int .u8 0] n) 5)) := by
  obtain ⟨i0, hi, hz0, hz1, hz2⟩ := info_parts Tryz.infoByte
  exact run_make_row 41 5 i0 (.int .u8 0) Tryz.underlying41 hi hz0 hz1 rfl .i64 .i64 n (by rw [hz2]; omega) (by omega) W
theorem conv_zeros (n : Nat) (W : World) (k : Nat) : (convert 41 9 (.slice (some ⟨W.heap.size, 0, none⟩) n n)).run Tryz.prog ((W.alloc (.cells (madeCells #[.int .u8 0] n) 5)).drewN k) = .ok (.string (zeros n)) ((W.alloc (.cells (madeCells #[.int .u8 0] n) 5)).drewN k) := by
  have hc : ∀ j, j < n → ((W.alloc (.cells (madeCells #[.int .u8 0] n) 5)).drewN k).cell? ⟨W.heap.size, j, none⟩ = some (.int .u8 0) := fun j hj => by
    have hb : ((W.alloc (.cells (madeCells #[.int .u8 0] n) 5)).drewN k).heap[W.heap.size]? = some (.cells (madeCells #[.int .u8 0] n) 5) := heap_alloc_new _ _
    rw [Lib.cell_of_heap hb]
    simp [madeCells, hj, Nat.mod_one]
  have := run_convert_bytes_back (P := Tryz.prog) ((W.alloc (.cells (madeCells #[.int .u8 0] n) 5)).drewN k) 41 9 5 ⟨W.heap.size, 0, none⟩ n (List.replicate n 0) Tryz.underlying41 Tryz.underlying5 Tryz.underlying9 (fun j hj => by
    rw [List.length_replicate] at hj
    have := hc j hj
    rw [show (⟨W.heap.size, 0, none⟩ : Addr).add j = ⟨W.heap.size, j, none⟩ from by unfold Addr.add; split <;> simp_all]
    rw [this, List.getElem_replicate]; rfl)
  rw [List.length_replicate] at this
  exact this

/-- Blocks laid one behind the other. -/
def allocs : World → List Obj → World
  | w, [] => w
  | w, o :: r => allocs (w.alloc o) r
theorem allocs_size : ∀ (l : List Obj) (w : World), (allocs w l).heap.size = w.heap.size + l.length
  | [], w => rfl
  | o :: r, w => by rw [allocs, allocs_size r]; simp; omega
theorem allocs_below : ∀ (l : List Obj) (w : World), Below w.heap.size w (allocs w l)
  | [], w => Below.refl _ _
  | o :: r, w => ((Below.refl w.heap.size w).alloc (Nat.le_refl _) o).trans ((allocs_below r (w.alloc o)).mono (by simp))
theorem allocs_get : ∀ (l : List Obj) (w : World) (i : Nat) (o : Obj), l[i]? = some o → (allocs w l).heap[w.heap.size + i]? = some o
  | [], w, i, o, h => by simp at h
  | x :: r, w, 0, o, h => by
    simp only [List.getElem?_cons_zero, Option.some.injEq] at h
    subst h
    rw [allocs, (allocs_below r (w.alloc x)).block _ (by simp)]
    exact heap_alloc_new _ _
  | x :: r, w, i + 1, o, h => by
    have := allocs_get r (w.alloc x) i o (by simpa using h)
    rw [allocs, ← this]
    congr 1
    simp; omega
def opObj (xs : List DOp) : Obj := .cells (opCells xs).toArray 48
def badObjs (B : Nat) (far : Int) (L : ByteArray) : List Obj :=
  (bads far L).map opObj ++ [.cells #[.slice (some ⟨B, 0, none⟩) 1 1, .slice (some ⟨B + 1, 0, none⟩) 1 1, .slice (some ⟨B + 1 + 1, 0, none⟩) 1 1, .slice (some ⟨B + 1 + 1 + 1, 0, none⟩) 1 1, .slice (some ⟨B + 1 + 1 + 1 + 1, 0, none⟩) 1 1,
    .slice (some ⟨B + 1 + 1 + 1 + 1 + 1, 0, none⟩) 1 1, .slice (some ⟨B + 1 + 1 + 1 + 1 + 1 + 1, 0, none⟩) 1 1, .slice (some ⟨B + 1 + 1 + 1 + 1 + 1 + 1 + 1, 0, none⟩) 1 1, .slice (some ⟨B + 1 + 1 + 1 + 1 + 1 + 1 + 1 + 1, 0, none⟩) 1 1,
    .slice (some ⟨B + 1 + 1 + 1 + 1 + 1 + 1 + 1 + 1 + 1, 0, none⟩) 3 3, .slice (some ⟨B + 1 + 1 + 1 + 1 + 1 + 1 + 1 + 1 + 1 + 1, 0, none⟩) 2 2, .slice (some ⟨B + 1 + 1 + 1 + 1 + 1 + 1 + 1 + 1 + 1 + 1 + 1, 0, none⟩) 2 2] 42,
   .cells #[.int .i64 0, .int .i64 0, .int .i64 0, .int .i64 0, .int .i64 0, .int .i64 0, .int .i64 0, .int .i64 0, .int .i64 0, .int .i64 2, .int .i64 1, .int .i64 1] 3]
theorem reads_block {W : World} {g : Nat} {xs : List DOp} {T : TypeId} (hb : W.heap[g]? = some (.cells (opCells xs).toArray T (0, 0))) : ReadsAt W g 0 xs := fun i o ho => by
  obtain ⟨a0, a1, a2⟩ := opCells_get xs i o ho
  refine ⟨?_, ?_, ?_⟩ <;> rw [Lib.cell_of_heap hb] <;> simpa
theorem bad_facts (w3 : World) (far : Int) (L : ByteArray) (j : Nat) (hj : j < 12) : ∃ xs pl g, (bads far L)[j]? = some xs ∧ places[j]? = some pl ∧ pl ≤ 2 ∧ (allocs w3 (badObjs w3.heap.size far L)).cell? ⟨w3.heap.size + 1 + 1 + 1 + 1 + 1 + 1 + 1 + 1 + 1 + 1 + 1 + 1, j, none⟩ = some (.slice (some ⟨g, 0, none⟩) xs.length xs.length) ∧
    (allocs w3 (badObjs w3.heap.size far L)).cell? ⟨w3.heap.size + 1 + 1 + 1 + 1 + 1 + 1 + 1 + 1 + 1 + 1 + 1 + 1 + 1, j, none⟩ = some (.int .i64 (pl : Nat)) ∧ View (allocs w3 (badObjs w3.heap.size far L)) (.slice (some ⟨g, 0, none⟩) xs.length xs.length) xs := by
  have c12 := allocs_get (badObjs w3.heap.size far L) w3 12 _ rfl
  have c13 := allocs_get (badObjs w3.heap.size far L) w3 13 _ rfl
  have vw : ∀ (k : Nat) (xs : List DOp), (badObjs w3.heap.size far L)[k]? = some (opObj xs) → View (allocs w3 (badObjs w3.heap.size far L)) (.slice (some ⟨w3.heap.size + k, 0, none⟩) xs.length xs.length) xs := fun k xs h => by
    have hb := allocs_get (badObjs w3.heap.size far L) w3 k _ h
    exact .inr ⟨_, _, _, rfl, lt_of_block hb, reads_block hb⟩
  match j, hj with
  | 0, _ => exact ⟨_, _, w3.heap.size + 0, rfl, rfl, by decide, (Lib.cell_of_heap c12 0).trans rfl, (Lib.cell_of_heap c13 0).trans rfl, vw 0 _ rfl⟩
  | 1, _ => exact ⟨_, _, w3.heap.size + 1, rfl, rfl, by decide, (Lib.cell_of_heap c12 1).trans rfl, (Lib.cell_of_heap c13 1).trans rfl, vw 1 _ rfl⟩
  | 2, _ => exact ⟨_, _, w3.heap.size + 2, rfl, rfl, by decide, (Lib.cell_of_heap c12 2).trans rfl, (Lib.cell_of_heap c13 2).trans rfl, vw 2 _ rfl⟩
  | 3, _ => exact ⟨_, _, w3.heap.size + 3, rfl, rfl, by decide, (Lib.cell_of_heap c12 3).trans rfl, (Lib.cell_of_heap c13 3).trans rfl, vw 3 _ rfl⟩
  | 4, _ => exact ⟨_, _, w3.heap.size + 4, rfl, rfl, by decide, (Lib.cell_of_heap c12 4).trans rfl, (Lib.cell_of_heap c13 4).trans rfl, vw 4 _ rfl⟩
  | 5, _ => exact ⟨_, _, w3.heap.size + 5, rfl, rfl, by decide, (Lib.cell_of_heap c12 5).trans rfl, (Lib.cell_of_heap c13 5).trans rfl, vw 5 _ rfl⟩
  | 6, _ => exact ⟨_, _, w3.heap.size + 6, rfl, rfl, by decide, (Lib.cell_of_heap c12 6).trans rfl, (Lib.cell_of_heap c13 6).trans rfl, vw 6 _ rfl⟩
  | 7, _ => exact ⟨_, _, w3.heap.size + 7, rfl, rfl, by decide, (Lib.cell_of_heap c12 7).trans rfl, (Lib.cell_of_heap c13 7).trans rfl, vw 7 _ rfl⟩
  | 8, _ => exact ⟨_, _, w3.heap.size + 8, rfl, rfl, by decide, (Lib.cell_of_heap c12 8).trans rfl, (Lib.cell_of_heap c13 8).trans rfl, vw 8 _ rfl⟩
  | 9, _ => exact ⟨_, _, w3.heap.size + 9, rfl, rfl, by decide, (Lib.cell_of_heap c12 9).trans rfl, (Lib.cell_of_heap c13 9).trans rfl, vw 9 _ rfl⟩
  | 10, _ => exact ⟨_, _, w3.heap.size + 10, rfl, rfl, by decide, (Lib.cell_of_heap c12 10).trans rfl, (Lib.cell_of_heap c13 10).trans rfl, vw 10 _ rfl⟩
  | 11, _ => exact ⟨_, _, w3.heap.size + 11, rfl, rfl, by decide, (Lib.cell_of_heap c12 11).trans rfl, (Lib.cell_of_heap c13 11).trans rfl, vw 11 _ rfl⟩
  | j + 12, hj => omega

set_option maxHeartbeats 16000000 in
theorem firm_any (text : ByteArray) (v : Value) (far0 : Int) (w : World) (ht : text.size ≤ 9223372036854775807) (hv : RawIn w v) (hsl : ∃ ao n cap, v = .slice ao n cap) (ha1 : -9223372036854775808 ≤ far0) (ha2 : far0 ≤ 9223372036854775807) :
    Calls Tryz.prog 4 #[.string text, v, .int .i64 far0] w fun e w' => e = .returned (.bool true) ∧ Below w.heap.size w w' := by
  have HTO : Hid (Calls Tryz.prog 5 #[.string text, v] w (ToldPost w)) := told_any text v w ht hv
  obtain ⟨rao, rn, rcap, rfl⟩ := hsl
  clear hv
  have HPK : Hid (∀ W, Calls Tryz.prog 10 #[.int .i64 far0, .int .i64 1099511627776] W fun e w' => e = .returned (.int .i64 (pickN far0 1099511627776)) ∧ W = w') := fun W => pick_eq far0 1099511627776 W ha1 ha2 (by decide) (by decide)
  have hfar := pickN_lt far0 1099511627776 (by decide)
  generalize pickN far0 1099511627776 = far at *
  clear ha1 ha2
  go_enter Tryz.func4, Tryz.ntmps4
  go_wp2_with fail
  refine (HPK.out _).mono ?_
  rintro e w0 ⟨rfl, rfl⟩
  go_wp2_with fail
  refine HTO.out.mono ?_
  rintro e w1 ⟨q, p, rfl, cur, a, b, c, lv, tv, s, vs, rs, hT, hK⟩
  have HT : Hid (TaleAt w w1 q p cur a b c lv tv s vs rs) := hT
  have HK : Hid (TaleOk s vs) := hK
  have hpos := hK.pos
  have hmany := hK.many
  obtain ⟨ga, ca, hq1, hga1, k01, k91, hC1⟩ := tale_seen hT hpos
  obtain ⟨m, hm⟩ : ∃ m, vs.length = m + 1 := ⟨vs.length - 1, by omega⟩
  have HL : Hid (vs.length = m + 1) := hm
  have hlast := hK.last
  rw [hm] at k91 hmany hlast
  have HLA : Hid (vs[m]? = some s) := hlast
  have hmI : IntKind.i64.wrap (m : Int) = (m : Int) := by rw [IntKind.wrap_i64]; omega
  have hmL : (m : Int) < (m : Int) + 1 := by omega
  clear hT hK hm hpos hlast hC1
  obtain ⟨ZC, hZC⟩ : ∃ ZC, ZC = madeCells #[.int .u8 0] 2001 := ⟨_, rfl⟩
  obtain ⟨LG, hLG⟩ : ∃ LG, LG = zeros 2001 := ⟨_, rfl⟩
  have hmk : ∀ W : World, (Instr.makeSlice 41 (.int .i64 2001) (.int .i64 2001)).run Tryz.prog W = .ok (.slice (some ⟨W.heap.size, 0, none⟩) 2001 2001) (W.alloc (.cells ZC 5)) := fun W => by rw [hZC]; exact make_zeros 2001 (by omega) W
  have hcv : ∀ W : World, (convert 41 9 (.slice (some ⟨W.heap.size, 0, none⟩) 2001 2001)).run Tryz.prog (W.alloc (.cells ZC 5)) = .ok (.string LG) (W.alloc (.cells ZC 5)) := fun W => by rw [hZC, hLG]; exact conv_zeros 2001 W 0
  have hLGs : LG.size = 2001 := by rw [hLG]; exact zeros_size _
  clear hZC hLG
  go_wp2_with fail
  refine (cdiff_long LG ⟨#[]⟩ _ (by omega) (by decide) (by omega)).mono ?_
  rintro e w2 ⟨rfl, rfl⟩
  go_wp2_with fail
  refine (cdiff_long ⟨#[]⟩ LG _ (by decide) (by omega) (by omega)).mono ?_
  rintro e w2 ⟨rfl, rfl⟩
  have HB2 : Hid (Below w1.heap.size w1 (w1.alloc (.cells ZC 5))) := (Below.refl _ _).alloc (Nat.le_refl _) _
  generalize hW2 : w1.alloc (.cells ZC 5) = w2 at *
  have HAP : Hid (Calls Tryz.prog 12 #[.string LG, .slice none 0 0] w2 fun e w' => e = .returned (.tuple #[.string ⟨#[]⟩, .int .i64 1, .int .i64 0]) ∧ Below w2.heap.size w2 w') := by
    have := capply_any (base := LG) (v := .slice none 0 0) (xs := []) (w := w2) (by omega) (by simp) (.inl ⟨rfl, _, _, rfl⟩) (by simp)
    unfold appS appE appP at this
    rw [if_pos (by omega), if_pos (by omega), if_pos (by omega)] at this
    exact this
  clear hW2
  go_wp2_with fail
  refine HAP.out.mono ?_
  rintro e w3 ⟨rfl, b3⟩
  have HB3 : Hid (Below w1.heap.size w1 w3) := HB2.out.trans (b3.mono HB2.out.size)
  clear b3 HB2 HAP hmk hcv
  go_wp2_with fail
  change Code.wp _ _ _ _ (allocs w3 (badObjs w3.heap.size far LG))
  have HF : Hid (∀ j, j < 12 → _) := bad_facts w3 far LG
  have HBW : Hid (Below w1.heap.size w1 (allocs w3 (badObjs w3.heap.size far LG))) := HB3.out.trans ((allocs_below _ _).mono HB3.out.size)
  have hPlt : w3.heap.size + 1 + 1 + 1 + 1 + 1 + 1 + 1 + 1 + 1 + 1 + 1 + 1 + 1 < (allocs w3 (badObjs w3.heap.size far LG)).heap.size := by rw [allocs_size]; show _ < w3.heap.size + 14; omega
  generalize hW : allocs w3 (badObjs w3.heap.size far LG) = W at *
  generalize hP : w3.heap.size + 1 + 1 + 1 + 1 + 1 + 1 + 1 + 1 + 1 + 1 + 1 + 1 = P at *
  clear hW hP HB3
  go_loopw [20] (fun i wr => ∃ j : Nat, i = .int .i64 j ∧ j ≤ 12 ∧ Hid (Below W.heap.size W wr)) (fun i _ => 13 - (intOf i).toNat)
  case atStart => exact ⟨0, rfl, by omega, Below.refl _ _⟩
  case round =>
    obtain ⟨j, rfl, hj, HBr⟩ := hrel
    by_cases hlt : j < 12
    · have c1 : (j : Int) < 12 := by omega
      obtain ⟨xs, pl, g, hxs, hpl, hpl2, hc1, hc2, hvw⟩ := HF.out j hlt
      obtain ⟨f1, f2, f3, f4, f5, f6, f7, f8⟩ := bads_apply (far := far) (by omega) hLGs hxs hpl
      have hin := bads_ints (far := far) (by omega) hLGs hxs
      have kb := (HBr.out.cell (p := ⟨P, j, none⟩) (by show P < _; omega)).trans hc1
      have kp := (HBr.out.cell (p := ⟨P + 1, j, none⟩) hPlt).trans hc2
      have HVW : Hid (∀ W', Below W.heap.size W W' → View W' (.slice (some ⟨g, 0, none⟩) xs.length xs.length) xs) := fun W' hb => hvw.kept hb
      have HA : Hid (Calls Tryz.prog 12 #[.string ⟨#[49, 50, 51, 52, 53, 54, 55, 56]⟩, .slice (some ⟨g, 0, none⟩) xs.length xs.length] wr fun e w' => e = .returned (.tuple #[.string ⟨#[]⟩, .int .i64 2, .int .i64 (pl : Nat)]) ∧ Below wr.heap.size wr w') := by
        have := capply_any (base := S8) (by decide) hin.1 (HVW.out _ HBr.out) hin.2.1
        rw [f1, f2, f3] at this
        exact this
      have HCO : Hid (∀ (W' : World) (v1 : Value), Below W.heap.size W W' → View W' v1 [⟨0, 0, S8⟩] → Calls Tryz.prog 13 #[v1, .slice (some ⟨g, 0, none⟩) xs.length xs.length] W' fun e w' => ∃ ao cap, e = .returned (.tuple #[.slice ao 0 cap, .int .i64 2, .int .i64 ((pl : Int) + 1)]) ∧ Below W'.heap.size W' w') := fun W' v1 hb hv1 => by
        have := ccomp_any hv1 (HVW.out _ hb) ⟨by simp, by simp, fun o ho => by simp only [List.mem_singleton] at ho; subst ho; decide⟩ hin
        rw [f4, f5, f6] at this
        refine this.mono ?_
        rintro e w' ⟨⟨v', rfl, ho⟩, hb'⟩
        obtain ⟨ao, cap, rfl⟩ := ho.slice
        exact ⟨ao, cap, by simp, hb'⟩
      have HEN : Hid (∀ (W' : World), Below W.heap.size W W' → Calls Tryz.prog 14 #[.slice (some ⟨g, 0, none⟩) xs.length xs.length] W' fun e w' => e = .returned (.tuple #[.string (encS xs), .int .i64 (encE xs), .int .i64 (encP xs)]) ∧ Below W'.heap.size W' w') := fun W' hb => cenc_any (HVW.out _ hb) hin
      have HBr2 : Hid (P + 1 < wr.heap.size) := Nat.lt_of_lt_of_le hPlt HBr.out.size
      have hPr := HBr2.out
      generalize encS xs = ES at *
      generalize encE xs = EE at *
      generalize encP xs = EP at *
      generalize xs.length = n at *
      have wj : IntKind.i64.wrap ((j : Int) + 1) = (j : Int) + 1 := by rw [IntKind.wrap_i64]; omega
      have wpl : IntKind.i64.wrap ((pl : Int) + 1) = (pl : Int) + 1 := by rw [IntKind.wrap_i64]; omega
      have F7 : Hid ((j = 2 ∨ j = 3 ∨ j = 11) → EE = 0) := f7
      have F8 : Hid (¬ (j = 2 ∨ j = 3 ∨ j = 11) → ES = ⟨#[]⟩ ∧ EE = 2 ∧ EP = pl) := f8
      clear f1 f2 f3 f4 f5 f6 f7 f8 hin hvw hc1 hc2 hxs hpl HVW
      go_wp2_with fail
      refine HA.out.mono ?_
      rintro e w4 ⟨rfl, b4⟩
      have HB4 : Hid (Below W.heap.size W w4) := HBr.out.trans (b4.mono HBr.out.size)
      have kb4 := (b4.cell (p := ⟨P, j, none⟩) (by show P < _; omega)).trans kb
      have kp4 := (b4.cell (p := ⟨P + 1, j, none⟩) hPr).trans kp
      have hP4 : P + 1 < w4.heap.size := Nat.lt_of_lt_of_le hPr b4.size
      have hP40 : P < w4.heap.size := by omega
      clear b4 kb kp HA HBr2 hPr
      go_wp2_with fail
      have HX4 : Hid (Below W.heap.size W (w4.alloc (.cells #[.int .i64 0, .int .i64 0, .string ⟨#[49, 50, 51, 52, 53, 54, 55, 56]⟩] 48))) := HB4.out.alloc (by have := HB4.out.size; omega) _
      have hx4 : View (w4.alloc (.cells #[.int .i64 0, .int .i64 0, .string ⟨#[49, 50, 51, 52, 53, 54, 55, 56]⟩] 48)) (.slice (some ⟨w4.heap.size, 0, none⟩) 1 1) [⟨0, 0, S8⟩] := .inr ⟨_, _, _, rfl, by simp, reads_block (heap_alloc_new _ _)⟩
      refine (HCO.out _ _ HX4.out hx4).mono ?_
      rintro e w5 ⟨ao, ac, rfl, b5⟩
      have HB5 : Hid (Below W.heap.size W w5) := HX4.out.trans (b5.mono HX4.out.size)
      have kb5 : w5.cell? ⟨P, j, none⟩ = some (.slice (some ⟨g, 0, none⟩) n n) := (b5.cell (p := ⟨P, j, none⟩) (by simp; omega)).trans ((Below.cell ((Below.refl _ _).alloc (Nat.le_refl _) _) hP40).trans kb4)
      have kp5 : w5.cell? ⟨P + 1, j, none⟩ = some (.int .i64 pl) := (b5.cell (p := ⟨P + 1, j, none⟩) (by simp; omega)).trans ((Below.cell ((Below.refl _ _).alloc (Nat.le_refl _) _) hP4).trans kp4)
      have hP5 : P + 1 < w5.heap.size := Nat.lt_of_lt_of_le hPlt HB5.out.size
      clear b5 kb4 kp4 HX4 HB4 hx4 hP4 hP40 HCO
      go_wp2_with fail
      refine (HEN.out _ HB5.out).mono ?_
      rintro e w6 ⟨rfl, b6⟩
      have HB6 : Hid (Below W.heap.size W w6) := HB5.out.trans (b6.mono HB5.out.size)
      have kp6 := (b6.cell (p := ⟨P + 1, j, none⟩) hP5).trans kp5
      clear b6 kb5 kp5 hP5 HB5 HEN
      by_cases hfit : j = 2 ∨ j = 3 ∨ j = 11
      · have hEE := F7.out hfit
        subst hEE
        rcases hfit with rfl | rfl | rfl
        all_goals
          clear F7 F8
          go_wp2
          go_roundw
          case rel => exact ⟨_ + 1, by go_num, by omega, HB6⟩
          case measure => simp [intOf]
      · obtain ⟨g1, g2, g3⟩ := F8.out hfit
        subst g1
        subst g2
        subst g3
        have h2 : ((j : Int) == 2) = false := by simp; omega
        have h3 : ((j : Int) == 3) = false := by simp; omega
        have h11 : ((j : Int) == 11) = false := by simp; omega
        clear F7 F8 hfit
        go_wp2
        go_roundw
        case rel => exact ⟨j + 1, by go_num, by omega, HB6⟩
        case measure => simp [intOf]; omega
    · obtain rfl : j = 12 := by omega
      have HT2 : Hid (TaleAt w wr q p cur a b c lv tv s vs rs) := HT.out.belowed (HBW.out.trans (HBr.out.mono HBW.out.size))
      clear HF HBW hPlt HBr HT k01 k91 hq1 hga1
      have wf1 : IntKind.i64.wrap (-1 - (far : Int)) = -1 - (far : Int) := by rw [IntKind.wrap_i64]; omega
      have wf2 : IntKind.i64.wrap (4 + (far : Int)) = 4 + (far : Int) := by rw [IntKind.wrap_i64]; omega
      go_wp2_with fail
      have HB5 : Hid (Below wr.heap.size wr (wr.alloc (.cells #[.int .i64 (-1 - (far : Int)), .int .i64 (4 + (far : Int))] 3))) := (Below.refl _ _).alloc (Nat.le_refl _) _
      have HT5 : Hid (TaleAt w (wr.alloc (.cells #[.int .i64 (-1 - (far : Int)), .int .i64 (4 + (far : Int))] 3)) q p cur a b c lv tv s vs rs) := HT2.out.belowed HB5.out
      have HCH : Hid (∀ i, i < 2 → ∃ c : Int, ¬ (0 ≤ c ∧ c < 4) ∧ (wr.alloc (.cells #[.int .i64 (-1 - (far : Int)), .int .i64 (4 + (far : Int))] 3)).cell? ⟨wr.heap.size, i, none⟩ = some (.int .i64 c)) := fun i hi => by
        match i, hi with
        | 0, _ => exact ⟨-1 - (far : Int), by omega, by rw [Lib.cell_of_heap (heap_alloc_new _ _)]; rfl⟩
        | 1, _ => exact ⟨4 + (far : Int), by omega, by rw [Lib.cell_of_heap (heap_alloc_new _ _)]; rfl⟩
      have hGlt : wr.heap.size < (wr.alloc (.cells #[.int .i64 (-1 - (far : Int)), .int .i64 (4 + (far : Int))] 3)).heap.size := by simp
      have k05 := HT5.out.st.cells.1
      have hq5 := HT5.out.st.lt
      have HSO : Hid (s.Ok) := (HK.out.ok s HK.out.mem).1
      generalize wr.alloc (.cells #[.int .i64 (-1 - (far : Int)), .int .i64 (4 + (far : Int))] 3) = W5 at *
      generalize wr.heap.size = G at *
      clear HB5 HT2
      go_loopw [32] (fun i wr => ∃ j : Nat, i = .int .i64 j ∧ j ≤ 2 ∧ Hid (Below W5.heap.size W5 wr)) (fun i _ => 3 - (intOf i).toNat)
      case atStart => exact ⟨0, rfl, by omega, Below.refl _ _⟩
      case round =>
        obtain ⟨j, rfl, hj, HBr⟩ := hrel
        have k0r := (HBr.out.cell (p := ⟨q, 0, none⟩) hq5).trans k05
        have hqr : q < wr.heap.size := Nat.lt_of_lt_of_le hq5 HBr.out.size
        have HVB : Hid (∀ W', Below W5.heap.size W5 W' → VaultAt W' p lv tv s) := fun W' hb => HT5.out.st.vault.below hb
        by_cases hlt : j < 2
        · have c1 : (j : Int) < 2 := by omega
          obtain ⟨cc, hcc, hcell⟩ := HCH.out j hlt
          have kcr := (HBr.out.cell (p := ⟨G, j, none⟩) hGlt).trans hcell
          have hGr : G < wr.heap.size := Nat.lt_of_lt_of_le hGlt HBr.out.size
          have wj : IntKind.i64.wrap ((j : Int) + 1) = (j : Int) + 1 := by rw [IntKind.wrap_i64]; omega
          have HBK : Hid (∀ W', Below W5.heap.size W5 W' → Calls Tryz.prog 15 #[.pointer (some ⟨p, 0, none⟩), .int .i64 cc, .string LG] W' fun e w' => e = .returned (.tuple #[.int .i64 0, .int .i64 4]) ∧ Below W'.heap.size W' w') := fun W' hb => by
            have hE : putE s cc LG = 4 := by unfold putE; rw [if_pos hcc]
            have := cbackup_none p cc lv tv s LG W' (HVB.out _ hb) HSO.out (by omega) (by rw [hE]; decide)
            rw [hE] at this; exact this
          have HRS : Hid (∀ W', Below W5.heap.size W5 W' → Calls Tryz.prog 16 #[.pointer (some ⟨p, 0, none⟩), .int .i64 cc, .int .i64 (-1)] W' fun e w' => e = .returned (.tuple #[.string ⟨#[]⟩, .int .i64 4]) ∧ Below W'.heap.size W' w') := fun W' hb => by
            have hE : getE s cc (-1) = 4 := by unfold getE; rw [if_pos hcc]
            have hT : getT s cc (-1) = ⟨#[]⟩ := by unfold getT; rw [if_neg (by rw [hE]; decide)]
            have := crestore_any p cc (-1) lv tv s W' (HVB.out _ hb) HSO.out
            rw [hE, hT] at this; exact this
          have HVS : Hid (∀ W', Below W5.heap.size W5 W' → Calls Tryz.prog 17 #[.pointer (some ⟨p, 0, none⟩), .int .i64 cc] W' fun e w' => e = .returned (.tuple #[.int .i64 0, .int .i64 0, .int .i64 4]) ∧ Below W'.heap.size W' w') := fun W' hb => by
            have hE : verE cc = 4 := by unfold verE; rw [if_neg hcc]
            have hA : verA s cc = 0 := by unfold verA; rw [if_neg hcc]
            have hB : verB s cc = 0 := by unfold verB; rw [if_neg hcc]
            have := cversions_any p cc lv tv s W' (HVB.out _ hb) HSO.out
            rw [hE, hA, hB] at this
            exact this.mono fun e w' ⟨h1, h2⟩ => ⟨h1, h2.below _⟩
          have HPR : Hid (∀ W', Below W5.heap.size W5 W' → Calls Tryz.prog 18 #[.pointer (some ⟨p, 0, none⟩), .int .i64 cc, .int .i64 (-1)] W' fun e w' => e = .returned (.int .i64 4) ∧ Below W'.heap.size W' w') := fun W' hb => by
            have hE : cutE s cc (-1) = 4 := by unfold cutE; rw [if_pos hcc]
            have := cprune_none p cc (-1) lv tv s W' (HVB.out _ hb) HSO.out (by rw [hE]; decide)
            rw [hE] at this; exact this
          clear hcc HCH
          go_upto_region 29 with fail
          go_cut [33, 34] (fun v1 v2 wx => v1 = .int .i64 0 ∧ v2 = .int .i64 4 ∧ Hid (Below W5.heap.size W5 wx))
          case first =>
            have HN : Hid (∀ s, s ∈ ([7, 10, 31, 32] : List Nat) → ¬ ∃ i, i < 15 ∧ s = (fun i => ([259, 260, 261, 262, 263, 264, 265, 266, 267, 268, 258, 269, 270, 33, 34] : List Nat).getD i 0) i) := fun s hs ⟨i, hi, e⟩ => by
              have key : ∀ i, i < 15 → (fun i => ([259, 260, 261, 262, 263, 264, 265, 266, 267, 268, 258, 269, 270, 33, 34] : List Nat).getD i 0) i ∉ ([7, 10, 31, 32] : List Nat) := by decide
              exact key i hi (by rw [← e]; exact hs)
            refine wp_region_wants2 (by kernel_rfl) [.val (.pointer (some ⟨q, 0, none⟩)), .val (.pointer (some ⟨q, 0, none⟩)), .val (.pointer (some ⟨q, 0, none⟩)), .val (.pointer (some ⟨p, 0, none⟩)), .val (.slice (some ⟨G, 0, none⟩) 2 2), .val (.int .i64 (j : Int)), .val (.pointer (some ⟨G, j, none⟩)), .val (.int .i64 cc), .val (.string LG), .val (.tuple #[.int .i64 0, .int .i64 4]), .val (.tuple #[.int .i64 0, .int .i64 4]), .val (.int .i64 0), .val (.int .i64 4), .val (.int .i64 0), .val (.int .i64 4)] (fun i => ([259, 260, 261, 262, 263, 264, 265, 266, 267, 268, 258, 269, 270, 33, 34] : List Nat).getD i 0) _ rfl (by kernel_rfl) ?_ rfl ?_
            · intro i o qq a wx ho hq hh hb hdep
              have HBx : Hid (Below W5.heap.size W5 wx) := HBr.out.trans (hb.mono HBr.out.size)
              have c0 := (HBx.out.cell (p := ⟨q, 0, none⟩) hq5).trans k05
              have cG := (HBx.out.cell (p := ⟨G, j, none⟩) hGlt).trans hcell
              have HCX : Hid (Calls Tryz.prog 15 #[.pointer (some ⟨p, 0, none⟩), .int .i64 cc, .string LG] wx fun e w' => e = .returned (.tuple #[.int .i64 0, .int .i64 4]) ∧ Below wx.heap.size wx w') := HBK.out _ HBx.out
              have t7 : a.tmps.getD 7 undef = .pointer (some ⟨q, 0, none⟩) := hh.at_ 7 (HN.out 7 (by decide))
              have t10 : a.tmps.getD 10 undef = .string LG := hh.at_ 10 (HN.out 10 (by decide))
              have t31 : a.tmps.getD 31 undef = .slice (some ⟨G, 0, none⟩) 2 2 := hh.at_ 31 (HN.out 31 (by decide))
              have t32 : a.tmps.getD 32 undef = .int .i64 (j : Int) := hh.at_ 32 (HN.out 32 (by decide))
              clear hb hh HN HBx
              match i, ho, hq with
              | 0, ho, hq =>
                cases ho
                cases hq
                refine ⟨wanted_free rfl, ?_⟩
                clear hdep
                unfold Oper.wp
                go_simp
                exact ⟨_, rfl, Below.refl _ _, rfl⟩
              | 1, ho, hq =>
                cases ho
                cases hq
                have h259 : a.tmps.getD 259 undef = .pointer (some ⟨q, 0, none⟩) := hdep ⟨0, .data⟩ (by simp) rfl _ rfl
                refine ⟨wanted_free rfl, ?_⟩
                clear hdep
                unfold Oper.wp
                go_simp
                exact ⟨_, rfl, Below.refl _ _, rfl⟩
              | 2, ho, hq =>
                cases ho
                cases hq
                have h260 : a.tmps.getD 260 undef = .pointer (some ⟨q, 0, none⟩) := hdep ⟨1, .data⟩ (by simp) rfl _ rfl
                refine ⟨wanted_free rfl, ?_⟩
                clear hdep
                unfold Oper.wp
                go_simp
                exact ⟨_, rfl, Below.refl _ _, rfl⟩
              | 3, ho, hq =>
                cases ho
                cases hq
                have h261 : a.tmps.getD 261 undef = .pointer (some ⟨q, 0, none⟩) := hdep ⟨2, .data⟩ (by simp) rfl _ rfl
                refine ⟨wanted_free rfl, ?_⟩
                clear hdep
                unfold Oper.wp
                go_simp
                exact ⟨_, rfl, Below.refl _ _, rfl⟩
              | 4, ho, hq =>
                cases ho
                cases hq
                refine ⟨wanted_free rfl, ?_⟩
                clear hdep
                unfold Oper.wp
                go_simp
                exact ⟨_, rfl, Below.refl _ _, rfl⟩
              | 5, ho, hq =>
                cases ho
                cases hq
                refine ⟨wanted_free rfl, ?_⟩
                clear hdep
                unfold Oper.wp
                go_simp
                exact ⟨_, rfl, Below.refl _ _, rfl⟩
              | 6, ho, hq =>
                cases ho
                cases hq
                have h263 : a.tmps.getD 263 undef = .slice (some ⟨G, 0, none⟩) 2 2 := hdep ⟨4, .data⟩ (by simp) rfl _ rfl
                have h264 : a.tmps.getD 264 undef = .int .i64 (j : Int) := hdep ⟨5, .data⟩ (by simp) rfl _ rfl
                refine ⟨wanted_free rfl, ?_⟩
                clear hdep
                unfold Oper.wp
                go_simp
                exact ⟨_, rfl, Below.refl _ _, rfl⟩
              | 7, ho, hq =>
                cases ho
                cases hq
                have h265 : a.tmps.getD 265 undef = .pointer (some ⟨G, j, none⟩) := hdep ⟨6, .data⟩ (by simp) rfl _ rfl
                refine ⟨wanted_free rfl, ?_⟩
                clear hdep
                unfold Oper.wp
                go_simp
                exact ⟨_, rfl, Below.refl _ _, rfl⟩
              | 8, ho, hq =>
                cases ho
                cases hq
                refine ⟨wanted_free rfl, ?_⟩
                clear hdep
                unfold Oper.wp
                go_simp
                exact ⟨_, rfl, Below.refl _ _, rfl⟩
              | 9, ho, hq =>
                cases ho
                cases hq
                have h262 : a.tmps.getD 262 undef = .pointer (some ⟨p, 0, none⟩) := hdep ⟨3, .data⟩ (by simp) rfl _ rfl
                have h266 : a.tmps.getD 266 undef = .int .i64 cc := hdep ⟨7, .data⟩ (by simp) rfl _ rfl
                have h267 : a.tmps.getD 267 undef = .string LG := hdep ⟨8, .data⟩ (by simp) rfl _ rfl
                refine ⟨wanted_free rfl, ?_⟩
                clear hdep
                unfold Oper.wp
                go_simp
                refine HCX.out.mono ?_
                rintro e w' ⟨rfl, b'⟩
                exact ⟨_, rfl, b', rfl⟩
              | 10, ho, hq =>
                cases ho
                cases hq
                have h268 : a.tmps.getD 268 undef = .tuple #[.int .i64 0, .int .i64 4] := hdep ⟨9, .data⟩ (by simp) rfl _ rfl
                refine ⟨wanted_free rfl, ?_⟩
                clear hdep
                unfold Oper.wp
                go_simp
                exact ⟨_, rfl, Below.refl _ _, rfl⟩
              | 11, ho, hq =>
                cases ho
                cases hq
                have h258 : a.tmps.getD 258 undef = .tuple #[.int .i64 0, .int .i64 4] := hdep ⟨10, .data⟩ (by simp) rfl _ rfl
                refine ⟨wanted_free rfl, ?_⟩
                clear hdep
                unfold Oper.wp
                go_simp
                exact ⟨_, rfl, Below.refl _ _, rfl⟩
              | 12, ho, hq =>
                cases ho
                cases hq
                have h258 : a.tmps.getD 258 undef = .tuple #[.int .i64 0, .int .i64 4] := hdep ⟨10, .data⟩ (by simp) rfl _ rfl
                refine ⟨wanted_free rfl, ?_⟩
                clear hdep
                unfold Oper.wp
                go_simp
                exact ⟨_, rfl, Below.refl _ _, rfl⟩
              | 13, ho, hq =>
                cases ho
                cases hq
                have h269 : a.tmps.getD 269 undef = .int .i64 0 := hdep ⟨11, .data⟩ (by simp) rfl _ rfl
                refine ⟨wanted_free rfl, ?_⟩
                clear hdep
                unfold Oper.wp
                go_simp
                exact ⟨_, rfl, Below.refl _ _, rfl⟩
              | 14, ho, hq =>
                cases ho
                cases hq
                have h270 : a.tmps.getD 270 undef = .int .i64 4 := hdep ⟨12, .data⟩ (by simp) rfl _ rfl
                refine ⟨wanted_free rfl, ?_⟩
                clear hdep
                unfold Oper.wp
                go_simp
                exact ⟨_, rfl, Below.refl _ _, rfl⟩
              | i + 15, ho, hq =>
                exfalso
                have h : i + 15 < 15 := (List.getElem?_eq_some_iff.1 hq).1
                omega
            · intro a wx hh hb hv
              have hG0 := hv 13 _ rfl
              have hG1 := hv 14 _ rfl
              obtain ⟨u, hUa, hUb⟩ := Held.form (n := 15) (D := (fun i => ([259, 260, 261, 262, 263, 264, 265, 266, 267, 268, 258, 269, 270, 33, 34] : List Nat).getD i 0)) hh (fun i hi => Nat.lt_of_lt_of_le (m := 422) ((by decide : ∀ i, i < 15 → (fun i => ([259, 260, 261, 262, 263, 264, 265, 266, 267, 268, 258, 269, 270, 33, 34] : List Nat).getD i 0) i < 422) i hi) (Nat.le_of_ble_eq_true rfl))
              have hu0 : u 13 = .int .i64 0 := (hUb 13).trans hG0
              have hu1 : u 14 = .int .i64 4 := (hUb 14).trans hG1
              have HBx : Hid (Below W5.heap.size W5 wx) := HBr.out.trans (hb.mono HBr.out.size)
              clear hUb hv hh hb HN hG0 hG1
              subst hUa
              rw [show List.range 15 = [0, 1, 2, 3, 4, 5, 6, 7, 8, 9, 10, 11, 12, 13, 14] from rfl]
              simp only [putAll, Act.put, List.getD_cons_zero, List.getD_cons_succ, List.setIfInBounds_toArray, List.set_cons_zero, List.set_cons_succ, hu0, hu1]
              go_wp2_with fail
              go_meet
              exact ⟨rfl, rfl, HBx⟩
          case rest =>
            obtain ⟨rfl, rfl, HB6⟩ := hcut
            generalize wc = w6 at *
            go_upto_region 30 with fail
            go_cut [35, 36] (fun v1 v2 wx => v1 = .string ⟨#[]⟩ ∧ v2 = .int .i64 4 ∧ Hid (Below W5.heap.size W5 wx))
            case first =>
              have HN : Hid (∀ s, s ∈ ([7, 10, 31, 32] : List Nat) → ¬ ∃ i, i < 14 ∧ s = (fun i => ([272, 273, 274, 275, 276, 277, 278, 279, 280, 271, 281, 282, 35, 36] : List Nat).getD i 0) i) := fun s hs ⟨i, hi, e⟩ => by
                have key : ∀ i, i < 14 → (fun i => ([272, 273, 274, 275, 276, 277, 278, 279, 280, 271, 281, 282, 35, 36] : List Nat).getD i 0) i ∉ ([7, 10, 31, 32] : List Nat) := by decide
                exact key i hi (by rw [← e]; exact hs)
              refine wp_region_wants2 (by kernel_rfl) [.val (.pointer (some ⟨q, 0, none⟩)), .val (.pointer (some ⟨q, 0, none⟩)), .val (.pointer (some ⟨q, 0, none⟩)), .val (.pointer (some ⟨p, 0, none⟩)), .val (.slice (some ⟨G, 0, none⟩) 2 2), .val (.int .i64 (j : Int)), .val (.pointer (some ⟨G, j, none⟩)), .val (.int .i64 cc), .val (.tuple #[.string ⟨#[]⟩, .int .i64 4]), .val (.tuple #[.string ⟨#[]⟩, .int .i64 4]), .val (.string ⟨#[]⟩), .val (.int .i64 4), .val (.string ⟨#[]⟩), .val (.int .i64 4)] (fun i => ([272, 273, 274, 275, 276, 277, 278, 279, 280, 271, 281, 282, 35, 36] : List Nat).getD i 0) _ rfl (by kernel_rfl) ?_ rfl ?_
              · intro i o qq a wx ho hq hh hb hdep
                have HBx : Hid (Below W5.heap.size W5 wx) := HB6.out.trans (hb.mono HB6.out.size)
                have c0 := (HBx.out.cell (p := ⟨q, 0, none⟩) hq5).trans k05
                have cG := (HBx.out.cell (p := ⟨G, j, none⟩) hGlt).trans hcell
                have HCX : Hid (Calls Tryz.prog 16 #[.pointer (some ⟨p, 0, none⟩), .int .i64 cc, .int .i64 (-1)] wx fun e w' => e = .returned (.tuple #[.string ⟨#[]⟩, .int .i64 4]) ∧ Below wx.heap.size wx w') := HRS.out _ HBx.out
                have t7 : a.tmps.getD 7 undef = .pointer (some ⟨q, 0, none⟩) := hh.at_ 7 (HN.out 7 (by decide))
                have t10 : a.tmps.getD 10 undef = .string LG := hh.at_ 10 (HN.out 10 (by decide))
                have t31 : a.tmps.getD 31 undef = .slice (some ⟨G, 0, none⟩) 2 2 := hh.at_ 31 (HN.out 31 (by decide))
                have t32 : a.tmps.getD 32 undef = .int .i64 (j : Int) := hh.at_ 32 (HN.out 32 (by decide))
                clear hb hh HN HBx
                match i, ho, hq with
                | 0, ho, hq =>
                  cases ho
                  cases hq
                  refine ⟨wanted_free rfl, ?_⟩
                  clear hdep
                  unfold Oper.wp
                  go_simp
                  exact ⟨_, rfl, Below.refl _ _, rfl⟩
                | 1, ho, hq =>
                  cases ho
                  cases hq
                  have h272 : a.tmps.getD 272 undef = .pointer (some ⟨q, 0, none⟩) := hdep ⟨0, .data⟩ (by simp) rfl _ rfl
                  refine ⟨wanted_free rfl, ?_⟩
                  clear hdep
                  unfold Oper.wp
                  go_simp
                  exact ⟨_, rfl, Below.refl _ _, rfl⟩
                | 2, ho, hq =>
                  cases ho
                  cases hq
                  have h273 : a.tmps.getD 273 undef = .pointer (some ⟨q, 0, none⟩) := hdep ⟨1, .data⟩ (by simp) rfl _ rfl
                  refine ⟨wanted_free rfl, ?_⟩
                  clear hdep
                  unfold Oper.wp
                  go_simp
                  exact ⟨_, rfl, Below.refl _ _, rfl⟩
                | 3, ho, hq =>
                  cases ho
                  cases hq
                  have h274 : a.tmps.getD 274 undef = .pointer (some ⟨q, 0, none⟩) := hdep ⟨2, .data⟩ (by simp) rfl _ rfl
                  refine ⟨wanted_free rfl, ?_⟩
                  clear hdep
                  unfold Oper.wp
                  go_simp
                  exact ⟨_, rfl, Below.refl _ _, rfl⟩
                | 4, ho, hq =>
                  cases ho
                  cases hq
                  refine ⟨wanted_free rfl, ?_⟩
                  clear hdep
                  unfold Oper.wp
                  go_simp
                  exact ⟨_, rfl, Below.refl _ _, rfl⟩
                | 5, ho, hq =>
                  cases ho
                  cases hq
                  refine ⟨wanted_free rfl, ?_⟩
                  clear hdep
                  unfold Oper.wp
                  go_simp
                  exact ⟨_, rfl, Below.refl _ _, rfl⟩
                | 6, ho, hq =>
                  cases ho
                  cases hq
                  have h276 : a.tmps.getD 276 undef = .slice (some ⟨G, 0, none⟩) 2 2 := hdep ⟨4, .data⟩ (by simp) rfl _ rfl
                  have h277 : a.tmps.getD 277 undef = .int .i64 (j : Int) := hdep ⟨5, .data⟩ (by simp) rfl _ rfl
                  refine ⟨wanted_free rfl, ?_⟩
                  clear hdep
                  unfold Oper.wp
                  go_simp
                  exact ⟨_, rfl, Below.refl _ _, rfl⟩
                | 7, ho, hq =>
                  cases ho
                  cases hq
                  have h278 : a.tmps.getD 278 undef = .pointer (some ⟨G, j, none⟩) := hdep ⟨6, .data⟩ (by simp) rfl _ rfl
                  refine ⟨wanted_free rfl, ?_⟩
                  clear hdep
                  unfold Oper.wp
                  go_simp
                  exact ⟨_, rfl, Below.refl _ _, rfl⟩
                | 8, ho, hq =>
                  cases ho
                  cases hq
                  have h275 : a.tmps.getD 275 undef = .pointer (some ⟨p, 0, none⟩) := hdep ⟨3, .data⟩ (by simp) rfl _ rfl
                  have h279 : a.tmps.getD 279 undef = .int .i64 cc := hdep ⟨7, .data⟩ (by simp) rfl _ rfl
                  refine ⟨wanted_free rfl, ?_⟩
                  clear hdep
                  unfold Oper.wp
                  go_simp
                  refine HCX.out.mono ?_
                  rintro e w' ⟨rfl, b'⟩
                  exact ⟨_, rfl, b', rfl⟩
                | 9, ho, hq =>
                  cases ho
                  cases hq
                  have h280 : a.tmps.getD 280 undef = .tuple #[.string ⟨#[]⟩, .int .i64 4] := hdep ⟨8, .data⟩ (by simp) rfl _ rfl
                  refine ⟨wanted_free rfl, ?_⟩
                  clear hdep
                  unfold Oper.wp
                  go_simp
                  exact ⟨_, rfl, Below.refl _ _, rfl⟩
                | 10, ho, hq =>
                  cases ho
                  cases hq
                  have h271 : a.tmps.getD 271 undef = .tuple #[.string ⟨#[]⟩, .int .i64 4] := hdep ⟨9, .data⟩ (by simp) rfl _ rfl
                  refine ⟨wanted_free rfl, ?_⟩
                  clear hdep
                  unfold Oper.wp
                  go_simp
                  exact ⟨_, rfl, Below.refl _ _, rfl⟩
                | 11, ho, hq =>
                  cases ho
                  cases hq
                  have h271 : a.tmps.getD 271 undef = .tuple #[.string ⟨#[]⟩, .int .i64 4] := hdep ⟨9, .data⟩ (by simp) rfl _ rfl
                  refine ⟨wanted_free rfl, ?_⟩
                  clear hdep
                  unfold Oper.wp
                  go_simp
                  exact ⟨_, rfl, Below.refl _ _, rfl⟩
                | 12, ho, hq =>
                  cases ho
                  cases hq
                  have h281 : a.tmps.getD 281 undef = .string ⟨#[]⟩ := hdep ⟨10, .data⟩ (by simp) rfl _ rfl
                  refine ⟨wanted_free rfl, ?_⟩
                  clear hdep
                  unfold Oper.wp
                  go_simp
                  exact ⟨_, rfl, Below.refl _ _, rfl⟩
                | 13, ho, hq =>
                  cases ho
                  cases hq
                  have h282 : a.tmps.getD 282 undef = .int .i64 4 := hdep ⟨11, .data⟩ (by simp) rfl _ rfl
                  refine ⟨wanted_free rfl, ?_⟩
                  clear hdep
                  unfold Oper.wp
                  go_simp
                  exact ⟨_, rfl, Below.refl _ _, rfl⟩
                | i + 14, ho, hq =>
                  exfalso
                  have h : i + 14 < 14 := (List.getElem?_eq_some_iff.1 hq).1
                  omega
              · intro a wx hh hb hv
                have hG0 := hv 12 _ rfl
                have hG1 := hv 13 _ rfl
                obtain ⟨u, hUa, hUb⟩ := Held.form (n := 14) (D := (fun i => ([272, 273, 274, 275, 276, 277, 278, 279, 280, 271, 281, 282, 35, 36] : List Nat).getD i 0)) hh (fun i hi => Nat.lt_of_lt_of_le (m := 422) ((by decide : ∀ i, i < 14 → (fun i => ([272, 273, 274, 275, 276, 277, 278, 279, 280, 271, 281, 282, 35, 36] : List Nat).getD i 0) i < 422) i hi) (Nat.le_of_ble_eq_true rfl))
                have hu0 : u 12 = .string ⟨#[]⟩ := (hUb 12).trans hG0
                have hu1 : u 13 = .int .i64 4 := (hUb 13).trans hG1
                have HBx : Hid (Below W5.heap.size W5 wx) := HB6.out.trans (hb.mono HB6.out.size)
                clear hUb hv hh hb HN hG0 hG1
                subst hUa
                rw [show List.range 14 = [0, 1, 2, 3, 4, 5, 6, 7, 8, 9, 10, 11, 12, 13] from rfl]
                simp only [putAll, Act.put, List.getD_cons_zero, List.getD_cons_succ, List.setIfInBounds_toArray, List.set_cons_zero, List.set_cons_succ, hu0, hu1]
                go_wp2_with fail
                go_meet
                exact ⟨rfl, rfl, HBx⟩
            case rest =>
              obtain ⟨rfl, rfl, HB7⟩ := hcut
              generalize wc = w7 at *
              go_upto_region 31 with fail
              go_cut [37, 38, 39] (fun v1 v2 v3 wx => v1 = .int .i64 0 ∧ v2 = .int .i64 0 ∧ v3 = .int .i64 4 ∧ Hid (Below W5.heap.size W5 wx))
              case first =>
                have HN : Hid (∀ s, s ∈ ([7, 10, 31, 32] : List Nat) → ¬ ∃ i, i < 16 ∧ s = (fun i => ([284, 285, 286, 287, 288, 289, 290, 291, 292, 283, 293, 294, 295, 37, 38, 39] : List Nat).getD i 0) i) := fun s hs ⟨i, hi, e⟩ => by
                  have key : ∀ i, i < 16 → (fun i => ([284, 285, 286, 287, 288, 289, 290, 291, 292, 283, 293, 294, 295, 37, 38, 39] : List Nat).getD i 0) i ∉ ([7, 10, 31, 32] : List Nat) := by decide
                  exact key i hi (by rw [← e]; exact hs)
                refine wp_region_wants2 (by kernel_rfl) [.val (.pointer (some ⟨q, 0, none⟩)), .val (.pointer (some ⟨q, 0, none⟩)), .val (.pointer (some ⟨q, 0, none⟩)), .val (.pointer (some ⟨p, 0, none⟩)), .val (.slice (some ⟨G, 0, none⟩) 2 2), .val (.int .i64 (j : Int)), .val (.pointer (some ⟨G, j, none⟩)), .val (.int .i64 cc), .val (.tuple #[.int .i64 0, .int .i64 0, .int .i64 4]), .val (.tuple #[.int .i64 0, .int .i64 0, .int .i64 4]), .val (.int .i64 0), .val (.int .i64 0), .val (.int .i64 4), .val (.int .i64 0), .val (.int .i64 0), .val (.int .i64 4)] (fun i => ([284, 285, 286, 287, 288, 289, 290, 291, 292, 283, 293, 294, 295, 37, 38, 39] : List Nat).getD i 0) _ rfl (by kernel_rfl) ?_ rfl ?_
                · intro i o qq a wx ho hq hh hb hdep
                  have HBx : Hid (Below W5.heap.size W5 wx) := HB7.out.trans (hb.mono HB7.out.size)
                  have c0 := (HBx.out.cell (p := ⟨q, 0, none⟩) hq5).trans k05
                  have cG := (HBx.out.cell (p := ⟨G, j, none⟩) hGlt).trans hcell
                  have HCX : Hid (Calls Tryz.prog 17 #[.pointer (some ⟨p, 0, none⟩), .int .i64 cc] wx fun e w' => e = .returned (.tuple #[.int .i64 0, .int .i64 0, .int .i64 4]) ∧ Below wx.heap.size wx w') := HVS.out _ HBx.out
                  have t7 : a.tmps.getD 7 undef = .pointer (some ⟨q, 0, none⟩) := hh.at_ 7 (HN.out 7 (by decide))
                  have t10 : a.tmps.getD 10 undef = .string LG := hh.at_ 10 (HN.out 10 (by decide))
                  have t31 : a.tmps.getD 31 undef = .slice (some ⟨G, 0, none⟩) 2 2 := hh.at_ 31 (HN.out 31 (by decide))
                  have t32 : a.tmps.getD 32 undef = .int .i64 (j : Int) := hh.at_ 32 (HN.out 32 (by decide))
                  clear hb hh HN HBx
                  match i, ho, hq with
                  | 0, ho, hq =>
                    cases ho
                    cases hq
                    refine ⟨wanted_free rfl, ?_⟩
                    clear hdep
                    unfold Oper.wp
                    go_simp
                    exact ⟨_, rfl, Below.refl _ _, rfl⟩
                  | 1, ho, hq =>
                    cases ho
                    cases hq
                    have h284 : a.tmps.getD 284 undef = .pointer (some ⟨q, 0, none⟩) := hdep ⟨0, .data⟩ (by simp) rfl _ rfl
                    refine ⟨wanted_free rfl, ?_⟩
                    clear hdep
                    unfold Oper.wp
                    go_simp
                    exact ⟨_, rfl, Below.refl _ _, rfl⟩
                  | 2, ho, hq =>
                    cases ho
                    cases hq
                    have h285 : a.tmps.getD 285 undef = .pointer (some ⟨q, 0, none⟩) := hdep ⟨1, .data⟩ (by simp) rfl _ rfl
                    refine ⟨wanted_free rfl, ?_⟩
                    clear hdep
                    unfold Oper.wp
                    go_simp
                    exact ⟨_, rfl, Below.refl _ _, rfl⟩
                  | 3, ho, hq =>
                    cases ho
                    cases hq
                    have h286 : a.tmps.getD 286 undef = .pointer (some ⟨q, 0, none⟩) := hdep ⟨2, .data⟩ (by simp) rfl _ rfl
                    refine ⟨wanted_free rfl, ?_⟩
                    clear hdep
                    unfold Oper.wp
                    go_simp
                    exact ⟨_, rfl, Below.refl _ _, rfl⟩
                  | 4, ho, hq =>
                    cases ho
                    cases hq
                    refine ⟨wanted_free rfl, ?_⟩
                    clear hdep
                    unfold Oper.wp
                    go_simp
                    exact ⟨_, rfl, Below.refl _ _, rfl⟩
                  | 5, ho, hq =>
                    cases ho
                    cases hq
                    refine ⟨wanted_free rfl, ?_⟩
                    clear hdep
                    unfold Oper.wp
                    go_simp
                    exact ⟨_, rfl, Below.refl _ _, rfl⟩
                  | 6, ho, hq =>
                    cases ho
                    cases hq
                    have h288 : a.tmps.getD 288 undef = .slice (some ⟨G, 0, none⟩) 2 2 := hdep ⟨4, .data⟩ (by simp) rfl _ rfl
                    have h289 : a.tmps.getD 289 undef = .int .i64 (j : Int) := hdep ⟨5, .data⟩ (by simp) rfl _ rfl
                    refine ⟨wanted_free rfl, ?_⟩
                    clear hdep
                    unfold Oper.wp
                    go_simp
                    exact ⟨_, rfl, Below.refl _ _, rfl⟩
                  | 7, ho, hq =>
                    cases ho
                    cases hq
                    have h290 : a.tmps.getD 290 undef = .pointer (some ⟨G, j, none⟩) := hdep ⟨6, .data⟩ (by simp) rfl _ rfl
                    refine ⟨wanted_free rfl, ?_⟩
                    clear hdep
                    unfold Oper.wp
                    go_simp
                    exact ⟨_, rfl, Below.refl _ _, rfl⟩
                  | 8, ho, hq =>
                    cases ho
                    cases hq
                    have h287 : a.tmps.getD 287 undef = .pointer (some ⟨p, 0, none⟩) := hdep ⟨3, .data⟩ (by simp) rfl _ rfl
                    have h291 : a.tmps.getD 291 undef = .int .i64 cc := hdep ⟨7, .data⟩ (by simp) rfl _ rfl
                    refine ⟨wanted_free rfl, ?_⟩
                    clear hdep
                    unfold Oper.wp
                    go_simp
                    refine HCX.out.mono ?_
                    rintro e w' ⟨rfl, b'⟩
                    exact ⟨_, rfl, b', rfl⟩
                  | 9, ho, hq =>
                    cases ho
                    cases hq
                    have h292 : a.tmps.getD 292 undef = .tuple #[.int .i64 0, .int .i64 0, .int .i64 4] := hdep ⟨8, .data⟩ (by simp) rfl _ rfl
                    refine ⟨wanted_free rfl, ?_⟩
                    clear hdep
                    unfold Oper.wp
                    go_simp
                    exact ⟨_, rfl, Below.refl _ _, rfl⟩
                  | 10, ho, hq =>
                    cases ho
                    cases hq
                    have h283 : a.tmps.getD 283 undef = .tuple #[.int .i64 0, .int .i64 0, .int .i64 4] := hdep ⟨9, .data⟩ (by simp) rfl _ rfl
                    refine ⟨wanted_free rfl, ?_⟩
                    clear hdep
                    unfold Oper.wp
                    go_simp
                    exact ⟨_, rfl, Below.refl _ _, rfl⟩
                  | 11, ho, hq =>
                    cases ho
                    cases hq
                    have h283 : a.tmps.getD 283 undef = .tuple #[.int .i64 0, .int .i64 0, .int .i64 4] := hdep ⟨9, .data⟩ (by simp) rfl _ rfl
                    refine ⟨wanted_free rfl, ?_⟩
                    clear hdep
                    unfold Oper.wp
                    go_simp
                    exact ⟨_, rfl, Below.refl _ _, rfl⟩
                  | 12, ho, hq =>
                    cases ho
                    cases hq
                    have h283 : a.tmps.getD 283 undef = .tuple #[.int .i64 0, .int .i64 0, .int .i64 4] := hdep ⟨9, .data⟩ (by simp) rfl _ rfl
                    refine ⟨wanted_free rfl, ?_⟩
                    clear hdep
                    unfold Oper.wp
                    go_simp
                    exact ⟨_, rfl, Below.refl _ _, rfl⟩
                  | 13, ho, hq =>
                    cases ho
                    cases hq
                    have h293 : a.tmps.getD 293 undef = .int .i64 0 := hdep ⟨10, .data⟩ (by simp) rfl _ rfl
                    refine ⟨wanted_free rfl, ?_⟩
                    clear hdep
                    unfold Oper.wp
                    go_simp
                    exact ⟨_, rfl, Below.refl _ _, rfl⟩
                  | 14, ho, hq =>
                    cases ho
                    cases hq
                    have h294 : a.tmps.getD 294 undef = .int .i64 0 := hdep ⟨11, .data⟩ (by simp) rfl _ rfl
                    refine ⟨wanted_free rfl, ?_⟩
                    clear hdep
                    unfold Oper.wp
                    go_simp
                    exact ⟨_, rfl, Below.refl _ _, rfl⟩
                  | 15, ho, hq =>
                    cases ho
                    cases hq
                    have h295 : a.tmps.getD 295 undef = .int .i64 4 := hdep ⟨12, .data⟩ (by simp) rfl _ rfl
                    refine ⟨wanted_free rfl, ?_⟩
                    clear hdep
                    unfold Oper.wp
                    go_simp
                    exact ⟨_, rfl, Below.refl _ _, rfl⟩
                  | i + 16, ho, hq =>
                    exfalso
                    have h : i + 16 < 16 := (List.getElem?_eq_some_iff.1 hq).1
                    omega
                · intro a wx hh hb hv
                  have hG0 := hv 13 _ rfl
                  have hG1 := hv 14 _ rfl
                  have hG2 := hv 15 _ rfl
                  obtain ⟨u, hUa, hUb⟩ := Held.form (n := 16) (D := (fun i => ([284, 285, 286, 287, 288, 289, 290, 291, 292, 283, 293, 294, 295, 37, 38, 39] : List Nat).getD i 0)) hh (fun i hi => Nat.lt_of_lt_of_le (m := 422) ((by decide : ∀ i, i < 16 → (fun i => ([284, 285, 286, 287, 288, 289, 290, 291, 292, 283, 293, 294, 295, 37, 38, 39] : List Nat).getD i 0) i < 422) i hi) (Nat.le_of_ble_eq_true rfl))
                  have hu0 : u 13 = .int .i64 0 := (hUb 13).trans hG0
                  have hu1 : u 14 = .int .i64 0 := (hUb 14).trans hG1
                  have hu2 : u 15 = .int .i64 4 := (hUb 15).trans hG2
                  have HBx : Hid (Below W5.heap.size W5 wx) := HB7.out.trans (hb.mono HB7.out.size)
                  clear hUb hv hh hb HN hG0 hG1 hG2
                  subst hUa
                  rw [show List.range 16 = [0, 1, 2, 3, 4, 5, 6, 7, 8, 9, 10, 11, 12, 13, 14, 15] from rfl]
                  simp only [putAll, Act.put, List.getD_cons_zero, List.getD_cons_succ, List.setIfInBounds_toArray, List.set_cons_zero, List.set_cons_succ, hu0, hu1, hu2]
                  go_wp2_with fail
                  go_meet
                  exact ⟨rfl, rfl, rfl, HBx⟩
              case rest =>
                obtain ⟨rfl, rfl, rfl, HB8⟩ := hcut
                generalize wc = w8 at *
                go_upto_region 32 with fail
                go_cut [40] (fun v1 wx => v1 = .int .i64 4 ∧ Hid (Below W5.heap.size W5 wx))
                case first =>
                  have HN : Hid (∀ s, s ∈ ([7, 10, 31, 32] : List Nat) → ¬ ∃ i, i < 10 ∧ s = (fun i => ([296, 297, 298, 299, 300, 301, 302, 303, 304, 40] : List Nat).getD i 0) i) := fun s hs ⟨i, hi, e⟩ => by
                    have key : ∀ i, i < 10 → (fun i => ([296, 297, 298, 299, 300, 301, 302, 303, 304, 40] : List Nat).getD i 0) i ∉ ([7, 10, 31, 32] : List Nat) := by decide
                    exact key i hi (by rw [← e]; exact hs)
                  refine wp_region_wants2 (by kernel_rfl) [.val (.pointer (some ⟨q, 0, none⟩)), .val (.pointer (some ⟨q, 0, none⟩)), .val (.pointer (some ⟨q, 0, none⟩)), .val (.pointer (some ⟨p, 0, none⟩)), .val (.slice (some ⟨G, 0, none⟩) 2 2), .val (.int .i64 (j : Int)), .val (.pointer (some ⟨G, j, none⟩)), .val (.int .i64 cc), .val (.int .i64 4), .val (.int .i64 4)] (fun i => ([296, 297, 298, 299, 300, 301, 302, 303, 304, 40] : List Nat).getD i 0) _ rfl (by kernel_rfl) ?_ rfl ?_
                  · intro i o qq a wx ho hq hh hb hdep
                    have HBx : Hid (Below W5.heap.size W5 wx) := HB8.out.trans (hb.mono HB8.out.size)
                    have c0 := (HBx.out.cell (p := ⟨q, 0, none⟩) hq5).trans k05
                    have cG := (HBx.out.cell (p := ⟨G, j, none⟩) hGlt).trans hcell
                    have HCX : Hid (Calls Tryz.prog 18 #[.pointer (some ⟨p, 0, none⟩), .int .i64 cc, .int .i64 (-1)] wx fun e w' => e = .returned (.int .i64 4) ∧ Below wx.heap.size wx w') := HPR.out _ HBx.out
                    have t7 : a.tmps.getD 7 undef = .pointer (some ⟨q, 0, none⟩) := hh.at_ 7 (HN.out 7 (by decide))
                    have t10 : a.tmps.getD 10 undef = .string LG := hh.at_ 10 (HN.out 10 (by decide))
                    have t31 : a.tmps.getD 31 undef = .slice (some ⟨G, 0, none⟩) 2 2 := hh.at_ 31 (HN.out 31 (by decide))
                    have t32 : a.tmps.getD 32 undef = .int .i64 (j : Int) := hh.at_ 32 (HN.out 32 (by decide))
                    clear hb hh HN HBx
                    match i, ho, hq with
                    | 0, ho, hq =>
                      cases ho
                      cases hq
                      refine ⟨wanted_free rfl, ?_⟩
                      clear hdep
                      unfold Oper.wp
                      go_simp
                      exact ⟨_, rfl, Below.refl _ _, rfl⟩
                    | 1, ho, hq =>
                      cases ho
                      cases hq
                      have h296 : a.tmps.getD 296 undef = .pointer (some ⟨q, 0, none⟩) := hdep ⟨0, .data⟩ (by simp) rfl _ rfl
                      refine ⟨wanted_free rfl, ?_⟩
                      clear hdep
                      unfold Oper.wp
                      go_simp
                      exact ⟨_, rfl, Below.refl _ _, rfl⟩
                    | 2, ho, hq =>
                      cases ho
                      cases hq
                      have h297 : a.tmps.getD 297 undef = .pointer (some ⟨q, 0, none⟩) := hdep ⟨1, .data⟩ (by simp) rfl _ rfl
                      refine ⟨wanted_free rfl, ?_⟩
                      clear hdep
                      unfold Oper.wp
                      go_simp
                      exact ⟨_, rfl, Below.refl _ _, rfl⟩
                    | 3, ho, hq =>
                      cases ho
                      cases hq
                      have h298 : a.tmps.getD 298 undef = .pointer (some ⟨q, 0, none⟩) := hdep ⟨2, .data⟩ (by simp) rfl _ rfl
                      refine ⟨wanted_free rfl, ?_⟩
                      clear hdep
                      unfold Oper.wp
                      go_simp
                      exact ⟨_, rfl, Below.refl _ _, rfl⟩
                    | 4, ho, hq =>
                      cases ho
                      cases hq
                      refine ⟨wanted_free rfl, ?_⟩
                      clear hdep
                      unfold Oper.wp
                      go_simp
                      exact ⟨_, rfl, Below.refl _ _, rfl⟩
                    | 5, ho, hq =>
                      cases ho
                      cases hq
                      refine ⟨wanted_free rfl, ?_⟩
                      clear hdep
                      unfold Oper.wp
                      go_simp
                      exact ⟨_, rfl, Below.refl _ _, rfl⟩
                    | 6, ho, hq =>
                      cases ho
                      cases hq
                      have h300 : a.tmps.getD 300 undef = .slice (some ⟨G, 0, none⟩) 2 2 := hdep ⟨4, .data⟩ (by simp) rfl _ rfl
                      have h301 : a.tmps.getD 301 undef = .int .i64 (j : Int) := hdep ⟨5, .data⟩ (by simp) rfl _ rfl
                      refine ⟨wanted_free rfl, ?_⟩
                      clear hdep
                      unfold Oper.wp
                      go_simp
                      exact ⟨_, rfl, Below.refl _ _, rfl⟩
                    | 7, ho, hq =>
                      cases ho
                      cases hq
                      have h302 : a.tmps.getD 302 undef = .pointer (some ⟨G, j, none⟩) := hdep ⟨6, .data⟩ (by simp) rfl _ rfl
                      refine ⟨wanted_free rfl, ?_⟩
                      clear hdep
                      unfold Oper.wp
                      go_simp
                      exact ⟨_, rfl, Below.refl _ _, rfl⟩
                    | 8, ho, hq =>
                      cases ho
                      cases hq
                      have h299 : a.tmps.getD 299 undef = .pointer (some ⟨p, 0, none⟩) := hdep ⟨3, .data⟩ (by simp) rfl _ rfl
                      have h303 : a.tmps.getD 303 undef = .int .i64 cc := hdep ⟨7, .data⟩ (by simp) rfl _ rfl
                      refine ⟨wanted_free rfl, ?_⟩
                      clear hdep
                      unfold Oper.wp
                      go_simp
                      refine HCX.out.mono ?_
                      rintro e w' ⟨rfl, b'⟩
                      exact ⟨_, rfl, b', rfl⟩
                    | 9, ho, hq =>
                      cases ho
                      cases hq
                      have h304 : a.tmps.getD 304 undef = .int .i64 4 := hdep ⟨8, .data⟩ (by simp) rfl _ rfl
                      refine ⟨wanted_free rfl, ?_⟩
                      clear hdep
                      unfold Oper.wp
                      go_simp
                      exact ⟨_, rfl, Below.refl _ _, rfl⟩
                    | i + 10, ho, hq =>
                      exfalso
                      have h : i + 10 < 10 := (List.getElem?_eq_some_iff.1 hq).1
                      omega
                  · intro a wx hh hb hv
                    have hG0 := hv 9 _ rfl
                    obtain ⟨u, hUa, hUb⟩ := Held.form (n := 10) (D := (fun i => ([296, 297, 298, 299, 300, 301, 302, 303, 304, 40] : List Nat).getD i 0)) hh (fun i hi => Nat.lt_of_lt_of_le (m := 422) ((by decide : ∀ i, i < 10 → (fun i => ([296, 297, 298, 299, 300, 301, 302, 303, 304, 40] : List Nat).getD i 0) i < 422) i hi) (Nat.le_of_ble_eq_true rfl))
                    have hu0 : u 9 = .int .i64 4 := (hUb 9).trans hG0
                    have HBx : Hid (Below W5.heap.size W5 wx) := HB8.out.trans (hb.mono HB8.out.size)
                    clear hUb hv hh hb HN hG0
                    subst hUa
                    rw [show List.range 10 = [0, 1, 2, 3, 4, 5, 6, 7, 8, 9] from rfl]
                    simp only [putAll, Act.put, List.getD_cons_zero, List.getD_cons_succ, List.setIfInBounds_toArray, List.set_cons_zero, List.set_cons_succ, hu0]
                    go_wp2_with fail
                    go_meet
                    exact ⟨rfl, HBx⟩
                case rest =>
                  obtain ⟨rfl, HB9⟩ := hcut
                  generalize wc = w9 at *
                  clear HPR HB8
                  go_wp2
                  go_roundw
                  case rel => exact ⟨j + 1, by go_num, by omega, HB9⟩
                  case measure => simp [intOf]; omega
        · obtain rfl : j = 2 := by omega
          have HLast : Hid ((s.ch 1).last ≤ 2147483647) := HSO.out.last 1
          have HBK : Hid (∀ W', Below W5.heap.size W5 W' → Calls Tryz.prog 15 #[.pointer (some ⟨p, 0, none⟩), .int .i64 0, .string LG] W' fun e w' => e = .returned (.tuple #[.int .i64 0, .int .i64 1]) ∧ Below W'.heap.size W' w') := fun W' hb => by
            have hE : putE s 0 LG = 1 := by unfold putE; rw [if_neg (by decide), if_pos (by omega)]
            have := cbackup_none p 0 lv tv s LG W' (HVB.out _ hb) HSO.out (by omega) (by rw [hE]; decide)
            rw [hE] at this; exact this
          have HRS : Hid (∀ W', Below W5.heap.size W5 W' → Calls Tryz.prog 16 #[.pointer (some ⟨p, 0, none⟩), .int .i64 0, .int .i64 (-(far : Int))] W' fun e w' => e = .returned (.tuple #[.string ⟨#[]⟩, .int .i64 5]) ∧ Below W'.heap.size W' w') := fun W' hb => by
            have hE : getE s 0 (-(far : Int)) = 5 := by
              unfold getE; rw [if_neg (by decide), if_neg]
              rw [hasB_iff]; unfold Chn.has; omega
            have hT : getT s 0 (-(far : Int)) = ⟨#[]⟩ := by unfold getT; rw [if_neg (by rw [hE]; decide)]
            have := crestore_any p 0 (-(far : Int)) lv tv s W' (HVB.out _ hb) HSO.out
            rw [hE, hT] at this; exact this
          have HPR : Hid (∀ W', Below W5.heap.size W5 W' → Calls Tryz.prog 18 #[.pointer (some ⟨p, 0, none⟩), .int .i64 1, .int .i64 (2147483648 + (far : Int))] W' fun e w' => e = .returned (.int .i64 5) ∧ Below W'.heap.size W' w') := fun W' hb => by
            have hE : cutE s 1 (2147483648 + (far : Int)) = 5 := by
              unfold cutE; rw [if_neg (by decide), if_neg]
              rw [hasB_iff]; unfold Chn.has
              have := HLast.out
              show ¬ (_ ∧ _ ≤ (((s.ch 1).last : Nat) : Int))
              omega
            have := cprune_none p 1 (2147483648 + (far : Int)) lv tv s W' (HVB.out _ hb) HSO.out (by rw [hE]; decide)
            rw [hE] at this; exact this
          have wn1 : IntKind.i64.wrap (-(far : Int)) = -(far : Int) := by rw [IntKind.wrap_i64]; omega
          have wn2 : IntKind.i64.wrap (2147483648 + (far : Int)) = 2147483648 + (far : Int) := by rw [IntKind.wrap_i64]; omega
          clear HCH
          go_wp2_with fail
          refine (HBK.out _ HBr.out).mono ?_
          rintro e w6 ⟨rfl, b6⟩
          have HB6 : Hid (Below W5.heap.size W5 w6) := HBr.out.trans (b6.mono HBr.out.size)
          have k06 := (b6.cell (p := ⟨q, 0, none⟩) hqr).trans k0r
          have hq6 : q < w6.heap.size := Nat.lt_of_lt_of_le hqr b6.size
          clear b6 k0r hqr HBK
          go_wp2_with fail
          refine (HRS.out _ HB6.out).mono ?_
          rintro e w7 ⟨rfl, b7⟩
          have HB7 : Hid (Below W5.heap.size W5 w7) := HB6.out.trans (b7.mono HB6.out.size)
          have k07 := (b7.cell (p := ⟨q, 0, none⟩) hq6).trans k06
          clear b7 k06 hq6 HRS HB6
          go_wp2_with fail
          refine (HPR.out _ HB7.out).mono ?_
          rintro e w8 ⟨rfl, b8⟩
          have HB8 : Hid (Below W5.heap.size W5 w8) := HB7.out.trans (b8.mono HB7.out.size)
          clear b8 k07 HPR HB7
          obtain ⟨ZD, hZD⟩ : ∃ ZD, ZD = madeCells #[.int .u8 0] 20001 := ⟨_, rfl⟩
          obtain ⟨LO, hLO⟩ : ∃ LO, LO = zeros 20001 := ⟨_, rfl⟩
          have hmk : ∀ W : World, (Instr.makeSlice 41 (.int .i64 20001) (.int .i64 20001)).run Tryz.prog W = .ok (.slice (some ⟨W.heap.size, 0, none⟩) 20001 20001) (W.alloc (.cells ZD 5)) := fun W => by rw [hZD]; exact make_zeros 20001 (by omega) W
          have hcv : ∀ W : World, (convert 41 9 (.slice (some ⟨W.heap.size, 0, none⟩) 20001 20001)).run Tryz.prog (W.alloc (.cells ZD 5)) = .ok (.string LO) (W.alloc (.cells ZD 5)) := fun W => by rw [hZD, hLO]; exact conv_zeros 20001 W 0
          have hLOs : LO.size = 20001 := by rw [hLO]; exact zeros_size _
          have HOP : Hid (∀ W : World, Calls Tryz.prog 9 #[.string LO] W fun e w' => e = .returned (.tuple #[.pointer none, .int .i64 1, .int .i64 0]) ∧ Below W.heap.size W w') := fun W => by
            refine (copen_any LO W (by omega)).mono ?_
            rintro e w3 ⟨hcase, b3⟩
            rcases hcase with ⟨_, rfl⟩ | ⟨hbad, _⟩
            · exact ⟨rfl, b3⟩
            · omega
          clear hZD hLO
          go_wp2_with fail
          refine (HOP.out _).mono ?_
          rintro e w9 ⟨rfl, b9⟩
          have HB9 : Hid (Below W5.heap.size W5 w9) := ((HB8.out.alloc (by have := HB8.out.size; omega) _).trans (b9.mono (by have := HB8.out.size; simp; omega)))
          have HT9 : Hid (TaleAt w w9 q p cur a b c lv tv s vs rs) := HT5.out.belowed HB9.out
          obtain ⟨g9, c9, hq9, hga9, k09, k99, hC9⟩ := tale_seen HT9.out (by have := HL.out; omega)
          rw [HL.out] at k99
          have y9 := hC9 m s HLA.out
          have HH9 : Hid (∀ W, Below w9.heap.size w9 W → Calls Tryz.prog 8 #[.pointer (some ⟨q, 0, none⟩), .pointer (some ⟨p, 0, none⟩), .int .i64 m] W fun e w' => e = .returned (.bool true) ∧ Below W.heap.size W w') := fun W hW => tale_holds2 (HT9.out.belowed hW) (by have := HL.out; omega) (HT9.out.st.vault.below hW) HSO.out HLA.out (fun i _ => rfl)
          have HLG9 : Hid (∀ W, Below w9.heap.size w9 W → Calls Tryz.prog 7 #[.pointer (some ⟨p, 0, none⟩)] W fun e w' => e = .returned (.string (logB s)) ∧ W = w') := fun W hW => clog_any p lv tv s W (HT9.out.st.vault.below hW)
          have HR9 : Hid (Below w.heap.size w w9) := HT9.out.below
          clear b9 hC9 HB8 HB9 HT9 HOP hmk hcv HT5 HVB
          generalize logB s = LS at *
          go_wp2_with fail
          -- the last region
          have HN : Hid (∀ s, (s < 368 ∧ s ≠ 6) → ¬ ∃ i, i < 55 ∧ s = (if i = 54 then 6 else 368 + i)) := fun s hs ⟨i, hi, e⟩ => by split at e <;> omega
          refine wp_region_wants2 (by kernel_rfl) [.val (.int .i64 0), .val (.bool true), .val (.bool true), .val (.int .i64 1), .val (.bool true), .val (.bool true), .val (.bool true), .val (.string ⟨#[]⟩), .val (.bool true), .val (.bool true), .val (.bool true), .val (.int .i64 5), .val (.bool true), .val (.bool true), .val (.bool true), .val (.int .i64 5), .val (.bool true), .val (.bool true), .val (.bool true), .val (.pointer none), .val (.bool true), .val (.bool true), .val (.bool true), .val (.int .i64 1), .val (.bool true), .val (.bool true), .val (.bool true), .val (.int .i64 0), .val (.bool true), .val (.bool true), .val (.bool true), .val (.pointer (some ⟨q, 0, none⟩)), .val (.pointer (some ⟨q, 0, none⟩)), .val (.pointer (some ⟨q, 0, none⟩)), .val (.pointer (some ⟨p, 0, none⟩)), .val (.string LS), .val (.pointer (some ⟨q, 0, none⟩)), .val (.pointer (some ⟨q, 0, none⟩)), .val (.pointer (some ⟨q, 9, none⟩)), .val (.slice (some ⟨g9, 0, none⟩) (m + 1) c9), .val (.int .i64 (m : Int)), .val (.pointer (some ⟨g9, m, none⟩)), .val (.string LS), .val (.bool true), .val (.bool true), .val (.bool true), .val (.pointer (some ⟨q, 0, none⟩)), .val (.pointer (some ⟨q, 0, none⟩)), .val (.pointer (some ⟨q, 0, none⟩)), .val (.pointer (some ⟨q, 0, none⟩)), .val (.pointer (some ⟨p, 0, none⟩)), .val (.int .i64 (m : Int)), .val (.bool true), .val (.bool true), .val (.bool true)] (fun i => if i = 54 then 6 else 368 + i) _ rfl (by kernel_rfl) ?_ rfl ?_
          · intro i o qq a wx ho hq hh hb hdep
            have c0 := (hb.cell (p := ⟨q, 0, none⟩) hq9).trans k09
            have c9' := (hb.cell (p := ⟨q, 9, none⟩) hq9).trans k99
            have cy := (hb.cell (p := ⟨g9, m, none⟩) hga9).trans y9
            have HLX : Hid (Calls Tryz.prog 7 #[.pointer (some ⟨p, 0, none⟩)] wx fun e w' => e = .returned (.string LS) ∧ wx = w') := HLG9.out _ hb
            have HHX : Hid (Calls Tryz.prog 8 #[.pointer (some ⟨q, 0, none⟩), .pointer (some ⟨p, 0, none⟩), .int .i64 m] wx fun e w' => e = .returned (.bool true) ∧ Below wx.heap.size wx w') := HH9.out _ hb
            have t41 : a.tmps.getD 41 undef = .int .i64 0 := hh.at_ 41 (HN.out 41 (by omega))
            have t42 : a.tmps.getD 42 undef = .int .i64 1 := hh.at_ 42 (HN.out 42 (by omega))
            have t43 : a.tmps.getD 43 undef = .string ⟨#[]⟩ := hh.at_ 43 (HN.out 43 (by omega))
            have t44 : a.tmps.getD 44 undef = .int .i64 5 := hh.at_ 44 (HN.out 44 (by omega))
            have t45 : a.tmps.getD 45 undef = .int .i64 5 := hh.at_ 45 (HN.out 45 (by omega))
            have t46 : a.tmps.getD 46 undef = .pointer none := hh.at_ 46 (HN.out 46 (by omega))
            have t47 : a.tmps.getD 47 undef = .int .i64 1 := hh.at_ 47 (HN.out 47 (by omega))
            have t48 : a.tmps.getD 48 undef = .int .i64 0 := hh.at_ 48 (HN.out 48 (by omega))
            have t7 : a.tmps.getD 7 undef = .pointer (some ⟨q, 0, none⟩) := hh.at_ 7 (HN.out 7 (by omega))
            have t9 : a.tmps.getD 9 undef = .int .i64 (m : Int) := hh.at_ 9 (HN.out 9 (by omega))
            clear HLG9 HH9 k09 k99 y9 hq9 hga9 HR9 HN hh
            match i, ho, hq with
            | 0, ho, hq =>
              cases ho
              cases hq
              refine ⟨wanted_free rfl, ?_⟩
              clear hdep
              unfold Oper.wp
              go_simp
              exact ⟨_, rfl, Below.refl _ _, rfl⟩
            | 1, ho, hq =>
              cases ho
              cases hq
              have h368 : a.tmps.getD 368 undef = .int .i64 0 := hdep ⟨0, .data⟩ (by simp) rfl _ rfl
              refine ⟨wanted_free rfl, ?_⟩
              clear hdep
              unfold Oper.wp
              go_simp
              exact ⟨_, rfl, Below.refl _ _, rfl⟩
            | 2, ho, hq =>
              cases ho
              cases hq
              have h369 : a.tmps.getD 369 undef = .bool true := hdep ⟨1, .data⟩ (by simp) rfl _ rfl
              refine ⟨wanted_free rfl, ?_⟩
              clear hdep
              unfold Oper.wp
              go_simp
              exact ⟨_, rfl, Below.refl _ _, rfl⟩
            | 3, ho, hq =>
              cases ho
              cases hq
              refine ⟨wanted_met (d := 370) rfl rfl rfl (hdep ⟨2, .guard⟩ (by simp) rfl _ rfl), ?_⟩
              clear hdep
              unfold Oper.wp
              go_simp
              exact ⟨_, rfl, Below.refl _ _, rfl⟩
            | 4, ho, hq =>
              cases ho
              cases hq
              have h371 : a.tmps.getD 371 undef = .int .i64 1 := hdep ⟨3, .data⟩ (by simp) rfl _ rfl
              refine ⟨wanted_met (d := 370) rfl rfl rfl (hdep ⟨2, .guard⟩ (by simp) rfl _ rfl), ?_⟩
              clear hdep
              unfold Oper.wp
              go_simp
              exact ⟨_, rfl, Below.refl _ _, rfl⟩
            | 5, ho, hq =>
              cases ho
              cases hq
              have h370 : a.tmps.getD 370 undef = .bool true := hdep ⟨2, .data⟩ (by simp) rfl _ rfl
              have h372 : a.tmps.getD 372 undef = .bool true := hdep ⟨4, .data⟩ (by simp) rfl _ rfl
              refine ⟨wanted_free rfl, ?_⟩
              clear hdep
              unfold Oper.wp
              go_simp
              exact ⟨_, rfl, Below.refl _ _, rfl⟩
            | 6, ho, hq =>
              cases ho
              cases hq
              have h373 : a.tmps.getD 373 undef = .bool true := hdep ⟨5, .data⟩ (by simp) rfl _ rfl
              refine ⟨wanted_free rfl, ?_⟩
              clear hdep
              unfold Oper.wp
              go_simp
              exact ⟨_, rfl, Below.refl _ _, rfl⟩
            | 7, ho, hq =>
              cases ho
              cases hq
              refine ⟨wanted_met (d := 374) rfl rfl rfl (hdep ⟨6, .guard⟩ (by simp) rfl _ rfl), ?_⟩
              clear hdep
              unfold Oper.wp
              go_simp
              exact ⟨_, rfl, Below.refl _ _, rfl⟩
            | 8, ho, hq =>
              cases ho
              cases hq
              have h375 : a.tmps.getD 375 undef = .string ⟨#[]⟩ := hdep ⟨7, .data⟩ (by simp) rfl _ rfl
              refine ⟨wanted_met (d := 374) rfl rfl rfl (hdep ⟨6, .guard⟩ (by simp) rfl _ rfl), ?_⟩
              clear hdep
              unfold Oper.wp
              go_simp
              exact ⟨_, rfl, Below.refl _ _, rfl⟩
            | 9, ho, hq =>
              cases ho
              cases hq
              have h374 : a.tmps.getD 374 undef = .bool true := hdep ⟨6, .data⟩ (by simp) rfl _ rfl
              have h376 : a.tmps.getD 376 undef = .bool true := hdep ⟨8, .data⟩ (by simp) rfl _ rfl
              refine ⟨wanted_free rfl, ?_⟩
              clear hdep
              unfold Oper.wp
              go_simp
              exact ⟨_, rfl, Below.refl _ _, rfl⟩
            | 10, ho, hq =>
              cases ho
              cases hq
              have h377 : a.tmps.getD 377 undef = .bool true := hdep ⟨9, .data⟩ (by simp) rfl _ rfl
              refine ⟨wanted_free rfl, ?_⟩
              clear hdep
              unfold Oper.wp
              go_simp
              exact ⟨_, rfl, Below.refl _ _, rfl⟩
            | 11, ho, hq =>
              cases ho
              cases hq
              refine ⟨wanted_met (d := 378) rfl rfl rfl (hdep ⟨10, .guard⟩ (by simp) rfl _ rfl), ?_⟩
              clear hdep
              unfold Oper.wp
              go_simp
              exact ⟨_, rfl, Below.refl _ _, rfl⟩
            | 12, ho, hq =>
              cases ho
              cases hq
              have h379 : a.tmps.getD 379 undef = .int .i64 5 := hdep ⟨11, .data⟩ (by simp) rfl _ rfl
              refine ⟨wanted_met (d := 378) rfl rfl rfl (hdep ⟨10, .guard⟩ (by simp) rfl _ rfl), ?_⟩
              clear hdep
              unfold Oper.wp
              go_simp
              exact ⟨_, rfl, Below.refl _ _, rfl⟩
            | 13, ho, hq =>
              cases ho
              cases hq
              have h378 : a.tmps.getD 378 undef = .bool true := hdep ⟨10, .data⟩ (by simp) rfl _ rfl
              have h380 : a.tmps.getD 380 undef = .bool true := hdep ⟨12, .data⟩ (by simp) rfl _ rfl
              refine ⟨wanted_free rfl, ?_⟩
              clear hdep
              unfold Oper.wp
              go_simp
              exact ⟨_, rfl, Below.refl _ _, rfl⟩
            | 14, ho, hq =>
              cases ho
              cases hq
              have h381 : a.tmps.getD 381 undef = .bool true := hdep ⟨13, .data⟩ (by simp) rfl _ rfl
              refine ⟨wanted_free rfl, ?_⟩
              clear hdep
              unfold Oper.wp
              go_simp
              exact ⟨_, rfl, Below.refl _ _, rfl⟩
            | 15, ho, hq =>
              cases ho
              cases hq
              refine ⟨wanted_met (d := 382) rfl rfl rfl (hdep ⟨14, .guard⟩ (by simp) rfl _ rfl), ?_⟩
              clear hdep
              unfold Oper.wp
              go_simp
              exact ⟨_, rfl, Below.refl _ _, rfl⟩
            | 16, ho, hq =>
              cases ho
              cases hq
              have h383 : a.tmps.getD 383 undef = .int .i64 5 := hdep ⟨15, .data⟩ (by simp) rfl _ rfl
              refine ⟨wanted_met (d := 382) rfl rfl rfl (hdep ⟨14, .guard⟩ (by simp) rfl _ rfl), ?_⟩
              clear hdep
              unfold Oper.wp
              go_simp
              exact ⟨_, rfl, Below.refl _ _, rfl⟩
            | 17, ho, hq =>
              cases ho
              cases hq
              have h382 : a.tmps.getD 382 undef = .bool true := hdep ⟨14, .data⟩ (by simp) rfl _ rfl
              have h384 : a.tmps.getD 384 undef = .bool true := hdep ⟨16, .data⟩ (by simp) rfl _ rfl
              refine ⟨wanted_free rfl, ?_⟩
              clear hdep
              unfold Oper.wp
              go_simp
              exact ⟨_, rfl, Below.refl _ _, rfl⟩
            | 18, ho, hq =>
              cases ho
              cases hq
              have h385 : a.tmps.getD 385 undef = .bool true := hdep ⟨17, .data⟩ (by simp) rfl _ rfl
              refine ⟨wanted_free rfl, ?_⟩
              clear hdep
              unfold Oper.wp
              go_simp
              exact ⟨_, rfl, Below.refl _ _, rfl⟩
            | 19, ho, hq =>
              cases ho
              cases hq
              refine ⟨wanted_met (d := 386) rfl rfl rfl (hdep ⟨18, .guard⟩ (by simp) rfl _ rfl), ?_⟩
              clear hdep
              unfold Oper.wp
              go_simp
              exact ⟨_, rfl, Below.refl _ _, rfl⟩
            | 20, ho, hq =>
              cases ho
              cases hq
              have h387 : a.tmps.getD 387 undef = .pointer none := hdep ⟨19, .data⟩ (by simp) rfl _ rfl
              refine ⟨wanted_met (d := 386) rfl rfl rfl (hdep ⟨18, .guard⟩ (by simp) rfl _ rfl), ?_⟩
              clear hdep
              unfold Oper.wp
              go_simp
              exact ⟨_, rfl, Below.refl _ _, rfl⟩
            | 21, ho, hq =>
              cases ho
              cases hq
              have h386 : a.tmps.getD 386 undef = .bool true := hdep ⟨18, .data⟩ (by simp) rfl _ rfl
              have h388 : a.tmps.getD 388 undef = .bool true := hdep ⟨20, .data⟩ (by simp) rfl _ rfl
              refine ⟨wanted_free rfl, ?_⟩
              clear hdep
              unfold Oper.wp
              go_simp
              exact ⟨_, rfl, Below.refl _ _, rfl⟩
            | 22, ho, hq =>
              cases ho
              cases hq
              have h389 : a.tmps.getD 389 undef = .bool true := hdep ⟨21, .data⟩ (by simp) rfl _ rfl
              refine ⟨wanted_free rfl, ?_⟩
              clear hdep
              unfold Oper.wp
              go_simp
              exact ⟨_, rfl, Below.refl _ _, rfl⟩
            | 23, ho, hq =>
              cases ho
              cases hq
              refine ⟨wanted_met (d := 390) rfl rfl rfl (hdep ⟨22, .guard⟩ (by simp) rfl _ rfl), ?_⟩
              clear hdep
              unfold Oper.wp
              go_simp
              exact ⟨_, rfl, Below.refl _ _, rfl⟩
            | 24, ho, hq =>
              cases ho
              cases hq
              have h391 : a.tmps.getD 391 undef = .int .i64 1 := hdep ⟨23, .data⟩ (by simp) rfl _ rfl
              refine ⟨wanted_met (d := 390) rfl rfl rfl (hdep ⟨22, .guard⟩ (by simp) rfl _ rfl), ?_⟩
              clear hdep
              unfold Oper.wp
              go_simp
              exact ⟨_, rfl, Below.refl _ _, rfl⟩
            | 25, ho, hq =>
              cases ho
              cases hq
              have h390 : a.tmps.getD 390 undef = .bool true := hdep ⟨22, .data⟩ (by simp) rfl _ rfl
              have h392 : a.tmps.getD 392 undef = .bool true := hdep ⟨24, .data⟩ (by simp) rfl _ rfl
              refine ⟨wanted_free rfl, ?_⟩
              clear hdep
              unfold Oper.wp
              go_simp
              exact ⟨_, rfl, Below.refl _ _, rfl⟩
            | 26, ho, hq =>
              cases ho
              cases hq
              have h393 : a.tmps.getD 393 undef = .bool true := hdep ⟨25, .data⟩ (by simp) rfl _ rfl
              refine ⟨wanted_free rfl, ?_⟩
              clear hdep
              unfold Oper.wp
              go_simp
              exact ⟨_, rfl, Below.refl _ _, rfl⟩
            | 27, ho, hq =>
              cases ho
              cases hq
              refine ⟨wanted_met (d := 394) rfl rfl rfl (hdep ⟨26, .guard⟩ (by simp) rfl _ rfl), ?_⟩
              clear hdep
              unfold Oper.wp
              go_simp
              exact ⟨_, rfl, Below.refl _ _, rfl⟩
            | 28, ho, hq =>
              cases ho
              cases hq
              have h395 : a.tmps.getD 395 undef = .int .i64 0 := hdep ⟨27, .data⟩ (by simp) rfl _ rfl
              refine ⟨wanted_met (d := 394) rfl rfl rfl (hdep ⟨26, .guard⟩ (by simp) rfl _ rfl), ?_⟩
              clear hdep
              unfold Oper.wp
              go_simp
              exact ⟨_, rfl, Below.refl _ _, rfl⟩
            | 29, ho, hq =>
              cases ho
              cases hq
              have h394 : a.tmps.getD 394 undef = .bool true := hdep ⟨26, .data⟩ (by simp) rfl _ rfl
              have h396 : a.tmps.getD 396 undef = .bool true := hdep ⟨28, .data⟩ (by simp) rfl _ rfl
              refine ⟨wanted_free rfl, ?_⟩
              clear hdep
              unfold Oper.wp
              go_simp
              exact ⟨_, rfl, Below.refl _ _, rfl⟩
            | 30, ho, hq =>
              cases ho
              cases hq
              have h397 : a.tmps.getD 397 undef = .bool true := hdep ⟨29, .data⟩ (by simp) rfl _ rfl
              refine ⟨wanted_free rfl, ?_⟩
              clear hdep
              unfold Oper.wp
              go_simp
              exact ⟨_, rfl, Below.refl _ _, rfl⟩
            | 31, ho, hq =>
              cases ho
              cases hq
              refine ⟨wanted_met (d := 398) rfl rfl rfl (hdep ⟨30, .guard⟩ (by simp) rfl _ rfl), ?_⟩
              clear hdep
              unfold Oper.wp
              go_simp
              exact ⟨_, rfl, Below.refl _ _, rfl⟩
            | 32, ho, hq =>
              cases ho
              cases hq
              have h399 : a.tmps.getD 399 undef = .pointer (some ⟨q, 0, none⟩) := hdep ⟨31, .data⟩ (by simp) rfl _ rfl
              refine ⟨wanted_met (d := 398) rfl rfl rfl (hdep ⟨30, .guard⟩ (by simp) rfl _ rfl), ?_⟩
              clear hdep
              unfold Oper.wp
              go_simp
              exact ⟨_, rfl, Below.refl _ _, rfl⟩
            | 33, ho, hq =>
              cases ho
              cases hq
              have h400 : a.tmps.getD 400 undef = .pointer (some ⟨q, 0, none⟩) := hdep ⟨32, .data⟩ (by simp) rfl _ rfl
              refine ⟨wanted_met (d := 398) rfl rfl rfl (hdep ⟨30, .guard⟩ (by simp) rfl _ rfl), ?_⟩
              clear hdep
              unfold Oper.wp
              go_simp
              exact ⟨_, rfl, Below.refl _ _, rfl⟩
            | 34, ho, hq =>
              cases ho
              cases hq
              have h401 : a.tmps.getD 401 undef = .pointer (some ⟨q, 0, none⟩) := hdep ⟨33, .data⟩ (by simp) rfl _ rfl
              refine ⟨wanted_met (d := 398) rfl rfl rfl (hdep ⟨30, .guard⟩ (by simp) rfl _ rfl), ?_⟩
              clear hdep
              unfold Oper.wp
              go_simp
              exact ⟨_, rfl, Below.refl _ _, rfl⟩
            | 35, ho, hq =>
              cases ho
              cases hq
              have h402 : a.tmps.getD 402 undef = .pointer (some ⟨p, 0, none⟩) := hdep ⟨34, .data⟩ (by simp) rfl _ rfl
              refine ⟨wanted_met (d := 398) rfl rfl rfl (hdep ⟨30, .guard⟩ (by simp) rfl _ rfl), ?_⟩
              clear hdep
              unfold Oper.wp
              go_simp
              refine HLX.out.mono ?_
              rintro e w' ⟨rfl, rfl⟩
              exact ⟨_, rfl, Below.refl _ _, rfl⟩
            | 36, ho, hq =>
              cases ho
              cases hq
              refine ⟨wanted_met (d := 398) rfl rfl rfl (hdep ⟨30, .guard⟩ (by simp) rfl _ rfl), ?_⟩
              clear hdep
              unfold Oper.wp
              go_simp
              exact ⟨_, rfl, Below.refl _ _, rfl⟩
            | 37, ho, hq =>
              cases ho
              cases hq
              have h404 : a.tmps.getD 404 undef = .pointer (some ⟨q, 0, none⟩) := hdep ⟨36, .data⟩ (by simp) rfl _ rfl
              refine ⟨wanted_met (d := 398) rfl rfl rfl (hdep ⟨30, .guard⟩ (by simp) rfl _ rfl), ?_⟩
              clear hdep
              unfold Oper.wp
              go_simp
              exact ⟨_, rfl, Below.refl _ _, rfl⟩
            | 38, ho, hq =>
              cases ho
              cases hq
              have h405 : a.tmps.getD 405 undef = .pointer (some ⟨q, 0, none⟩) := hdep ⟨37, .data⟩ (by simp) rfl _ rfl
              refine ⟨wanted_met (d := 398) rfl rfl rfl (hdep ⟨30, .guard⟩ (by simp) rfl _ rfl), ?_⟩
              clear hdep
              unfold Oper.wp
              go_simp
              exact ⟨_, rfl, Below.refl _ _, rfl⟩
            | 39, ho, hq =>
              cases ho
              cases hq
              have h406 : a.tmps.getD 406 undef = .pointer (some ⟨q, 9, none⟩) := hdep ⟨38, .data⟩ (by simp) rfl _ rfl
              refine ⟨wanted_met (d := 398) rfl rfl rfl (hdep ⟨30, .guard⟩ (by simp) rfl _ rfl), ?_⟩
              clear hdep
              unfold Oper.wp
              go_simp
              exact ⟨_, rfl, Below.refl _ _, rfl⟩
            | 40, ho, hq =>
              cases ho
              cases hq
              refine ⟨wanted_met (d := 398) rfl rfl rfl (hdep ⟨30, .guard⟩ (by simp) rfl _ rfl), ?_⟩
              clear hdep
              unfold Oper.wp
              go_simp
              exact ⟨_, rfl, Below.refl _ _, rfl⟩
            | 41, ho, hq =>
              cases ho
              cases hq
              have h407 : a.tmps.getD 407 undef = .slice (some ⟨g9, 0, none⟩) (m + 1) c9 := hdep ⟨39, .data⟩ (by simp) rfl _ rfl
              have h408 : a.tmps.getD 408 undef = .int .i64 (m : Int) := hdep ⟨40, .data⟩ (by simp) rfl _ rfl
              refine ⟨wanted_met (d := 398) rfl rfl rfl (hdep ⟨30, .guard⟩ (by simp) rfl _ rfl), ?_⟩
              clear hdep
              unfold Oper.wp
              go_simp
              exact ⟨_, rfl, Below.refl _ _, rfl⟩
            | 42, ho, hq =>
              cases ho
              cases hq
              have h409 : a.tmps.getD 409 undef = .pointer (some ⟨g9, m, none⟩) := hdep ⟨41, .data⟩ (by simp) rfl _ rfl
              refine ⟨wanted_met (d := 398) rfl rfl rfl (hdep ⟨30, .guard⟩ (by simp) rfl _ rfl), ?_⟩
              clear hdep
              unfold Oper.wp
              go_simp
              exact ⟨_, rfl, Below.refl _ _, rfl⟩
            | 43, ho, hq =>
              cases ho
              cases hq
              have h403 : a.tmps.getD 403 undef = .string LS := hdep ⟨35, .data⟩ (by simp) rfl _ rfl
              have h410 : a.tmps.getD 410 undef = .string LS := hdep ⟨42, .data⟩ (by simp) rfl _ rfl
              refine ⟨wanted_met (d := 398) rfl rfl rfl (hdep ⟨30, .guard⟩ (by simp) rfl _ rfl), ?_⟩
              clear hdep
              unfold Oper.wp
              go_simp
              exact ⟨_, rfl, Below.refl _ _, rfl⟩
            | 44, ho, hq =>
              cases ho
              cases hq
              have h398 : a.tmps.getD 398 undef = .bool true := hdep ⟨30, .data⟩ (by simp) rfl _ rfl
              have h411 : a.tmps.getD 411 undef = .bool true := hdep ⟨43, .data⟩ (by simp) rfl _ rfl
              refine ⟨wanted_free rfl, ?_⟩
              clear hdep
              unfold Oper.wp
              go_simp
              exact ⟨_, rfl, Below.refl _ _, rfl⟩
            | 45, ho, hq =>
              cases ho
              cases hq
              have h412 : a.tmps.getD 412 undef = .bool true := hdep ⟨44, .data⟩ (by simp) rfl _ rfl
              refine ⟨wanted_free rfl, ?_⟩
              clear hdep
              unfold Oper.wp
              go_simp
              exact ⟨_, rfl, Below.refl _ _, rfl⟩
            | 46, ho, hq =>
              cases ho
              cases hq
              refine ⟨wanted_met (d := 413) rfl rfl rfl (hdep ⟨45, .guard⟩ (by simp) rfl _ rfl), ?_⟩
              clear hdep
              unfold Oper.wp
              go_simp
              exact ⟨_, rfl, Below.refl _ _, rfl⟩
            | 47, ho, hq =>
              cases ho
              cases hq
              refine ⟨wanted_met (d := 413) rfl rfl rfl (hdep ⟨45, .guard⟩ (by simp) rfl _ rfl), ?_⟩
              clear hdep
              unfold Oper.wp
              go_simp
              exact ⟨_, rfl, Below.refl _ _, rfl⟩
            | 48, ho, hq =>
              cases ho
              cases hq
              have h415 : a.tmps.getD 415 undef = .pointer (some ⟨q, 0, none⟩) := hdep ⟨47, .data⟩ (by simp) rfl _ rfl
              refine ⟨wanted_met (d := 413) rfl rfl rfl (hdep ⟨45, .guard⟩ (by simp) rfl _ rfl), ?_⟩
              clear hdep
              unfold Oper.wp
              go_simp
              exact ⟨_, rfl, Below.refl _ _, rfl⟩
            | 49, ho, hq =>
              cases ho
              cases hq
              have h416 : a.tmps.getD 416 undef = .pointer (some ⟨q, 0, none⟩) := hdep ⟨48, .data⟩ (by simp) rfl _ rfl
              refine ⟨wanted_met (d := 413) rfl rfl rfl (hdep ⟨45, .guard⟩ (by simp) rfl _ rfl), ?_⟩
              clear hdep
              unfold Oper.wp
              go_simp
              exact ⟨_, rfl, Below.refl _ _, rfl⟩
            | 50, ho, hq =>
              cases ho
              cases hq
              have h417 : a.tmps.getD 417 undef = .pointer (some ⟨q, 0, none⟩) := hdep ⟨49, .data⟩ (by simp) rfl _ rfl
              refine ⟨wanted_met (d := 413) rfl rfl rfl (hdep ⟨45, .guard⟩ (by simp) rfl _ rfl), ?_⟩
              clear hdep
              unfold Oper.wp
              go_simp
              exact ⟨_, rfl, Below.refl _ _, rfl⟩
            | 51, ho, hq =>
              cases ho
              cases hq
              refine ⟨wanted_met (d := 413) rfl rfl rfl (hdep ⟨45, .guard⟩ (by simp) rfl _ rfl), ?_⟩
              clear hdep
              unfold Oper.wp
              go_simp
              exact ⟨_, rfl, Below.refl _ _, rfl⟩
            | 52, ho, hq =>
              cases ho
              cases hq
              have h414 : a.tmps.getD 414 undef = .pointer (some ⟨q, 0, none⟩) := hdep ⟨46, .data⟩ (by simp) rfl _ rfl
              have h418 : a.tmps.getD 418 undef = .pointer (some ⟨p, 0, none⟩) := hdep ⟨50, .data⟩ (by simp) rfl _ rfl
              have h419 : a.tmps.getD 419 undef = .int .i64 (m : Int) := hdep ⟨51, .data⟩ (by simp) rfl _ rfl
              refine ⟨wanted_met (d := 413) rfl rfl rfl (hdep ⟨45, .guard⟩ (by simp) rfl _ rfl), ?_⟩
              clear hdep
              unfold Oper.wp
              go_simp
              refine HHX.out.mono ?_
              rintro e w' ⟨rfl, b'⟩
              exact ⟨_, rfl, b', rfl⟩
            | 53, ho, hq =>
              cases ho
              cases hq
              have h413 : a.tmps.getD 413 undef = .bool true := hdep ⟨45, .data⟩ (by simp) rfl _ rfl
              have h420 : a.tmps.getD 420 undef = .bool true := hdep ⟨52, .data⟩ (by simp) rfl _ rfl
              refine ⟨wanted_free rfl, ?_⟩
              clear hdep
              unfold Oper.wp
              go_simp
              exact ⟨_, rfl, Below.refl _ _, rfl⟩
            | 54, ho, hq =>
              cases ho
              cases hq
              have h421 : a.tmps.getD 421 undef = .bool true := hdep ⟨53, .data⟩ (by simp) rfl _ rfl
              refine ⟨wanted_free rfl, ?_⟩
              clear hdep
              unfold Oper.wp
              go_simp
              exact ⟨_, rfl, Below.refl _ _, rfl⟩
            | i + 55, ho, hq =>
              exfalso
              have h : i + 55 < 55 := (List.getElem?_eq_some_iff.1 hq).1
              omega
          · intro a wx hh hb hv
            have hG := hv 54 _ rfl
            obtain ⟨u, hu1, hu2⟩ := Held.form (n := 55) (D := fun i => if i = 54 then 6 else 368 + i) hh (fun i hi => Nat.lt_of_lt_of_le (m := 422) (by show (if i = 54 then 6 else 368 + i) < 422; split <;> omega) (Nat.le_of_ble_eq_true rfl))
            have hu54 : u 54 = .bool true := (hu2 54).trans hG
            have HR : Hid (Below w.heap.size w wx) := HR9.out.trans (hb.mono HR9.out.size)
            clear hu2 hv hh hG hb HLG9 HH9 k09 k99 y9 hq9 hga9 HR9 HN
            subst hu1
            rw [show List.range 55 = [0, 1, 2, 3, 4, 5, 6, 7, 8, 9, 10, 11, 12, 13, 14, 15, 16, 17, 18, 19, 20, 21, 22, 23, 24, 25, 26, 27, 28, 29, 30, 31, 32, 33, 34, 35, 36, 37, 38, 39, 40, 41, 42, 43, 44, 45, 46, 47, 48, 49, 50, 51, 52, 53, 54] from rfl]
            simp only [putAll, Act.put, reduceIte, Nat.reduceEqDiff, Nat.reduceAdd, List.setIfInBounds_toArray, List.set_cons_zero, List.set_cons_succ, hu54]
            go_wp2
            go_ret
            exact ⟨rfl, HR.out⟩
end Go.Proofs.YtabpiaaknjcnkabGreat
