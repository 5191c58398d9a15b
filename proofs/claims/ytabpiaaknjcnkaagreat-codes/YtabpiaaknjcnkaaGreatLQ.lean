/-
  A whole script, of the kinds up to 6.
-/
import Derived.Test.YtabpiaaknjcnkaaGreatLP
import Derived.Test.YtabpiaaknjcnkaaGreatLS
import Derived.LoopTactic
namespace Go.Proofs.YtabpiaaknjcnkaaGreat
open Go.RowKit
set_option linter.unusedVariables false
set_option linter.unusedSimpArgs false
set_option maxRecDepth 100000

def thereOps : List DOp := [⟨0, 6, ⟨#[]⟩⟩, ⟨0, 0, ⟨#[116, 104, 101, 114, 101]⟩⟩]
theorem ints_nil : Ints [] := ⟨by simp, by simp, by simp⟩
theorem raw_there (w : World) (T : TypeId) (n : Nat × Nat := (0, 0)) : Raw (w.heap.size + 1) (w.alloc (.cells #[.int .i64 0, .int .i64 6, .string ⟨#[]⟩, .int .i64 0, .int .i64 0, .string ⟨#[116, 104, 101, 114, 101]⟩] T n)) ⟨#[]⟩ ⟨#[]⟩ (.slice (some ⟨w.heap.size, 0, none⟩) 2 2) (.slice none 0 0) thereOps [] := by
  refine ⟨by decide, by decide, by simp [thereOps], by simp, .inr ⟨w.heap.size, 0, 2, rfl, by omega, fun i o ho => ?_⟩, .inl ⟨rfl, none, 0, rfl⟩, by simp [thereOps], fun o ho => ?_⟩
  · match i, ho with
    | 0, ho =>
      simp [thereOps] at ho
      subst ho
      refine ⟨?_, ?_, ?_⟩ <;> (rw [Lib.cell_of_heap (heap_alloc_new _ _)]; rfl)
    | 1, ho =>
      simp [thereOps] at ho
      subst ho
      refine ⟨?_, ?_, ?_⟩ <;> (rw [Lib.cell_of_heap (heap_alloc_new _ _)]; rfl)
    | n + 2, ho => simp [thereOps] at ho
  · simp [thereOps] at ho
    rcases ho with rfl | rfl <;> decide

set_option maxHeartbeats 8000000 in
theorem plays_codes (w : World) (ao : Option Addr) (cap : Nat) (L : List SOp) (hL : L.length ≤ 1256600000000) (hsc : Script w ao L) (hys : ∀ o ∈ L, Ints o.ys) :
    Calls Tryz.prog 9 #[.slice ao L.length cap, .int .i64 6] w fun e w' => e = .returned (.bool true) ∧ Below w.heap.size w w' := by
  have HS : Hid (Script w ao L) := hsc
  have HY : Hid (∀ o ∈ L, Ints o.ys) := hys
  clear hsc hys
  have b0 : Below w.heap.size w (w.alloc (.cells #[.slice none 0 0, .slice none 0 0, .slice none 0 0] 57)) := (Below.refl _ _).alloc (Nat.le_refl _) _
  have HF : Hid (Calls Tryz.prog 17 #[.pointer (some ⟨w.heap.size, 0, none⟩), .agg #[.int .i64 1, .int .i64 0, .int .i64 0, .int .i64 0, .string ⟨#[104, 101, 108, 108, 111, 32, 119, 111, 114, 108, 100]⟩, .string ⟨#[104, 101, 108, 108, 111, 32, 119, 111, 114, 116, 104, 121]⟩, .slice none 0 0, .slice none 0 0]] (w.alloc (.cells #[.slice none 0 0, .slice none 0 0, .slice none 0 0] 57)) (After w.heap.size w.heap.size (.slice none 0 0) (.slice none 0 0) 0 (w.alloc (.cells #[.slice none 0 0, .slice none 0 0, .slice none 0 0] 57)))) :=
    step_deltas _ w.heap.size w.heap.size _ _ _ [] (book_new w) (by simp) (by simp) 1 0 0 0 _ _ _ _ [] [] (raw_hello _ _) (by omega) (by omega)
  go_enter Tryz.func9, Tryz.ntmps9
  go_wp2_with fail
  refine HF.out.mono ?_
  rintro e w1 ⟨rfl, ⟨bv1, es1, hl1, bk1⟩, hb1⟩
  have c1 : Below w.heap.size w w1 := b0.trans hb1
  clear HF b0 hb1
  have hz1 := c1.size
  have b1' : Below w.heap.size w (w1.alloc (.cells #[.int .i64 0, .int .i64 6, .string ⟨#[]⟩, .int .i64 0, .int .i64 0, .string ⟨#[116, 104, 101, 114, 101]⟩] 63)) := c1.alloc hz1 _
  have HE : Hid (Calls Tryz.prog 17 #[.pointer (some ⟨w.heap.size, 0, none⟩), .agg #[.int .i64 5, .int .i64 0, .int .i64 0, .int .i64 0, .string ⟨#[]⟩, .string ⟨#[]⟩, .slice (some ⟨w1.heap.size, 0, none⟩) 2 2, .slice none 0 0]] (w1.alloc (.cells #[.int .i64 0, .int .i64 6, .string ⟨#[]⟩, .int .i64 0, .int .i64 0, .string ⟨#[116, 104, 101, 114, 101]⟩] 63)) (AfterE w.heap.size (w1.heap.size + 1) w.heap.size (.slice none 0 0) (.slice none 0 0) es1.length (w1.alloc (.cells #[.int .i64 0, .int .i64 6, .string ⟨#[]⟩, .int .i64 0, .int .i64 0, .string ⟨#[116, 104, 101, 114, 101]⟩] 63)))) :=
    step_enc _ w.heap.size (w1.heap.size + 1) w.heap.size _ _ bv1 es1 (bk1.kept (fun q hq => heap_alloc_old _ _ hq) (fun q hq => by have : q < w1.heap.size := hq; show q < _; simp; omega)) (by omega) (by simp; omega) (by omega) (by simp) 0 0 0 _ _ _ _ thereOps [] (raw_there _ _ _) ints_nil
  clear bk1
  go_wp2_with fail
  refine HE.out.mono ?_
  rintro e w2 ⟨rfl, ⟨bv2, es2, hl2, bk2⟩, hb2⟩
  have c2 : Below w.heap.size w w2 := b1'.trans (hb2.mono (by omega))
  clear HE b1' hb2 c1 hz1
  go_wp2
  go_loopw [6, 9] (fun ok c wr => ∃ (i : Nat) (bv : Value) (es : List Entry), i ≤ L.length ∧ ok = .bool true ∧ c = .int .i64 i ∧ es.length ≤ i + 2 ∧ Hid (BookAt wr w.heap.size w.heap.size (.slice none 0 0) (.slice none 0 0) bv es (· < wr.heap.size)) ∧ Below w.heap.size w wr) (fun _ c _ => L.length + 1 - (intOf c).toNat)
  case atStart => exact ⟨0, bv2, es2, by omega, rfl, rfl, by omega, bk2, c2⟩
  case round =>
    obtain ⟨i, bv, es, hi, rfl, rfl, hes, HBK, hbw⟩ := hrel
    have hsz := hbw.size
    have hWb : w.heap.size < wr.heap.size := HBK.out.wbB
    by_cases hlt : i < L.length
    · obtain ⟨o, ho⟩ : ∃ o, L[i]? = some o := ⟨L[i], by simp [hlt]⟩
      obtain ⟨b, off, rfl, hb, hsc⟩ : ∃ b off, ao = some ⟨b, off, none⟩ ∧ b < w.heap.size ∧ ScriptAt w b off L := by
        rcases HS.out with h | h
        · rw [h] at hlt; simp at hlt
        · exact h
      obtain ⟨d0, d1, d2, d3, d4, d5, d6, d7, hraw⟩ := hsc i o ho
      have HIY : Hid (Ints o.ys) := HY.out o (List.mem_of_getElem? ho)
      clear hsc
      obtain ⟨k, a, b', c, s, t, vl, vm, xs, ys⟩ := o
      simp only at d0 d1 d2 d3 d4 d5 d6 d7 hraw
      have k0 := (hbw.cell (p := ⟨b, off + i * 8, none⟩) hb).trans d0
      have k1 := (hbw.cell (p := ⟨b, off + i * 8 + 1, none⟩) hb).trans d1
      have k2 := (hbw.cell (p := ⟨b, off + i * 8 + 2, none⟩) hb).trans d2
      have k3 := (hbw.cell (p := ⟨b, off + i * 8 + 3, none⟩) hb).trans d3
      have k4 := (hbw.cell (p := ⟨b, off + i * 8 + 4, none⟩) hb).trans d4
      have k5 := (hbw.cell (p := ⟨b, off + i * 8 + 5, none⟩) hb).trans d5
      have k6 := (hbw.cell (p := ⟨b, off + i * 8 + 6, none⟩) hb).trans d6
      have k7 := (hbw.cell (p := ⟨b, off + i * 8 + 7, none⟩) hb).trans d7
      have HR : Hid (Raw w.heap.size wr s t vl vm xs ys) := hraw.kept hbw
      obtain ⟨lo, lc, hvl⟩ := hraw.hl.slice
      obtain ⟨mo, mc, hvm⟩ := hraw.hm.slice
      rw [hvl] at k6 HR
      rw [hvm] at k7 HR
      clear d0 d1 d2 d3 d4 d5 d6 d7 hraw ho hvl hvm
      by_cases hk : 6 < k
      · go_wp2
        go_roundw
        case rel => exact ⟨i + 1, bv, es, by omega, rfl, by go_num, by omega, HBK, hbw⟩
        case measure => simp [intOf]; omega
      · have HC : Hid (Calls Tryz.prog 17 #[.pointer (some ⟨w.heap.size, 0, none⟩), .agg #[.int .i64 k, .int .i64 a, .int .i64 b', .int .i64 c, .string s, .string t, .slice lo xs.length lc, .slice mo ys.length mc]] wr (After w.heap.size w.heap.size (.slice none 0 0) (.slice none 0 0) es.length wr)) := by
          by_cases hk1 : 1 ≤ k
          · exact step_codes _ _ _ _ _ bv es HBK.out (by omega) hsz k a b' c s t _ _ xs ys HR.out HIY.out hk1 (by omega)
          · exact step_none _ _ _ _ bv es HBK.out hsz k a b' c s t _ _ xs ys HR.out (by omega)
        have hk6 : k ≤ 6 := by omega
        go_wp2_with fail
        refine HC.out.mono ?_
        rintro e w2 ⟨rfl, ⟨bv2, es2, hl2, bk2⟩, hb2⟩
        have c2 : Below w.heap.size w w2 := hbw.trans hb2
        have hW2 : w.heap.size < w2.heap.size := bk2.wbB
        have HLK : Hid (Calls Tryz.prog 18 #[.pointer (some ⟨w.heap.size, 2, none⟩)] w2 fun e w' => e = .returned (.bool true) ∧ Below w2.heap.size w2 w') := looks_any w2 w.heap.size w.heap.size _ _ bv2 es2 _ bk2 (by omega) hW2
        have HB2 : Hid (BookAt w2 w.heap.size w.heap.size (.slice none 0 0) (.slice none 0 0) bv2 es2 (· < w2.heap.size)) := bk2
        clear bk2 hb2 HC
        go_wp2_with fail
        refine HLK.out.mono ?_
        rintro e w3 ⟨rfl, b3⟩
        have c3 : Below w.heap.size w w3 := c2.trans (b3.mono (by omega))
        have bk3 : Hid (BookAt w3 w.heap.size w.heap.size (.slice none 0 0) (.slice none 0 0) bv2 es2 (· < w3.heap.size)) := HB2.out.kept (fun q hq => b3.block q hq) (fun q hq => Nat.lt_of_lt_of_le hq b3.size)
        clear b3 HLK HB2 c2
        go_wp2
        go_roundw
        case rel => exact ⟨i + 1, bv2, es2, by omega, rfl, by go_num, by omega, bk3, c3⟩
        case measure => simp [intOf]; omega
    · have hc : wr.cell? ⟨w.heap.size, 0, none⟩ = some (.slice none 0 0) := by rw [Lib.cell_of_heap HBK.out.blk]; rfl
      go_wp2
      go_loopw [6, 11] (fun ok c wx => ok = .bool true ∧ c = .int .i64 0 ∧ wr = wx) (fun _ _ _ => 0)
      case atStart => exact ⟨rfl, rfl, rfl⟩
      case round =>
        obtain ⟨rfl, rfl, rfl⟩ := hrel
        go_wp2
        go_ret
        exact ⟨rfl, hbw⟩
end Go.Proofs.YtabpiaaknjcnkaaGreat
