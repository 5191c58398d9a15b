/- The texts ZY, ZP, one behind the other. -/
import Derived.Test.YtabpiaaknjcnkaaGreatXZTZSZTaZTbZTcYA
import Derived.Test.YtabpiaaknjcnkaaGreatXYKZV
import Derived.Test.YtabpiaaknjcnkaaGreatZX
import Derived.Test.YtabpiaaknjcnkaaGreatXRALKLSLQ
import Derived.LoopTactic
/-
  Any step of the kinds up to 12.
-/
namespace Go.Proofs.YtabpiaaknjcnkaaGreat
open Go.RowKit
set_option linter.unusedVariables false
set_option linter.unusedSimpArgs false
set_option maxRecDepth 100000

def Holds (B0 Wb n : Nat) (w : World) : Prop := ∃ xv yv bv es xs ys κ, es.length ≤ n ∧ xs.map (·.s) = ys.map (·.s) ∧ xs.length ≤ 4 ∧ WorldAt w B0 Wb xv yv bv es xs ys κ
theorem Holds.below {B0 Wb n : Nat} {w w' : World} (h : Holds B0 Wb n w) (hb : Below w.heap.size w w') : Holds B0 Wb n w' := by
  obtain ⟨xv, yv, bv, es, xs, ys, κ, h1, h2, h3, h4⟩ := h
  exact ⟨xv, yv, bv, es, xs, ys, κ, h1, h2, h3, h4.below hb⟩
theorem Holds.low0 {B0 Wb n : Nat} {w : World} (h : Holds B0 Wb n w) : B0 ≤ w.heap.size := by
  obtain ⟨xv, yv, bv, es, xs, ys, κ, h1, h2, h3, h4⟩ := h
  exact h4.low0
theorem Holds.lt {B0 Wb n : Nat} {w : World} (h : Holds B0 Wb n w) : Wb < w.heap.size := by
  obtain ⟨xv, yv, bv, es, xs, ys, κ, h1, h2, h3, h4⟩ := h
  exact h4.lt
theorem Holds.looks {B0 Wb n : Nat} {w : World} (h : Holds B0 Wb n w) (hn : n ≤ 1300000000000) : Calls Tryz.prog 18 #[.pointer (some ⟨Wb, 2, none⟩)] w fun e w' => e = .returned (.bool true) ∧ Below w.heap.size w w' := by
  obtain ⟨xv, yv, bv, es, xs, ys, κ, h1, h2, h3, h4⟩ := h
  exact looks_any w B0 Wb xv yv bv es _ h4.book (by omega) h4.lt
theorem Went.holds {B0 Wb n : Nat} {w w' : World} {e : Ending} (h : Went B0 Wb n w e w') : e = .returned (.bool true) ∧ Hid (Holds B0 Wb n w') ∧ Below B0 w w' := h
theorem Went.mono {B0 Wb n m : Nat} {w w' : World} {e : Ending} (h : Went B0 Wb n w e w') (hn : n ≤ m) : Went B0 Wb m w e w' := by
  obtain ⟨he, ⟨xv, yv, bv, es, xs, ys, κ, h1, h2, h3, h4⟩, hb⟩ := h
  exact ⟨he, ⟨xv, yv, bv, es, xs, ys, κ, by omega, h2, h3, h4⟩, hb⟩
theorem went_read {B0 Wb n : Nat} {w w' : World} {e : Ending} (h : Holds B0 Wb n w) (he : e = .returned (.bool true)) (hb : Below w.heap.size w w') : Went B0 Wb n w e w' := ⟨he, h.below hb, hb.mono h.low0⟩

theorem step_any {w : World} {B0 Wb n : Nat} (h : Holds B0 Wb n w) (hn : n ≤ 1300000000000) (k a b c : Int) (ha : -9223372036854775808 ≤ a ∧ a ≤ 9223372036854775807) (s t : ByteArray) (vl vm : Value) (lx ly : List DOp) (hr : Raw B0 w s t vl vm lx ly) (hi2 : Ints ly) (hk : k ≤ 12) :
    Calls Tryz.prog 17 #[.pointer (some ⟨Wb, 0, none⟩), .agg #[.int .i64 k, .int .i64 a, .int .i64 b, .int .i64 c, .string s, .string t, vl, vm]] w (Went B0 Wb (n + 1) w) := by
  have hH := h
  obtain ⟨xv, yv, bv, es, xs, ys, κ, h1, h2, h3, h4⟩ := h
  have rd : ∀ {e : Ending} {w' : World}, e = .returned (.bool true) ∧ Below w.heap.size w w' → Went B0 Wb (n + 1) w e w' := fun hh => (went_read hH hh.1 hh.2).mono (by omega)
  obtain ⟨lo, lc, hvl⟩ := hr.hl.slice
  obtain ⟨mo, mc, hvm⟩ := hr.hm.slice
  have hss : s.size ≤ 9223372036854775807 := by have := hr.hs; omega
  by_cases h6 : 1 ≤ k ∧ k ≤ 6
  · refine (step_codesS w B0 Wb xv yv bv es (inCol κ (0, 0) w.heap.size) (fun q hq => hq.1) h4.book (by omega) h4.low0 k a b c s t vl vm lx ly hr hi2 h6.1 h6.2).mono ?_
    rintro e w' ⟨he, ⟨bv', es', hl, hb⟩, hB, hO⟩
    obtain ⟨κ', hat⟩ := h4.booked hb hO
    exact ⟨he, ⟨xv, yv, bv', es', xs, ys, κ', by omega, h2, h3, hat⟩, hB⟩
  · rw [hvl, hvm]
    by_cases h7 : k = 7
    · subst h7
      exact (step_new h4 h2 h3 a b c s t lo mo _ lc _ mc).mono fun e w' hh => hh.mono (by omega)
    · by_cases h0 : xs = []
      · subst h0
        exact (step_empty h4 k a b c h6 h7 (by omega) s t lo mo _ lc _ mc).mono fun e w' hh => rd hh
      · have hpos : 0 < xs.length := List.length_pos_iff.2 h0
        by_cases hlow : k < 1
        · exact (step_low h4 h2 hpos h3 k a b c hlow ha s t lo mo _ lc _ mc).mono fun e w' hh => rd hh
        · rcases (show k = 8 ∨ k = 9 ∨ k = 10 ∨ k = 11 ∨ k = 12 by omega) with rfl | rfl | rfl | rfl | rfl
          · exact (step_backup h4 h2 hpos h3 a b c ha s t hss lo mo _ lc _ mc).mono fun e w' hh => hh.mono (by omega)
          · exact (step_restore h4 h2 hpos h3 a b c ha s t lo mo _ lc _ mc).mono fun e w' hh => rd hh
          · exact (step_versions h4 h2 hpos h3 a b c ha s t lo mo _ lc _ mc).mono fun e w' hh => rd hh
          · exact (step_prune h4 h2 hpos h3 a b c ha s t hss lo mo _ lc _ mc).mono fun e w' hh => hh.mono (by omega)
          · exact (step_log h4 h2 hpos h3 a b c ha s t lo mo _ lc _ mc).mono fun e w' hh => rd hh

theorem raw_none (B0 : Nat) (w : World) (s : ByteArray) (hs : s.size ≤ 9223372036854770000) : Raw B0 w s ⟨#[]⟩ (.slice none 0 0) (.slice none 0 0) [] [] :=
  ⟨hs, by decide, by simp, by simp, .inl ⟨rfl, none, 0, rfl⟩, .inl ⟨rfl, none, 0, rfl⟩, by simp, by simp⟩
def newCol (n : Nat) : Nat → Col := fun q => if q < n then (5, 0) else (0, 0)
theorem world_new (w : World) : Holds w.heap.size w.heap.size 0 (w.alloc (.cells #[.slice none 0 0, .slice none 0 0, .slice none 0 0] 57)) := by
  refine ⟨.slice none 0 0, .slice none 0 0, .slice none 0 0, [], [], [], newCol w.heap.size, Nat.le_refl _, rfl, Nat.zero_le _, ⟨⟨heap_alloc_new _ _, Nat.le_refl _, ⟨by simp, if_neg (by omega)⟩, World.ownsRow_nil _ _ _ _, (fun g hg => by cases hg), (fun e he => by cases he)⟩, fun q hq => if_pos hq, World.ownsRow_nil _ _ _ _, (fun g hg => by cases hg), World.ownsRow_nil _ _ _ _, (fun g hg => by cases hg), fun i x hx => by simp at hx, fun i y hy => by simp at hy⟩⟩
end Go.Proofs.YtabpiaaknjcnkaaGreat

/-
  A whole script, of the kinds up to 12.
-/
namespace Go.Proofs.YtabpiaaknjcnkaaGreat
open Go.RowKit
set_option linter.unusedVariables false
set_option linter.unusedSimpArgs false
set_option maxRecDepth 100000

/-- The step of plays' own list. -/
theorem step_there {w : World} {B0 Wb n : Nat} (h : Holds B0 Wb n w) (hn : n ≤ 1300000000000) :
    Calls Tryz.prog 17 #[.pointer (some ⟨Wb, 0, none⟩), .agg #[.int .i64 5, .int .i64 0, .int .i64 0, .int .i64 0, .string ⟨#[]⟩, .string ⟨#[]⟩, .slice (some ⟨w.heap.size, 0, none⟩) 2 2, .slice none 0 0]] (w.alloc (.cells #[.int .i64 0, .int .i64 6, .string ⟨#[]⟩, .int .i64 0, .int .i64 0, .string ⟨#[116, 104, 101, 114, 101]⟩] 63)) fun e w' => e = .returned (.bool true) ∧ Hid (Holds B0 Wb n w') ∧ Below B0 w w' := by
  have hH := h
  obtain ⟨xv, yv, bv, es, xs, ys, κ, h1, h2, h3, h4⟩ := h
  have hb : Below w.heap.size w (w.alloc (.cells #[.int .i64 0, .int .i64 6, .string ⟨#[]⟩, .int .i64 0, .int .i64 0, .string ⟨#[116, 104, 101, 114, 101]⟩] 63)) := (Below.refl _ _).alloc (Nat.le_refl _) _
  refine (step_enc _ B0 (w.heap.size + 1) Wb xv yv bv es ((h4.below hb).book.kept (fun q _ => rfl) (fun q hq => hq.1)) (by omega) (by have := h4.low0; simp; omega) (by have := h4.low0; omega) (by simp) 0 0 0 _ _ _ _ thereOps [] (raw_there _ _ _) ints_nil).mono ?_
  rintro e w' ⟨he, _, hB⟩
  have hB2 : Below w.heap.size w w' := hb.trans (hB.mono (by omega))
  exact ⟨he, hH.below hB2, hB2.mono hH.low0⟩

theorem rng0 : (-9223372036854775808 : Int) ≤ 0 ∧ (0 : Int) ≤ 9223372036854775807 := by omega
theorem step_hold {w : World} {B0 Wb n : Nat} (h : Holds B0 Wb n w) (hn : n ≤ 1300000000000) (k a b c : Int) (ha : -9223372036854775808 ≤ a ∧ a ≤ 9223372036854775807) (s t : ByteArray) (vl vm : Value) (lx ly : List DOp) (hr : Raw B0 w s t vl vm lx ly) (hi2 : Ints ly) (hk : k ≤ 12) :
    Calls Tryz.prog 17 #[.pointer (some ⟨Wb, 0, none⟩), .agg #[.int .i64 k, .int .i64 a, .int .i64 b, .int .i64 c, .string s, .string t, vl, vm]] w fun e w' => e = .returned (.bool true) ∧ Hid (Holds B0 Wb (n + 1) w') ∧ Below B0 w w' :=
  (step_any h hn k a b c ha s t vl vm lx ly hr hi2 hk).mono fun e w' hh => hh.holds

set_option maxHeartbeats 16000000 in
theorem plays_vaults (w : World) (ao : Option Addr) (cap : Nat) (L : List SOp) (hL : L.length ≤ 1256600000000) (hsc : Script w ao L) (hys : ∀ o ∈ L, Ints o.ys) (hra : ∀ o ∈ L, -9223372036854775808 ≤ o.a ∧ o.a ≤ 9223372036854775807) :
    Calls Tryz.prog 9 #[.slice ao L.length cap, .int .i64 12] w fun e w' => e = .returned (.bool true) ∧ Below w.heap.size w w' := by
  have HS : Hid (Script w ao L) := hsc
  have HY : Hid (∀ o ∈ L, Ints o.ys) := hys
  have HA : Hid (∀ o ∈ L, -9223372036854775808 ≤ o.a ∧ o.a ≤ 9223372036854775807) := hra
  clear hsc hys hra
  have b0 : Below w.heap.size w (w.alloc (.cells #[.slice none 0 0, .slice none 0 0, .slice none 0 0] 57)) := (Below.refl _ _).alloc (Nat.le_refl _) _
  have HF : Hid (Calls Tryz.prog 17 #[.pointer (some ⟨w.heap.size, 0, none⟩), .agg #[.int .i64 1, .int .i64 0, .int .i64 0, .int .i64 0, .string ⟨#[104, 101, 108, 108, 111, 32, 119, 111, 114, 108, 100]⟩, .string ⟨#[104, 101, 108, 108, 111, 32, 119, 111, 114, 116, 104, 121]⟩, .slice none 0 0, .slice none 0 0]] (w.alloc (.cells #[.slice none 0 0, .slice none 0 0, .slice none 0 0] 57)) fun e w' => e = .returned (.bool true) ∧ Hid (Holds w.heap.size w.heap.size 1 w') ∧ Below w.heap.size (w.alloc (.cells #[.slice none 0 0, .slice none 0 0, .slice none 0 0] 57)) w') :=
    step_hold (world_new w) (by omega) 1 0 0 0 rng0 _ _ _ _ [] [] (raw_hello _ _) ints_nil (by omega)
  go_enter Tryz.func9, Tryz.ntmps9
  go_wp2_with fail
  refine HF.out.mono ?_
  rintro e w1 ⟨rfl, HH1, hb1⟩
  have c1 : Below w.heap.size w w1 := b0.trans hb1
  clear HF b0 hb1
  have HE := step_there HH1.out (by omega)
  have HE2 : Hid (Calls Tryz.prog 17 #[.pointer (some ⟨w.heap.size, 0, none⟩), .agg #[.int .i64 5, .int .i64 0, .int .i64 0, .int .i64 0, .string ⟨#[]⟩, .string ⟨#[]⟩, .slice (some ⟨w1.heap.size, 0, none⟩) 2 2, .slice none 0 0]] (w1.alloc (.cells #[.int .i64 0, .int .i64 6, .string ⟨#[]⟩, .int .i64 0, .int .i64 0, .string ⟨#[116, 104, 101, 114, 101]⟩] 63)) fun e w' => e = .returned (.bool true) ∧ Hid (Holds w.heap.size w.heap.size 1 w') ∧ Below w.heap.size w1 w') := HE
  clear HE
  go_wp2_with fail
  refine HE2.out.mono ?_
  rintro e w2 ⟨rfl, HH2, hb2⟩
  have c2 : Below w.heap.size w w2 := c1.trans hb2
  clear HE2 hb2 c1 HH1
  have HC3 : Hid (Calls Tryz.prog 17 #[.pointer (some ⟨w.heap.size, 0, none⟩), .agg #[.int .i64 7, .int .i64 0, .int .i64 0, .int .i64 0, .string ⟨#[]⟩, .string ⟨#[]⟩, .slice none 0 0, .slice none 0 0]] w2 fun e w' => e = .returned (.bool true) ∧ Hid (Holds w.heap.size w.heap.size 2 w') ∧ Below w.heap.size w2 w') := step_hold HH2.out (by omega) 7 0 0 0 rng0 _ _ _ _ [] [] (raw_none _ _ _ (by decide)) ints_nil (by omega)
  go_wp2_with fail
  refine HC3.out.mono ?_
  rintro e w3 ⟨rfl, HH3, hb3⟩
  have c3 : Below w.heap.size w w3 := c2.trans hb3
  clear HC3 hb3 c2 HH2
  have HC4 : Hid (Calls Tryz.prog 17 #[.pointer (some ⟨w.heap.size, 0, none⟩), .agg #[.int .i64 8, .int .i64 0, .int .i64 1, .int .i64 0, .string ⟨#[97, 32, 102, 105, 114, 115, 116, 32, 118, 101, 114, 115, 105, 111, 110]⟩, .string ⟨#[]⟩, .slice none 0 0, .slice none 0 0]] w3 fun e w' => e = .returned (.bool true) ∧ Hid (Holds w.heap.size w.heap.size 3 w') ∧ Below w.heap.size w3 w') := step_hold HH3.out (by omega) 8 0 1 0 rng0 _ _ _ _ [] [] (raw_none _ _ _ (by decide)) ints_nil (by omega)
  go_wp2_with fail
  refine HC4.out.mono ?_
  rintro e w4 ⟨rfl, HH4, hb4⟩
  have c4 : Below w.heap.size w w4 := c3.trans hb4
  clear HC4 hb4 c3 HH3
  have HC5 : Hid (Calls Tryz.prog 17 #[.pointer (some ⟨w.heap.size, 0, none⟩), .agg #[.int .i64 8, .int .i64 0, .int .i64 1, .int .i64 0, .string ⟨#[97, 32, 102, 105, 114, 115, 116, 32, 118, 101, 114, 115, 105, 111, 110, 44, 32, 97, 110, 100, 32, 109, 111, 114, 101]⟩, .string ⟨#[]⟩, .slice none 0 0, .slice none 0 0]] w4 fun e w' => e = .returned (.bool true) ∧ Hid (Holds w.heap.size w.heap.size 4 w') ∧ Below w.heap.size w4 w') := step_hold HH4.out (by omega) 8 0 1 0 rng0 _ _ _ _ [] [] (raw_none _ _ _ (by decide)) ints_nil (by omega)
  go_wp2_with fail
  refine HC5.out.mono ?_
  rintro e w5 ⟨rfl, HH5, hb5⟩
  have c5 : Below w.heap.size w w5 := c4.trans hb5
  clear HC5 hb5 c4 HH4
  go_wp2
  go_loopw [6, 9] (fun ok c wr => ∃ (i : Nat), i ≤ L.length ∧ ok = .bool true ∧ c = .int .i64 i ∧ Hid (Holds w.heap.size w.heap.size (i + 4) wr) ∧ Below w.heap.size w wr) (fun _ c _ => L.length + 1 - (intOf c).toNat)
  case atStart => exact ⟨0, by omega, rfl, rfl, HH5, c5⟩
  case round =>
    obtain ⟨i, hi, rfl, rfl, HBK, hbw⟩ := hrel
    have hsz := hbw.size
    have hWb : w.heap.size < wr.heap.size := HBK.out.lt
    by_cases hlt : i < L.length
    · obtain ⟨o, ho⟩ : ∃ o, L[i]? = some o := ⟨L[i], by simp [hlt]⟩
      obtain ⟨b, off, rfl, hb, hsc⟩ : ∃ b off, ao = some ⟨b, off, none⟩ ∧ b < w.heap.size ∧ ScriptAt w b off L := by
        rcases HS.out with h | h
        · rw [h] at hlt; simp at hlt
        · exact h
      obtain ⟨d0, d1, d2, d3, d4, d5, d6, d7, hraw⟩ := hsc i o ho
      have HIY : Hid (Ints o.ys) := HY.out o (List.mem_of_getElem? ho)
      have HRA : Hid (-9223372036854775808 ≤ o.a ∧ o.a ≤ 9223372036854775807) := HA.out o (List.mem_of_getElem? ho)
      clear hsc
      obtain ⟨k, a, b', c, s, t, vl, vm, xs, ys⟩ := o
      simp only at d0 d1 d2 d3 d4 d5 d6 d7 hraw
      have k0 := (hbw.cell (p := ⟨b, off + i * 8, none⟩) hb).trans d0
      have k1 := (hbw.cell (p := ⟨b, off + i * 8 + 1, none⟩) hb).trans d1
      have k2 := (hbw.cell (p := ⟨b, off + i * 8 + 2, none⟩) hb).trans d2
      have k3 := (hbw.cell (p := ⟨b, off + i * 8 + 3, none⟩) hb).trans d3
      have k4 := (hbw.cell (p := ⟨b, off + i * 8 + 4, none⟩) hb).trans d4
      have k5 := (hbw.cell (p := ⟨b, off + i * 8 + 5, none⟩) hb).trans d5
      have k6 := (hbw.cell (p := ⟨b, off + i * 8 + 6, none⟩) hb).trans d6
      have k7 := (hbw.cell (p := ⟨b, off + i * 8 + 7, none⟩) hb).trans d7
      have HR : Hid (Raw w.heap.size wr s t vl vm xs ys) := hraw.kept hbw
      obtain ⟨lo, lc, hvl⟩ := hraw.hl.slice
      obtain ⟨mo, mc, hvm⟩ := hraw.hm.slice
      rw [hvl] at k6 HR
      rw [hvm] at k7 HR
      clear d0 d1 d2 d3 d4 d5 d6 d7 hraw ho hvl hvm
      by_cases hk : 12 < k
      · go_wp2
        go_roundw
        case rel =>
          refine ⟨i + 1, by omega, rfl, by go_num, ?_, hbw⟩
          obtain ⟨xv, yv, bv, es, xs, ys, κ, h1, h2⟩ := HBK.out
          exact ⟨xv, yv, bv, es, xs, ys, κ, by omega, h2⟩
        case measure => simp [intOf]; omega
      · have HC : Hid (Calls Tryz.prog 17 #[.pointer (some ⟨w.heap.size, 0, none⟩), .agg #[.int .i64 k, .int .i64 a, .int .i64 b', .int .i64 c, .string s, .string t, .slice lo xs.length lc, .slice mo ys.length mc]] wr fun e w' => e = .returned (.bool true) ∧ Hid (Holds w.heap.size w.heap.size (i + 4 + 1) w') ∧ Below w.heap.size wr w') :=
          step_hold HBK.out (by omega) k a b' c HRA.out s t _ _ xs ys HR.out HIY.out (by omega)
        have hk12 : k ≤ 12 := by omega
        go_wp2_with fail
        refine HC.out.mono ?_
        rintro e w2 ⟨rfl, HH2, hb2⟩
        have c2 : Below w.heap.size w w2 := hbw.trans hb2
        have HLK : Hid (Calls Tryz.prog 18 #[.pointer (some ⟨w.heap.size, 2, none⟩)] w2 fun e w' => e = .returned (.bool true) ∧ Below w2.heap.size w2 w') := HH2.out.looks (by omega)
        have hW2 : w.heap.size < w2.heap.size := HH2.out.lt
        clear hb2 HC
        go_wp2_with fail
        refine HLK.out.mono ?_
        rintro e w3 ⟨rfl, b3⟩
        have c3 : Below w.heap.size w w3 := c2.trans (b3.mono (by omega))
        have HH3 : Hid (Holds w.heap.size w.heap.size (i + 1 + 4) w3) := by
          have := HH2.out.below b3
          rw [show i + 4 + 1 = i + 1 + 4 by omega] at this
          exact this
        clear b3 HLK HH2 c2
        go_wp2
        go_roundw
        case rel => exact ⟨i + 1, by omega, rfl, by go_num, HH3, c3⟩
        case measure => simp [intOf]; omega
    · obtain ⟨xv, yv, bv, es, xs, ys, κ, h1, h2, h3, h4⟩ := HBK.out
      have H0 : Hid (WorldAt wr w.heap.size w.heap.size xv yv bv es xs ys κ) := h4
      have HSM : Hid (xs.map (·.s) = ys.map (·.s)) := h2
      obtain ⟨xo, xc, hxv⟩ := row_slice1 h4.xrow
      have kX := h4.cellX
      rw [hxv] at kX
      have HXV : Hid (xv = .slice xo xs.length xc) := hxv
      clear HBK h1 h2 h4 hxv
      obtain ⟨W5, hW5⟩ : ∃ W5, W5 = wr := ⟨_, rfl⟩
      subst hW5
      go_wp2
      go_loopw [6, 11] (fun ok c wx => ∃ (k : Nat), k ≤ xs.length ∧ ok = .bool true ∧ c = .int .i64 k ∧ Hid (WorldAt wx w.heap.size w.heap.size xv yv bv es xs ys κ) ∧ Below W5.heap.size W5 wx) (fun _ c _ => xs.length + 1 - (intOf c).toNat)
      case atStart => exact ⟨0, by omega, rfl, rfl, H0, Below.refl _ _⟩
      case round =>
        obtain ⟨k, hk, rfl, rfl, HK, hbk⟩ := hrel
        have kXr := (hbk.cell (p := ⟨w.heap.size, 0, none⟩) hWb).trans kX
        have hWbr := Nat.lt_of_lt_of_le hWb hbk.size
        by_cases hkl : k < xs.length
        · have hpos : 0 < xs.length := by omega
          have HLG : Hid (Calls Tryz.prog 17 #[.pointer (some ⟨w.heap.size, 0, none⟩), .agg #[.int .i64 12, .int .i64 (k : Int), .int .i64 0, .int .i64 0, .string ⟨#[]⟩, .string ⟨#[]⟩, .slice none 0 0, .slice none 0 0]] wr fun e w' => e = .returned (.bool true) ∧ Below wr.heap.size wr w') := step_log HK.out HSM.out hpos h3 k 0 0 (by omega) _ _ none none 0 0 0 0
          have hkI : (k : Int) < (xs.length : Int) := by omega
          go_wp2_with fail
          refine HLG.out.mono ?_
          rintro e w6 ⟨rfl, b6⟩
          have HK6 : Hid (WorldAt w6 w.heap.size w.heap.size xv yv bv es xs ys κ) := HK.out.below b6
          have hb6 : Below W5.heap.size W5 w6 := hbk.trans (b6.mono hbk.size)
          clear HLG b6 HK hbk kXr hWbr
          go_wp2
          go_loopw [6, 12] (fun ok c wx => ∃ (n : Nat), n ≤ 4 ∧ ok = .bool true ∧ c = .int .i64 n ∧ Hid (WorldAt wx w.heap.size w.heap.size xv yv bv es xs ys κ) ∧ Below W5.heap.size W5 wx) (fun _ c _ => 5 - (intOf c).toNat)
          case atStart => exact ⟨0, by omega, rfl, rfl, HK6, hb6⟩
          case round =>
            obtain ⟨W6, hW6⟩ : ∃ W6, W6 = wr := ⟨_, rfl⟩
            subst hW6
            obtain ⟨n, hn, rfl, rfl, HN, hbn⟩ := hrel
            by_cases hn4 : n < 4
            · have HVR : Hid (Calls Tryz.prog 17 #[.pointer (some ⟨w.heap.size, 0, none⟩), .agg #[.int .i64 10, .int .i64 (k : Int), .int .i64 (n : Int), .int .i64 0, .string ⟨#[]⟩, .string ⟨#[]⟩, .slice none 0 0, .slice none 0 0]] W6 fun e w' => e = .returned (.bool true) ∧ Below W6.heap.size W6 w') := step_versions HN.out HSM.out hpos h3 k n 0 (by omega) _ _ none none 0 0 0 0
              have hnI : (n : Int) < 4 := by omega
              go_wp2_with fail
              refine HVR.out.mono ?_
              rintro e w7 ⟨rfl, b7⟩
              have HK7 : Hid (WorldAt w7 w.heap.size w.heap.size xv yv bv es xs ys κ) := HN.out.below b7
              have hb7 : Below W5.heap.size W5 w7 := hbn.trans (b7.mono hbn.size)
              clear HVR b7 HN hbn
              obtain ⟨gx, cx, gy, cy, x, y, ex, ey, lx, ly, q1, q2, hx, hy, hxy⟩ := HK7.out.picks HSM.out hkl
              obtain ⟨hY, hYc, hok2⟩ := HK7.out.yat k y hy
              have kY := HK7.out.cellY
              rw [ey] at kY
              have e0 := hY.cellF n hn4
              have e1 := hY.cellT n hn4
              have hq := hY.lt
              obtain ⟨tq, tc, htv, htc, hrw⟩ := hY.row n hn4
              rw [htv] at e1
              have hlast : (y.s.ch n).gone + (y.s.ch n).texts.length ≤ 2147483647 := hok2.last n
              have hFle : yF (y.s.ch n) ≤ (y.s.ch n).gone + 1 := by unfold yF; split <;> omega
              have hWb7 : w.heap.size < w7.heap.size := HK7.out.lt
              generalize yF (y.s.ch n) = F at *
              generalize (y.s.ch n).texts.length = T at *
              generalize y.q = q at *
              have hFb : F ≤ 2147483648 := by omega
              have hTb : T ≤ 2147483648 := by omega
              clear hY hYc hok2 htv htc hlast hFle hx hy hxy q1 ex ey hrw
              have hs7 := hb7.size
              go_wp2
              go_loopw [6, 14] (fun ok c wx => ∃ (j : Nat), j ≤ T ∧ ok = .bool true ∧ c = .int .i64 j ∧ Hid (WorldAt wx w.heap.size w.heap.size xv yv bv es xs ys κ) ∧ Below W5.heap.size W5 wx ∧ Hid (wx.heap[w7.heap.size]? = some (.cells #[.int .i64 F, .slice tq T tc] 66 (0, 0)))) (fun _ c _ => T + 1 - (intOf c).toNat)
              case atStart => exact ⟨0, by omega, rfl, rfl, HK7.out.below ((Below.refl _ _).alloc (Nat.le_refl _) _), hb7.alloc hs7 _, heap_alloc_new _ _⟩
              case round =>
                obtain ⟨W8, hW8⟩ : ∃ W8, W8 = wr := ⟨_, rfl⟩
                subst hW8
                obtain ⟨j, hj, rfl, rfl, HJ, hbj, HOB⟩ := hrel
                have g0 : W8.cell? ⟨w7.heap.size, 0, none⟩ = some (.int .i64 F) := by rw [Lib.cell_of_heap HOB.out]; rfl
                have g1 : W8.cell? ⟨w7.heap.size, 1, none⟩ = some (.slice tq T tc) := by rw [Lib.cell_of_heap HOB.out]; rfl
                have hsj : w7.heap.size < W8.heap.size := lt_of_block HOB.out
                by_cases hjT : j < T
                · have HRS : Hid (Calls Tryz.prog 17 #[.pointer (some ⟨w.heap.size, 0, none⟩), .agg #[.int .i64 9, .int .i64 (k : Int), .int .i64 (n : Int), .int .i64 ((F : Int) + (j : Int)), .string ⟨#[]⟩, .string ⟨#[]⟩, .slice none 0 0, .slice none 0 0]] W8 fun e w' => e = .returned (.bool true) ∧ Below W8.heap.size W8 w') := step_restore HJ.out HSM.out hpos h3 k n ((F : Int) + (j : Int)) (by omega) _ _ none none 0 0 0 0
                  have hjI : (j : Int) < (T : Int) := by omega
                  have u1 : IntKind.i64.wrap ((F : Int) + (j : Int)) = (F : Int) + (j : Int) := by rw [IntKind.wrap_i64]; omega
                  go_wp2_with fail
                  refine HRS.out.mono ?_
                  rintro e w9 ⟨rfl, b9⟩
                  have HK9 : Hid (WorldAt w9 w.heap.size w.heap.size xv yv bv es xs ys κ) := HJ.out.below b9
                  have hb9 : Below W5.heap.size W5 w9 := hbj.trans (b9.mono hbj.size)
                  have HO9 : Hid (w9.heap[w7.heap.size]? = some (.cells #[.int .i64 F, .slice tq T tc] 66 (0, 0))) := (b9.block _ hsj).trans HOB.out
                  clear HRS b9 HJ hbj HOB g0 g1
                  go_wp2
                  go_roundw
                  case rel => exact ⟨j + 1, by omega, rfl, by go_num, HK9, hb9, HO9⟩
                  case measure => simp [intOf]; omega
                · go_wp2
                  go_roundw
                  case rel => exact ⟨n + 1, by omega, rfl, by go_num, HJ, hbj⟩
                  case measure => simp [intOf]; omega
            · go_wp2
              go_roundw
              case rel => exact ⟨k + 1, by omega, rfl, by go_num, HN, hbn⟩
              case measure => simp [intOf]; omega
        · go_wp2
          go_ret
          exact ⟨rfl, hbw.trans (hbk.mono hsz)⟩
end Go.Proofs.YtabpiaaknjcnkaaGreat
