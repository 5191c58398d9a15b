/- The texts YD, YE, YF, YW, one behind the other. -/
import Derived.Test.YtabpiaaknjcnkaaGreatXV7YC
import Derived.Laws.AppendOwnNone
import Derived.Deep.AppendLies
import Derived.Deep.RegionLaw
import Derived.Test.YtabpiaaknjcnkaaGreatXZTZSZTaZTbZTcYA
import Derived.Test.YtabpiaaknjcnkaaGreatXR4L7L8P4S1S2L9LBLP
import Derived.Test.YtabpiaaknjcnkaaGreatXPVV1V2
import Derived.Deep.RegionHeld3
/-
  The document's chains: from a version on; with a text more.
-/
namespace Go.Proofs.YtabpiaaknjcnkaaGreat
open Go.RowKit
set_option linter.unusedVariables false
set_option linter.unusedSimpArgs false
set_option maxRecDepth 100000

set_option maxHeartbeats 4000000 in
theorem yfrom_any (F i : Nat) (v : Value) (ts : List ByteArray) (w : World) (hv : YView w v ts) (hi : i < ts.length) (hb : F + ts.length ≤ 9000000000000) :
    Calls Tryz.prog 80 #[.agg #[.int .i64 F, v], .int .i64 ((F : Int) + i)] w fun e w' => ∃ v', e = .returned (.agg #[.int .i64 ((F : Int) + i), v']) ∧ YView w' v' (ts.drop i) ∧ rowBlock v' = rowBlock v ∧ Below w.heap.size w w' := by
  obtain ⟨ao, cap, rfl, hcap, hrow⟩ := hv
  obtain ⟨t0, ht0⟩ : ∃ t, ts[0]? = some t := ⟨ts[0]'(by omega), List.getElem?_eq_getElem (by omega)⟩
  obtain ⟨g, k, rfl, hg, _⟩ := hrow 0 t0 ht0
  have HR : Hid (∀ W, Below w.heap.size w W → YView W (.slice (some ⟨g, k + i, none⟩) (ts.length - i) (cap - i)) (ts.drop i)) := fun W hW => by
    refine ⟨_, _, by rw [List.length_drop], by rw [List.length_drop]; omega, fun j t ht => ?_⟩
    rw [List.getElem?_drop] at ht
    obtain ⟨g', k', e1, e2, e3⟩ := hrow (i + j) t ht
    simp only [Option.some.injEq, Addr.mk.injEq, and_true] at e1
    obtain ⟨rfl, rfl⟩ := e1
    refine ⟨g, k + i, rfl, Nat.lt_of_lt_of_le e2 hW.size, ?_⟩
    rw [show k + i + j = k + (i + j) by omega]
    exact (hW.cell (p := ⟨g, k + (i + j), none⟩) e2).trans e3
  have q1 : IntKind.i64.wrap (i : Int) = (i : Int) := by rw [IntKind.wrap_i64]; omega
  have q2 : (F : Int) + (i : Int) - (F : Int) = (i : Int) := by omega
  have q3 : (i : Int) ≤ (ts.length : Int) := by omega
  have q4 : (ts.length : Int) ≤ (cap : Int) := by omega
  generalize ts.length = L at *
  clear hrow ht0
  go_enter Tryz.func80, Tryz.ntmps80
  go_wp2
  refine bodyPost_ret (by simp [results, Tryz.results80, go_sem]; rfl) rfl ?_
  have hB := ((Below.refl w.heap.size w).alloc (Nat.le_refl _) (.cells #[.int .i64 ((F : Int) + i), .slice (some ⟨g, k + i, none⟩) (L - i) (cap - i)] 66)).alloc (by simp) (.cells #[.int .i64 ((F : Int) + i), .slice (some ⟨g, k + i, none⟩) (L - i) (cap - i)] 66)
  exact ⟨_, rfl, HR.out _ hB, rfl, hB⟩
end Go.Proofs.YtabpiaaknjcnkaaGreat

/-
  The document's chains: with a text more; what a vault is behind a new log, a new chain.
-/
namespace Go.Proofs.YtabpiaaknjcnkaaGreat
open Go.RowKit
set_option linter.unusedVariables false
set_option linter.unusedSimpArgs false
set_option maxRecDepth 100000

theorem YAt.logged {w : World} {p : Nat} {tv : Nat → Value} {s : Vlt} (h : YAt w p tv s) (l : List UInt8) : YAt (w.setCell ⟨p, 8, none⟩ (.string ⟨l.toArray⟩)) p tv ⟨l, s.ch⟩ ∧ Out (· = p) w (w.setCell ⟨p, 8, none⟩ (.string ⟨l.toArray⟩)) :=
  ⟨⟨Lib.heap_setCell_same h.blk _, fun i hi => (h.row i hi).kept (fun b hb => far1 (fun e => h.own i hi (by rw [hb, e]))) (by simp), h.nil, h.own⟩, ⟨rfl, rfl, rfl, by simp, fun q hq hn => far1 hn⟩⟩
theorem YAt.chained {w : World} {p c g' : Nat} {tv : Nat → Value} {s : Vlt} {v' : Value} {ts' : List ByteArray} {z : Int} (h : YAt w p tv s) (hc : c < 4) (hz : z = ((g' + 1 : Nat) : Int)) (hv : YView w v' ts') (ht : ts' ≠ []) (hp : rowBlock v' ≠ some p) :
    YAt ((w.setCell ⟨p, c * 2, none⟩ (.int .i64 z)).setCell ⟨p, c * 2 + 1, none⟩ v') p (fun i => if i = c then v' else tv i) ⟨s.log, fun i => if i = c then ⟨g', ts'⟩ else s.ch i⟩ ∧ Out (· = p) w ((w.setCell ⟨p, c * 2, none⟩ (.int .i64 z)).setCell ⟨p, c * 2 + 1, none⟩ v') := by
  have far : ∀ q, q ≠ p → ((w.setCell ⟨p, c * 2, none⟩ (.int .i64 z)).setCell ⟨p, c * 2 + 1, none⟩ v').heap[q]? = w.heap[q]? := fun q hq => (far1 hq).trans (far1 hq)
  refine ⟨⟨?_, fun i hi => ?_, fun i hi hn => ?_, fun i hi => ?_⟩, ⟨rfl, rfl, rfl, by simp, fun q hq hn => far q hn⟩⟩
  · rw [Lib.heap_setCell_same (Lib.heap_setCell_same h.blk _), hz]
    have hy : g' + 1 = yF ⟨g', ts'⟩ := by unfold yF; rw [if_neg ht]
    rw [hy]
    match c, hc with
    | 0, _ => rfl
    | 1, _ => rfl
    | 2, _ => rfl
    | 3, _ => rfl
  · by_cases e : i = c
    · simp only [e, if_true]; exact hv.kept (fun b hb => far b (fun e => hp (by rw [hb, e]))) (by simp)
    · simp only [e, if_false]; exact (h.row i hi).kept (fun b hb => far b (fun e => h.own i hi (by rw [hb, e]))) (by simp)
  · by_cases e : i = c
    · simp only [e, if_true] at hn; exact absurd hn ht
    · simp only [e, if_false] at hn ⊢; exact h.nil i hi hn
  · by_cases e : i = c
    · simp only [e, if_true]; exact hp
    · simp only [e, if_false]; exact h.own i hi
theorem YView.of_own {w : World} {base : Nat} {v : Value} {ts : List ByteArray} (h : OwnStrs w base v ts) : YView w v ts := by
  obtain ⟨ao, cap, hv⟩ := h.slice
  subst hv
  rcases h.2 with ⟨e, h0⟩ | ⟨g, cap', cur, e, h1, hbk, h2, h3, h4, h5⟩
  · injection e with e1 e2 e3
    have : ts = [] := List.eq_nil_of_length_eq_zero (by simpa using h0)
    subst this
    exact ⟨ao, cap, rfl, Nat.zero_le _, fun i t ht => by simp at ht⟩
  · refine ⟨ao, cap, rfl, ?_, fun i t ht => ?_⟩
    · injection e with e1 e2 e3
      omega
    · obtain ⟨g2, e2, _, hg2, hc⟩ := OwnStrs.cell h ht
      subst e2
      exact ⟨g2, 0, rfl, hg2, by rw [Nat.zero_add]; exact hc⟩
end Go.Proofs.YtabpiaaknjcnkaaGreat

/-
  The document's choice between a text's two bodies.
-/
namespace Go.Proofs.YtabpiaaknjcnkaaGreat
open Go.RowKit
set_option linter.unusedVariables false
set_option linter.unusedSimpArgs false
set_option maxRecDepth 100000

def ydifL (c : Nat) (b t : ByteArray) : List UInt8 := if (recL (bodyD c (diffF b t))).length < (recL (bodyF c t.data.toList)).length then bodyD c (diffF b t) else bodyF c t.data.toList
theorem ydif_rec (c : Nat) (b t : ByteArray) : recL (ydifL c b t) = addedL c (some b) t := by
  unfold ydifL addedL
  simp only
  split <;> rfl
theorem diff_delta {b t : ByteArray} (hb : b.size ≤ 2000) (ht : t.size ≤ 2000) : Delta (diffF b t) 2000 := delta_of (diffF_fault hb ht)
theorem ydif_len (c : Nat) (b t : ByteArray) (hc : c < 128) (hb : b.size ≤ 2000) (ht : t.size ≤ 2000) : (ydifL c b t).length ≤ 5000 := by
  have h1 := (bodyF_len c t hc ht).2
  have h2 := (bodyD_len c _ hc (diff_delta hb ht)).2
  unfold ydifL
  split <;> omega
theorem diff_ints {b t : ByteArray} (hb : b.size ≤ 2000) (ht : t.size ≤ 2000) : Ints (diffF b t) := by
  have hD := diff_delta hb ht
  have hp := hD.parts (by omega)
  exact ⟨by have := hD.len; omega, fun o ho => by have := (hp o ho).2.2.1; omega, fun o ho => by have := (hp o ho).2.2.2; omega⟩
theorem lens_size (l : List UInt8) : (⟨l.toArray⟩ : ByteArray).size = l.length := by rw [Lib.size_eq]

set_option maxHeartbeats 4000000 in
theorem ydiffers_any (c : Nat) (b t : ByteArray) (w : World) (hc : c < 128) (hb : b.size ≤ 2000) (ht : t.size ≤ 2000) :
    Calls Tryz.prog 75 #[.int .i64 c, .string b, .string t] w fun e w' => e = .returned (.string ⟨(ydifL c b t).toArray⟩) ∧ Below w.heap.size w w' := by
  have HRD : Hid (∀ W : World, Calls Tryz.prog 57 #[.string b, .string t] W fun e w' => ∃ ao cap, e = .returned (.tuple #[.slice ao (diffF b t).length cap, .int .i64 0]) ∧ OwnOps w' W.heap.size (.slice ao (diffF b t).length cap) (diffF b t) ∧ Below W.heap.size W w') := fun W => by
    have h := rdiff_any b t W (by omega) (by omega)
    have n : ¬ dLong b t := by unfold dLong; omega
    have e1 : dL b t = diffF b t := by unfold dL; exact if_neg n
    have e2 : dE b t = 0 := by unfold dE; exact if_neg n
    rw [e1, e2] at h; exact h
  have HRE : Hid (∀ (W : World) (v : Value), View W v (diffF b t) → Calls Tryz.prog 67 #[v] W fun e w' => e = .returned (.tuple #[.string ⟨(encL (diffF b t)).toArray⟩, .int .i64 (encE (diffF b t)), .int .i64 (encP (diffF b t))]) ∧ Below W.heap.size W w') := fun W v hv => by
    have h := renc_any hv (diff_ints hb ht)
    have e1 : encS (diffF b t) = ⟨(encL (diffF b t)).toArray⟩ := by unfold encS; rw [if_neg (by rw [diffF_fault hb ht]; omega)]
    rw [e1] at h; exact h
  have hel : (⟨(encL (diffF b t)).toArray⟩ : ByteArray).size ≤ 4000 := by
    have h2 := encTo_length (diff_delta hb ht) (diffF b t).length
    have e : encTo (diffF b t) (diffF b t).length = encL (diffF b t) := by unfold encTo encL; rw [List.take_length]
    rw [e] at h2; rw [lens_size]; exact h2
  have HU : Hid (∀ W : World, Calls Tryz.prog 102 #[.int .i64 c] W fun e w' => e = .returned (.string ⟨(uN c).toArray⟩) ∧ Below W.heap.size W w') := fun W => ru_wide c W (by omega)
  have hul : (⟨(uN c).toArray⟩ : ByteArray).size ≤ 5 := by rw [Lib.size_eq]; exact uN_length5 (by omega)
  have HFB : Hid (∀ W : World, Calls Tryz.prog 73 #[.int .i64 c, .string t] W fun e w' => e = .returned (.string ⟨(bodyF c t.data.toList).toArray⟩) ∧ Below W.heap.size W w') := fun W => yfull_any c t W hc ht
  have HDB : Hid ((⟨#[68]⟩ ++ ⟨(uN c).toArray⟩ ++ ⟨(encL (diffF b t)).toArray⟩ : ByteArray) = ⟨(bodyD c (diffF b t)).toArray⟩) := by
    apply bytes_ext; rw [app_bytes, app_bytes]; simp [bodyD]
  have HR1 : Hid (∀ W : World, Calls Tryz.prog 74 #[.string ⟨(bodyD c (diffF b t)).toArray⟩] W fun e w' => e = .returned (.string ⟨(recL (bodyD c (diffF b t))).toArray⟩) ∧ Below W.heap.size W w') := fun W => yrecord_any _ W (by rw [lens_size]; have := (bodyD_len c _ hc (diff_delta hb ht)).2; omega)
  have HR2 : Hid (∀ W : World, Calls Tryz.prog 74 #[.string ⟨(bodyF c t.data.toList).toArray⟩] W fun e w' => e = .returned (.string ⟨(recL (bodyF c t.data.toList)).toArray⟩) ∧ Below W.heap.size W w') := fun W => yrecord_any _ W (by rw [lens_size]; have := (bodyF_len c t hc ht).2; omega)
  have HY : Hid ((⟨(ydifL c b t).toArray⟩ : ByteArray) = if (⟨(recL (bodyD c (diffF b t))).toArray⟩ : ByteArray).size < (⟨(recL (bodyF c t.data.toList)).toArray⟩ : ByteArray).size then ⟨(bodyD c (diffF b t)).toArray⟩ else ⟨(bodyF c t.data.toList).toArray⟩) := by
    unfold Hid ydifL
    rw [lens_size, lens_size]
    split <;> rfl
  have hx1 : (⟨(recL (bodyD c (diffF b t))).toArray⟩ : ByteArray).size ≤ 100000 := by
    have h1 := (bodyD_len c _ hc (diff_delta hb ht)).2
    have h2 := (recL_len (b := bodyD c (diffF b t)) (by omega)).1
    rw [lens_size]; omega
  have hx2 : (⟨(recL (bodyF c t.data.toList)).toArray⟩ : ByteArray).size ≤ 100000 := by
    have h1 := (bodyF_len c t hc ht).2
    have h2 := (recL_len (b := bodyF c t.data.toList) (by omega)).1
    rw [lens_size]; omega
  generalize (⟨(ydifL c b t).toArray⟩ : ByteArray) = Y at *
  generalize (⟨(recL (bodyD c (diffF b t))).toArray⟩ : ByteArray) = RD at *
  generalize (⟨(recL (bodyF c t.data.toList)).toArray⟩ : ByteArray) = RF at *
  generalize (⟨(bodyF c t.data.toList).toArray⟩ : ByteArray) = BF at *
  generalize (⟨(bodyD c (diffF b t)).toArray⟩ : ByteArray) = BD at *
  generalize (⟨(encL (diffF b t)).toArray⟩ : ByteArray) = CO at *
  generalize (⟨(uN c).toArray⟩ : ByteArray) = U at *
  generalize encE (diffF b t) = e1 at *
  generalize encP (diffF b t) = e2 at *
  generalize diffF b t = D at *
  have a1 : ∀ W : World, (Op.stringOp .add ⟨#[68]⟩ U).run Tryz.prog W = .ok (.string (⟨#[68]⟩ ++ U)) W := fun W => run_string_add_sum W _ _ (by have : (⟨#[68]⟩ : ByteArray).size = 1 := rfl; omega)
  have a2 : ∀ W : World, (Op.stringOp .add (⟨#[68]⟩ ++ U) CO).run Tryz.prog W = .ok (.string (⟨#[68]⟩ ++ U ++ CO)) W := fun W => run_string_add_sum W _ _ (by have : (⟨#[68]⟩ : ByteArray).size = 1 := rfl; rw [ByteArray.size_append]; omega)
  go_enter Tryz.func75, Tryz.ntmps75
  go_wp2_with fail
  refine (HRD.out _).mono ?_
  rintro e w1 ⟨ao1, c1, rfl, o1, b1⟩
  have HV1 : Hid (View w1 (.slice ao1 D.length c1) D) := View.of_own o1
  clear o1
  go_wp2_with fail
  refine (HRE.out _ _ HV1.out).mono ?_
  rintro e w2 ⟨rfl, b2⟩
  go_wp2_with fail
  refine (HU.out _).mono ?_
  rintro e w3 ⟨rfl, b3⟩
  have B3 : Below w.heap.size w w3 := (b1.trans (b2.mono b1.size)).trans (b3.mono (by have := b1.size; have := b2.size; omega))
  clear b1 b2 b3
  go_wp2_with fail
  refine (HFB.out _).mono ?_
  rintro e w4 ⟨rfl, b4⟩
  have B4 : Below w.heap.size w w4 := B3.trans (b4.mono B3.size)
  clear B3 b4
  rw [HDB.out]
  go_wp2_with fail
  refine (HR1.out _).mono ?_
  rintro e w5 ⟨rfl, b5⟩
  have B5 : Below w.heap.size w w5 := B4.trans (b5.mono B4.size)
  clear B4 b5
  go_wp2_with fail
  refine (HR2.out _).mono ?_
  rintro e w6 ⟨rfl, b6⟩
  have B6 : Below w.heap.size w w6 := B5.trans (b6.mono B5.size)
  clear B5 b6
  by_cases hlt : RD.size < RF.size
  · have HY2 : Hid (Y = BD) := by have h := HY.out; rw [if_pos hlt] at h; exact h
    have hltI : (RD.size : Int) < (RF.size : Int) := by omega
    clear HY
    go_wp2
    go_ret
    rw [HY2.out]
    exact ⟨rfl, B6⟩
  · have HY2 : Hid (Y = BF) := by have h := HY.out; rw [if_neg hlt] at h; exact h
    have hltI : ¬ (RD.size : Int) < (RF.size : Int) := by omega
    clear HY
    go_wp2
    go_ret
    rw [HY2.out]
    exact ⟨rfl, B6⟩
end Go.Proofs.YtabpiaaknjcnkaaGreat

/-
  The document's chains: with a text more.
-/
namespace Go.Proofs.YtabpiaaknjcnkaaGreat
open Go.RowKit
set_option linter.unusedVariables false
set_option linter.unusedSimpArgs false
set_option maxRecDepth 100000

theorem str_cells_at (w : World) (t : ByteArray) (n : Nat) (h : w.heap.size = n) : ∀ j u, [Value.string t][j]? = some u → (w.alloc (.cells #[.string t] 9)).cell? ((⟨n, 0, none⟩ : Addr).add j) = some u := by
  subst h; exact str_cells w t
theorem own_row_block {w : World} {base : Nat} {v : Value} {ts : List ByteArray} (h : OwnStrs w base v ts) : ∀ b, rowBlock v = some b → base ≤ b := by
  intro b hb
  rcases h.2 with ⟨rfl, _⟩ | ⟨g, cap, cur, rfl, hg, _⟩
  · cases hb
  · obtain rfl : g = b := by simpa [rowBlock] using hb
    exact hg

set_option maxHeartbeats 4000000 in
theorem ywith_none (t : ByteArray) (w : World) :
    Calls Tryz.prog 76 #[.agg #[.int .i64 0, .slice none 0 0], .string t] w fun e w' => ∃ v', e = .returned (.agg #[.int .i64 1, v']) ∧ YView w' v' [t] ∧ (∀ b, rowBlock v' = some b → w.heap.size ≤ b) ∧ Below w.heap.size w w' := by
  obtain ⟨i1, hi1, hj0, hj1, hj2⟩ := info_parts Tryz.infoStr
  go_enter Tryz.func76, Tryz.ntmps76
  go_wp2_with (first | (at_builtin; refine wpList_append_own_none rfl _ _ 31 rfl 0 9 i1 1 Tryz.underlying31 hi1 (.slice none 0 0) 0 [] rfl (World.ownsRow_nil _ _ _ _) rfl ?_) | (at_builtin; refine wpList_append_own _ rfl _ _ 31 rfl (w.heap.size + 1 + 1) 9 i1 (.string ⟨#[]⟩) 1 16 Tryz.underlying31 hi1 hj0 hj1 hj2 rfl (by decide) (.slice none 0 0) 0 [] rfl (World.ownsRow_nil _ _ _ _) ⟨w.heap.size + 1 + 1, 0, none⟩ 1 1 [.string t] rfl ?c1 ?c2 ?c3 ?c4 ?c5 ?c6 ?_))
  case c1 => rfl
  case c2 => exact str_cells_at _ t _ (by simp)
  case c3 => exact str_one t
  case c4 => unfold maxLen; omega
  case c5 => omega
  case c6 => simp
  intro v16 W5 ho16 hg16 _
  (try simp only [Nat.zero_add, List.nil_append] at ho16)
  have HO : Hid (OwnStrs W5 (w.heap.size + 1 + 1) v16 [t]) := ho16
  have B5 : Below w.heap.size w W5 := ((((Below.refl _ w).alloc (Nat.le_refl _) _).alloc (by simp) _).alloc (by simp; omega) _).grown hg16 (by simp; omega) (fun k hk => by cases hk)
  have hb5 := (hg16.block w.heap.size (by simp; omega) (by intro e; cases e)).trans ((heap_alloc_old _ _ (by simp; omega)).trans ((heap_alloc_old _ _ (by simp)).trans (heap_alloc_new _ _)))
  have k0 : W5.cell? ⟨w.heap.size, 0, none⟩ = some (.int .i64 1) := by rw [Lib.cell_of_heap hb5]; rfl
  have k1 : W5.cell? ⟨w.heap.size, 1, none⟩ = some (.slice none 0 0) := by rw [Lib.cell_of_heap hb5]; rfl
  have f1 : W5.frozen? ⟨w.heap.size, 1, none⟩ = false := Lib.frozen_of_heap hb5 1
  have hb5' := (hg16.block (w.heap.size + 1) (by simp) (by intro e; cases e)).trans ((heap_alloc_old _ _ (by simp)).trans (alloc_at (by simp)))
  have k2 : W5.cell? ⟨w.heap.size + 1, 0, none⟩ = some (.int .i64 0) := by rw [Lib.cell_of_heap hb5']; rfl
  have k3 : W5.cell? ⟨w.heap.size + 1, 1, none⟩ = some (.slice none 0 0) := by rw [Lib.cell_of_heap hb5']; rfl
  have f2 : W5.frozen? ⟨w.heap.size + 1, 0, none⟩ = false := Lib.frozen_of_heap hb5' 0
  have f3 : W5.frozen? ⟨w.heap.size + 1, 1, none⟩ = false := Lib.frozen_of_heap hb5' 1
  have hs5 : w.heap.size + 1 < W5.heap.size := lt_of_block hb5'
  obtain ⟨vo, vc, hv16⟩ := HO.out.slice
  subst hv16
  clear ho16 hg16 hb5 hb5'
  have HR : Hid ((∀ W : World, (∀ q, ¬ q = w.heap.size → ¬ q = w.heap.size + 1 → W.heap[q]? = W5.heap[q]?) → W5.heap.size ≤ W.heap.size → YView W (.slice vo [t].length vc) [t]) ∧ (∀ b, rowBlock (.slice vo [t].length vc) = some b → w.heap.size ≤ b)) := by
    have hb := own_row_block HO.out
    exact ⟨fun W hW hs => (YView.of_own HO.out).kept (fun b hb' => hW b (by have := hb b hb'; omega) (by have := hb b hb'; omega)) hs, fun b hb' => by have := hb b hb'; omega⟩
  have c0 : ((W5.setCell ⟨w.heap.size, 1, none⟩ (.slice vo 1 vc)).setCell ⟨w.heap.size + 1, 0, none⟩ (.int .i64 1)).cell? ⟨w.heap.size + 1, 0, none⟩ = some (.int .i64 1) := World.cell?_setCell_same _ _ _ (u := .int .i64 0) ((World.cell?_of_block (a := ⟨w.heap.size + 1, 0, none⟩) (far1 (show ¬ w.heap.size + 1 = w.heap.size by omega))).trans k2)
  have c1 : (((W5.setCell ⟨w.heap.size, 1, none⟩ (.slice vo 1 vc)).setCell ⟨w.heap.size + 1, 0, none⟩ (.int .i64 1)).setCell ⟨w.heap.size + 1, 1, none⟩ (.slice vo 1 vc)).cell? ⟨w.heap.size + 1, 1, none⟩ = some (.slice vo 1 vc) := World.cell?_setCell_same _ _ _ (u := .slice none 0 0) ((World.cell?_setCell_other _ _ _ _ (by simp)).trans ((World.cell?_of_block (a := ⟨w.heap.size + 1, 1, none⟩) (far1 (show ¬ w.heap.size + 1 = w.heap.size by omega))).trans k3))
  go_wp2
  refine bodyPost_ret (by simp [results, Tryz.results76, go_sem, c0, c1]; rfl) rfl ?_
  exact ⟨_, rfl, HR.out.1 _ (fun q h1 h2 => (far1 h2).trans ((far1 h2).trans (far1 h1))) (by simp), HR.out.2, ((B5.setCell (p := ⟨w.heap.size, 1, none⟩) (Nat.le_refl _) _).setCell (p := ⟨w.heap.size + 1, 0, none⟩) (Nat.le_succ _) _).setCell (p := ⟨w.heap.size + 1, 1, none⟩) (Nat.le_succ _) _⟩
set_option maxHeartbeats 4000000 in
theorem ywith_some (F L1 g0 j0 lc : Nat) (ts : List ByteArray) (t : ByteArray) (w : World) (hF : 0 < F) (hL : ts.length = L1 + 1) (hb : F + L1 ≤ 2147483647) (hg0 : g0 < w.heap.size) (hr : ∀ (i : Nat) (t : ByteArray), ts[i]? = some t → w.cell? ⟨g0, j0 + i, none⟩ = some (.string t)) :
    Calls Tryz.prog 76 #[.agg #[.int .i64 F, .slice (some ⟨g0, j0, none⟩) (L1 + 1) lc], .string t] w fun e w' => ∃ v', e = .returned (.agg #[.int .i64 F, v']) ∧ YView w' v' (ts ++ [t]) ∧ (∀ b, rowBlock v' = some b → w.heap.size ≤ b) ∧ Below w.heap.size w w' := by
  obtain ⟨i1, hi1, hj0, hj1, hj2⟩ := info_parts Tryz.infoStr
  have HLL : Hid (ts.length = L1 + 1) := hL
  have HR : Hid (∀ (i : Nat) (t : ByteArray), ts[i]? = some t → w.cell? ⟨g0, j0 + i, none⟩ = some (.string t)) := hr
  have hFI : ¬ (F : Int) = 0 := by omega
  clear hL hr
  go_enter Tryz.func76, Tryz.ntmps76
  go_wp2_with (first | (at_builtin; refine wpList_append_own _ rfl _ _ 31 rfl (w.heap.size + 1 + 1) 9 i1 (.string ⟨#[]⟩) 1 16 Tryz.underlying31 hi1 hj0 hj1 hj2 rfl (by decide) (.slice none 0 0) 0 [] rfl (World.ownsRow_nil _ _ _ _) ⟨g0, j0, none⟩ (L1 + 1) lc (ts.map .string) rfl ?c1 ?c2 ?c3 ?c4 ?c5 ?c6 ?_))
  case c1 => rw [List.length_map, HLL.out]; omega
  case c2 =>
    intro i u hu
    rw [List.getElem?_map] at hu
    rw [show (⟨g0, j0, none⟩ : Addr).add i = ⟨g0, j0 + i, none⟩ from by unfold Addr.add; split <;> simp_all]
    cases htt : ts[i]? with
    | none => rw [htt] at hu; cases hu
    | some tt =>
      rw [htt] at hu
      injection hu with hu
      subst hu
      exact (World.cell?_of_block (a := ⟨g0, j0 + i, none⟩) ((heap_alloc_old _ _ (by simp; omega)).trans (heap_alloc_old _ _ hg0))).trans (HR.out i tt htt)
  case c3 => intro u hu; obtain ⟨x, _, rfl⟩ := List.mem_map.1 hu; rfl
  case c4 => unfold maxLen; omega
  case c5 => omega
  case c6 => simp
  intro v16 W5 ho16 hg16 _
  (try simp only [Nat.zero_add, List.nil_append] at ho16)
  have HO : Hid (W5.ownsRow (w.heap.size + 1 + 1) 9 1 v16 (L1 + 1) (ts.map .string)) := ho16
  have B5 : Below w.heap.size w W5 := (((Below.refl _ w).alloc (Nat.le_refl _) _).alloc (by simp) _).grown hg16 (by simp; omega) (fun k hk => by cases hk)
  have hb5 := (hg16.block w.heap.size (by simp; omega) (by intro e; cases e)).trans ((heap_alloc_old _ _ (by simp)).trans (heap_alloc_new _ _))
  have k0 : W5.cell? ⟨w.heap.size, 0, none⟩ = some (.int .i64 F) := by rw [Lib.cell_of_heap hb5]; rfl
  have k1 : W5.cell? ⟨w.heap.size, 1, none⟩ = some (.slice (some ⟨g0, j0, none⟩) (L1 + 1) lc) := by rw [Lib.cell_of_heap hb5]; rfl
  have f1 : W5.frozen? ⟨w.heap.size, 1, none⟩ = false := Lib.frozen_of_heap hb5 1
  have hb5' := (hg16.block (w.heap.size + 1) (by simp) (by intro e; cases e)).trans (alloc_at (by simp))
  have k2 : W5.cell? ⟨w.heap.size + 1, 0, none⟩ = some (.int .i64 0) := by rw [Lib.cell_of_heap hb5']; rfl
  have k3 : W5.cell? ⟨w.heap.size + 1, 1, none⟩ = some (.slice none 0 0) := by rw [Lib.cell_of_heap hb5']; rfl
  have f2 : W5.frozen? ⟨w.heap.size + 1, 0, none⟩ = false := Lib.frozen_of_heap hb5' 0
  have f3 : W5.frozen? ⟨w.heap.size + 1, 1, none⟩ = false := Lib.frozen_of_heap hb5' 1
  have hs5 : w.heap.size + 1 < W5.heap.size := lt_of_block hb5'
  clear hb5'
  obtain ⟨vo, vc, hv16⟩ : ∃ vo vc, v16 = .slice vo (L1 + 1) vc := by
    rcases ho16.2 with ⟨h, h0⟩ | ⟨g', cap', cur, h, _⟩
    · omega
    · exact ⟨_, _, h⟩
  subst hv16
  clear ho16 hg16 hb5
  go_wp2_with (first | (at_builtin; refine wpList_append_own _ rfl _ _ 31 rfl (w.heap.size + 1 + 1) 9 i1 (.string ⟨#[]⟩) 1 16 Tryz.underlying31 hi1 hj0 hj1 hj2 rfl (by decide) (.slice vo (L1 + 1) vc) (L1 + 1) (ts.map .string) rfl (row_block HO.out (fun g hg => heap_alloc_old _ _ (row_own_lt HO.out hg))) ⟨W5.heap.size, 0, none⟩ 1 1 [.string t] rfl ?c1 ?c2 ?c3 ?c4 ?c5 ?c6 ?_))
  case c1 => rfl
  case c2 => exact str_cells W5 t
  case c3 => exact str_one t
  case c4 => unfold maxLen; omega
  case c5 => omega
  case c6 => simp; omega
  intro v6 W6 ho6 hg6 _
  have HO6 : Hid (OwnStrs W6 (w.heap.size + 1 + 1) v6 (ts ++ [t])) := by
    unfold Hid OwnStrs; rw [List.map_append, List.length_append, HLL.out]; exact ho6
  have hrow : ∀ g, (Value.slice vo (L1 + 1) vc).ownBlock = some g → w.heap.size + 1 + 1 ≤ g := fun g hg => row_own_ge HO.out hg
  have B6 : Below w.heap.size w W6 := (B5.alloc (by omega) _).grown hg6 (by simp; omega) (fun k hk => by have := hrow k hk; omega)
  have e6 : W6.heap[w.heap.size]? = W5.heap[w.heap.size]? := (hg6.block w.heap.size (by simp; omega) (fun e => by have := hrow _ e.symm; omega)).trans (heap_alloc_old _ _ (by omega))
  have e6' : W6.heap[w.heap.size + 1]? = W5.heap[w.heap.size + 1]? := (hg6.block (w.heap.size + 1) (by simp; omega) (fun e => by have := hrow _ e.symm; omega)).trans (heap_alloc_old _ _ hs5)
  have k62 := (World.cell?_of_block (a := ⟨w.heap.size + 1, 0, none⟩) e6').trans k2
  have k63 := (World.cell?_of_block (a := ⟨w.heap.size + 1, 1, none⟩) e6').trans k3
  have f62 := (World.frozen?_of_block (a := ⟨w.heap.size + 1, 0, none⟩) e6').trans f2
  have f63 := (World.frozen?_of_block (a := ⟨w.heap.size + 1, 1, none⟩) e6').trans f3
  have k60 := (World.cell?_of_block (a := ⟨w.heap.size, 0, none⟩) e6).trans k0
  have k61 := (World.cell?_of_block (a := ⟨w.heap.size, 1, none⟩) e6).trans k1
  have f61 := (World.frozen?_of_block (a := ⟨w.heap.size, 1, none⟩) e6).trans f1
  have hs6 : w.heap.size + 1 < W6.heap.size := by have := hg6.size; simp at this; omega
  obtain ⟨uo, uc, hv6⟩ := HO6.out.slice
  subst hv6
  clear ho6 hg6 e6 e6' k0 k1 f1 k2 k3 f2 f3 hrow HO B5
  have HR6 : Hid ((∀ W : World, (∀ q, ¬ q = w.heap.size → ¬ q = w.heap.size + 1 → W.heap[q]? = W6.heap[q]?) → W6.heap.size ≤ W.heap.size → YView W (.slice uo (ts ++ [t]).length uc) (ts ++ [t])) ∧ (∀ b, rowBlock (.slice uo (ts ++ [t]).length uc) = some b → w.heap.size ≤ b)) := by
    have hb := own_row_block HO6.out
    exact ⟨fun W hW hs => (YView.of_own HO6.out).kept (fun b hb' => hW b (by have := hb b hb'; omega) (by have := hb b hb'; omega)) hs, fun b hb' => by have := hb b hb'; omega⟩
  have el : (ts ++ [t]).length = L1 + 1 + 1 := by rw [List.length_append, HLL.out]; rfl
  rw [el] at HR6 ⊢
  have c0 : ((W6.setCell ⟨w.heap.size, 1, none⟩ (.slice uo (L1 + 1 + 1) uc)).setCell ⟨w.heap.size + 1, 0, none⟩ (.int .i64 F)).cell? ⟨w.heap.size + 1, 0, none⟩ = some (.int .i64 F) := World.cell?_setCell_same _ _ _ (u := .int .i64 0) ((World.cell?_of_block (a := ⟨w.heap.size + 1, 0, none⟩) (far1 (show ¬ w.heap.size + 1 = w.heap.size by omega))).trans k62)
  have c1 : (((W6.setCell ⟨w.heap.size, 1, none⟩ (.slice uo (L1 + 1 + 1) uc)).setCell ⟨w.heap.size + 1, 0, none⟩ (.int .i64 F)).setCell ⟨w.heap.size + 1, 1, none⟩ (.slice uo (L1 + 1 + 1) uc)).cell? ⟨w.heap.size + 1, 1, none⟩ = some (.slice uo (L1 + 1 + 1) uc) := World.cell?_setCell_same _ _ _ (u := .slice none 0 0) ((World.cell?_setCell_other _ _ _ _ (by simp)).trans ((World.cell?_of_block (a := ⟨w.heap.size + 1, 1, none⟩) (far1 (show ¬ w.heap.size + 1 = w.heap.size by omega))).trans k63))
  go_wp2
  refine bodyPost_ret (by simp [results, Tryz.results76, go_sem, c0, c1]; rfl) rfl ?_
  exact ⟨_, rfl, HR6.out.1 _ (fun q h1 h2 => (far1 h2).trans ((far1 h2).trans (far1 h1))) (by simp), HR6.out.2, ((B6.setCell (p := ⟨w.heap.size, 1, none⟩) (Nat.le_refl _) _).setCell (p := ⟨w.heap.size + 1, 0, none⟩) (Nat.le_succ _) _).setCell (p := ⟨w.heap.size + 1, 1, none⟩) (Nat.le_succ _) _⟩
theorem ywith_any (x : Chn) (v : Value) (t : ByteArray) (w : World) (hv : YView w v x.texts) (hn : x.texts = [] → v = .slice none 0 0) (h0 : x.texts = [] → x.gone = 0) (hb : x.gone + x.texts.length ≤ 2147483647) :
    Calls Tryz.prog 76 #[.agg #[.int .i64 (yF x), v], .string t] w fun e w' => ∃ v', e = .returned (.agg #[.int .i64 ((x.gone + 1 : Nat) : Int), v']) ∧ YView w' v' (x.texts ++ [t]) ∧ (∀ b, rowBlock v' = some b → w.heap.size ≤ b) ∧ Below w.heap.size w w' := by
  by_cases e : x.texts = []
  · have hF : yF x = 0 := by unfold yF; rw [if_pos e]
    rw [hF, hn e, h0 e, e]
    exact ywith_none t w
  · have hF : yF x = x.gone + 1 := by unfold yF; rw [if_neg e]
    have hpos : 0 < x.texts.length := List.length_pos_iff.2 e
    obtain ⟨ao, cap, hv1, hv2, hv3⟩ := hv
    obtain ⟨g, k, e1, hg, _⟩ := hv3 0 x.texts[0] (List.getElem?_eq_getElem hpos)
    rw [e1] at hv1
    have hL : x.texts.length = (x.texts.length - 1) + 1 := by omega
    rw [hF, hv1, hL]
    refine ywith_some (x.gone + 1) (x.texts.length - 1) g k cap x.texts t w (by omega) hL (by omega) hg (fun i u hu => ?_)
    obtain ⟨g', k', e', _, hc⟩ := hv3 i u hu
    rw [e1] at e'
    injection e' with e'
    injection e' with e2 e3
    subst e2; subst e3
    exact hc
end Go.Proofs.YtabpiaaknjcnkaaGreat
