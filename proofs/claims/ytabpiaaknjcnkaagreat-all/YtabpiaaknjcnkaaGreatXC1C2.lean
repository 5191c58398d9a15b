/- The texts C1, C2, one behind the other. -/
import Derived.Test.YtabpiaaknjcnkaaGreatXPCPDPU
import Derived.Test.YtabpiaaknjcnkaaGreatL5
import Derived.Test.YtabpiaaknjcnkaaGreatXR4L7L8P4S1S2L9LBLP
import Derived.LoopTactic
/-
  The walks over piece, join and sizeOfAll.
-/
namespace Go.Proofs.YtabpiaaknjcnkaaGreat
open Go.RowKit
set_option linter.unusedVariables false
set_option linter.unusedSimpArgs false
set_option maxRecDepth 100000

set_option maxHeartbeats 1000000 in
theorem piece_any (f l : Int) (t : ByteArray) (s n : Int) (w : World) (hs : 0 ≤ s) (hn : 0 ≤ n) (hf : 0 ≤ f) (hf2 : f ≤ 100000000) (hsn : s + n ≤ sizeI l t) (ht : t.size ≤ 100000000) (hl : l ≤ 100000000) :
    Calls Tryz.prog 143 #[.agg #[.int .i64 f, .int .i64 l, .string t], .int .i64 s, .int .i64 n] w fun e w' => e = .returned (.agg #[.int .i64 (pieceP ⟨f, l, t⟩ s n).fr, .int .i64 (pieceP ⟨f, l, t⟩ s n).len, .string (pieceP ⟨f, l, t⟩ s n).tx]) ∧ Below w.heap.size w w' := by
  unfold sizeI at hsn
  by_cases h : 0 < l
  · rw [if_pos h] at hsn
    have e1 : (pieceP ⟨f, l, t⟩ s n) = ⟨f + s, n, ⟨#[]⟩⟩ := by simp [pieceP, h]
    rw [e1]
    clear e1
    go_enter Tryz.func143, Tryz.ntmps143
    go_wp2
    refine bodyPost_ret (by simp [results, Tryz.results143, go_sem]; rfl) rfl ?_
    exact ⟨rfl, (((Below.refl _ _).alloc (Nat.le_refl _) _).alloc (by simp) _).alloc (by simp; omega) _⟩
  · rw [if_neg h] at hsn
    have e1 : (pieceP ⟨f, l, t⟩ s n) = ⟨0, 0, t.extract s.toNat (s + n).toNat⟩ := by simp [pieceP, h]
    rw [e1]
    clear e1
    go_enter Tryz.func143, Tryz.ntmps143
    go_wp2
    refine bodyPost_ret (by simp [results, Tryz.results143, go_sem]; rfl) rfl ?_
    exact ⟨rfl, (((Below.refl _ _).alloc (Nat.le_refl _) _).alloc (by simp) _).alloc (by simp; omega) _⟩

theorem opCells_nil : opCells [] = [] := rfl
/-- A cell of a row of ops is stored over. -/
theorem own_setCell {w : World} {base g cap j : Nat} {xs ys : List DOp} {v : Value} (h : OwnOps w base (.slice (some ⟨g, 0, none⟩) xs.length cap) xs) (hj : j < xs.length * 3) (hy : ys.length = xs.length) (he : (opCells xs).set j v = opCells ys) :
    OwnOps (w.setCell ⟨g, j, none⟩ v) base (.slice (some ⟨g, 0, none⟩) xs.length cap) ys := by
  rcases h.2 with ⟨h', _⟩ | ⟨g', cap', cur, hv, hg, hbk, h1, h2, h3, h4⟩
  · cases h'
  · cases hv
    refine ⟨opCells_length _, .inr ⟨g, cap, _, by rw [hy], hg, Lib.heap_setCell_same hbk _, by omega, h2, by simpa using h3, ?_⟩⟩
    have h4' : cur.toList = opCells xs ++ cur.toList.drop (xs.length * 3) := by
      conv => lhs; rw [← List.take_append_drop (xs.length * 3) cur.toList, h4]
    simp only [Array.toList_setIfInBounds]
    rw [h4', List.set_append_left _ _ (by rw [opCells_length]; omega), he]
    rw [List.take_left' (by rw [opCells_length])]
theorem set_len (A : List DOp) (o : DOp) (l : Int) : (opCells (A ++ [o])).set (A.length * 3 + 1) (.int .i64 l) = opCells (A ++ [⟨o.fr, l, o.tx⟩]) := by
  have e : ∀ q : DOp, opCells (A ++ [q]) = opCells A ++ [.int .i64 q.fr, .int .i64 q.len, .string q.tx] := fun q => by rw [opCells_append]; rfl
  rw [e, e]
  have hl := opCells_length A
  rw [List.set_append_right _ _ (by omega), show A.length * 3 + 1 - (opCells A).length = 1 from by omega]
  rfl
theorem set_tx (A : List DOp) (o : DOp) (t : ByteArray) : (opCells (A ++ [o])).set (A.length * 3 + 2) (.string t) = opCells (A ++ [⟨o.fr, o.len, t⟩]) := by
  have e : ∀ q : DOp, opCells (A ++ [q]) = opCells A ++ [.int .i64 q.fr, .int .i64 q.len, .string q.tx] := fun q => by rw [opCells_append]; rfl
  rw [e, e]
  have hl := opCells_length A
  rw [List.set_append_right _ _ (by omega), show A.length * 3 + 2 - (opCells A).length = 2 from by omega]
  rfl
theorem own_last {w : World} {base g cap n : Nat} {A : List DOp} {o : DOp} (hn : n = A.length + 1) (h : OwnOps w base (.slice (some ⟨g, 0, none⟩) n cap) (A ++ [o])) (l : Int) (t : ByteArray) :
    OwnOps ((w.setCell ⟨g, A.length * 3 + 1, none⟩ (.int .i64 l)).setCell ⟨g, A.length * 3 + 2, none⟩ (.string t)) base (.slice (some ⟨g, 0, none⟩) n cap) (A ++ [⟨o.fr, l, t⟩]) := by
  have hl1 : (A ++ [o]).length = A.length + 1 := by simp
  have hl2 : (A ++ [(⟨o.fr, l, o.tx⟩ : DOp)]).length = A.length + 1 := by simp
  subst hn
  rw [← hl1] at h
  have h1 := own_setCell h (by omega) (by rw [hl2, hl1]) (set_len A o l)
  rw [hl1, ← hl2] at h1
  have h2 := own_setCell h1 (by omega) (by simp) (set_tx A ⟨o.fr, l, o.tx⟩ t)
  rw [hl2] at h2
  exact h2

set_option maxHeartbeats 4000000 in
theorem join_any (v : Value) (xs : List DOp) (f l : Int) (t : ByteArray) (base : Nat) (w : World) (hown : OwnOps w base v xs) (hbase : base ≤ w.heap.size) (hx : xs.length ≤ 100000) (ht : t.size ≤ 100000) (hl0 : 0 ≤ l) (hl1 : l ≤ 100000000)
    (hsm : ∀ p ∈ xs, 0 ≤ p.fr ∧ p.fr ≤ 100000000 ∧ 0 ≤ p.len ∧ p.len ≤ 100000000 ∧ p.tx.size ≤ 100000000) :
    Calls Tryz.prog 125 #[v, .agg #[.int .i64 f, .int .i64 l, .string t]] w fun e w' => ∃ v', e = .returned v' ∧ OwnOps w' base v' (joinP xs ⟨f, l, t⟩) ∧ Below base w w' := by
  obtain ⟨i0, hi, hz0, hz1, hz2⟩ := info_parts Tryz.infoOp
  rcases List.eq_nil_or_concat xs with rfl | ⟨A, o, rfl⟩
  · obtain ⟨ao, cap, rfl⟩ := hown.slice
    rw [joinP_nil]
    go_enter Tryz.func125, Tryz.ntmps125
    go_wp2
    go_quiet (fail)
    go_wp2_with (go_at_call 54; refine (clone_any t _ ht).mono ?_)
    rintro e w1 ⟨rfl, hb⟩
    have hsz : w.heap.size + 1 ≤ w1.heap.size := by simpa using hb.size
    have ob : w1.heap[w.heap.size]? = some (.cells #[.int .i64 f, .int .i64 l, .string t] 63 (0, 0)) := (hb.block _ (by simp)).trans (heap_alloc_new _ _)
    have k0 : w1.cell? ⟨w.heap.size, 0, none⟩ = some (.int .i64 f) := by rw [Lib.cell_of_heap ob]; rfl
    have k1 : w1.cell? ⟨w.heap.size, 1, none⟩ = some (.int .i64 l) := by rw [Lib.cell_of_heap ob]; rfl
    have k2 : w1.cell? ⟨w.heap.size, 2, none⟩ = some (.string t) := by rw [Lib.cell_of_heap ob]; rfl
    have kf := fun j => Lib.frozen_of_heap ob j
    have hown1 : OwnOps w1 base (.slice ao (List.length ([] : List DOp)) cap) [] := OwnOps.kept (show OwnOps ((w.alloc (.cells #[.int .i64 f, .int .i64 l, .string t] 63)).drewN nq) base _ _ from hown.alloc _) hb
    have hb1 : Below base w w1 := ((Below.refl base w).alloc hbase _).trans ((below_drewN0 _ _ nq).trans (hb.mono (by simp; omega)))
    have hown2 : OwnOps ((w1.setCell ⟨w.heap.size, 2, none⟩ (.string t)).alloc (.cells #[.int .i64 f, .int .i64 l, .string t] 63)) base (.slice ao (List.length ([] : List DOp)) cap) [] := (own_far hown1 (fun k hk => by have := row_own_lt hown hk; omega)).alloc _
    go_wp2_with (first | (at_builtin; refine wpList_append_own _ rfl _ _ 59 rfl base 63 i0 (.agg #[.int .i64 0, .int .i64 0, .string ⟨#[]⟩]) 3 32 Tryz.underlying59 hi hz0 hz1 hz2 rfl (by decide) _ _ _ rfl hown2 ⟨w1.heap.size, 0, none⟩ 1 1 (opCells [⟨f, l, t⟩]) rfl rfl ?c2 (opCells_oneCell _ _ _) ?c3 ?c4 ?c5 ?_))
    case c2 => simpa using cells_op_new (w1.setCell ⟨w.heap.size, 2, none⟩ (.string t)) f l t 63
    case c3 => unfold maxLen; simp; try omega
    case c4 => simp; try omega
    case c5 => simp; omega
    intro v' w2 ho2 hgrow _
    have R1 : OwnOps w2 base v' ([] ++ [⟨f, l, t⟩]) := by
      simpa [OwnOps, opCells_append, opCells_nil] using ho2
    have R2 : Below base w w2 := (((hb1.setCell (p := ⟨w.heap.size, 2, none⟩) hbase _).alloc (by simp; omega) _).grown hgrow (by simp; omega) (fun k hk => row_own_ge hown2 hk))
    clear ho2 hgrow hown2 hown1
    go_wp2
    go_ret
    exact ⟨v', rfl, R1, R2⟩
  · rw [List.concat_eq_append] at *
    obtain ⟨g, cap, rfl, hg⟩ : ∃ g cap, v = .slice (some ⟨g, 0, none⟩) (A.length + 1) cap ∧ base ≤ g := by
      rcases hown.2 with ⟨_, h⟩ | ⟨g, cap, cur, h, hg, _⟩
      · simp at h
      · exact ⟨g, cap, by rw [h]; simp, hg⟩
    have hgs : g < w.heap.size := row_own_lt hown rfl
    obtain ⟨c0, c1, c2, c3⟩ := own_cells (B := []) (hown.alloc (.cells #[.int .i64 f, .int .i64 l, .string t] 63))
    obtain ⟨s1, s2, s3, s4, s5⟩ := hsm o (by simp)
    obtain ⟨of, ol, ot⟩ := o
    simp only at c0 c1 c2 s1 s2 s3 s4 s5
    rw [joinP_snoc]
    have hA : A.length + 1 ≤ 100000 := by simpa using hx
    have HM : Hid (∀ W, Calls Tryz.prog 140 #[.agg #[.int .i64 of, .int .i64 ol, .string ot], .agg #[.int .i64 f, .int .i64 l, .string t]] W fun e w' => e = .returned (.bool (followB of ol f l)) ∧ Below W.heap.size W w') := fun W => mayFollow_any of ol f l ot t W (fun _ => by omega) (fun _ => by omega)
    have q1 : (A.length : Int) < ((A.length + 1 : Nat) : Int) := by omega
    have q2 : A.length < A.length + 1 := by omega
    have q9 : (A.length : Int) < (A.length : Int) + 1 := by omega
    have q8 : decide ((A.length : Int) < 0) = false := by simp
    have q3 : (0 : Int) ≤ (A.length : Int) := by omega
    have q5 : IntKind.i64.wrap (A.length : Int) = (A.length : Int) := by rw [IntKind.wrap_i64]; omega
    have HO : Hid (OwnOps w base (.slice (some ⟨g, 0, none⟩) (A.length + 1) cap) (A ++ [⟨of, ol, ot⟩])) := hown
    clear hown hsm hx
    have q6 : g < (w.alloc (.cells #[.int .i64 f, .int .i64 l, .string t] 63)).heap.size := by simp; omega
    have q7 : w.heap.size < (w.alloc (.cells #[.int .i64 f, .int .i64 l, .string t] 63)).heap.size := by simp
    have k0 : (w.alloc (.cells #[.int .i64 f, .int .i64 l, .string t] 63)).cell? ⟨w.heap.size, 0, none⟩ = some (.int .i64 f) := by simp
    have k1 : (w.alloc (.cells #[.int .i64 f, .int .i64 l, .string t] 63)).cell? ⟨w.heap.size, 1, none⟩ = some (.int .i64 l) := by simp
    have k2 : (w.alloc (.cells #[.int .i64 f, .int .i64 l, .string t] 63)).cell? ⟨w.heap.size, 2, none⟩ = some (.string t) := by simp
    cases hfo : followB of ol f l
    · rw [hfo] at HM
      simp only [Bool.false_eq_true, if_false]
      go_enter Tryz.func125, Tryz.ntmps125
      go_wp2
      go_region_held3 (fun w' => w'.cell? ⟨g, A.length * 3, none⟩ = some (.int .i64 of) ∧ w'.cell? ⟨g, A.length * 3 + 1, none⟩ = some (.int .i64 ol) ∧ w'.cell? ⟨g, A.length * 3 + 2, none⟩ = some (.string ot) ∧ w'.cell? ⟨w.heap.size, 0, none⟩ = some (.int .i64 f) ∧ w'.cell? ⟨w.heap.size, 1, none⟩ = some (.int .i64 l) ∧ w'.cell? ⟨w.heap.size, 2, none⟩ = some (.string t)) (go_keep)
        (first | (go_at_call 140; refine (HM.out _).mono ?_; rintro e w3 ⟨rfl, hb3⟩; have e0 := (hb3.cell (p := ⟨g, A.length * 3, none⟩) q6).trans c0; have e1 := (hb3.cell (p := ⟨g, A.length * 3 + 1, none⟩) q6).trans c1; have e2 := (hb3.cell (p := ⟨g, A.length * 3 + 2, none⟩) q6).trans c2; have e3 := (hb3.cell (p := ⟨w.heap.size, 0, none⟩) q7).trans k0; have e4 := (hb3.cell (p := ⟨w.heap.size, 1, none⟩) q7).trans k1; have e5 := (hb3.cell (p := ⟨w.heap.size, 2, none⟩) q7).trans k2))
      have hb3' : Below (w.heap.size + 1) (w.alloc (.cells #[.int .i64 f, .int .i64 l, .string t] 63)) w3 := (by simpa using (Below.refl _ _).drew.trans hb3)
      have o3 : OwnOps w3 base (.slice (some ⟨g, 0, none⟩) (A.length + 1) cap) (A ++ [⟨of, ol, ot⟩]) := OwnOps.kept (HO.out.alloc _) (by simpa using hb3')
      have f1 : ∀ j, w3.frozen? ⟨g, j, none⟩ = false := (own_cells (B := []) o3).2.2.2
      have qa : IntKind.i64.wrap (ol + l) = ol + l := by rw [IntKind.wrap_i64]; omega
      have qg : ¬ w.heap.size = g := by omega
      have R1 := own_last rfl o3 (ol + l) (ot ++ t)
      have HR : Hid (OwnOps ((w3.setCell ⟨g, A.length * 3 + 1, none⟩ (.int .i64 (ol + l))).setCell ⟨g, A.length * 3 + 2, none⟩ (.string (ot ++ t))) base (.slice (some ⟨g, 0, none⟩) (A.length + 1) cap) (A ++ [⟨of, ol + l, ot ++ t⟩])) := R1
      have R2 : Below base w w3 := ((Below.refl base w).alloc hbase _).trans (hb3'.mono (by omega))
      clear o3 R1 hb3 hb3' HM c0 c1 c2 c3 k0 k1 k2 HO
      go_wp2
      go_region
      go_wp2
      go_region
      go_wp2
      go_ret
      exact ⟨_, rfl, HR.out, ((R2.setCell (p := ⟨g, A.length * 3 + 1, none⟩) hg _).drew.setCell (p := ⟨g, A.length * 3 + 2, none⟩) hg _).drew⟩
    · rw [hfo] at HM
      simp only [if_true]
      go_enter Tryz.func125, Tryz.ntmps125
      go_wp2
      go_region_held3 (fun w' => w'.cell? ⟨g, A.length * 3, none⟩ = some (.int .i64 of) ∧ w'.cell? ⟨g, A.length * 3 + 1, none⟩ = some (.int .i64 ol) ∧ w'.cell? ⟨g, A.length * 3 + 2, none⟩ = some (.string ot) ∧ w'.cell? ⟨w.heap.size, 0, none⟩ = some (.int .i64 f) ∧ w'.cell? ⟨w.heap.size, 1, none⟩ = some (.int .i64 l) ∧ w'.cell? ⟨w.heap.size, 2, none⟩ = some (.string t)) (go_keep)
        (first | (go_at_call 140; refine (HM.out _).mono ?_; rintro e w3 ⟨rfl, hb3⟩; have e0 := (hb3.cell (p := ⟨g, A.length * 3, none⟩) q6).trans c0; have e1 := (hb3.cell (p := ⟨g, A.length * 3 + 1, none⟩) q6).trans c1; have e2 := (hb3.cell (p := ⟨g, A.length * 3 + 2, none⟩) q6).trans c2; have e3 := (hb3.cell (p := ⟨w.heap.size, 0, none⟩) q7).trans k0; have e4 := (hb3.cell (p := ⟨w.heap.size, 1, none⟩) q7).trans k1; have e5 := (hb3.cell (p := ⟨w.heap.size, 2, none⟩) q7).trans k2))
      have hb3' : Below (w.heap.size + 1) (w.alloc (.cells #[.int .i64 f, .int .i64 l, .string t] 63)) w3 := (by simpa using (Below.refl _ _).drew.trans hb3)
      have hsz : w.heap.size + 1 ≤ w3.heap.size := by simpa using hb3'.size
      have ob : w3.heap[w.heap.size]? = some (.cells #[.int .i64 f, .int .i64 l, .string t] 63 (0, 0)) := (hb3'.block _ (by omega)).trans (heap_alloc_new _ _)
      have o3 : OwnOps w3 base (.slice (some ⟨g, 0, none⟩) (A.length + 1) cap) (A ++ [⟨of, ol, ot⟩]) := OwnOps.kept (HO.out.alloc _) (by simpa using hb3')
      have R2 : Below base w w3 := ((Below.refl base w).alloc hbase _).trans (hb3'.mono (by omega))
      clear HM c0 c1 c2 c3 k0 k1 k2 hb3 hb3'
      go_wp2_with (go_at_call 54; refine (clone_any t _ ht).mono ?_)
      rintro e w1 ⟨rfl, hb⟩
      have hsz1 := hb.size
      have ob1 : w1.heap[w.heap.size]? = some (.cells #[.int .i64 f, .int .i64 l, .string t] 63 (0, 0)) := (hb.block _ (by omega)).trans ob
      have k0 : w1.cell? ⟨w.heap.size, 0, none⟩ = some (.int .i64 f) := by rw [Lib.cell_of_heap ob1]; rfl
      have k1 : w1.cell? ⟨w.heap.size, 1, none⟩ = some (.int .i64 l) := by rw [Lib.cell_of_heap ob1]; rfl
      have k2 : w1.cell? ⟨w.heap.size, 2, none⟩ = some (.string t) := by rw [Lib.cell_of_heap ob1]; rfl
      have kf := fun j => Lib.frozen_of_heap ob1 j
      have hown1 : OwnOps w1 base (.slice (some ⟨g, 0, none⟩) (A.length + 1) cap) (A ++ [⟨of, ol, ot⟩]) := o3.kept hb
      have hb1 : Below base w w1 := R2.trans (hb.mono (by omega))
      clear e0 e1 e2 e3 e4 e5 ob hb o3 R2
      have hown2 : OwnOps ((w1.setCell ⟨w.heap.size, 2, none⟩ (.string t)).alloc (.cells #[.int .i64 f, .int .i64 l, .string t] 63)) base (.slice (some ⟨g, 0, none⟩) (A.length + 1) cap) (A ++ [⟨of, ol, ot⟩]) := (own_far hown1 (fun k hk => by have := row_own_lt HO.out hk; omega)).alloc _
      have hAl : (A ++ [(⟨of, ol, ot⟩ : DOp)]).length = A.length + 1 := by simp
      go_wp2_with (first | (at_builtin; refine wpList_append_own _ rfl _ _ 59 rfl base 63 i0 (.agg #[.int .i64 0, .int .i64 0, .string ⟨#[]⟩]) 3 32 Tryz.underlying59 hi hz0 hz1 hz2 rfl (by decide) _ _ _ rfl hown2 ⟨w1.heap.size, 0, none⟩ 1 1 (opCells [⟨f, l, t⟩]) rfl rfl ?c2 (opCells_oneCell _ _ _) ?c3 ?c4 ?c5 ?_))
      case c2 => simpa using cells_op_new (w1.setCell ⟨w.heap.size, 2, none⟩ (.string t)) f l t 63
      case c3 => rw [hAl]; unfold maxLen; omega
      case c4 => rw [hAl]; omega
      case c5 => simp; omega
      intro v' w2 ho2 hgrow _
      have R1 : OwnOps w2 base v' (A ++ [⟨of, ol, ot⟩] ++ [⟨f, l, t⟩]) := by
        unfold OwnOps
        rw [opCells_append _ [(⟨f, l, t⟩ : DOp)], show (A ++ [(⟨of, ol, ot⟩ : DOp)] ++ [(⟨f, l, t⟩ : DOp)]).length = A.length + 1 + 1 from by simp]
        exact ho2
      have R2 : Below base w w2 := (((hb1.setCell (p := ⟨w.heap.size, 2, none⟩) hbase _).alloc (by simp; omega) _).grown hgrow (by simp; omega) (fun k hk => row_own_ge hown2 hk))
      clear ho2 hgrow hown2 hown1
      go_wp2
      go_ret
      exact ⟨v', rfl, R1, R2⟩
end Go.Proofs.YtabpiaaknjcnkaaGreat

/-
  The walks over sizeOfAll and joinStretch.
-/
namespace Go.Proofs.YtabpiaaknjcnkaaGreat
open Go.RowKit
set_option linter.unusedVariables false
set_option linter.unusedSimpArgs false
set_option maxRecDepth 100000

theorem sumI_take_succ {xs : List DOp} {k : Nat} {o : DOp} (h : xs[k]? = some o) : sumI (xs.take (k + 1)) = sumI (xs.take k) + sizeI o.len o.tx := by
  induction xs generalizing k with
  | nil => simp at h
  | cons a r ih =>
    cases k with
    | zero => simp at h; subst h; simp [sumI]
    | succ k => simp only [List.getElem?_cons_succ] at h; have := ih h; simp only [List.take_succ_cons, sumI]; omega
theorem sumI_nonneg (xs : List DOp) : 0 ≤ sumI xs := by
  induction xs with
  | nil => simp [sumI]
  | cons a r ih => have := sizeI_nonneg a.len a.tx; simp only [sumI]; omega
theorem sumI_take_le (xs : List DOp) (k : Nat) : sumI (xs.take k) ≤ sumI xs := by
  induction xs generalizing k with
  | nil => simp [sumI]
  | cons a r ih =>
    cases k with
    | zero => simp only [List.take_zero, sumI]; have := sizeI_nonneg a.len a.tx; have := sumI_nonneg r; omega
    | succ k => have := ih k; simp only [List.take_succ_cons, sumI]; omega

set_option maxHeartbeats 1000000 in
theorem sizes_any (b off cap : Nat) (xs : List DOp) (w : World) (hx : xs.length ≤ 5000000000000) (hr : ReadsAt w b off xs) (hsum : sumI xs ≤ 1000000000) (hbw : b < w.heap.size) :
    Calls Tryz.prog 123 #[.slice (some ⟨b, off, none⟩) xs.length cap] w fun e w' => e = .returned (.int .i64 (sumI xs)) ∧ Below w.heap.size w w' := by
  have HR : Hid (ReadsAt w b off xs) := hr
  clear hr
  go_enter Tryz.func123, Tryz.ntmps123
  go_wp2
  go_loopw [3, 8] (fun m c wr => ∃ k : Nat, k ≤ xs.length ∧ c = .int .i64 k ∧ m = .int .i64 (sumI (xs.take k)) ∧ Below w.heap.size w wr) (fun _ c _ => xs.length + 1 - (intOf c).toNat)
  case atStart => exact ⟨0, by omega, rfl, rfl, Below.refl _ _⟩
  case round =>
    obtain ⟨k, hk, rfl, rfl, hb⟩ := hrel
    by_cases hlt : k < xs.length
    · obtain ⟨⟨f, l, t⟩, ho⟩ : ∃ o, xs[k]? = some o := ⟨xs[k], by simp [hlt]⟩
      obtain ⟨r0, r1, r2⟩ := HR.out k _ ho
      have c0 : wr.cell? ⟨b, off + k * 3, none⟩ = some (.int .i64 f) := (hb.cell (p := ⟨b, _, none⟩) hbw).trans r0
      have c1 : wr.cell? ⟨b, off + k * 3 + 1, none⟩ = some (.int .i64 l) := (hb.cell (p := ⟨b, _, none⟩) hbw).trans r1
      have c2 : wr.cell? ⟨b, off + k * 3 + 2, none⟩ = some (.string t) := (hb.cell (p := ⟨b, _, none⟩) hbw).trans r2
      have hs := sumI_take_succ ho
      have hle := sumI_take_le xs (k + 1)
      have h0 := sumI_nonneg (xs.take k)
      have h1 := sizeI_nonneg l t
      have hsz := hb.size
      simp only at hs
      have HS : Hid (sumI (xs.take (k + 1)) = sumI (xs.take k) + sizeI l t) := hs
      generalize hg : sumI (xs.take k) = m at *
      generalize hz : sizeI l t = z at *
      have HZ : Hid (sizeI l t = z) := hz
      have hmz : m + z ≤ 1000000000 := by omega
      clear hg hz hs ho r0 r1 r2
      go_wp2_with fail
      refine (size_any f l t _).mono ?_
      rintro e w4 ⟨rfl, hb4⟩
      rw [HZ.out]
      have R2 : Below w.heap.size w w4 := (hb.alloc (by omega) _).trans (hb4.mono (by simp; omega))
      clear hb4
      go_wp2
      go_roundw
      case rel => exact ⟨k + 1, by omega, by go_num, by rw [HS.out], R2⟩
      case measure => simp [intOf]; omega
    · obtain rfl : k = xs.length := by omega
      have e : sumI (xs.take xs.length) = sumI xs := by rw [List.take_length]
      rw [e]
      clear e
      go_wp2
      go_ret
      exact ⟨rfl, hb⟩

theorem sizes_nil (ao : Option Addr) (cap : Nat) (w : World) :
    Calls Tryz.prog 123 #[.slice ao 0 cap] w fun e w' => e = .returned (.int .i64 0) ∧ Below w.heap.size w w' := by
  go_enter Tryz.func123, Tryz.ntmps123
  go_wp2
  go_loopw [3, 8] (fun m c wr => c = .int .i64 0 ∧ m = .int .i64 0 ∧ w = wr) (fun _ c _ => 0)
  case atStart => exact ⟨rfl, rfl, rfl⟩
  case round =>
    obtain ⟨rfl, rfl, rfl⟩ := hrel
    go_wp2
    go_ret
    exact ⟨rfl, Below.refl _ _⟩

/-- What a stretch adds, op by op. -/
theorem pieceGo_drop {xs : List DOp} {k : Nat} {o : DOp} (h : xs[k]? = some o) (f n : Int) : pieceGo (xs.drop k) f n =
    (if 0 < min n (sizeI o.len o.tx - min f (sizeI o.len o.tx)) then [pieceP o (min f (sizeI o.len o.tx)) (min n (sizeI o.len o.tx - min f (sizeI o.len o.tx)))] else []) ++
      pieceGo (xs.drop (k + 1)) (f - min f (sizeI o.len o.tx)) (n - min n (sizeI o.len o.tx - min f (sizeI o.len o.tx))) := by
  rw [drop_cons h, pieceGo]

theorem sumI_append (xs ys : List DOp) : sumI (xs ++ ys) = sumI xs + sumI ys := by
  induction xs with
  | nil => simp [sumI]
  | cons a r ih => simp only [List.cons_append, sumI, ih]; omega
/-- Ops of a delta that is being made: so many bytes at most. -/
structure Fit (M : Int) (xs : List DOp) : Prop where
  nice : ∀ p ∈ xs, Nice p ∧ p.fr ≤ 4000
  sum : sumI xs ≤ M
theorem sumI_mem {xs : List DOp} {p : DOp} (h : p ∈ xs) : sizeI p.len p.tx ≤ sumI xs := by
  induction xs with
  | nil => cases h
  | cons a r ih =>
    simp only [sumI]
    have := sumI_nonneg r
    have := sizeI_nonneg a.len a.tx
    rcases List.mem_cons.1 h with rfl | h
    · omega
    · have := ih h; omega
theorem Fit.length {M : Int} {xs : List DOp} (h : Fit M xs) : (xs.length : Int) ≤ M := by
  have : (xs.length : Int) ≤ sumI xs := by
    have hn := h.nice
    clear h
    induction xs with
    | nil => simp [sumI]
    | cons a r ih =>
      have h1 := (hn a (by simp)).1.size.2
      have h2 := ih (fun p hp => hn p (by simp [hp]))
      simp only [List.length_cons, sumI]; omega
  have := h.sum; omega
theorem Fit.small {M : Int} {xs : List DOp} (h : Fit M xs) (hM : M ≤ 100000) : xs.length ≤ 100000 ∧ ∀ p ∈ xs, 0 ≤ p.fr ∧ p.fr ≤ 100000000 ∧ 0 ≤ p.len ∧ p.len ≤ 100000000 ∧ p.tx.size ≤ 100000000 := by
  refine ⟨by have := h.length; omega, fun p hp => ?_⟩
  have h1 := sumI_mem hp
  have h2 := h.sum
  obtain ⟨h3, h4⟩ := h.nice p hp
  unfold sizeI at h1
  rcases h3 with ⟨a, b, c⟩ | ⟨a, b, c⟩
  · rw [if_pos a] at h1; omega
  · rw [if_neg (by omega)] at h1; omega
theorem Fit.mono {M N : Int} {xs : List DOp} (h : Fit M xs) (hM : M ≤ N) : Fit N xs := ⟨h.nice, by have := h.sum; omega⟩
theorem Fit.join {M : Int} {xs : List DOp} {o : DOp} (h : Fit M xs) (ho : Nice o) (hf : o.fr ≤ 4000) : Fit (M + sizeI o.len o.tx) (joinP xs o) := by
  have hN := joinP_nice xs o (fun p hp => (h.nice p hp).1) ho
  have hs := h.sum
  rcases List.eq_nil_or_concat xs with rfl | ⟨A, l, rfl⟩
  · rw [joinP_nil]
    exact ⟨by simpa using ⟨ho, hf⟩, by simp only [sumI] at hs ⊢; omega⟩
  · have hl : Nice l ∧ l.fr ≤ 4000 := h.nice l (by simp)
    rw [List.concat_eq_append] at *
    have hfo := nice_follow hl.1 ho
    rw [joinP_snoc] at hN ⊢
    rw [sumI_append] at hs
    simp only [sumI] at hs
    split
    · refine ⟨fun p hp => ?_, by rw [sumI_append, sumI_append]; simp only [sumI]; omega⟩
      rcases List.mem_append.1 hp with hp | hp
      · exact h.nice p hp
      · rw [List.mem_singleton.1 hp]; exact ⟨ho, hf⟩
    · rename_i hc
      rw [if_neg hc] at hN
      have hfb : followB l.fr l.len o.fr o.len = false := by simpa using hc
      refine ⟨fun p hp => ⟨hN p hp, ?_⟩, ?_⟩
      · rcases List.mem_append.1 hp with hp | hp
        · exact (h.nice p (by simp [hp])).2
        · rw [List.mem_singleton.1 hp]; exact hl.2
      · rw [sumI_append]
        simp only [sumI]
        have e : sizeI (l.len + o.len) (l.tx ++ o.tx) = sizeI l.len l.tx + sizeI o.len o.tx := by
          unfold sizeI
          rcases ho with ⟨h1, h2, h3⟩ | ⟨h1, h2, h3⟩
          · have := (hfo.1 h1).1 hfb
            rw [if_pos (by omega), if_pos this.1, if_pos h1]
          · have := (hfo.2 h1).1 hfb
            rw [if_neg (by omega), if_neg (by omega), if_neg (by omega), ByteArray.size_append]; omega
        omega
theorem Nice.fit_piece {o : DOp} (h : Nice o) (hf : o.fr ≤ 2000) (hl : o.len ≤ 2000) {s t : Int} (hs : 0 ≤ s) (ht : 0 < t) (hst : s + t ≤ sizeI o.len o.tx) : Nice (pieceP o s t) ∧ (pieceP o s t).fr ≤ 4000 ∧ sizeI (pieceP o s t).len (pieceP o s t).tx = t ∧ (pieceP o s t).tx.size ≤ o.tx.size ∧ (pieceP o s t).len ≤ 2000 ∧ 0 ≤ (pieceP o s t).len := by
  obtain ⟨h1, h2⟩ := piece_cells h hs ht hst
  refine ⟨h2, ?_⟩
  unfold pieceP sizeI
  unfold sizeI at hst
  by_cases hc : 0 < o.len
  · rw [if_pos hc] at hst
    simp only [if_pos hc]
    refine ⟨by omega, by rw [if_pos ht], Nat.zero_le _, by omega, by omega⟩
  · rw [if_neg hc] at hst
    simp only [if_neg hc]
    rw [if_neg (by omega), size_ext _ _ _ (by omega)]
    omega

set_option maxHeartbeats 4000000 in
theorem joins_any (v : Value) (acc : List DOp) (b off cap : Nat) (xs : List DOp) (from_ n M : Int) (base : Nat) (w : World) (hown : OwnOps w base v acc) (hbase : base ≤ w.heap.size) (hx : xs.length ≤ 1000) (hr : ReadsAt w b off xs) (hbw : b < base)
    (hf0 : 0 ≤ from_) (hf1 : from_ ≤ 10000) (hn0 : 0 ≤ n) (hn1 : n ≤ 10000) (hnice : ∀ o ∈ xs, Nice o ∧ o.fr ≤ 2000 ∧ o.len ≤ 2000 ∧ o.tx.size ≤ 2000) (hfit : Fit M acc) (hM : M + n ≤ 20000) (hM0 : 0 ≤ M) :
    Calls Tryz.prog 124 #[v, .slice (some ⟨b, off, none⟩) xs.length cap, .int .i64 from_, .int .i64 n] w fun e w' => ∃ v', e = .returned v' ∧ OwnOps w' base v' ((pieceGo xs from_ n).foldl joinP acc) ∧ Fit (M + n) ((pieceGo xs from_ n).foldl joinP acc) ∧ Below base w w' := by
  have HR : Hid (ReadsAt w b off xs) := hr
  clear hr
  go_enter Tryz.func124, Tryz.ntmps124
  go_wp2
  go_loopw [0, 2, 3, 15] (fun v' fv nv c wr => ∃ (k : Nat) (f' n' : Int) (ps : List DOp), k ≤ xs.length ∧ c = .int .i64 k ∧ fv = .int .i64 f' ∧ nv = .int .i64 n' ∧ 0 ≤ f' ∧ f' ≤ 10000 ∧ 0 ≤ n' ∧ n' ≤ n ∧ Hid (pieceGo xs from_ n = ps ++ pieceGo (xs.drop k) f' n') ∧ Hid (OwnOps wr base v' (ps.foldl joinP acc)) ∧ Hid (Fit (M + (n - n')) (ps.foldl joinP acc)) ∧ Below base w wr) (fun _ _ _ c _ => xs.length + 1 - (intOf c).toNat)
  case atStart => exact ⟨0, from_, n, [], by omega, rfl, rfl, rfl, hf0, hf1, hn0, by omega, by simp [Hid], hown, hfit.mono (by omega), Below.refl _ _⟩
  case round =>
    obtain ⟨k, f', n', ps, hk, rfl, rfl, rfl, hf0', hf1', hn0', hn1', HP, HO, HF, hb⟩ := hrel
    have hsz := hb.size
    by_cases hlt : k < xs.length
    · obtain ⟨⟨f, l, t⟩, ho⟩ : ∃ o, xs[k]? = some o := ⟨xs[k], by simp [hlt]⟩
      obtain ⟨r0, r1, r2⟩ := HR.out k _ ho
      have c0 : wr.cell? ⟨b, off + k * 3, none⟩ = some (.int .i64 f) := (hb.cell (p := ⟨b, _, none⟩) hbw).trans r0
      have c1 : wr.cell? ⟨b, off + k * 3 + 1, none⟩ = some (.int .i64 l) := (hb.cell (p := ⟨b, _, none⟩) hbw).trans r1
      have c2 : wr.cell? ⟨b, off + k * 3 + 2, none⟩ = some (.string t) := (hb.cell (p := ⟨b, _, none⟩) hbw).trans r2
      have HP2 : Hid (pieceGo xs from_ n = ps ++ _) := HP.out.trans (by rw [pieceGo_drop ho])
      obtain ⟨hn, g1, g2, g3⟩ := hnice _ (List.mem_of_getElem? ho)
      have HN : Hid (Nice ⟨f, l, t⟩) := hn
      simp only at g1 g2 g3
      have hz0 : 0 < sizeI l t := hn.size.2
      have hz1 : sizeI l t ≤ 2000 := by unfold sizeI; split <;> omega
      simp only at HP2
      generalize hz : sizeI l t = z at *
      have HZ : Hid (sizeI l t = z) := hz
      clear hz hn ho r0 r1 r2 HP
      go_wp2_with fail
      refine (size_any f l t _).mono ?_
      rintro e w4 ⟨rfl, hb4⟩
      rw [HZ.out]
      have R1 : Below base w w4 := (hb.alloc (by omega) _).trans (hb4.mono (by simp; omega))
      have hs4 : wr.heap.size < w4.heap.size := by have := hb4.size; simp at this; omega
      have k0 : w4.cell? ⟨wr.heap.size, 0, none⟩ = some (.int .i64 f) := (hb4.cell (p := ⟨wr.heap.size, 0, none⟩) (by simp)).trans (by simp)
      have k1 : w4.cell? ⟨wr.heap.size, 1, none⟩ = some (.int .i64 l) := (hb4.cell (p := ⟨wr.heap.size, 1, none⟩) (by simp)).trans (by simp)
      have k2 : w4.cell? ⟨wr.heap.size, 2, none⟩ = some (.string t) := (hb4.cell (p := ⟨wr.heap.size, 2, none⟩) (by simp)).trans (by simp)
      have HO4 : Hid (OwnOps w4 base _ (ps.foldl joinP acc)) := OwnOps.kept (HO.out.alloc _) hb4
      clear hb4 HO c0 c1 c2
      go_wp2_with fail
      refine (size_any f l t _).mono ?_
      rintro e w5 ⟨rfl, hb5⟩
      rw [HZ.out]
      have R2 : Below base w w5 := R1.trans (hb5.mono (by omega))
      have hs5 : wr.heap.size < w5.heap.size := by have := hb5.size; omega
      have j0 : w5.cell? ⟨wr.heap.size, 0, none⟩ = some (.int .i64 f) := (hb5.cell (p := ⟨wr.heap.size, 0, none⟩) hs4).trans k0
      have j1 : w5.cell? ⟨wr.heap.size, 1, none⟩ = some (.int .i64 l) := (hb5.cell (p := ⟨wr.heap.size, 1, none⟩) hs4).trans k1
      have j2 : w5.cell? ⟨wr.heap.size, 2, none⟩ = some (.string t) := (hb5.cell (p := ⟨wr.heap.size, 2, none⟩) hs4).trans k2
      have HO5 : Hid (OwnOps w5 base _ (ps.foldl joinP acc)) := OwnOps.kept HO4.out hb5
      clear hb5 HO4 k0 k1 k2 R1
      have b1 : 0 ≤ min f' z := by omega
      have b2 : min f' z ≤ z := by omega
      have b3 : min f' z ≤ f' := by omega
      have b4 : 0 ≤ min n' (z - min f' z) := by omega
      have b5 : min n' (z - min f' z) ≤ n' := by omega
      have b6 : min f' z + min n' (z - min f' z) ≤ z := by omega
      by_cases hp : 0 < min n' (z - min f' z)
      · have HP3 : Hid (pieceGo xs from_ n = (ps ++ [pieceP ⟨f, l, t⟩ (min f' z) (min n' (z - min f' z))]) ++ pieceGo (List.drop (k + 1) xs) (f' - min f' z) (n' - min n' (z - min f' z))) := by
          have := HP2.out
          rw [if_pos hp] at this
          show _ = _
          rw [this, List.append_assoc]
        obtain ⟨pn, pf, pz, pt, pl, pl0⟩ := Nice.fit_piece HN.out g1 g2 b1 hp (by simp only; rw [HZ.out]; exact b6)
        simp only at pt
        have HF2 := HF.out.join pn pf
        rw [pz] at HF2
        obtain ⟨m1, m2⟩ := HF.out.small (by omega)
        have HM1 : Hid (∀ p ∈ ps.foldl joinP acc, 0 ≤ p.fr ∧ p.fr ≤ 100000000 ∧ 0 ≤ p.len ∧ p.len ≤ 100000000 ∧ p.tx.size ≤ 100000000) := m2
        have hf00 : 0 ≤ f := by rcases HN.out with ⟨_, h, _⟩ | ⟨_, h, _⟩ <;> simp only at h <;> omega
        generalize hsg : min f' z = sg at *
        generalize htg : min n' (z - sg) = tg at *
        have HF3 : Hid (Fit (M + (n - (n' - tg))) (joinP (ps.foldl joinP acc) (pieceP ⟨f, l, t⟩ sg tg))) := HF2.mono (by omega)
        have HPC : Hid (∀ W, Calls Tryz.prog 143 #[.agg #[.int .i64 f, .int .i64 l, .string t], .int .i64 sg, .int .i64 tg] W fun e w' => e = .returned (.agg #[.int .i64 (pieceP ⟨f, l, t⟩ sg tg).fr, .int .i64 (pieceP ⟨f, l, t⟩ sg tg).len, .string (pieceP ⟨f, l, t⟩ sg tg).tx]) ∧ Below W.heap.size W w') :=
          fun W => piece_any f l t sg tg W b1 b4 hf00 (by omega) (by rw [HZ.out]; exact b6) (by omega) (by omega)
        generalize hq : pieceP ⟨f, l, t⟩ sg tg = q at *
        clear hq HF2 pz pn HP2 m2 b2 b3
        go_wp2_with fail
        refine (HPC.out _).mono ?_
        rintro e w6 ⟨rfl, hb6⟩
        have R3 : Below base w w6 := R2.trans (hb6.mono (by omega))
        have hs6 : w.heap.size ≤ w6.heap.size := by have := hb6.size; omega
        have HO6 : Hid (OwnOps w6 base _ (ps.foldl joinP acc)) := OwnOps.kept HO5.out hb6
        clear hb6 HO5 HPC R2
        go_wp2_with fail
        refine (join_any _ (ps.foldl joinP acc) q.fr q.len q.tx base _ HO6.out (by omega) m1 (by omega) pl0 (by omega) HM1.out).mono ?_
        rintro e w7 ⟨v7, rfl, ho7, hb7⟩
        have R4 : Below base w w7 := R3.trans hb7
        have HO7 : Hid (OwnOps w7 base v7 ((ps ++ [q]).foldl joinP acc)) := by
          show OwnOps w7 base v7 ((ps ++ [q]).foldl joinP acc)
          rw [List.foldl_append]; exact ho7
        have HF4 : Hid (Fit (M + (n - (n' - tg))) ((ps ++ [q]).foldl joinP acc)) := by
          show Fit _ ((ps ++ [q]).foldl joinP acc)
          rw [List.foldl_append]; exact HF3.out
        clear hb7 ho7 HO6 R3 HF3 HM1
        go_wp2
        go_roundw
        case rel => exact ⟨k + 1, f' - sg, n' - tg, ps ++ [q], by omega, by go_num, by go_num, by go_num, by omega, by omega, by omega, by omega, HP3, HO7, HF4, R4⟩
        case measure => simp [intOf]; omega
      · have HP3 : Hid (pieceGo xs from_ n = ps ++ pieceGo (List.drop (k + 1) xs) (f' - min f' z) (n' - min n' (z - min f' z))) := by
          have := HP2.out
          rw [if_neg hp] at this
          simpa [Hid] using this
        have HF3 : Hid (Fit (M + (n - (n' - min n' (z - min f' z)))) (ps.foldl joinP acc)) := HF.out.mono (by omega)
        generalize hsg : min f' z = sg at *
        generalize htg : min n' (z - sg) = tg at *
        clear HP2 b2 b3
        go_wp2
        go_roundw
        case rel => exact ⟨k + 1, f' - sg, n' - tg, ps, by omega, by go_num, by go_num, by go_num, by omega, by omega, by omega, by omega, HP3, HO5, HF3, R2⟩
        case measure => simp [intOf]; omega
    · obtain rfl : k = xs.length := by omega
      have HE : Hid (pieceGo xs from_ n = ps) := by
        have := HP.out
        rw [List.drop_length] at this
        simpa [Hid, pieceGo] using this
      have HF3 : Hid (Fit (M + n) (ps.foldl joinP acc)) := HF.out.mono (by omega)
      go_wp2
      go_ret
      rw [HE.out]
      exact ⟨_, rfl, HO.out, HF3.out, hb⟩
end Go.Proofs.YtabpiaaknjcnkaaGreat
