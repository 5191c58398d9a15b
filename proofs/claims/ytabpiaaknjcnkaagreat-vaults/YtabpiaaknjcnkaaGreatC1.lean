/-
  The walks over piece, join and sizeOfAll.
-/
import Derived.Test.YtabpiaaknjcnkaaGreatXPCPDPU
import Derived.Test.YtabpiaaknjcnkaaGreatL5
import Derived.Test.YtabpiaaknjcnkaaGreatXR4L7L8P4
import Derived.LoopTactic
namespace Go.Proofs.YtabpiaaknjcnkaaGreat
open Go.RowKit
set_option linter.unusedVariables false
set_option linter.unusedSimpArgs false
set_option maxRecDepth 100000

theorem ret_op {f f' l l' : Int} {t t' : ByteArray} (h1 : f = f') (h2 : l = l') (h3 : t = t') : Ending.returned (.agg #[.int .i64 f, .int .i64 l, .string t]) = .returned (.agg #[.int .i64 f', .int .i64 l', .string t']) := by rw [h1, h2, h3]

set_option maxHeartbeats 1000000 in
theorem piece_any (f l : Int) (t : ByteArray) (s n : Int) (w : World) (hs : 0 ≤ s) (hn : 0 ≤ n) (hf : 0 ≤ f) (hf2 : f ≤ 100000000) (hsn : s + n ≤ sizeI l t) (ht : t.size ≤ 100000000) (hl : l ≤ 100000000) :
    Calls Tryz.prog 143 #[.agg #[.int .i64 f, .int .i64 l, .string t], .int .i64 s, .int .i64 n] w fun e w' => e = .returned (.agg #[.int .i64 (pieceP ⟨f, l, t⟩ s n).fr, .int .i64 (pieceP ⟨f, l, t⟩ s n).len, .string (pieceP ⟨f, l, t⟩ s n).tx]) ∧ Below w.heap.size w w' := by
  unfold sizeI at hsn
  by_cases h : 0 < l
  · rw [if_pos h] at hsn
    have e1 : (pieceP ⟨f, l, t⟩ s n) = ⟨f + s, n, ⟨#[]⟩⟩ := by simp [pieceP, h]
    rw [e1]
    clear e1
    go_enter Tryz.func143, Tryz.ntmps143
    go_wp2
    refine bodyPost_ret (by simp [results, Tryz.results143, go_sem]; rfl) rfl ?_
    exact ⟨rfl, (((Below.refl _ _).alloc (Nat.le_refl _) _).alloc (by simp) _).alloc (by simp; omega) _⟩
  · rw [if_neg h] at hsn
    have e1 : (pieceP ⟨f, l, t⟩ s n) = ⟨0, 0, t.extract s.toNat (s + n).toNat⟩ := by simp [pieceP, h]
    rw [e1]
    clear e1
    go_enter Tryz.func143, Tryz.ntmps143
    go_wp2
    refine bodyPost_ret (by simp [results, Tryz.results143, go_sem]; rfl) rfl ?_
    exact ⟨rfl, (((Below.refl _ _).alloc (Nat.le_refl _) _).alloc (by simp) _).alloc (by simp; omega) _⟩

theorem opCells_nil : opCells [] = [] := rfl
/-- A cell of a row of ops is stored over. -/
theorem own_setCell {w : World} {base g cap j : Nat} {xs ys : List DOp} {v : Value} (h : OwnOps w base (.slice (some ⟨g, 0, none⟩) xs.length cap) xs) (hj : j < xs.length * 3) (hy : ys.length = xs.length) (he : (opCells xs).set j v = opCells ys) :
    OwnOps (w.setCell ⟨g, j, none⟩ v) base (.slice (some ⟨g, 0, none⟩) xs.length cap) ys := by
  rcases h.2 with ⟨h', _⟩ | ⟨g', cap', cur, hv, hg, hbk, h1, h2, h3, h4⟩
  · cases h'
  · cases hv
    refine ⟨opCells_length _, .inr ⟨g, cap, _, by rw [hy], hg, Lib.heap_setCell_same hbk _, by omega, h2, by simpa using h3, ?_⟩⟩
    have h4' : cur.toList = opCells xs ++ cur.toList.drop (xs.length * 3) := by
      conv => lhs; rw [← List.take_append_drop (xs.length * 3) cur.toList, h4]
    simp only [Array.toList_setIfInBounds]
    rw [h4', List.set_append_left _ _ (by rw [opCells_length]; omega), he]
    rw [List.take_left' (by rw [opCells_length])]
theorem set_len (A : List DOp) (o : DOp) (l : Int) : (opCells (A ++ [o])).set (A.length * 3 + 1) (.int .i64 l) = opCells (A ++ [⟨o.fr, l, o.tx⟩]) := by
  have e : ∀ q : DOp, opCells (A ++ [q]) = opCells A ++ [.int .i64 q.fr, .int .i64 q.len, .string q.tx] := fun q => by rw [opCells_append]; rfl
  rw [e, e]
  have hl := opCells_length A
  rw [List.set_append_right _ _ (by omega), show A.length * 3 + 1 - (opCells A).length = 1 from by omega]
  rfl
theorem set_tx (A : List DOp) (o : DOp) (t : ByteArray) : (opCells (A ++ [o])).set (A.length * 3 + 2) (.string t) = opCells (A ++ [⟨o.fr, o.len, t⟩]) := by
  have e : ∀ q : DOp, opCells (A ++ [q]) = opCells A ++ [.int .i64 q.fr, .int .i64 q.len, .string q.tx] := fun q => by rw [opCells_append]; rfl
  rw [e, e]
  have hl := opCells_length A
  rw [List.set_append_right _ _ (by omega), show A.length * 3 + 2 - (opCells A).length = 2 from by omega]
  rfl
theorem own_last {w : World} {base g cap n : Nat} {A : List DOp} {o : DOp} (hn : n = A.length + 1) (h : OwnOps w base (.slice (some ⟨g, 0, none⟩) n cap) (A ++ [o])) (l : Int) (t : ByteArray) :
    OwnOps ((w.setCell ⟨g, A.length * 3 + 1, none⟩ (.int .i64 l)).setCell ⟨g, A.length * 3 + 2, none⟩ (.string t)) base (.slice (some ⟨g, 0, none⟩) n cap) (A ++ [⟨o.fr, l, t⟩]) := by
  have hl1 : (A ++ [o]).length = A.length + 1 := by simp
  have hl2 : (A ++ [(⟨o.fr, l, o.tx⟩ : DOp)]).length = A.length + 1 := by simp
  subst hn
  rw [← hl1] at h
  have h1 := own_setCell h (by omega) (by rw [hl2, hl1]) (set_len A o l)
  rw [hl1, ← hl2] at h1
  have h2 := own_setCell h1 (by omega) (by simp) (set_tx A ⟨o.fr, l, o.tx⟩ t)
  rw [hl2] at h2
  exact h2

set_option maxHeartbeats 4000000 in
theorem join_any (v : Value) (xs : List DOp) (f l : Int) (t : ByteArray) (base : Nat) (w : World) (hown : OwnOps w base v xs) (hbase : base ≤ w.heap.size) (hx : xs.length ≤ 100000) (ht : t.size ≤ 100000) (hl0 : 0 ≤ l) (hl1 : l ≤ 100000000)
    (hsm : ∀ p ∈ xs, 0 ≤ p.fr ∧ p.fr ≤ 100000000 ∧ 0 ≤ p.len ∧ p.len ≤ 100000000 ∧ p.tx.size ≤ 100000000) :
    Calls Tryz.prog 125 #[v, .agg #[.int .i64 f, .int .i64 l, .string t]] w fun e w' => ∃ v', e = .returned v' ∧ OwnOps w' base v' (joinP xs ⟨f, l, t⟩) ∧ Below base w w' := by
  obtain ⟨i0, hi, hz0, hz1, hz2⟩ := info_parts Tryz.infoOp
  rcases List.eq_nil_or_concat xs with rfl | ⟨A, o, rfl⟩
  · obtain ⟨ao, cap, rfl⟩ := hown.slice
    rw [joinP_nil]
    go_enter Tryz.func125, Tryz.ntmps125
    go_wp2
    go_quiet (fail)
    go_wp2_with (go_at_call 54; refine (clone_any t _ ht).mono ?_)
    rintro e w1 ⟨rfl, hb⟩
    have hsz : w.heap.size + 1 ≤ w1.heap.size := by simpa using hb.size
    have ob : w1.heap[w.heap.size]? = some (.cells #[.int .i64 f, .int .i64 l, .string t] 63 (0, 0)) := (hb.block _ (by simp)).trans (heap_alloc_new _ _)
    have k0 : w1.cell? ⟨w.heap.size, 0, none⟩ = some (.int .i64 f) := by rw [Lib.cell_of_heap ob]; rfl
    have k1 : w1.cell? ⟨w.heap.size, 1, none⟩ = some (.int .i64 l) := by rw [Lib.cell_of_heap ob]; rfl
    have k2 : w1.cell? ⟨w.heap.size, 2, none⟩ = some (.string t) := by rw [Lib.cell_of_heap ob]; rfl
    have kf := fun j => Lib.frozen_of_heap ob j
    have hown1 : OwnOps w1 base (.slice ao (List.length ([] : List DOp)) cap) [] := OwnOps.kept (show OwnOps ((w.alloc (.cells #[.int .i64 f, .int .i64 l, .string t] 63)).drewN nq) base _ _ from hown.alloc _) hb
    have hb1 : Below base w w1 := ((Below.refl base w).alloc hbase _).trans ((below_drewN0 _ _ nq).trans (hb.mono (by simp; omega)))
    have hown2 : OwnOps ((w1.setCell ⟨w.heap.size, 2, none⟩ (.string t)).alloc (.cells #[.int .i64 f, .int .i64 l, .string t] 63)) base (.slice ao (List.length ([] : List DOp)) cap) [] := (own_far hown1 (fun k hk => by have := row_own_lt hown hk; omega)).alloc _
    go_wp2_with (first | (at_builtin; refine wpList_append_own _ rfl _ _ 59 rfl base 63 i0 (.agg #[.int .i64 0, .int .i64 0, .string ⟨#[]⟩]) 3 32 Tryz.underlying59 hi hz0 hz1 hz2 rfl (by decide) _ _ _ rfl hown2 ⟨w1.heap.size, 0, none⟩ 1 1 (opCells [⟨f, l, t⟩]) rfl rfl ?c2 (opCells_oneCell _ _ _) ?c3 ?c4 ?c5 ?_))
    case c2 => simpa using cells_op_new (w1.setCell ⟨w.heap.size, 2, none⟩ (.string t)) f l t 63
    case c3 => unfold maxLen; simp; try omega
    case c4 => simp; try omega
    case c5 => simp; omega
    intro v' w2 ho2 hgrow _
    have R1 : OwnOps w2 base v' ([] ++ [⟨f, l, t⟩]) := by
      simpa [OwnOps, opCells_append, opCells_nil] using ho2
    have R2 : Below base w w2 := (((hb1.setCell (p := ⟨w.heap.size, 2, none⟩) hbase _).alloc (by simp; omega) _).grown hgrow (by simp; omega) (fun k hk => row_own_ge hown2 hk))
    clear ho2 hgrow hown2 hown1
    go_wp2
    go_ret
    exact ⟨v', rfl, R1, R2⟩
  · rw [List.concat_eq_append] at *
    obtain ⟨g, cap, rfl, hg⟩ : ∃ g cap, v = .slice (some ⟨g, 0, none⟩) (A.length + 1) cap ∧ base ≤ g := by
      rcases hown.2 with ⟨_, h⟩ | ⟨g, cap, cur, h, hg, _⟩
      · simp at h
      · exact ⟨g, cap, by rw [h]; simp, hg⟩
    have hgs : g < w.heap.size := row_own_lt hown rfl
    obtain ⟨c0, c1, c2, c3⟩ := own_cells (B := []) (hown.alloc (.cells #[.int .i64 f, .int .i64 l, .string t] 63))
    obtain ⟨s1, s2, s3, s4, s5⟩ := hsm o (by simp)
    obtain ⟨of, ol, ot⟩ := o
    simp only at c0 c1 c2 s1 s2 s3 s4 s5
    rw [joinP_snoc]
    have hA : A.length + 1 ≤ 100000 := by simpa using hx
    have HM : Hid (∀ W, Calls Tryz.prog 140 #[.agg #[.int .i64 of, .int .i64 ol, .string ot], .agg #[.int .i64 f, .int .i64 l, .string t]] W fun e w' => e = .returned (.bool (followB of ol f l)) ∧ Below W.heap.size W w') := fun W => mayFollow_any of ol f l ot t W (fun _ => by omega) (fun _ => by omega)
    have q1 : (A.length : Int) < ((A.length + 1 : Nat) : Int) := by omega
    have q2 : A.length < A.length + 1 := by omega
    have q9 : (A.length : Int) < (A.length : Int) + 1 := by omega
    have q8 : decide ((A.length : Int) < 0) = false := by simp
    have q3 : (0 : Int) ≤ (A.length : Int) := by omega
    have q5 : IntKind.i64.wrap (A.length : Int) = (A.length : Int) := by rw [IntKind.wrap_i64]; omega
    have HO : Hid (OwnOps w base (.slice (some ⟨g, 0, none⟩) (A.length + 1) cap) (A ++ [⟨of, ol, ot⟩])) := hown
    clear hown hsm hx
    have q6 : g < (w.alloc (.cells #[.int .i64 f, .int .i64 l, .string t] 63)).heap.size := by simp; omega
    have q7 : w.heap.size < (w.alloc (.cells #[.int .i64 f, .int .i64 l, .string t] 63)).heap.size := by simp
    have k0 : (w.alloc (.cells #[.int .i64 f, .int .i64 l, .string t] 63)).cell? ⟨w.heap.size, 0, none⟩ = some (.int .i64 f) := by simp
    have k1 : (w.alloc (.cells #[.int .i64 f, .int .i64 l, .string t] 63)).cell? ⟨w.heap.size, 1, none⟩ = some (.int .i64 l) := by simp
    have k2 : (w.alloc (.cells #[.int .i64 f, .int .i64 l, .string t] 63)).cell? ⟨w.heap.size, 2, none⟩ = some (.string t) := by simp
    cases hfo : followB of ol f l
    · rw [hfo] at HM
      simp only [Bool.false_eq_true, if_false]
      go_enter Tryz.func125, Tryz.ntmps125
      go_wp2
      go_region_held3 (fun w' => w'.cell? ⟨g, A.length * 3, none⟩ = some (.int .i64 of) ∧ w'.cell? ⟨g, A.length * 3 + 1, none⟩ = some (.int .i64 ol) ∧ w'.cell? ⟨g, A.length * 3 + 2, none⟩ = some (.string ot) ∧ w'.cell? ⟨w.heap.size, 0, none⟩ = some (.int .i64 f) ∧ w'.cell? ⟨w.heap.size, 1, none⟩ = some (.int .i64 l) ∧ w'.cell? ⟨w.heap.size, 2, none⟩ = some (.string t)) (go_keep)
        (first | (go_at_call 140; refine (HM.out _).mono ?_; rintro e w3 ⟨rfl, hb3⟩; have e0 := (hb3.cell (p := ⟨g, A.length * 3, none⟩) q6).trans c0; have e1 := (hb3.cell (p := ⟨g, A.length * 3 + 1, none⟩) q6).trans c1; have e2 := (hb3.cell (p := ⟨g, A.length * 3 + 2, none⟩) q6).trans c2; have e3 := (hb3.cell (p := ⟨w.heap.size, 0, none⟩) q7).trans k0; have e4 := (hb3.cell (p := ⟨w.heap.size, 1, none⟩) q7).trans k1; have e5 := (hb3.cell (p := ⟨w.heap.size, 2, none⟩) q7).trans k2))
      have hb3' : Below (w.heap.size + 1) (w.alloc (.cells #[.int .i64 f, .int .i64 l, .string t] 63)) w3 := (by simpa using (Below.refl _ _).drew.trans hb3)
      have o3 : OwnOps w3 base (.slice (some ⟨g, 0, none⟩) (A.length + 1) cap) (A ++ [⟨of, ol, ot⟩]) := OwnOps.kept (HO.out.alloc _) (by simpa using hb3')
      have f1 : ∀ j, w3.frozen? ⟨g, j, none⟩ = false := (own_cells (B := []) o3).2.2.2
      have qa : IntKind.i64.wrap (ol + l) = ol + l := by rw [IntKind.wrap_i64]; omega
      have qg : ¬ w.heap.size = g := by omega
      have R1 := own_last rfl o3 (ol + l) (ot ++ t)
      have HR : Hid (OwnOps ((w3.setCell ⟨g, A.length * 3 + 1, none⟩ (.int .i64 (ol + l))).setCell ⟨g, A.length * 3 + 2, none⟩ (.string (ot ++ t))) base (.slice (some ⟨g, 0, none⟩) (A.length + 1) cap) (A ++ [⟨of, ol + l, ot ++ t⟩])) := R1
      have R2 : Below base w w3 := ((Below.refl base w).alloc hbase _).trans (hb3'.mono (by omega))
      clear o3 R1 hb3 hb3' HM c0 c1 c2 c3 k0 k1 k2 HO
      go_wp2
      go_region
      go_wp2
      go_region
      go_wp2
      go_ret
      exact ⟨_, rfl, HR.out, ((R2.setCell (p := ⟨g, A.length * 3 + 1, none⟩) hg _).drew.setCell (p := ⟨g, A.length * 3 + 2, none⟩) hg _).drew⟩
    · rw [hfo] at HM
      simp only [if_true]
      go_enter Tryz.func125, Tryz.ntmps125
      go_wp2
      go_region_held3 (fun w' => w'.cell? ⟨g, A.length * 3, none⟩ = some (.int .i64 of) ∧ w'.cell? ⟨g, A.length * 3 + 1, none⟩ = some (.int .i64 ol) ∧ w'.cell? ⟨g, A.length * 3 + 2, none⟩ = some (.string ot) ∧ w'.cell? ⟨w.heap.size, 0, none⟩ = some (.int .i64 f) ∧ w'.cell? ⟨w.heap.size, 1, none⟩ = some (.int .i64 l) ∧ w'.cell? ⟨w.heap.size, 2, none⟩ = some (.string t)) (go_keep)
        (first | (go_at_call 140; refine (HM.out _).mono ?_; rintro e w3 ⟨rfl, hb3⟩; have e0 := (hb3.cell (p := ⟨g, A.length * 3, none⟩) q6).trans c0; have e1 := (hb3.cell (p := ⟨g, A.length * 3 + 1, none⟩) q6).trans c1; have e2 := (hb3.cell (p := ⟨g, A.length * 3 + 2, none⟩) q6).trans c2; have e3 := (hb3.cell (p := ⟨w.heap.size, 0, none⟩) q7).trans k0; have e4 := (hb3.cell (p := ⟨w.heap.size, 1, none⟩) q7).trans k1; have e5 := (hb3.cell (p := ⟨w.heap.size, 2, none⟩) q7).trans k2))
      have hb3' : Below (w.heap.size + 1) (w.alloc (.cells #[.int .i64 f, .int .i64 l, .string t] 63)) w3 := (by simpa using (Below.refl _ _).drew.trans hb3)
      have hsz : w.heap.size + 1 ≤ w3.heap.size := by simpa using hb3'.size
      have ob : w3.heap[w.heap.size]? = some (.cells #[.int .i64 f, .int .i64 l, .string t] 63 (0, 0)) := (hb3'.block _ (by omega)).trans (heap_alloc_new _ _)
      have o3 : OwnOps w3 base (.slice (some ⟨g, 0, none⟩) (A.length + 1) cap) (A ++ [⟨of, ol, ot⟩]) := OwnOps.kept (HO.out.alloc _) (by simpa using hb3')
      have R2 : Below base w w3 := ((Below.refl base w).alloc hbase _).trans (hb3'.mono (by omega))
      clear HM c0 c1 c2 c3 k0 k1 k2 hb3 hb3'
      go_wp2_with (go_at_call 54; refine (clone_any t _ ht).mono ?_)
      rintro e w1 ⟨rfl, hb⟩
      have hsz1 := hb.size
      have ob1 : w1.heap[w.heap.size]? = some (.cells #[.int .i64 f, .int .i64 l, .string t] 63 (0, 0)) := (hb.block _ (by omega)).trans ob
      have k0 : w1.cell? ⟨w.heap.size, 0, none⟩ = some (.int .i64 f) := by rw [Lib.cell_of_heap ob1]; rfl
      have k1 : w1.cell? ⟨w.heap.size, 1, none⟩ = some (.int .i64 l) := by rw [Lib.cell_of_heap ob1]; rfl
      have k2 : w1.cell? ⟨w.heap.size, 2, none⟩ = some (.string t) := by rw [Lib.cell_of_heap ob1]; rfl
      have kf := fun j => Lib.frozen_of_heap ob1 j
      have hown1 : OwnOps w1 base (.slice (some ⟨g, 0, none⟩) (A.length + 1) cap) (A ++ [⟨of, ol, ot⟩]) := o3.kept hb
      have hb1 : Below base w w1 := R2.trans (hb.mono (by omega))
      clear e0 e1 e2 e3 e4 e5 ob hb o3 R2
      have hown2 : OwnOps ((w1.setCell ⟨w.heap.size, 2, none⟩ (.string t)).alloc (.cells #[.int .i64 f, .int .i64 l, .string t] 63)) base (.slice (some ⟨g, 0, none⟩) (A.length + 1) cap) (A ++ [⟨of, ol, ot⟩]) := (own_far hown1 (fun k hk => by have := row_own_lt HO.out hk; omega)).alloc _
      have hAl : (A ++ [(⟨of, ol, ot⟩ : DOp)]).length = A.length + 1 := by simp
      go_wp2_with (first | (at_builtin; refine wpList_append_own _ rfl _ _ 59 rfl base 63 i0 (.agg #[.int .i64 0, .int .i64 0, .string ⟨#[]⟩]) 3 32 Tryz.underlying59 hi hz0 hz1 hz2 rfl (by decide) _ _ _ rfl hown2 ⟨w1.heap.size, 0, none⟩ 1 1 (opCells [⟨f, l, t⟩]) rfl rfl ?c2 (opCells_oneCell _ _ _) ?c3 ?c4 ?c5 ?_))
      case c2 => simpa using cells_op_new (w1.setCell ⟨w.heap.size, 2, none⟩ (.string t)) f l t 63
      case c3 => rw [hAl]; unfold maxLen; omega
      case c4 => rw [hAl]; omega
      case c5 => simp; omega
      intro v' w2 ho2 hgrow _
      have R1 : OwnOps w2 base v' (A ++ [⟨of, ol, ot⟩] ++ [⟨f, l, t⟩]) := by
        unfold OwnOps
        rw [opCells_append _ [(⟨f, l, t⟩ : DOp)], show (A ++ [(⟨of, ol, ot⟩ : DOp)] ++ [(⟨f, l, t⟩ : DOp)]).length = A.length + 1 + 1 from by simp]
        exact ho2
      have R2 : Below base w w2 := (((hb1.setCell (p := ⟨w.heap.size, 2, none⟩) hbase _).alloc (by simp; omega) _).grown hgrow (by simp; omega) (fun k hk => row_own_ge hown2 hk))
      clear ho2 hgrow hown2 hown1
      go_wp2
      go_ret
      exact ⟨v', rfl, R1, R2⟩
end Go.Proofs.YtabpiaaknjcnkaaGreat
