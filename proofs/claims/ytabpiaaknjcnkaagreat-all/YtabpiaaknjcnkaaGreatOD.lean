/-
  The data that come in, opened: lists of ops, and scripts.
-/
import Derived.Test.YtabpiaaknjcnkaaGreatXR4L7L8P4S1S2L9LBLP
import Derived.Deep.Strs
import Derived.ProofKit
import Derived.OpenShut
import Derived.SizedLaws
namespace Go.Proofs.YtabpiaaknjcnkaaGreat
open Go.ChangeShapes Go.WideShapes Go.ChangeAt Go.RowKit
set_option linter.unusedVariables false
set_option linter.unusedSimpArgs false
set_option maxRecDepth 100000

theorem Tryz.cellsOp : Tryz.prog.cellsOf 63 = 3 := by kernel_rfl
theorem Tryz.bytesOp : Tryz.prog.bytesOf 63 = 32 := by kernel_rfl
theorem Tryz.cellsIntO : Tryz.prog.cellsOf 3 = 1 := by kernel_rfl
theorem Tryz.cellsStrO : Tryz.prog.cellsOf 9 = 1 := by kernel_rfl
theorem Tryz.cellsOpsO : Tryz.prog.cellsOf 59 = 1 := by kernel_rfl
theorem Tryz.cellsLop : Tryz.prog.cellsOf 61 = 8 := by kernel_rfl
theorem Tryz.bytesLop : Tryz.prog.bytesOf 61 = 112 := by kernel_rfl

theorem wf_rangeO {z : Int} (h : (Lit.int .i64 z).wf = true) : -9223372036854775808 ≤ z ∧ z ≤ 9223372036854775807 := by
  have h1 : IntKind.i64.min = -9223372036854775808 := rfl
  have h2 : IntKind.i64.max = 9223372036854775807 := rfl
  simp only [Lit.wf, Bool.and_eq_true, decide_eq_true_eq] at h
  omega

theorem weightsAll_mem {H : Type} {P : Program} {e : TypeId} : ∀ {ds : List (DataW H)} {d : DataW H}, d ∈ ds → ∀ n ∈ d.weights P e, n ∈ DataW.weightsAll P e ds
  | d0 :: ds, d, h, n, hn => by
    simp only [DataW.weightsAll, List.mem_append]
    rcases List.mem_cons.1 h with rfl | h
    · exact .inl hn
    · exact .inr (weightsAll_mem h n hn)

/-- An op that came in. -/
theorem op_open {H : Type} {enc : TypeId × Value → H} {w : World} {n : Nat} {cs : List Value} {d : DataW H} {ps : List MemPlace} {a : Addr}
    (hc : w.cells? 0 a (Tryz.prog.cellsOf 63) = some cs) (h : DataW.trod enc Tryz.prog w 0 (fun _ => true) true n 63 cs = some (d, ps)) :
    ∃ o : DOp, w.cell? (a.add 0) = some (.int .i64 o.fr) ∧ w.cell? (a.add 1) = some (.int .i64 o.len) ∧ w.cell? (a.add 2) = some (.string o.tx) ∧ (-9223372036854775808 ≤ o.fr ∧ o.fr ≤ 9223372036854775807) ∧ (-9223372036854775808 ≤ o.len ∧ o.len ≤ 9223372036854775807) ∧ o.tx.size ∈ d.weights Tryz.prog 63 := by
  obtain ⟨_, hl, hcell⟩ := World.cells?_some hc
  obtain ⟨y0, y1, y2, m, hx, _, h0, h1, h2⟩ := Deep.trod_struct3 Tryz.underlying63 h
  rw [Tryz.cellsOp] at hl hcell
  match cs, hl with
  | [c0, c1, c2], _ =>
    simp only [Tryz.cellsIntO, Tryz.cellsStrO, List.drop_zero, List.drop_succ_cons, List.take_succ_cons, List.take_zero] at h0 h1 h2
    obtain ⟨z0, e0, x0, g0⟩ := DataW.trod_int Tryz.underlying3 h0
    obtain ⟨z1, e1, x1, g1⟩ := DataW.trod_int Tryz.underlying3 h1
    obtain ⟨s2, e2, x2, g2⟩ := DataW.trod_string Tryz.underlying9 h2
    simp only [List.cons.injEq, and_true] at e0 e1 e2
    subst e0 e1 e2
    refine ⟨⟨z0, z1, s2⟩, by simpa using hcell 0 (by omega), by simpa using hcell 1 (by omega), by simpa using hcell 2 (by omega), wf_rangeO g0, wf_rangeO g1, ?_⟩
    simp only [Prod.mk.injEq] at hx
    rw [hx.1, x0, x1, x2]
    simp [DataW.weights, Tryz.underlying63, DataW.weightsEach]

/-- A list of ops that came in. -/
theorem ops_open {H : Type} {enc : TypeId × Value → H} {w : World} {n : Nat} {v : Value} {d : DataW H} {ps : List MemPlace}
    (h : DataW.trod enc Tryz.prog w 0 (fun _ => true) true n 59 [v] = some (d, ps)) (hw : ∀ n ∈ d.weights Tryz.prog 59, n ≤ reachBytes) :
    ∃ xs : List DOp, LView w.heap.size w v xs ∧ xs.length ≤ 4398046511000 ∧ (∀ o ∈ xs, (-9223372036854775808 ≤ o.fr ∧ o.fr ≤ 9223372036854775807) ∧ (-9223372036854775808 ≤ o.len ∧ o.len ≤ 9223372036854775807) ∧ o.tx.size ≤ 140737488351232) := by
  rcases Deep.open_slice Tryz.underlying59 h with ⟨hcs, hx⟩ | ⟨a, len, cap, m, k, D, Pl, hcs, _, hl, hm, hmm, hx, hel⟩
  · simp only [List.cons.injEq, and_true] at hcs
    subst hcs
    exact ⟨[], .inl ⟨rfl, none, 0, rfl⟩, by simp, by simp⟩
  · simp only [List.cons.injEq, and_true] at hcs
    subst hcs
    simp only [if_true] at hmm
    subst hmm
    simp only [Prod.mk.injEq] at hx
    obtain ⟨rfl, _⟩ := hx
    have hlen : len * 32 ≤ 140737488351232 := by
      have := hw (((List.range len).map D).length + ((List.range (m - len)).map fun j => D (len + j)).length |> (· * Tryz.prog.bytesOf 63)) (by simp only [DataW.weights, Tryz.underlying59]; exact List.mem_cons_self)
      rw [Tryz.bytesOp] at this
      simp only [List.length_map, List.length_range, reachBytes] at this
      omega
    by_cases hl0 : len = 0
    · subst hl0
      exact ⟨[], .inl ⟨rfl, some a, m, rfl⟩, by simp, by simp⟩
    · have hall : ∀ i, i < len → ∃ o : DOp, w.cell? (a.add (i * 3)) = some (.int .i64 o.fr) ∧ w.cell? (a.add (i * 3 + 1)) = some (.int .i64 o.len) ∧ w.cell? (a.add (i * 3 + 2)) = some (.string o.tx) ∧ (-9223372036854775808 ≤ o.fr ∧ o.fr ≤ 9223372036854775807) ∧ (-9223372036854775808 ≤ o.len ∧ o.len ≤ 9223372036854775807) ∧ o.tx.size ≤ 140737488351232 := by
        intro i hi
        obtain ⟨cs', hc, ht⟩ := hel i (by omega)
        obtain ⟨o, k0, k1, k2, r0, r1, r2⟩ := op_open hc ht
        rw [Tryz.cellsOp, Deep.add_add] at k0 k1 k2
        refine ⟨o, by simpa using k0, k1, k2, r0, r1, ?_⟩
        have := hw o.tx.size (by
          simp only [DataW.weights, Tryz.underlying59]
          exact List.mem_cons_of_mem _ (List.mem_append.2 (.inl (weightsAll_mem (d := D i) (List.mem_map.2 ⟨i, List.mem_range.2 hi, rfl⟩) _ r2))))
        simpa [reachBytes] using this
      haveI : Inhabited DOp := ⟨⟨0, 0, ByteArray.empty⟩⟩
      obtain ⟨f, hf⟩ := Deep.choose_lt hall
      have hbl : a.block < w.heap.size := by
        obtain ⟨cs', hc, _⟩ := hel 0 (by omega)
        have := World.cells?_block hc (by rw [Tryz.cellsOp]; omega)
        simpa [Addr.add] using this
      obtain ⟨b, off, spot⟩ := a
      have hspot : spot = none := by simpa [Addr.add] using World.cell?_spot (hf 0 (by omega)).1
      subst hspot
      have hlx : ((List.range len).map f).length = len := by simp
      refine ⟨(List.range len).map f, .inr ⟨b, off, m, by rw [hlx], hbl, ?_⟩, by rw [hlx]; omega, ?_⟩
      · intro i o ho
        have hi : i < len := by have := (List.getElem?_eq_some_iff.1 ho).1; simpa using this
        have hfo : f i = o := by simpa [hi] using ho
        obtain ⟨k0, k1, k2, _⟩ := hf i hi
        rw [add_plain] at k0 k1 k2
        rw [hfo] at k0 k1 k2
        exact ⟨k0, by simpa [Nat.add_assoc] using k1, by simpa [Nat.add_assoc] using k2⟩
      · intro o ho
        obtain ⟨i, hi, rfl⟩ := List.mem_map.1 ho
        exact (hf i (List.mem_range.1 hi)).2.2.2

/-- What is told of a step's data. -/
structure SOpOk (B0 : Nat) (w : World) (o : SOp) : Prop where
  rk : -9223372036854775808 ≤ o.k ∧ o.k ≤ 9223372036854775807
  ra : -9223372036854775808 ≤ o.a ∧ o.a ≤ 9223372036854775807
  rb : -9223372036854775808 ≤ o.b ∧ o.b ≤ 9223372036854775807
  rc : -9223372036854775808 ≤ o.c ∧ o.c ≤ 9223372036854775807
  raw : Raw B0 w o.s o.t o.vl o.vm o.xs o.ys
  wide : ∀ p ∈ o.xs ++ o.ys, (-9223372036854775808 ≤ p.fr ∧ p.fr ≤ 9223372036854775807) ∧ (-9223372036854775808 ≤ p.len ∧ p.len ≤ 9223372036854775807) ∧ p.tx.size ≤ 140737488351232

theorem trod_struct8 {H : Type} {enc : TypeId × Value → H} {P : Program} {w : World} {base : Nat} {spare : Nat → Bool} {held : Bool} {t : TypeId} {f0 f1 f2 f3 f4 f5 f6 f7 : Field} {fuel : Nat} {cs : List Value} {x : DataW H × List MemPlace} (ht : P.underlying t = some (.struct #[f0, f1, f2, f3, f4, f5, f6, f7])) (h : DataW.trod enc P w base spare held fuel t cs = some x) :
    ∃ y0 y1 y2 y3 y4 y5 y6 y7 n, x.1 = .agg [y0.1, y1.1, y2.1, y3.1, y4.1, y5.1, y6.1, y7.1] ∧ cs.length = P.cellsOf t ∧ DataW.trod enc P w base spare held n f0.type ((cs.drop f0.offset).take (P.cellsOf f0.type)) = some y0 ∧ DataW.trod enc P w base spare held n f1.type ((cs.drop f1.offset).take (P.cellsOf f1.type)) = some y1 ∧ DataW.trod enc P w base spare held n f2.type ((cs.drop f2.offset).take (P.cellsOf f2.type)) = some y2 ∧ DataW.trod enc P w base spare held n f3.type ((cs.drop f3.offset).take (P.cellsOf f3.type)) = some y3 ∧ DataW.trod enc P w base spare held n f4.type ((cs.drop f4.offset).take (P.cellsOf f4.type)) = some y4 ∧ DataW.trod enc P w base spare held n f5.type ((cs.drop f5.offset).take (P.cellsOf f5.type)) = some y5 ∧ DataW.trod enc P w base spare held n f6.type ((cs.drop f6.offset).take (P.cellsOf f6.type)) = some y6 ∧ DataW.trod enc P w base spare held n f7.type ((cs.drop f7.offset).take (P.cellsOf f7.type)) = some y7 := by
  obtain ⟨xs, n, _, rfl, hl, hlen, hf⟩ := DataW.trod_struct ht h
  match xs, hlen with
  | [y0, y1, y2, y3, y4, y5, y6, y7], _ => exact ⟨y0, y1, y2, y3, y4, y5, y6, y7, n, by simp, hl, by simpa using hf 0 f0 rfl, by simpa using hf 1 f1 rfl, by simpa using hf 2 f2 rfl, by simpa using hf 3 f3 rfl, by simpa using hf 4 f4 rfl, by simpa using hf 5 f5 rfl, by simpa using hf 6 f6 rfl, by simpa using hf 7 f7 rfl⟩

/-- A step that came in. -/
theorem sop_open {H : Type} {enc : TypeId × Value → H} {w : World} {n : Nat} {cs : List Value} {d : DataW H} {ps : List MemPlace} {a : Addr}
    (hc : w.cells? 0 a (Tryz.prog.cellsOf 61) = some cs) (h : DataW.trod enc Tryz.prog w 0 (fun _ => true) true n 61 cs = some (d, ps)) (hw : ∀ n ∈ d.weights Tryz.prog 61, n ≤ reachBytes) :
    ∃ o : SOp, w.cell? (a.add 0) = some (.int .i64 o.k) ∧ w.cell? (a.add 1) = some (.int .i64 o.a) ∧ w.cell? (a.add 2) = some (.int .i64 o.b) ∧ w.cell? (a.add 3) = some (.int .i64 o.c) ∧ w.cell? (a.add 4) = some (.string o.s) ∧ w.cell? (a.add 5) = some (.string o.t) ∧ w.cell? (a.add 6) = some o.vl ∧ w.cell? (a.add 7) = some o.vm ∧ SOpOk w.heap.size w o := by
  obtain ⟨_, hl, hcell⟩ := World.cells?_some hc
  obtain ⟨y0, y1, y2, y3, y4, y5, y6, y7, m, hd, _, h0, h1, h2, h3, h4, h5, h6, h7⟩ := trod_struct8 Tryz.underlying61 h
  rw [Tryz.cellsLop] at hl hcell
  match cs, hl with
  | [c0, c1, c2, c3, c4, c5, c6, c7], _ =>
    simp only [Tryz.cellsIntO, Tryz.cellsStrO, Tryz.cellsOpsO, List.drop_zero, List.drop_succ_cons, List.take_succ_cons, List.take_zero] at h0 h1 h2 h3 h4 h5 h6 h7
    obtain ⟨z0, e0, x0, g0⟩ := DataW.trod_int Tryz.underlying3 h0
    obtain ⟨z1, e1, x1, g1⟩ := DataW.trod_int Tryz.underlying3 h1
    obtain ⟨z2, e2, x2, g2⟩ := DataW.trod_int Tryz.underlying3 h2
    obtain ⟨z3, e3, x3, g3⟩ := DataW.trod_int Tryz.underlying3 h3
    obtain ⟨s4, e4, x4, g4⟩ := DataW.trod_string Tryz.underlying9 h4
    obtain ⟨s5, e5, x5, g5⟩ := DataW.trod_string Tryz.underlying9 h5
    simp only [List.cons.injEq, and_true] at e0 e1 e2 e3 e4 e5
    subst e0 e1 e2 e3 e4 e5
    replace hd : d = .agg [y0.1, y1.1, y2.1, y3.1, y4.1, y5.1, y6.1, y7.1] := hd
    have hws : ∀ n, (n ∈ y4.1.weights Tryz.prog 9 ∨ n ∈ y5.1.weights Tryz.prog 9 ∨ n ∈ y6.1.weights Tryz.prog 59 ∨ n ∈ y7.1.weights Tryz.prog 59) → n ≤ reachBytes := by
      intro n hn
      apply hw
      rw [hd]
      simp only [DataW.weights, Tryz.underlying61, DataW.weightsEach, List.map_cons, List.map_nil, List.mem_append]
      rcases hn with hn | hn | hn | hn <;> simp [hn]
    obtain ⟨p6, v6, l6, b6⟩ := ops_open (d := y6.1) (ps := y6.2) h6 (fun n hn => hws n (.inr (.inr (.inl hn))))
    obtain ⟨p7, v7, l7, b7⟩ := ops_open (d := y7.1) (ps := y7.2) h7 (fun n hn => hws n (.inr (.inr (.inr hn))))
    have q4 : s4.size ≤ 140737488351232 := by simpa [reachBytes] using hws s4.size (.inl (by rw [x4]; simp [DataW.weights]))
    have q5 : s5.size ≤ 140737488351232 := by simpa [reachBytes] using hws s5.size (.inr (.inl (by rw [x5]; simp [DataW.weights])))
    refine ⟨⟨z0, z1, z2, z3, s4, s5, c6, c7, p6, p7⟩, by simpa using hcell 0 (by omega), by simpa using hcell 1 (by omega), by simpa using hcell 2 (by omega), by simpa using hcell 3 (by omega), by simpa using hcell 4 (by omega), by simpa using hcell 5 (by omega), by simpa using hcell 6 (by omega), by simpa using hcell 7 (by omega), ?_⟩
    exact ⟨wf_rangeO g0, wf_rangeO g1, wf_rangeO g2, wf_rangeO g3, ⟨by show s4.size ≤ _; omega, by show s5.size ≤ _; omega, l6, l7, v6, v7, fun o ho => (b6 o ho).2.1.2, fun o ho => by have := (b6 o ho).2.2; omega⟩,
      fun p hp => (List.mem_append.1 hp).elim (b6 p) (b7 p)⟩

/-- A script that came in. -/
theorem script_open {H : Type} {enc : TypeId × Value → H} {w : World} {v : Value} {d : DataW H} {ps : List MemPlace} {ao : Option Addr} {len cap : Nat} (hv : v = .slice ao len cap)
    (h : DataW.Trod enc Tryz.prog w 0 (fun _ => true) true 22 v d ps) (hw : ∀ n ∈ d.weights Tryz.prog 22, n ≤ reachBytes) :
    ∃ L : List SOp, L.length = len ∧ len ≤ 1256600000000 ∧ Script w ao L ∧ ∀ o ∈ L, SOpOk w.heap.size w o := by
  subst hv
  obtain ⟨fuel, h⟩ := h
  rcases Deep.open_slice Tryz.underlying22 h with ⟨hcs, hx⟩ | ⟨a, len', cap', m, k, D, Pl, hcs, _, hl, hm, hmm, hx, hel⟩
  · simp [Value.cells] at hcs
    exact ⟨[], by simp [hcs.2.1], by omega, .inl rfl, by simp⟩
  · simp [Value.cells] at hcs
    obtain ⟨rfl, rfl, rfl⟩ := hcs
    simp only [if_true] at hmm
    subst hmm
    simp only [Prod.mk.injEq] at hx
    obtain ⟨rfl, _⟩ := hx
    have hlen : len * 112 ≤ 140737488351232 := by
      have := hw (((List.range len).map D).length + ((List.range (m - len)).map fun j => D (len + j)).length |> (· * Tryz.prog.bytesOf 61)) (by simp only [DataW.weights, Tryz.underlying22]; exact List.mem_cons_self)
      rw [Tryz.bytesLop] at this
      simp only [List.length_map, List.length_range, reachBytes] at this
      omega
    by_cases hl0 : len = 0
    · exact ⟨[], by simp [hl0], by omega, .inl rfl, by simp⟩
    · have hall : ∀ i, i < len → ∃ o : SOp, w.cell? (a.add (i * 8)) = some (.int .i64 o.k) ∧ w.cell? (a.add (i * 8 + 1)) = some (.int .i64 o.a) ∧ w.cell? (a.add (i * 8 + 2)) = some (.int .i64 o.b) ∧ w.cell? (a.add (i * 8 + 3)) = some (.int .i64 o.c) ∧ w.cell? (a.add (i * 8 + 4)) = some (.string o.s) ∧ w.cell? (a.add (i * 8 + 5)) = some (.string o.t) ∧ w.cell? (a.add (i * 8 + 6)) = some o.vl ∧ w.cell? (a.add (i * 8 + 7)) = some o.vm ∧ SOpOk w.heap.size w o := by
        intro i hi
        obtain ⟨cs', hc, ht⟩ := hel i (by omega)
        obtain ⟨o, k0, k1, k2, k3, k4, k5, k6, k7, r⟩ := sop_open hc ht (fun n hn => hw n (by
          simp only [DataW.weights, Tryz.underlying22]
          exact List.mem_cons_of_mem _ (List.mem_append.2 (.inl (weightsAll_mem (d := D i) (List.mem_map.2 ⟨i, List.mem_range.2 hi, rfl⟩) _ hn)))))
        rw [Tryz.cellsLop, Deep.add_add] at k0 k1 k2 k3 k4 k5 k6 k7
        exact ⟨o, by simpa using k0, k1, k2, k3, k4, k5, k6, k7, r⟩
      haveI : Inhabited SOp := ⟨⟨0, 0, 0, 0, ByteArray.empty, ByteArray.empty, .bool true, .bool true, [], []⟩⟩
      obtain ⟨f, hf⟩ := Deep.choose_lt hall
      have hbl : a.block < w.heap.size := by
        obtain ⟨cs', hc, _⟩ := hel 0 (by omega)
        have := World.cells?_block hc (by rw [Tryz.cellsLop]; omega)
        simpa [Addr.add] using this
      obtain ⟨b, off, spot⟩ := a
      have hspot : spot = none := by simpa [Addr.add] using World.cell?_spot (hf 0 (by omega)).1
      subst hspot
      have hlx : ((List.range len).map f).length = len := by simp
      refine ⟨(List.range len).map f, hlx, by omega, .inr ⟨b, off, rfl, hbl, ?_⟩, ?_⟩
      · intro i o ho
        have hi : i < len := by have := (List.getElem?_eq_some_iff.1 ho).1; simpa using this
        have hfo : f i = o := by simpa [hi] using ho
        obtain ⟨k0, k1, k2, k3, k4, k5, k6, k7, r⟩ := hf i hi
        rw [add_plain] at k0 k1 k2 k3 k4 k5 k6 k7
        rw [hfo] at k0 k1 k2 k3 k4 k5 k6 k7 r
        exact ⟨k0, by simpa [Nat.add_assoc] using k1, by simpa [Nat.add_assoc] using k2, by simpa [Nat.add_assoc] using k3, by simpa [Nat.add_assoc] using k4, by simpa [Nat.add_assoc] using k5, by simpa [Nat.add_assoc] using k6, by simpa [Nat.add_assoc] using k7, r.raw⟩
      · intro o ho
        obtain ⟨i, hi, rfl⟩ := List.mem_map.1 ho
        exact (hf i (List.mem_range.1 hi)).2.2.2.2.2.2.2.2
end Go.Proofs.YtabpiaaknjcnkaaGreat
