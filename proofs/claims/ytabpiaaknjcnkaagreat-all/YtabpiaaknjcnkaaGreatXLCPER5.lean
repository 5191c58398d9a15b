/- The texts LC, PE, R5, one behind the other. -/
import Derived.Test.YtabpiaaknjcnkaaGreatXR4L7L8P4S1S2L9LBLP
import Derived.Test.YtabpiaaknjcnkaaGreatR8
import Derived.LoopTactic
import Derived.Test.YtabpiaaknjcnkaaGreatXC1C2
import Derived.Test.YtabpiaaknjcnkaaGreatXC3E1
/-
  A step of Decode.
-/
namespace Go.Proofs.YtabpiaaknjcnkaaGreat
open Go.RowKit
set_option linter.unusedVariables false
set_option linter.unusedSimpArgs false
set_option maxRecDepth 100000

theorem decGo_length {s : ByteArray} : ∀ (r : Nat) (out : List DOp) (total at_ : Nat) {res : List DOp} {nx : Nat}, decGo s r out total at_ = .inr (res, nx) → res.length = out.length + r
  | 0, out, total, at_, res, nx, h => by
    rw [decGo] at h
    injection h with h
    injection h with h1 h2
    rw [← h1]; rfl
  | r + 1, out, total, at_, res, nx, h => by
    rw [decGo] at h
    split at h
    · cases h
    · have := decGo_length r _ _ _ h
      simp at this
      omega
theorem decL_length (s : ByteArray) : (decL s).length ≤ 200 := by
  unfold decL
  split
  · simp
  · rename_i out h
    unfold decF at h
    split at h
    · cases h
    · split at h
      · cases h
      · split at h
        · cases h
        · rename_i o2 at' hd
          split at h
          · cases h
          · injection h with h
            have := decGo_length _ _ _ _ hd
            simp at this
            subst h
            omega

end Go.Proofs.YtabpiaaknjcnkaaGreat

/-
  Plain facts: what two deltas in one make; three in whatever order.
-/
namespace Go.Proofs.YtabpiaaknjcnkaaGreat
set_option linter.unusedVariables false
set_option linter.unusedSimpArgs false

/-- Each may stand behind the one ahead. -/
def Chained : Option DOp → List DOp → Prop
  | _, [] => True
  | p, o :: r => behind p o = true ∧ Chained (some o) r
theorem chained_append {p : Option DOp} {xs ys : List DOp} : Chained p (xs ++ ys) ↔ Chained p xs ∧ Chained (match xs.getLast? with | some l => some l | none => p) ys := by
  induction xs generalizing p with
  | nil => simp [Chained]
  | cons a r ih =>
    simp only [List.cons_append, Chained, ih, and_assoc]
    cases r with
    | nil => simp
    | cons b s =>
      obtain ⟨l, hl⟩ : ∃ l, (b :: s).getLast? = some l := ⟨(b :: s).getLast (by simp), List.getLast?_eq_some_getLast (by simp)⟩
      simp [List.getLast?_cons_cons, hl]
theorem isOp_of {o : DOp} {b : Int} (h : Nice o) (hb : 0 < o.len → o.fr + o.len ≤ b) : isOpB o.fr o.len o.tx b = true := by
  unfold isOpB
  rcases h with ⟨h1, h2, h3⟩ | ⟨h1, h2, h3⟩
  · have := hb h1
    rw [if_pos h1]
    simp only [Bool.and_eq_true, decide_eq_true_eq, isEmpty_iff]
    exact ⟨⟨h2, h3⟩, by omega⟩
  · rw [if_neg (by omega), h1, h2]
    have : o.tx.toList.isEmpty = false := by
      cases hb : o.tx.toList.isEmpty
      · rfl
      · have := (isEmpty_iff _).1 hb; omega
    simp [this]

theorem behind_merge {p : Option DOp} {l o : DOp} (hl : Nice l) (ho : Nice o) (h : behind p l = true) (hf : followB l.fr l.len o.fr o.len = false) : behind p ⟨l.fr, l.len + o.len, l.tx ++ o.tx⟩ = true := by
  cases p with
  | none => rfl
  | some q =>
    have hfo := nice_follow hl ho
    simp only [behind] at h ⊢
    have e : decide (0 < l.len + o.len) = decide (0 < l.len) := by
      rcases ho with ⟨h1, h2, h3⟩ | ⟨h1, h2, h3⟩
      · have := (hfo.1 h1).1 hf
        rw [decide_eq_true (by omega), decide_eq_true this.1]
      · have := (hfo.2 h1).1 hf
        rw [h1, this]; rfl
    unfold followB at h ⊢
    rw [e]; exact h
theorem joinP_chained (out : List DOp) (o : DOp) (hout : ∀ p ∈ out, Nice p) (hc : Chained none out) (ho : Nice o) : Chained none (joinP out o) := by
  rcases List.eq_nil_or_concat out with rfl | ⟨xs, l, rfl⟩
  · rw [joinP_nil]; exact ⟨rfl, trivial⟩
  · have hl : Nice l := hout l (by simp)
    rw [List.concat_eq_append] at *
    rw [joinP_snoc]
    obtain ⟨h1, h2⟩ := chained_append.1 hc
    split
    · rename_i hf
      rw [chained_append]
      exact ⟨hc, by simp [Chained, behind, hf]⟩
    · rename_i hf
      rw [chained_append]
      exact ⟨h1, behind_merge hl ho h2.1 (by simpa using hf), trivial⟩
theorem joinP_id (out : List DOp) (o : DOp) (h : Chained none (out ++ [o])) : joinP out o = out ++ [o] := by
  rcases List.eq_nil_or_concat out with rfl | ⟨xs, l, rfl⟩
  · rfl
  · rw [List.concat_eq_append] at *
    obtain ⟨h1, h2⟩ := chained_append.1 h
    have hf : followB l.fr l.len o.fr o.len = true := by simpa [Chained, behind] using h2
    rw [joinP_snoc, if_pos hf]
theorem joins_id (ops acc : List DOp) (h : Chained none (acc ++ ops)) : ops.foldl joinP acc = acc ++ ops := by
  induction ops generalizing acc with
  | nil => simp
  | cons o r ih =>
    have h' : Chained none ((acc ++ [o]) ++ r) := by simpa using h
    rw [List.foldl_cons, joinP_id acc o (chained_append.1 h').1, ih _ h']
    simp
/-- A delta is told by its bytes. -/
theorem told {xs ys : List DOp} (hx : ∀ o ∈ xs, Nice o) (hy : ∀ o ∈ ys, Nice o) (cx : Chained none xs) (cy : Chained none ys) (h : cellsL xs = cellsL ys) : xs = ys := by
  have h1 := (cells_joins xs [] (by simp) hx).1
  have h2 := (cells_joins ys [] (by simp) hy).1
  rw [h] at h1
  rw [joins_id xs [] (by simpa using cx)] at h1
  rw [joins_id ys [] (by simpa using cy)] at h2
  simpa using h1.symm.trans h2

theorem cells_of_join (out : List DOp) (o : DOp) (hout : ∀ p ∈ out, Nice p) (ho : Nice o) : cellsL (joinP out o) = cellsL out ++ cellsOp o := by
  rcases List.eq_nil_or_concat out with rfl | ⟨xs, l, rfl⟩
  · rw [joinP_nil]; simp [cellsL]
  · have hl : Nice l := hout l (by simp)
    rw [List.concat_eq_append] at *
    rw [joinP_snoc]
    have hfo := nice_follow hl ho
    split
    · rw [cellsL_append]; simp [cellsL]
    · rename_i hf
      have hf : followB l.fr l.len o.fr o.len = false := by simpa using hf
      rw [cellsL_append, cellsL_append, List.append_assoc]
      congr 1
      simp only [cellsL, List.flatMap_cons, List.flatMap_nil, List.append_nil]
      rcases ho with ⟨h1, h2, h3⟩ | ⟨h1, h2, h3⟩
      · obtain ⟨g1, g2⟩ := (hfo.1 h1).1 hf
        obtain ⟨lf, ll, lt⟩ := l
        obtain ⟨f, n, t⟩ := o
        simp only at h1 h2 h3 g1 g2
        have hlt : lt = ⟨#[]⟩ := by rcases hl with ⟨_, _, h⟩ | ⟨h, _, _⟩; exact tx_empty h; simp only at h; omega
        subst hlt
        have ht := tx_empty h3
        subst ht
        simp only [cellsOp]
        rw [show (ll + n).toNat = ll.toNat + n.toNat by omega, List.range_add]
        simp [app_bytes, ByteArray.data_append]
        intro a _
        omega
      · have g := (hfo.2 h1).1 hf
        obtain ⟨lf, ll, lt⟩ := l
        obtain ⟨f, n, t⟩ := o
        simp only at h1 h2 h3 g
        subst h1 g
        simp [cellsOp, app_bytes]
theorem cells_of_joins (ops out : List DOp) (hout : ∀ p ∈ out, Nice p) (hc : Chained none out) (ho : ∀ o ∈ ops, Nice o) : cellsL (ops.foldl joinP out) = cellsL out ++ cellsL ops ∧ Chained none (ops.foldl joinP out) := by
  induction ops generalizing out with
  | nil => simp [cellsL, hc]
  | cons o r ih =>
    have h := ih (joinP out o) (joinP_nice out o hout (ho o (by simp))) (joinP_chained out o hout hc (ho o (by simp))) (fun q hq => ho q (by simp [hq]))
    rw [List.foldl_cons, h.1, cells_of_join out o hout (ho o (by simp)), cellsL_cons]
    exact ⟨by simp, h.2⟩

/-- What the one delta of two says, byte by byte. -/
theorem comp_cells_go {first : List DOp} (h : ∀ o ∈ first, Nice o) (second : List DOp) (hs : ∀ o ∈ second, Nice o ∧ (0 < o.len → o.fr + o.len ≤ (cellsL first).length)) (acc : List DOp) (hacc : ∀ p ∈ acc, Nice p) (hc : Chained none acc) :
    cellsL (second.foldl (compStep first) acc) = cellsL acc ++ (cellsL second).map (subC (cellsL first)) ∧ Chained none (second.foldl (compStep first) acc) := by
  induction second generalizing acc with
  | nil => simp [cellsL, hc]
  | cons o r ih =>
    obtain ⟨ps, e1, e2, e3⟩ := sub_op h (hs o (by simp)).1 (hs o (by simp)).2
    obtain ⟨c1, c2⟩ := cells_joins ps acc hacc e2
    obtain ⟨d1, d2⟩ := cells_of_joins ps acc hacc hc e2
    have := ih (fun q hq => hs q (by simp [hq])) (ps.foldl joinP acc) c2 d2
    rw [List.foldl_cons, e3, this.1, d1, cellsL_cons, List.map_append, e1]
    exact ⟨by simp, this.2⟩
theorem comp_cells {first second : List DOp} (h : ∀ o ∈ first, Nice o) (hs : ∀ o ∈ second, Nice o ∧ (0 < o.len → o.fr + o.len ≤ (cellsL first).length)) :
    cellsL (compOps first second) = (cellsL second).map (subC (cellsL first)) ∧ Chained none (compOps first second) ∧ ∀ p ∈ compOps first second, Nice p := by
  have h1 := comp_cells_go h second hs [] (by simp) trivial
  refine ⟨?_, h1.2, (comp_eq h hs).2⟩
  have := h1.1
  rwa [show cellsL [] = [] from rfl, List.nil_append] at this

def evalC (B : List UInt8) (c : Cl) : UInt8 := if 0 ≤ c.1 then B.getD c.1.toNat 0 else c.2
theorem opBytes_cells {B : List UInt8} {o : DOp} (h : Nice o) (hb : 0 < o.len → o.fr + o.len ≤ B.length) : opBytes B o = (cellsOp o).map (evalC B) := by
  unfold opBytes
  rcases h with ⟨h1, h2, h3⟩ | ⟨h1, h2, h3⟩
  · have := hb h1
    rw [if_pos h1]
    obtain ⟨f, n, t⟩ := o
    simp only at *
    have ht := tx_empty h3
    subst ht
    simp only [cellsOp, List.map_nil, List.append_nil, List.map_map]
    apply List.ext_getElem?
    intro i
    simp only [List.getElem?_take, List.getElem?_drop, List.getElem?_map]
    by_cases hi : i < n.toNat
    · rw [if_pos hi, List.getElem?_range hi]
      simp only [Option.map_some, Function.comp, evalC]
      rw [if_pos (by omega), show (f + (i : Int)).toNat = f.toNat + i by omega, List.getD_eq_getElem?_getD, List.getElem?_eq_getElem (by omega)]
      rfl
    · rw [if_neg hi, List.getElem?_eq_none (by simp; omega)]; rfl
  · rw [if_neg (by omega)]
    unfold cellsOp
    rw [h1]
    simp only [Int.toNat_zero, List.range_zero, List.map_nil, List.nil_append, List.map_map]
    conv => lhs; rw [← List.map_id o.tx.data.toList]
    apply List.map_congr_left
    intro c _
    simp [evalC]
theorem madeL_cells {B : List UInt8} {xs : List DOp} (h : ∀ o ∈ xs, Nice o ∧ (0 < o.len → o.fr + o.len ≤ B.length)) : madeL B xs = (cellsL xs).map (evalC B) := by
  induction xs with
  | nil => rfl
  | cons o r ih =>
    have h1 := opBytes_cells (h o (by simp)).1 (h o (by simp)).2
    have h2 := ih (fun q hq => h q (by simp [hq]))
    rw [cellsL_cons, List.map_append, ← h2, ← h1]
    simp [madeL]
/-- Every byte is of the base, below its end, or of a text. -/
theorem cells_range {xs : List DOp} {b : Int} (h : ∀ o ∈ xs, Nice o ∧ (0 < o.len → o.fr + o.len ≤ b)) : ∀ c ∈ cellsL xs, c.1 < b ∨ c.1 = -1 := by
  intro c hc
  obtain ⟨o, ho, hc⟩ := List.mem_flatMap.1 hc
  obtain ⟨h1, h2⟩ := h o ho
  unfold cellsOp at hc
  rcases List.mem_append.1 hc with hc | hc
  · obtain ⟨k, hk, rfl⟩ := List.mem_map.1 hc
    have := List.mem_range.1 hk
    left; simp only; have := h2 (by omega); omega
  · obtain ⟨k, hk, rfl⟩ := List.mem_map.1 hc
    exact .inr rfl
theorem range_cells {xs : List DOp} {b : Int} (h : ∀ o ∈ xs, Nice o) (hc : ∀ c ∈ cellsL xs, c.1 < b ∨ c.1 = -1) : ∀ o ∈ xs, Nice o ∧ (0 < o.len → o.fr + o.len ≤ b) := by
  intro o ho
  refine ⟨h o ho, fun hl => ?_⟩
  have hf : 0 ≤ o.fr := by rcases h o ho with ⟨_, h, _⟩ | ⟨h, _, _⟩ <;> omega
  have := hc (o.fr + ((o.len.toNat - 1 : Nat) : Int), 0) (List.mem_flatMap.2 ⟨o, ho, List.mem_append.2 (.inl (List.mem_map.2 ⟨o.len.toNat - 1, List.mem_range.2 (by omega), rfl⟩))⟩)
  simp only at this
  omega
theorem sub_range {A : List Cl} {b : Int} (hA : ∀ c ∈ A, c.1 < b ∨ c.1 = -1) (hb : 0 ≤ b) {X : List Cl} : (∀ c ∈ X, c.1 < A.length ∨ c.1 = -1) → ∀ c ∈ X.map (subC A), c.1 < b ∨ c.1 = -1 := by
  intro h c hc
  obtain ⟨x, hx, rfl⟩ := List.mem_map.1 hc
  unfold subC
  split
  · rcases h x hx with h | h
    · rw [List.getD_eq_getElem?_getD, List.getElem?_eq_getElem (by omega)]
      exact hA _ (List.getElem_mem _)
    · omega
  · rcases h x hx with h | h
    · left; omega
    · exact .inr h
theorem subC_at {A : List Cl} {c : Cl} (h : 0 ≤ c.1) (hlt : c.1.toNat < A.length) : subC A c = A[c.1.toNat] := by
  rw [subC, if_pos h, List.getD_eq_getElem?_getD, List.getElem?_eq_getElem hlt]; rfl
theorem subC_tx {A : List Cl} {c : Cl} (h : ¬ 0 ≤ c.1) : subC A c = c := by rw [subC, if_neg h]
theorem evalC_at {A : List UInt8} {c : Cl} (h : 0 ≤ c.1) (hlt : c.1.toNat < A.length) : evalC A c = A[c.1.toNat] := by
  rw [evalC, if_pos h, List.getD_eq_getElem?_getD, List.getElem?_eq_getElem hlt]; rfl
theorem evalC_tx {A : List UInt8} {c : Cl} (h : ¬ 0 ≤ c.1) : evalC A c = c.2 := by rw [evalC, if_neg h]
theorem eval_sub {A C : List Cl} {B : List UInt8} (hC : ∀ c ∈ C, c.1 < A.length ∨ c.1 = -1) : (C.map (subC A)).map (evalC B) = C.map (evalC (A.map (evalC B))) := by
  rw [List.map_map]
  apply List.map_congr_left
  intro c hc
  show evalC B (subC A c) = evalC (A.map (evalC B)) c
  by_cases h : 0 ≤ c.1
  · have hlt : c.1.toNat < A.length := by rcases hC c hc with h' | h' <;> omega
    rw [subC_at h hlt, evalC_at h (by simpa using hlt), List.getElem_map]
  · rw [subC_tx h, evalC_tx h, evalC_tx h]

/-- A delta of a base that makes so many bytes. -/
structure Makes (xs : List DOp) (b n : Int) : Prop where
  each : ∀ o ∈ xs, Nice o ∧ (0 < o.len → o.fr + o.len ≤ b)
  chain : Chained none xs
  len : ((cellsL xs).length : Int) = n
theorem Makes.nice {xs : List DOp} {b n : Int} (h : Makes xs b n) : ∀ o ∈ xs, Nice o := fun o ho => (h.each o ho).1
theorem Makes.sum {xs : List DOp} {b n : Int} (h : Makes xs b n) : sumI xs = n := by rw [← cellsL_length h.nice]; exact h.len
theorem Makes.count {xs : List DOp} {b n : Int} (h : Makes xs b n) : (xs.length : Int) ≤ n := by
  have hn := h.nice
  have : (xs.length : Int) ≤ sumI xs := by
    clear h
    induction xs with
    | nil => simp [sumI]
    | cons a r ih =>
      have h1 := (hn a (by simp)).size.2
      have h2 := ih (fun p hp => hn p (by simp [hp]))
      simp only [List.length_cons, sumI]; omega
  rw [h.sum] at this; exact this
/-- The one delta of two. -/
theorem Makes.comp {xs ys : List DOp} {b n m : Int} (hx : Makes xs b n) (hy : Makes ys n m) (hb : 0 ≤ b) : Makes (compOps xs ys) b m ∧ cellsL (compOps xs ys) = (cellsL ys).map (subC (cellsL xs)) := by
  obtain ⟨h1, h2, h3⟩ := comp_cells hx.nice (second := ys) (fun o ho => ⟨(hy.each o ho).1, fun hl => by rw [hx.len]; exact (hy.each o ho).2 hl⟩)
  refine ⟨⟨range_cells h3 ?_, h2, by rw [h1, List.length_map]; exact hy.len⟩, h1⟩
  rw [h1]
  refine sub_range (cells_range hx.each) hb ?_
  intro c hc
  have := cells_range hy.each c hc
  rw [hx.len]; exact this
theorem Makes.made {xs ys : List DOp} {B : List UInt8} {n m : Int} (hx : Makes xs B.length n) (hy : Makes ys n m) : madeL B (compOps xs ys) = madeL (madeL B xs) ys := by
  obtain ⟨a1, a2⟩ := hx.comp hy (by omega)
  rw [madeL_cells a1.each, a2, eval_sub (by intro c hc; have := cells_range hy.each c hc; rw [hx.len]; exact this), ← madeL_cells hx.each]
  refine (madeL_cells ?_).symm
  intro o ho
  refine ⟨(hy.each o ho).1, fun hl => ?_⟩
  have := (hy.each o ho).2 hl
  have hlen : ((madeL B xs).length : Int) = n := by rw [madeL_cells hx.each, List.length_map]; exact hx.len
  omega
/-- One that copies all changes nothing. -/
theorem all_makes {n : Nat} (hn : 0 < n) : Makes [⟨0, n, ⟨#[]⟩⟩] n n := by
  have hc : Nice ⟨0, n, ⟨#[]⟩⟩ := .inl ⟨by simp only; omega, by simp, rfl⟩
  refine ⟨fun o ho => ?_, ⟨rfl, trivial⟩, ?_⟩
  · rw [List.mem_singleton.1 ho]; exact ⟨hc, fun _ => by simp⟩
  · simp [cellsL, cellsOp]
theorem Makes.all {xs : List DOp} {n : Nat} {m : Int} (hx : Makes xs n m) (hn : 0 < n) : compOps [⟨0, n, ⟨#[]⟩⟩] xs = xs := by
  obtain ⟨a1, a2⟩ := (all_makes hn).comp hx (by omega)
  refine told a1.nice hx.nice a1.chain hx.chain ?_
  rw [a2]
  conv => rhs; rw [← List.map_id (cellsL xs)]
  apply List.map_congr_left
  intro c hc
  have hr := cells_range hx.each c hc
  by_cases h : 0 ≤ c.1
  · have hlt : c.1.toNat < n := by omega
    rw [subC_at h (by simp [cellsL, cellsOp]; omega)]
    have hz : c.2 = 0 := by
      obtain ⟨o, ho, hc'⟩ := List.mem_flatMap.1 hc
      unfold cellsOp at hc'
      rcases List.mem_append.1 hc' with hc' | hc'
      · obtain ⟨k, _, rfl⟩ := List.mem_map.1 hc'; rfl
      · obtain ⟨k, _, rfl⟩ := List.mem_map.1 hc'; simp at h
    simp [cellsL, cellsOp]
    obtain ⟨c1, c2⟩ := c
    simp only at *
    rw [hz, show max c1 0 = c1 by omega]
  · rw [subC_tx h]; rfl
end Go.Proofs.YtabpiaaknjcnkaaGreat

/-
  The walk over the document's cells.
-/
namespace Go.Proofs.YtabpiaaknjcnkaaGreat
open Go.RowKit
set_option linter.unusedVariables false
set_option linter.unusedSimpArgs false
set_option maxRecDepth 100000

theorem Tryz.infoCell : (Tryz.prog.info? 138).map (fun i => (i.zero, i.size, i.bytes)) = some (some (.agg #[.int .i64 0, .int .u8 0]), 2, 16) := by kernel_rfl
def clCells (xs : List Cl) : List Value := xs.flatMap fun c => [.int .i64 c.1, .int .u8 c.2.toNat]
theorem clCells_append (xs ys : List Cl) : clCells (xs ++ ys) = clCells xs ++ clCells ys := by simp [clCells]
def OwnCl (w : World) (base : Nat) (v : Value) (xs : List Cl) : Prop := w.ownsRow base 138 2 v xs.length (clCells xs)
theorem OwnCl.slice {w : World} {b : Nat} {v : Value} {bs : List Cl} (h : OwnCl w b v bs) : ∃ ao cap, v = .slice ao bs.length cap := by
  rcases h.2 with ⟨h, h0⟩ | ⟨g', cap', cur, h, _⟩
  · exact ⟨none, 0, by rw [h, h0]⟩
  · exact ⟨_, _, h⟩
theorem OwnCl.kept {w w1 : World} {base : Nat} {v : Value} {bs : List Cl} (h : OwnCl w base v bs) (hb : Below w.heap.size w w1) : OwnCl w1 base v bs := row_kept h hb
theorem cl_new (w : World) (z : Int) (c : Int) (d : UInt8) (h : c = d.toNat) : ∀ j u, (clCells [(z, d)])[j]? = some u → (w.alloc (.cells #[.int .i64 z, .int .u8 c] 138)).cell? ((⟨w.heap.size, 0, none⟩ : Addr).add j) = some u := by
  intro j u hu
  match j, hu with
  | 0, hu => simp [clCells] at hu; subst hu; simp [Addr.add]
  | 1, hu => simp [clCells] at hu; subst hu; simp [Addr.add, h]
  | n + 2, hu => simp [clCells] at hu
theorem cl_one (z : Int) (d : UInt8) : ∀ u ∈ clCells [(z, d)], u.oneCell' = true := by
  intro u hu
  simp [clCells] at hu
  rcases hu with rfl | rfl <;> rfl
theorem cl_cells {w : World} {base : Nat} {v : Value} {xs : List Cl} (h : OwnCl w base v xs) {i : Nat} {c : Cl} (hi : xs[i]? = some c) : ∃ g cap, v = .slice (some ⟨g, 0, none⟩) xs.length cap ∧ g < w.heap.size ∧ w.cell? ⟨g, i * 2, none⟩ = some (.int .i64 c.1) ∧ w.cell? ⟨g, i * 2 + 1, none⟩ = some (.int .u8 c.2.toNat) := by
  have hlt := (List.getElem?_eq_some_iff.1 hi).1
  rcases h.2 with ⟨_, h0⟩ | ⟨g, cap, cur, hv, _, hbk, h1, h2, h3, h4⟩
  · omega
  · refine ⟨g, cap, hv, row_own_lt h (by rw [hv]; rfl), ?_⟩
    have hget : ∀ (ys : List Cl) (k : Nat) (d : Cl), ys[k]? = some d → (clCells ys)[k * 2]? = some (.int .i64 d.1) ∧ (clCells ys)[k * 2 + 1]? = some (.int .u8 d.2.toNat) := by
      intro ys
      induction ys with
      | nil => intro k d hd; simp at hd
      | cons a r ih =>
        intro k d hd
        cases k with
        | zero => simp at hd; subst hd; simp [clCells]
        | succ k =>
          simp only [List.getElem?_cons_succ] at hd
          obtain ⟨e1, e2⟩ := ih k d hd
          have e : clCells (a :: r) = .int .i64 a.1 :: .int .u8 a.2.toNat :: clCells r := by simp [clCells]
          rw [e, show (k + 1) * 2 = k * 2 + 1 + 1 by omega, show k * 2 + 1 + 1 + 1 = (k * 2 + 1) + 1 + 1 by omega]
          simp only [List.getElem?_cons_succ]
          exact ⟨e1, e2⟩
    obtain ⟨e1, e2⟩ := hget xs i c hi
    have hc : ∀ j, j < xs.length * 2 → w.cell? ⟨g, j, none⟩ = (clCells xs)[j]? := by
      intro j hj
      rw [Lib.cell_of_heap hbk, ← h4, List.getElem?_take_of_lt hj, Array.getElem?_toList]
    exact ⟨(hc _ (by omega)).trans e1, (hc _ (by omega)).trans e2⟩

set_option maxHeartbeats 4000000 in
theorem rcells_two (b off cap : Nat) (xs : List DOp) (w : World) (hr : ReadsAt w b off xs) (hbw : b < w.heap.size) (hD : ∀ o ∈ xs, Nice o ∧ o.fr ≤ 2000 ∧ o.len ≤ 2000 ∧ o.tx.size ≤ 2000) (hl : xs.length ≤ 200) (hsum : sumI xs ≤ 2000) :
    Calls Tryz.prog 100 #[.slice (some ⟨b, off, none⟩) xs.length cap] w fun e w' => (∃ v, e = .returned v ∧ OwnCl w' w.heap.size v (cellsL xs)) ∧ Below w.heap.size w w' := by
  obtain ⟨i0, hi, hz0, hz1, hz2⟩ := info_parts Tryz.infoCell
  have HR : Hid (ReadsAt w b off xs) := hr
  have HD : Hid (∀ o ∈ xs, Nice o ∧ o.fr ≤ 2000 ∧ o.len ≤ 2000 ∧ o.tx.size ≤ 2000) := hD
  clear hr hD
  go_enter Tryz.func100, Tryz.ntmps100
  go_wp2
  go_loopw [3, 4] (fun v c wr => ∃ j : Nat, j ≤ xs.length ∧ c = .int .i64 j ∧ Hid (OwnCl wr w.heap.size v (cellsL (xs.take j))) ∧ Below w.heap.size w wr) (fun _ c _ => xs.length + 1 - (intOf c).toNat)
  case atStart => exact ⟨0, by omega, rfl, World.ownsRow_nil _ _ _ _, Below.refl _ _⟩
  case round =>
    obtain ⟨j, hj, rfl, HO, hb⟩ := hrel
    have hsz := hb.size
    by_cases hlt : j < xs.length
    · obtain ⟨⟨f, l, t⟩, ho⟩ : ∃ o, xs[j]? = some o := ⟨xs[j], by simp [hlt]⟩
      have hnice := HD.out _ (List.mem_of_getElem? ho)
      have HNx : Hid (cellsL (xs.take (j + 1)) = cellsL (xs.take j) ++ cellsOp ⟨f, l, t⟩) := by
        show _ = _
        rw [List.take_add_one, ho, cellsL_append]; simp [cellsL]
      have htot : (cellsL (xs.take j)).length + (cellsOp ⟨f, l, t⟩).length ≤ 2000 := by
        have h1 := cellsL_length (xs := xs.take (j + 1)) (fun o ho => (HD.out o (List.mem_of_mem_take ho)).1)
        have h2 := sumI_take_le xs (j + 1)
        rw [HNx.out, List.length_append] at h1
        omega
      have hco : (cellsOp ⟨f, l, t⟩).length = l.toNat + t.size := by unfold cellsOp; simp
      obtain ⟨hn, g1, g2, g3⟩ := hnice
      simp only at g1 g2 g3
      have h0 : 0 ≤ f ∧ 0 ≤ l := by rcases hn with ⟨a, b, _⟩ | ⟨a, b, _⟩ <;> simp only at a b <;> omega
      obtain ⟨hf0, hl0⟩ := h0
      obtain ⟨r0, r1, r2⟩ := HR.out j _ ho
      have HC : Hid (∀ W, Below w.heap.size w W → W.cell? ⟨b, off + j * 3, none⟩ = some (.int .i64 f) ∧ W.cell? ⟨b, off + j * 3 + 1, none⟩ = some (.int .i64 l) ∧ W.cell? ⟨b, off + j * 3 + 2, none⟩ = some (.string t)) := fun W hW =>
        ⟨(hW.cell (p := ⟨b, _, none⟩) hbw).trans r0, (hW.cell (p := ⟨b, _, none⟩) hbw).trans r1, (hW.cell (p := ⟨b, _, none⟩) hbw).trans r2⟩
      have HOp : Hid (cellsOp ⟨f, l, t⟩ = (List.range l.toNat).map (fun k : Nat => ((f + (k : Int), (0 : UInt8)) : Cl)) ++ t.data.toList.map fun c => (((-1 : Int), c) : Cl)) := rfl
      have q1 : (j : Int) < (xs.length : Int) := by omega
      have q2 : (0 : Int) ≤ (j : Int) := by omega
      rw [hco] at htot
      generalize hPP : cellsL (xs.take j) = P at *
      clear r0 r1 r2 ho hn hPP hco
      go_wp2
      go_loopw [3, 5] (fun v c wx => ∃ k : Nat, k ≤ l.toNat ∧ c = .int .i64 k ∧ Hid (OwnCl wx w.heap.size v (P ++ (List.range k).map (fun k : Nat => ((f + (k : Int), (0 : UInt8)) : Cl)))) ∧ Below w.heap.size w wx) (fun _ c _ => l.toNat + 1 - (intOf c).toNat)
      case atStart => exact ⟨0, by omega, rfl, by simpa [Hid] using HO.out, hb⟩
      case round =>
        obtain ⟨k, hk, rfl, HO1, hb1⟩ := hrel
        have hsz1 := hb1.size
        obtain ⟨c0, c1, c2⟩ := HC.out _ hb1
        by_cases hkl : k < l.toNat
        · have hkl' : (k : Int) < l := by omega
          have hlen1 : (P ++ (List.range k).map (fun k : Nat => ((f + (k : Int), (0 : UInt8)) : Cl))).length = P.length + k := by simp
          generalize hLL : (P ++ (List.range k).map (fun k : Nat => ((f + (k : Int), (0 : UInt8)) : Cl))) = L at *
          have HL : Hid (P ++ (List.range k).map (fun k : Nat => ((f + (k : Int), (0 : UInt8)) : Cl)) = L) := hLL
          clear hLL
          go_wp2_with (first | (at_builtin; refine wpList_append_own _ rfl _ _ 135 rfl w.heap.size 138 i0 (.agg #[.int .i64 0, .int .u8 0]) 2 16 Tryz.underlying135 hi hz0 hz1 hz2 rfl (by decide) _ _ _ rfl (HO1.out.alloc _) ⟨wr.heap.size, 0, none⟩ 1 1 (clCells [(f + (k : Int), 0)]) rfl rfl (cl_new _ _ _ _ rfl) (cl_one _ _) ?c3 ?c4 ?c5 ?_))
          case c3 => unfold maxLen; omega
          case c4 => omega
          case c5 => simp; omega
          intro v2 w2 ho2 hg2 _
          have HO2 : Hid (OwnCl w2 w.heap.size v2 (P ++ (List.range (k + 1)).map (fun k : Nat => ((f + (k : Int), (0 : UInt8)) : Cl)))) := by
            show OwnCl w2 w.heap.size v2 _
            rw [List.range_succ, List.map_append, ← List.append_assoc, HL.out]
            unfold OwnCl
            rw [clCells_append, List.length_append, hlen1]
            simpa [hlen1] using ho2
          have B2 : Below w.heap.size w w2 := (hb1.alloc (by omega) _).grown hg2 (by simp; omega) (fun k hk => row_own_ge HO1.out hk)
          clear ho2 hg2
          go_wp2
          go_roundw
          case rel => exact ⟨k + 1, by omega, by go_num, HO2, B2⟩
          case measure => simp [intOf]; omega
        · have hkl' : ¬ (k : Int) < l := by omega
          obtain rfl : k = l.toNat := by omega
          go_wp2
          go_loopw [3, 6] (fun v c wy => ∃ k : Nat, k ≤ t.size ∧ c = .int .i64 k ∧ Hid (OwnCl wy w.heap.size v (P ++ (List.range l.toNat).map (fun k : Nat => ((f + (k : Int), (0 : UInt8)) : Cl)) ++ (t.data.toList.take k).map fun c => (((-1 : Int), c) : Cl))) ∧ Below w.heap.size w wy) (fun _ c _ => t.size + 1 - (intOf c).toNat)
          case atStart => exact ⟨0, by omega, rfl, by simpa [Hid] using HO1.out, hb1⟩
          case round =>
            obtain ⟨k, hk2, rfl, HO3, hb3⟩ := hrel
            have hsz3 := hb3.size
            obtain ⟨d0, d1, d2⟩ := HC.out _ hb3
            by_cases hkt : k < t.size
            · have hlen3 : (P ++ (List.range l.toNat).map (fun k : Nat => ((f + (k : Int), (0 : UInt8)) : Cl)) ++ (t.data.toList.take k).map fun c => (((-1 : Int), c) : Cl)).length = P.length + l.toNat + k := by
                simp; omega
              generalize hLL : (P ++ (List.range l.toNat).map (fun k : Nat => ((f + (k : Int), (0 : UInt8)) : Cl)) ++ (t.data.toList.take k).map fun c => (((-1 : Int), c) : Cl)) = L at *
              have HL : Hid (P ++ (List.range l.toNat).map (fun k : Nat => ((f + (k : Int), (0 : UInt8)) : Cl)) ++ (t.data.toList.take k).map (fun c => (((-1 : Int), c) : Cl)) = L) := hLL
              have HT : Hid (t.data.toList.take (k + 1) = t.data.toList.take k ++ [t[k]]) := by show _ = _; rw [List.take_succ_eq_append_getElem (by simpa using hkt)]; rfl
              clear hLL
              go_wp2_with (first | (at_builtin; refine wpList_append_own _ rfl _ _ 135 rfl w.heap.size 138 i0 (.agg #[.int .i64 0, .int .u8 0]) 2 16 Tryz.underlying135 hi hz0 hz1 hz2 rfl (by decide) _ _ _ rfl (HO3.out.alloc _) ⟨wr.heap.size, 0, none⟩ 1 1 (clCells [(-1, t[k])]) rfl rfl (cl_new _ _ _ _ rfl) (cl_one _ _) ?c3 ?c4 ?c5 ?_))
              case c3 => unfold maxLen; omega
              case c4 => omega
              case c5 => simp; omega
              intro v2 w2 ho2 hg2 _
              have HO2 : Hid (OwnCl w2 w.heap.size v2 (P ++ (List.range l.toNat).map (fun k : Nat => ((f + (k : Int), (0 : UInt8)) : Cl)) ++ (t.data.toList.take (k + 1)).map fun c => (((-1 : Int), c) : Cl))) := by
                show OwnCl w2 w.heap.size v2 _
                rw [HT.out, List.map_append, ← List.append_assoc, HL.out]
                unfold OwnCl
                rw [clCells_append, List.length_append, hlen3]
                simpa [hlen3] using ho2
              have B2 : Below w.heap.size w w2 := (hb3.alloc (by omega) _).grown hg2 (by simp; omega) (fun k hk => row_own_ge HO3.out hk)
              clear ho2 hg2
              go_wp2
              go_roundw
              case rel => exact ⟨k + 1, by omega, by go_num, HO2, B2⟩
              case measure => simp [intOf]; omega
            · obtain rfl : k = t.size := by omega
              have h4 := HO3.out
              rw [List.take_of_length_le (by rw [← Lib.size_eq]; exact Nat.le_refl _), List.append_assoc, ← HOp.out, ← HNx.out] at h4
              have HO4 : Hid (OwnCl wr w.heap.size u3 (cellsL (xs.take (j + 1)))) := h4
              clear h4
              go_wp2
              go_roundw
              case rel => exact ⟨j + 1, by omega, by go_num, HO4, hb3⟩
              case measure => simp [intOf]; omega
    · obtain rfl : j = xs.length := by omega
      rw [List.take_length] at HO
      go_wp2
      go_ret
      exact ⟨⟨_, rfl, HO.out⟩, hb⟩

set_option maxHeartbeats 1000000 in
theorem rcells_nil (ao : Option Addr) (cap : Nat) (w : World) :
    Calls Tryz.prog 100 #[.slice ao 0 cap] w fun e w' => e = .returned (.slice none 0 0) ∧ w = w' := by
  go_enter Tryz.func100, Tryz.ntmps100
  go_wp2
  go_loopw [3, 4] (fun v c wr => v = .slice none 0 0 ∧ c = .int .i64 0 ∧ w = wr) (fun _ _ _ => 0)
  case atStart => exact ⟨rfl, rfl, rfl⟩
  case round =>
    obtain ⟨rfl, rfl, rfl⟩ := hrel
    go_wp2
    go_ret
    exact ⟨rfl, rfl⟩
theorem rcells_view {v : Value} {xs : List DOp} {w : World} {b : Int} (hv : View w v xs) (hD : Delta xs b) (hb : b ≤ 2000) :
    Calls Tryz.prog 100 #[v] w fun e w' => (∃ v, e = .returned v ∧ OwnCl w' w.heap.size v (cellsL xs)) ∧ Below w.heap.size w w' := by
  rcases hv with ⟨rfl, ao, cap, rfl⟩ | ⟨g, off, cap, rfl, hg, hr⟩
  · refine (rcells_nil ao cap w).mono ?_
    rintro e w' ⟨rfl, rfl⟩
    exact ⟨⟨_, rfl, World.ownsRow_nil _ _ _ _⟩, Below.refl _ _⟩
  · exact rcells_two g off cap xs w hr hg (hD.parts hb) hD.len hD.sum
end Go.Proofs.YtabpiaaknjcnkaaGreat
