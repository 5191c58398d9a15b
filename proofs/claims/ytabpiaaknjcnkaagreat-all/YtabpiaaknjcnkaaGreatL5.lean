/-
  The book: a list is written full with its mark, and made longer.
-/
import Derived.Test.YtabpiaaknjcnkaaGreatXL3L4
import Derived.LoopTactic
import Derived.Deep.AppendLies
import Derived.Deep.RegionHeld3
import Derived.Deep.RegionLaw
namespace Go.Proofs.YtabpiaaknjcnkaaGreat
open Go.RowKit
set_option linter.unusedVariables false
set_option linter.unusedSimpArgs false
set_option maxRecDepth 100000

/-- What the book has of a list that came out. -/
structure Entry where
  l : Value
  a : Value
  b : Value
  c : Value
  n : Nat
  m : Int
def entryCells (es : List Entry) : List Value := es.flatMap fun e => [e.l, e.a, e.b, e.c, .int .i64 e.m]
theorem entryCells_append (xs ys : List Entry) : entryCells (xs ++ ys) = entryCells xs ++ entryCells ys := by simp [entryCells]

def low (v : Value) (S : Nat → Prop) : Prop := ∀ g, v.ownBlock = some g → S g
structure Marked (w : World) (e : Entry) (S : Nat → Prop) : Prop where
  l : OwnOps w 0 e.l (marks e.n e.m)
  a : OwnOps w 0 e.a (marks (e.n + 1) e.m)
  b : OwnOps w 0 e.b (marks (e.n + 2) e.m)
  c : OwnOps w 0 e.c (marks (e.n + 3) e.m)
  n : e.n ≤ 100000
  lowl : low e.l S
  lowa : low e.a S
  lowb : low e.b S
  lowc : low e.c S

/-- The world of a script, its book in it. -/
structure BookAt (w : World) (B0 Wb : Nat) (xv yv bv : Value) (es : List Entry) (S : Nat → Prop) : Prop where
  blk : w.heap[Wb]? = some (.cells #[xv, yv, bv] 57 (0, 0))
  wb0 : B0 ≤ Wb
  wbB : S Wb
  row : w.ownsRow B0 89 5 bv es.length (entryCells es)
  lowr : low bv S
  each : ∀ e ∈ es, Marked w e S

/-- 'append' of marks, as the walk takes it. -/
theorem wpList_append_marks (w : World) {ops : Array Oper} {rest : List Oper} {o : Oper} {a : Act} {Q : Exit → Act → World → Prop} (hgd : o.guard = none) (s x : Operand)
    (ho : o.op = .call { callee := .builtin .append, args := #[s, x], argTypes := #[59, 59] })
    (base : Nat) (v : Value) (n k : Nat) (m : Int) (hs : a.eval s = v) (hown : OwnOps w base v (marks n m)) (ad : Addr) (c : Nat) (hx : a.eval x = .slice (some ad) k c) (hnews : ∀ j u, (opCells (marks k m))[j]? = some u → w.cell? (ad.add j) = some u)
    (hk : 0 < k) (hle : n + k ≤ 1000000000) (hbase : base ≤ w.heap.size)
    (h : ∀ v' w', OwnOps w' base v' (marks (n + k) m) → (∀ u j, OwnOps w base u (marks j m) → OwnOps w' base u (marks j m)) → w.grownBy w' v.ownBlock → wpList Tryz.prog ops Q rest (a.put o.dst v') w') : wpList Tryz.prog ops Q (o :: rest) a w := by
  refine wpList_plain hgd fun K hK => ?_
  obtain ⟨v', w', hr, h1, h2, h3⟩ := run_append_marks w o.type base v n k m hown ad c hnews hk hle hbase
  unfold Oper.wp execOp
  simp only [ho, resolve, invoke, builtin, Sem.run_bind, Sem.run_pure, Result.andThen_ok, List.map_toArray, List.map_cons, List.map_nil, hs, hx, hr]
  exact hK _ _ (h v' w' h1 h2 h3)

theorem marks_snoc (k : Nat) (m : Int) : marks k m ++ [(⟨m, 0, ⟨#[]⟩⟩ : DOp)] = marks (k + 1) m := by
  rw [marks, marks, List.replicate_succ']; rfl

theorem far1 {w : World} {g a q : Nat} {x : Value} (h : ¬ q = g) : (w.setCell ⟨g, a, none⟩ x).heap[q]? = w.heap[q]? := Below.heap_setCell _ _ _ _ h
theorem far3 {w : World} {g a b c q : Nat} {x y z : Value} (h : ¬ q = g) : (((w.setCell ⟨g, a, none⟩ x).setCell ⟨g, b, none⟩ y).setCell ⟨g, c, none⟩ z).heap[q]? = w.heap[q]? :=
  (far1 h).trans ((far1 h).trans (far1 h))
theorem own_far {w : World} {base : Nat} {v : Value} {xs : List DOp} {g a : Nat} {x : Value} (h : OwnOps w base v xs) (hg : ∀ k, v.ownBlock = some k → ¬ k = g) : OwnOps (w.setCell ⟨g, a, none⟩ x) base v xs :=
  own_block h (fun k hk => far1 (hg k hk))

theorem news_marks {w : World} {B k : Nat} {cs : Array Value} {m : Int} (hb : w.heap[B]? = some (.cells cs 63 (0, 0))) (h : cs.toList = opCells (marks k m)) : ∀ j u, (opCells (marks k m))[j]? = some u → w.cell? ((⟨B, 0, none⟩ : Addr).add j) = some u := by
  rw [← h]; exact World.news_of_block hb

theorem Tryz.infoEntry : (Tryz.prog.info? 89).map (fun i => (i.zero, i.size, i.bytes)) = some (some (.agg #[.slice none 0 0, .slice none 0 0, .slice none 0 0, .slice none 0 0, .int .i64 0]), 5, 104) := by kernel_rfl
theorem row_block {w w' : World} {base : Nat} {e : TypeId} {size n : Nat} {v : Value} {xs : List Value} (h : w.ownsRow base e size v n xs) (hb : ∀ g, v.ownBlock = some g → w'.heap[g]? = w.heap[g]?) : w'.ownsRow base e size v n xs := by
  refine ⟨h.1, ?_⟩
  rcases h.2 with h' | ⟨g, cap, cur, rfl, hg, hbk, hr⟩
  · exact .inl h'
  · exact .inr ⟨g, cap, cur, rfl, hg, by rw [hb g rfl]; exact hbk, hr⟩
theorem entry_one (l a b c : Value) (m : Int) (hl : l.oneCell' = true) (ha : a.oneCell' = true) (hb : b.oneCell' = true) (hc : c.oneCell' = true) : ∀ u ∈ entryCells [⟨l, a, b, c, 0, m⟩], u.oneCell' = true := by
  intro u hu
  simp [entryCells] at hu
  rcases hu with rfl | rfl | rfl | rfl | rfl
  · exact hl
  · exact ha
  · exact hb
  · exact hc
  · rfl
theorem far_new {w4 W w5 : World} {own : Option Nat} (gr : W.grownBy w5 own) (hW : ∀ q, q < w4.heap.size → W.heap[q]? = w4.heap[q]?) (hs : w4.heap.size ≤ W.heap.size) : ∀ q, q < w4.heap.size → own ≠ some q → w5.heap[q]? = w4.heap[q]? := by
  intro q hq hne
  rw [gr.block q (by omega) (Ne.symm hne), hW q hq]
theorem alloc_le {w : World} {o : Obj} {n : Nat} (h : n ≤ w.heap.size) : n ≤ (w.alloc o).heap.size := by simp; omega
theorem alloc_size1 {w : World} {o : Obj} : (w.alloc o).heap.size = w.heap.size + 1 := by simp
theorem alloc_at {w : World} {o : Obj} {q : Nat} (h : w.heap.size = q) : (w.alloc o).heap[q]? = some o := by subst h; exact heap_alloc_new _ _

/-- A list of ops lies in no block of another kind. -/
theorem own_ne {w : World} {base : Nat} {v : Value} {xs : List DOp} {q : Nat} {cs : Array Value} {T : TypeId} {fr : Nat × Nat} (h : OwnOps w base v xs) (hq : w.heap[q]? = some (.cells cs T fr)) (hT : T ≠ 63) : ∀ g, v.ownBlock = some g → ¬ g = q := by
  intro g hg e
  subst e
  rcases h.2 with ⟨rfl, _⟩ | ⟨g', cap, cur, rfl, _, hbk, _⟩
  · cases hg
  · obtain rfl : g' = g := by simpa [Value.ownBlock] using hg
    rw [hq] at hbk
    cases hbk
    exact hT rfl

theorem OwnOps.lt {w : World} {base : Nat} {ao : Option Addr} {n cap : Nat} {xs : List DOp} (h : OwnOps w base (.slice ao n cap) xs) : low (.slice ao n cap) (· < w.heap.size) := fun g hg => row_own_lt h hg

theorem book_ne {w : World} {B0 Wb : Nat} {S : Nat → Prop} {xv yv bv : Value} {es : List Entry} (hbook : BookAt w B0 Wb xv yv bv es S) : bv.ownBlock ≠ some Wb := by
  intro h
  rcases hbook.row.2 with ⟨h', _⟩ | ⟨g, cap', cur, h', _, hbk, _⟩
  · rw [h'] at h; cases h
  · rw [h'] at h
    obtain rfl : g = Wb := by simpa [Value.ownBlock] using h
    rw [hbook.blk] at hbk
    exact absurd hbk (by simp)
/-- Neither the book's own row nor the world lies where a list of ops lies. -/
theorem book_own_ne {w : World} {B0 Wb b : Nat} {S : Nat → Prop} {xv yv bv u : Value} {es : List Entry} {zs : List DOp} (hbook : BookAt w B0 Wb xv yv bv es S) (hu : OwnOps w b u zs) {g : Nat} (hg : u.ownBlock = some g) : bv.ownBlock ≠ some g ∧ g ≠ Wb := by
  constructor
  · intro h
    rcases hbook.row.2 with ⟨h', _⟩ | ⟨g', cap', cur, h', _, hbk, _⟩
    · rw [h'] at h; cases h
    · rw [h'] at h
      obtain rfl : g' = g := by simpa [Value.ownBlock] using h
      exact own_ne hu hbk (by decide) _ hg rfl
  · exact own_ne hu hbook.blk (by decide) _ hg

theorem bops_end {w w4 w5 : World} {B0 Wb base g5 cap5 n : Nat} {S : Nat → Prop} {xv yv bv vl va vb vc : Value} {es : List Entry} {m : Int} (hbook : BookAt w B0 Wb xv yv bv es S) (hS : ∀ q, S q → q < base) (hbase : base ≤ w.heap.size) (hB0 : B0 ≤ base) (b4 : Below base w w4)
    (hl : OwnOps w4 base vl (marks n m)) (ha : OwnOps w4 base va (marks (n + 1) m)) (hb : OwnOps w4 base vb (marks (n + 2) m)) (hc : OwnOps w4 base vc (marks (n + 3) m)) (hn : n ≤ 100000)
    (F5 : ∀ q, q < w4.heap.size → bv.ownBlock ≠ some q → w5.heap[q]? = w4.heap[q]?)
    (hown5 : w5.ownsRow B0 89 5 (.slice (some ⟨g5, 0, none⟩) (es.length + 1) cap5) (es.length + 1) (entryCells es ++ entryCells [⟨vl, va, vb, vc, 0, m⟩])) (hat5 : bv.ownBlock = some g5 ∨ g5 = w4.heap.size + 1) (hlt5 : g5 < w5.heap.size)
    (hs5 : w4.heap.size ≤ w5.heap.size) (h1 : w5.os = w4.os) (h2 : w5.tape = w4.tape) (h3 : w5.output = w4.output) :
    (∃ bv' e', BookAt (w5.setCell ⟨Wb, 2, none⟩ (.slice (some ⟨g5, 0, none⟩) (es.length + 1) cap5)) B0 Wb xv yv bv' (es ++ [e']) (fun q => S q ∨ (base ≤ q ∧ q < (w5.setCell ⟨Wb, 2, none⟩ (.slice (some ⟨g5, 0, none⟩) (es.length + 1) cap5)).heap.size))) ∧
    (∀ q, q < base → q ≠ Wb → bv.ownBlock ≠ some q → (w5.setCell ⟨Wb, 2, none⟩ (.slice (some ⟨g5, 0, none⟩) (es.length + 1) cap5)).heap[q]? = w.heap[q]?) ∧
    Below B0 w (w5.setCell ⟨Wb, 2, none⟩ (.slice (some ⟨g5, 0, none⟩) (es.length + 1) cap5)) := by
  have hb4 := b4.size
  have hwB := hS _ hbook.wbB
  have hw0 := hbook.wb0
  have hWb4 : Wb < w4.heap.size := by omega
  have F6 : ∀ q, q < w4.heap.size → bv.ownBlock ≠ some q → q ≠ Wb → (w5.setCell ⟨Wb, 2, none⟩ (.slice (some ⟨g5, 0, none⟩) (es.length + 1) cap5)).heap[q]? = w4.heap[q]? := fun q h1 h2 h3 => (far1 h3).trans (F5 q h1 h2)
  have hsz6 : (w5.setCell ⟨Wb, 2, none⟩ (.slice (some ⟨g5, 0, none⟩) (es.length + 1) cap5)).heap.size = w5.heap.size := by simp
  have hbn := book_ne hbook
  have hblk : (w5.setCell ⟨Wb, 2, none⟩ (.slice (some ⟨g5, 0, none⟩) (es.length + 1) cap5)).heap[Wb]? = some (.cells #[xv, yv, .slice (some ⟨g5, 0, none⟩) (es.length + 1) cap5] 57 (0, 0)) := by
    have h : w5.heap[Wb]? = some (.cells #[xv, yv, bv] 57 (0, 0)) := by rw [F5 Wb hWb4 hbn, b4.block Wb hwB, hbook.blk]
    exact Lib.heap_setCell_same h _
  have hg5 : ¬ g5 = Wb := by
    rcases hat5 with h | h
    · intro e; subst e; exact hbn h
    · omega
  have F7 : ∀ q, q ≠ Wb → (w5.setCell ⟨Wb, 2, none⟩ (.slice (some ⟨g5, 0, none⟩) (es.length + 1) cap5)).heap[q]? = w5.heap[q]? := fun q h => far1 h
  have hk : (w5.setCell ⟨Wb, 2, none⟩ (.slice (some ⟨g5, 0, none⟩) (es.length + 1) cap5)).os = w5.os ∧ (w5.setCell ⟨Wb, 2, none⟩ (.slice (some ⟨g5, 0, none⟩) (es.length + 1) cap5)).tape = w5.tape ∧ (w5.setCell ⟨Wb, 2, none⟩ (.slice (some ⟨g5, 0, none⟩) (es.length + 1) cap5)).output = w5.output := by
    have := (Below.refl 0 w5).setCell (p := ⟨Wb, 2, none⟩) (Nat.zero_le _) (.slice (some ⟨g5, 0, none⟩) (es.length + 1) cap5)
    exact ⟨this.os, this.tape, this.output⟩
  generalize w5.setCell ⟨Wb, 2, none⟩ (.slice (some ⟨g5, 0, none⟩) (es.length + 1) cap5) = w6 at *
  have new : ∀ u zs, OwnOps w4 base u zs → OwnOps w6 0 u zs ∧ low u (fun q => S q ∨ (base ≤ q ∧ q < w6.heap.size)) := fun u zs hu =>
    ⟨(own_block hu (fun g hg => F6 g (row_own_lt hu hg) (fun e => by have := hS _ (hbook.lowr g e); have := row_own_ge hu hg; omega) (fun e => by have := row_own_ge hu hg; omega))).wide (Nat.zero_le _), fun g hg => .inr ⟨row_own_ge hu hg, by have := row_own_lt hu hg; omega⟩⟩
  have old : ∀ u zs, OwnOps w 0 u zs → low u S → OwnOps w6 0 u zs ∧ low u (fun q => S q ∨ (base ≤ q ∧ q < w6.heap.size)) := fun u zs hu hlo =>
    ⟨own_block hu (fun g hg => (F6 g (by have := hS _ (hlo g hg); omega) (book_own_ne hbook hu hg).1 (book_own_ne hbook hu hg).2).trans (b4.block g (hS _ (hlo g hg)))), fun g hg => .inl (hlo g hg)⟩
  refine ⟨⟨_, ⟨vl, va, vb, vc, n, m⟩, ⟨hblk, hw0, .inl hbook.wbB, ?_, ?_, ?_⟩⟩, ?_, ?_⟩
  · have h : w5.ownsRow B0 89 5 (.slice (some ⟨g5, 0, none⟩) (es.length + 1) cap5) (es ++ [(⟨vl, va, vb, vc, n, m⟩ : Entry)]).length (entryCells (es ++ [(⟨vl, va, vb, vc, n, m⟩ : Entry)])) := by
      rw [entryCells_append, List.length_append]; exact hown5
    exact row_block h (fun g hg => F7 g (by intro e; subst e; exact hg5 (by simpa [Value.ownBlock] using hg)))
  · intro g hg
    obtain rfl : g5 = g := by simpa [Value.ownBlock] using hg
    rcases hat5 with h | h
    · exact .inl (hbook.lowr _ h)
    · exact .inr ⟨by omega, by omega⟩
  · intro e he
    rcases List.mem_append.1 he with h | h
    · have k := hbook.each e h
      exact ⟨(old _ _ k.l k.lowl).1, (old _ _ k.a k.lowa).1, (old _ _ k.b k.lowb).1, (old _ _ k.c k.lowc).1, k.n, (old _ _ k.l k.lowl).2, (old _ _ k.a k.lowa).2, (old _ _ k.b k.lowb).2, (old _ _ k.c k.lowc).2⟩
    · obtain rfl : e = ⟨vl, va, vb, vc, n, m⟩ := by simpa using h
      exact ⟨(new _ _ hl).1, (new _ _ ha).1, (new _ _ hb).1, (new _ _ hc).1, hn, (new _ _ hl).2, (new _ _ ha).2, (new _ _ hb).2, (new _ _ hc).2⟩
  · intro q hq h5 h6
    rw [F6 q (by omega) h6 h5, b4.block q hq]
  · refine ⟨by rw [hk.1, h1, b4.os], by rw [hk.2.1, h2, b4.tape], by rw [hk.2.2, h3, b4.output], by omega, fun k hk => ?_⟩
    rw [F6 k (by omega) (fun e => by have := row_own_ge hbook.row e; omega) (by omega), b4.block k (by omega)]

set_option maxHeartbeats 4000000 in
/-- A list comes into the book. -/
theorem bops_walk (w : World) (B0 Wb : Nat) (xv yv bv : Value) (es : List Entry) (S : Nat → Prop) (base : Nat) (v : Value) (xs : List DOp) (hbook : BookAt w B0 Wb xv yv bv es S) (hS : ∀ q, S q → q < base) (hes : es.length ≤ 1300000000000) (hown : OwnOps w base v xs) (hx : xs.length ≤ 100000) (hbase : base ≤ w.heap.size) (hB0 : B0 ≤ base) :
    Calls Tryz.prog 59 #[.pointer (some ⟨Wb, 2, none⟩), v] w fun e w' => e = .returned (.tuple #[]) ∧ (∃ bv' e', BookAt w' B0 Wb xv yv bv' (es ++ [e']) (fun q => S q ∨ (base ≤ q ∧ q < w'.heap.size))) ∧ (∀ q, q < base → q ≠ Wb → bv.ownBlock ≠ some q → w'.heap[q]? = w.heap[q]?) ∧ Below B0 w w' := by
  obtain ⟨ao, bn, bc, hbv⟩ : ∃ ao n c, bv = .slice ao n c ∧ n = es.length := by
    rcases hbook.row.2 with ⟨h, h0⟩ | ⟨g', cap', cur, h, _⟩
    · exact ⟨_, _, _, h, h0.symm⟩
    · exact ⟨_, _, _, h, rfl⟩
  obtain ⟨hbv, rfl⟩ := hbv
  have hwb : w.cell? ⟨Wb, 2, none⟩ = some (.slice ao es.length bc) := by rw [Lib.cell_of_heap hbook.blk, hbv]; rfl
  have hWb := hS _ hbook.wbB
  have hWlt : Wb < w.heap.size := Nat.lt_of_lt_of_le hWb hbase
  obtain ⟨lo, cap, hv⟩ := hown.slice
  rw [hv] at hown ⊢
  have hlow := hown.lt
  have HBK : Hid (BookAt w B0 Wb xv yv bv es S) := hbook
  have HS : Hid (∀ q, S q → q < base) := hS
  clear hv hbook hS
  have hM : IntKind.i64.wrap (10000 + (es.length : Int)) = 10000 + (es.length : Int) := by rw [IntKind.wrap_i64]; omega
  generalize hMm : (10000 + (es.length : Int)) = m at hM
  go_enter Tryz.func59, Tryz.ntmps59
  go_wp2
  go_loopw [5] (fun c wr => ∃ k : Nat, k ≤ xs.length ∧ c = .int .i64 k ∧ OwnOps wr base (.slice lo xs.length cap) (marks k m ++ xs.drop k) ∧ Below base w wr ∧ wr.heap.size = w.heap.size + 1 ∧ wr.heap[w.heap.size]? = some (.cells #[.int .i64 m, .int .i64 0, .string ⟨#[]⟩] 63 (0, 0))) (fun c _ => xs.length + 1 - (intOf c).toNat)
  case atStart => exact ⟨0, by omega, rfl, (show OwnOps _ base _ xs from hown.alloc _), (Below.refl _ _).alloc hbase _, by simp, heap_alloc_new _ _⟩
  case round =>
    obtain ⟨k, hk, rfl, hown2, hb2, hsz, hob⟩ := hrel
    have k0 : wr.cell? ⟨w.heap.size, 0, none⟩ = some (.int .i64 m) := by rw [Lib.cell_of_heap hob]; rfl
    have k1 : wr.cell? ⟨w.heap.size, 1, none⟩ = some (.int .i64 0) := by rw [Lib.cell_of_heap hob]; rfl
    have k2 : wr.cell? ⟨w.heap.size, 2, none⟩ = some (.string ⟨#[]⟩) := by rw [Lib.cell_of_heap hob]; rfl
    by_cases hlt : k < xs.length
    · obtain ⟨o, ho⟩ : ∃ o, xs[k]? = some o := ⟨xs[k], by simp [hlt]⟩
      rw [drop_cons ho] at hown2
      obtain ⟨g, rfl, hg⟩ : ∃ g, lo = some ⟨g, 0, none⟩ ∧ base ≤ g := by
        rcases hown2.2 with ⟨h, _⟩ | ⟨g, cap', cur, h, hg, _⟩
        · injection h with h1 h2 h3; omega
        · injection h with h1 h2 h3; exact ⟨g, h1, hg⟩
      have hgs : g < w.heap.size := hlow g rfl
      have hgn : ¬ g = w.heap.size := by omega
      have hgn2 : ¬ w.heap.size = g := by omega
      obtain ⟨c0, c1, c2, c3⟩ := own_cells hown2
      have R := own_set hown2 m 0 ⟨#[]⟩
      have hml : (marks k m).length = k := List.length_replicate
      rw [hml] at c0 c1 c2 R
      have HR : Hid (OwnOps (((wr.setCell ⟨g, k * 3, none⟩ (.int .i64 m)).setCell ⟨g, k * 3 + 1, none⟩ (.int .i64 0)).setCell ⟨g, k * 3 + 2, none⟩ (.string ⟨#[]⟩)) base (.slice (some ⟨g, 0, none⟩) xs.length cap) (marks (k + 1) m ++ xs.drop (k + 1))) := by
        show OwnOps _ _ _ _
        rw [← marks_snoc, List.append_assoc]
        exact R
      have f0 := c3 (k * 3)
      have f1 := c3 (k * 3 + 1)
      have f2 := c3 (k * 3 + 2)
      clear R c3 hown2 ho
      go_wp2
      go_roundw
      case rel => exact ⟨k + 1, by omega, by go_num, HR.out, ((hb2.setCell (p := ⟨g, _, none⟩) hg _).setCell (p := ⟨g, _, none⟩) hg _).setCell (p := ⟨g, _, none⟩) hg _, by simpa using hsz, (far3 hgn2).trans hob⟩
      case measure => simp [intOf]; omega
    · obtain rfl : k = xs.length := by omega
      rw [List.drop_length, List.append_nil] at hown2
      go_wp2_with (first | (at_builtin; refine wpList_append_marks _ rfl _ _ rfl base _ xs.length 1 m rfl ((hown2.alloc _).alloc _) ⟨w.heap.size + 1 + 1, 0, none⟩ 1 rfl ?nw (by omega) (by omega) ?nb ?_))
      case nw => exact news_marks (cs := #[.int .i64 m, .int .i64 0, .string ⟨#[]⟩]) (alloc_at (by simp; omega)) rfl
      case nb => simp; omega
      intro v1 w1 o1 kp1 gr1
      have ol1 := kp1 _ _ ((hown2.alloc _).alloc _)
      have hs1 : wr.heap.size + 1 + 1 ≤ w1.heap.size := by simpa using gr1.size
      have ob1 : w1.heap[w.heap.size]? = some (.cells #[.int .i64 m, .int .i64 0, .string ⟨#[]⟩] 63 (0, 0)) := by
        rw [gr1.block _ (by simp; omega) (fun h => by have := hlow _ h.symm; omega), heap_alloc_old _ _ (by simp; omega), heap_alloc_old _ _ (by omega)]; exact hob
      have xb1 : w1.heap[w.heap.size + 1]? = some (.cells #[.slice lo xs.length cap, .slice none 0 0, .slice none 0 0, .slice none 0 0, .int .i64 m] 89 (0, 0)) := by
        rw [gr1.block _ (by simp; omega) (fun h => by have := hlow _ h.symm; omega), heap_alloc_old _ _ (by simp; omega)]; exact alloc_at hsz
      have b1 : Below base w w1 := ((hb2.alloc (by omega) _).alloc (by simp; omega) _).grown gr1 (by simp; omega) (fun k hk => row_own_ge hown2 hk)
      clear kp1 gr1 hob hown2 hb2 k0 k1 k2
      obtain ⟨a1, c1, hv1⟩ : ∃ a c, v1 = .slice a (xs.length + 1) c := by
        obtain ⟨a, c, h⟩ := o1.slice
        rw [show (marks (xs.length + 1) m).length = xs.length + 1 from List.length_replicate] at h
        exact ⟨a, c, h⟩
      subst hv1
      have p10 : w1.cell? ⟨w.heap.size, 0, none⟩ = some (.int .i64 m) := by rw [Lib.cell_of_heap ob1]; rfl
      have p11 : w1.cell? ⟨w.heap.size, 1, none⟩ = some (.int .i64 0) := by rw [Lib.cell_of_heap ob1]; rfl
      have p12 : w1.cell? ⟨w.heap.size, 2, none⟩ = some (.string ⟨#[]⟩) := by rw [Lib.cell_of_heap ob1]; rfl
      have x10 : w1.cell? ⟨w.heap.size + 1, 1, none⟩ = some (.slice none 0 0) := by rw [Lib.cell_of_heap xb1]; rfl
      have x1f := fun j => Lib.frozen_of_heap xb1 j
      have hX1 : ∀ g, (Value.slice lo xs.length cap).ownBlock = some g → ¬ g = w.heap.size + 1 := fun g hg => by have := hlow _ hg; omega
      go_wp2_with (first | (at_builtin; refine wpList_append_marks _ rfl _ _ rfl base _ xs.length 2 m rfl ((own_far ol1 hX1).alloc _) ⟨w1.heap.size, 0, none⟩ 2 rfl ?nw1 (by omega) (by omega) ?nb1 ?_))
      case nw1 => exact news_marks (cs := #[.int .i64 m, .int .i64 0, .string ⟨#[]⟩, .int .i64 m, .int .i64 0, .string ⟨#[]⟩]) (alloc_at (by simp)) rfl
      case nb1 => simp; omega
      intro v2 w2 o2 kp gr
      have ol2 := kp _ _ ((own_far ol1 hX1).alloc _)
      have oa12 := kp _ _ ((own_far (g := w.heap.size + 1) (a := 1) (x := .slice a1 (xs.length + 1) c1) o1 (own_ne o1 xb1 (by decide))).alloc _)
      have hs2 : w1.heap.size + 1 ≤ w2.heap.size := by simpa using gr.size
      have ob2 : w2.heap[w.heap.size]? = some (.cells #[.int .i64 m, .int .i64 0, .string ⟨#[]⟩] 63 (0, 0)) := by
        rw [gr.block _ (by simp; omega) (fun h => by have := hlow _ h.symm; omega), heap_alloc_old _ _ (by simp; omega), far1 (by omega)]; exact ob1
      have xb2 : w2.heap[w.heap.size + 1]? = some (.cells #[.slice lo xs.length cap, .slice a1 (xs.length + 1) c1, .slice none 0 0, .slice none 0 0, .int .i64 m] 89 (0, 0)) := by
        rw [gr.block _ (by simp; omega) (fun h => by have := hlow _ h.symm; omega), heap_alloc_old _ _ (by simp; omega)]; exact Lib.heap_setCell_same xb1 _
      have b2 : Below base w w2 := ((b1.setCell (p := ⟨w.heap.size + 1, _, none⟩) (by show base ≤ w.heap.size + 1; omega) _).alloc (by simp; omega) _).grown gr (by simp; omega) (fun k hk => row_own_ge ol1 hk)
      clear kp gr ob1 xb1 b1 p10 p11 p12 x10 x1f ol1 hX1
      obtain ⟨a2, c2, hv2⟩ : ∃ a c, v2 = .slice a (xs.length + 2) c := by
        obtain ⟨a, c, h⟩ := o2.slice
        rw [show (marks (xs.length + 2) m).length = xs.length + 2 from List.length_replicate] at h
        exact ⟨a, c, h⟩
      subst hv2
      have p20 : w2.cell? ⟨w.heap.size, 0, none⟩ = some (.int .i64 m) := by rw [Lib.cell_of_heap ob2]; rfl
      have p21 : w2.cell? ⟨w.heap.size, 1, none⟩ = some (.int .i64 0) := by rw [Lib.cell_of_heap ob2]; rfl
      have p22 : w2.cell? ⟨w.heap.size, 2, none⟩ = some (.string ⟨#[]⟩) := by rw [Lib.cell_of_heap ob2]; rfl
      have x20 : w2.cell? ⟨w.heap.size + 1, 2, none⟩ = some (.slice none 0 0) := by rw [Lib.cell_of_heap xb2]; rfl
      have x2f := fun j => Lib.frozen_of_heap xb2 j
      have hX2 : ∀ g, (Value.slice lo xs.length cap).ownBlock = some g → ¬ g = w.heap.size + 1 := fun g hg => by have := hlow _ hg; omega
      go_wp2_with (first | (at_builtin; refine wpList_append_marks _ rfl _ _ rfl base _ xs.length 3 m rfl ((own_far ol2 hX2).alloc _) ⟨w2.heap.size, 0, none⟩ 3 rfl ?nw2 (by omega) (by omega) ?nb2 ?_))
      case nw2 => exact news_marks (cs := #[.int .i64 m, .int .i64 0, .string ⟨#[]⟩, .int .i64 m, .int .i64 0, .string ⟨#[]⟩, .int .i64 m, .int .i64 0, .string ⟨#[]⟩]) (alloc_at (by simp)) rfl
      case nb2 => simp; omega
      intro v3 w3 o3 kp gr
      have ol3 := kp _ _ ((own_far ol2 hX2).alloc _)
      have oa13 := kp _ _ ((own_far (g := w.heap.size + 1) (a := 2) (x := .slice a2 (xs.length + 2) c2) oa12 (own_ne oa12 xb2 (by decide))).alloc _)
      have oa23 := kp _ _ ((own_far (g := w.heap.size + 1) (a := 2) (x := .slice a2 (xs.length + 2) c2) o2 (own_ne o2 xb2 (by decide))).alloc _)
      have hs3 : w2.heap.size + 1 ≤ w3.heap.size := by simpa using gr.size
      have ob3 : w3.heap[w.heap.size]? = some (.cells #[.int .i64 m, .int .i64 0, .string ⟨#[]⟩] 63 (0, 0)) := by
        rw [gr.block _ (by simp; omega) (fun h => by have := hlow _ h.symm; omega), heap_alloc_old _ _ (by simp; omega), far1 (by omega)]; exact ob2
      have xb3 : w3.heap[w.heap.size + 1]? = some (.cells #[.slice lo xs.length cap, .slice a1 (xs.length + 1) c1, .slice a2 (xs.length + 2) c2, .slice none 0 0, .int .i64 m] 89 (0, 0)) := by
        rw [gr.block _ (by simp; omega) (fun h => by have := hlow _ h.symm; omega), heap_alloc_old _ _ (by simp; omega)]; exact Lib.heap_setCell_same xb2 _
      have b3 : Below base w w3 := ((b2.setCell (p := ⟨w.heap.size + 1, _, none⟩) (by show base ≤ w.heap.size + 1; omega) _).alloc (by simp; omega) _).grown gr (by simp; omega) (fun k hk => row_own_ge ol2 hk)
      clear kp gr ob2 xb2 b2 p20 p21 p22 x20 x2f ol2 hX2
      obtain ⟨a3, c3, hv3⟩ : ∃ a c, v3 = .slice a (xs.length + 3) c := by
        obtain ⟨a, c, h⟩ := o3.slice
        rw [show (marks (xs.length + 3) m).length = xs.length + 3 from List.length_replicate] at h
        exact ⟨a, c, h⟩
      subst hv3
      have x30 : w3.cell? ⟨w.heap.size + 1, 3, none⟩ = some (.slice none 0 0) := by rw [Lib.cell_of_heap xb3]; rfl
      have x3f := fun j => Lib.frozen_of_heap xb3 j
      go_wp2
      generalize hw4 : w3.setCell ⟨w.heap.size + 1, 3, none⟩ (.slice a3 (xs.length + 3) c3) = w4
      have ol4 : OwnOps w4 base (.slice lo xs.length cap) (marks xs.length m) := by rw [← hw4]; exact own_far ol3 (own_ne ol3 xb3 (by decide))
      have oa4 : OwnOps w4 base (.slice a1 (xs.length + 1) c1) (marks (xs.length + 1) m) := by rw [← hw4]; exact own_far oa13 (own_ne oa13 xb3 (by decide))
      have ob4 : OwnOps w4 base (.slice a2 (xs.length + 2) c2) (marks (xs.length + 2) m) := by rw [← hw4]; exact own_far oa23 (own_ne oa23 xb3 (by decide))
      have oc4 : OwnOps w4 base (.slice a3 (xs.length + 3) c3) (marks (xs.length + 3) m) := by rw [← hw4]; exact own_far o3 (own_ne o3 xb3 (by decide))
      have xb4 : w4.heap[w.heap.size + 1]? = some (.cells #[.slice lo xs.length cap, .slice a1 (xs.length + 1) c1, .slice a2 (xs.length + 2) c2, .slice a3 (xs.length + 3) c3, .int .i64 m] 89 (0, 0)) := by
        rw [← hw4]; exact Lib.heap_setCell_same xb3 _
      have b4 : Below base w w4 := by rw [← hw4]; exact b3.setCell (p := ⟨w.heap.size + 1, _, none⟩) (by show base ≤ w.heap.size + 1; omega) _
      have hs4 : w.heap.size + 2 ≤ w4.heap.size := by rw [← hw4]; simp; omega
      clear hw4 ol3 oa13 oa23 o3 xb3 b3 x30 x3f ob3 o1 o2 oa12
      have hbk4 : w4.heap[Wb]? = some (.cells #[xv, yv, .slice ao es.length bc] 57 (0, 0)) := by rw [b4.block _ hWb, HBK.out.blk, hbv]
      have y0 : w4.cell? ⟨Wb, 2, none⟩ = some (.slice ao es.length bc) := by rw [Lib.cell_of_heap hbk4]; rfl
      have z0 : w4.cell? ⟨w.heap.size + 1, 0, none⟩ = some (.slice lo xs.length cap) := by rw [Lib.cell_of_heap xb4]; rfl
      have z1 : w4.cell? ⟨w.heap.size + 1, 1, none⟩ = some (.slice a1 (xs.length + 1) c1) := by rw [Lib.cell_of_heap xb4]; rfl
      have z2 : w4.cell? ⟨w.heap.size + 1, 2, none⟩ = some (.slice a2 (xs.length + 2) c2) := by rw [Lib.cell_of_heap xb4]; rfl
      have z3 : w4.cell? ⟨w.heap.size + 1, 3, none⟩ = some (.slice a3 (xs.length + 3) c3) := by rw [Lib.cell_of_heap xb4]; rfl
      have z4 : w4.cell? ⟨w.heap.size + 1, 4, none⟩ = some (.int .i64 m) := by rw [Lib.cell_of_heap xb4]; rfl
      have yf : w4.frozen? ⟨Wb, 2, none⟩ = false := Lib.frozen_of_heap hbk4 _
      have hrow : ∀ W : World, (∀ k, k < w4.heap.size → W.heap[k]? = w4.heap[k]?) → W.ownsRow B0 89 5 (.slice ao es.length bc) es.length (entryCells es) := by
        intro W hW
        have h1 := HBK.out.row
        have h2 := HBK.out.lowr
        rw [hbv] at h1 h2
        exact row_block h1 (fun g hg => by rw [hW g (by have := HS.out _ (h2 g hg); omega), b4.block g (HS.out _ (h2 g hg))])
      have hown1 : (Value.slice ao es.length bc).ownBlock ≠ some Wb := by
        have h1 := HBK.out.row
        rw [hbv] at h1
        intro h
        rcases h1.2 with ⟨h', _⟩ | ⟨g, cap', cur, h', _, hbk, _⟩
        · rw [h'] at h; cases h
        · rw [h'] at h
          obtain rfl : g = Wb := by simpa [Value.ownBlock] using h
          rw [HBK.out.blk] at hbk
          exact absurd hbk (by simp)
      have hown2 : (Value.slice ao es.length bc).ownBlock ≠ some (w.heap.size + 1) := by
        have h2 := HBK.out.lowr
        rw [hbv] at h2
        intro h
        have := HS.out _ (h2 _ h)
        omega
      obtain ⟨i1, hi1, hj0, hj1, hj2⟩ := info_parts Tryz.infoEntry
      have hW4 : Wb < w4.heap.size := by omega
      have HROW : Hid (∀ W : World, (∀ k, k < w4.heap.size → W.heap[k]? = w4.heap[k]?) → W.ownsRow B0 89 5 (.slice ao es.length bc) es.length (entryCells es)) := hrow
      have hnb : B0 ≤ w4.heap.size := by omega
      have hX4 : w.heap.size + 1 < w4.heap.size := by omega
      have h63 : es.length + 1 ≤ maxLen := by unfold maxLen; omega
      have h104 : (es.length + 1) * 104 ≤ 140737488355328 := by omega
      clear hrow
      go_region_law
        ((refine step_append_lies _ rfl (.tmp 50) (.tmp 52) 53 rfl B0 89 i1 (.agg #[.slice none 0 0, .slice none 0 0, .slice none 0 0, .slice none 0 0, .int .i64 0]) 5 104 Tryz.underlying53 hi1 hj0 hj1 hj2 rfl (by decide) (.slice ao es.length bc) es.length (entryCells es) (by simp [Act.eval, Act.put]) (HROW.out _ (fun k hk => heap_alloc_old _ _ hk)) ⟨w4.heap.size, 0, none⟩ 1 1 (entryCells [⟨.slice lo xs.length cap, .slice a1 (xs.length + 1) c1, .slice a2 (xs.length + 2) c2, .slice a3 (xs.length + 3) c3, 0, m⟩]) (by simp [Act.eval, Act.put]) rfl (World.news_of_block (cs := #[.slice lo xs.length cap, .slice a1 (xs.length + 1) c1, .slice a2 (xs.length + 2) c2, .slice a3 (xs.length + 3) c3, .int .i64 m]) (alloc_at rfl)) (entry_one _ _ _ _ _ rfl rfl rfl rfl) (by decide) h63 h104 (alloc_le hnb) (w4.heap.size + 1) alloc_size1 ?_; intro g5 cap5 w5 hown5 hgr5 hat5 hlt5; have F5 := far_new hgr5 (w4 := w4) (fun q hq => heap_alloc_old _ _ hq) (alloc_le (Nat.le_refl _)); have e0 := (World.cell?_of_block (a := ⟨Wb, 2, none⟩) (F5 Wb hW4 hown1)).trans y0; have e1 := (World.frozen?_of_block (a := ⟨Wb, 2, none⟩) (F5 Wb hW4 hown1)).trans yf; have f0 := (World.cell?_of_block (a := ⟨w.heap.size + 1, 0, none⟩) (F5 (w.heap.size + 1) hX4 hown2)).trans z0; have f1 := (World.cell?_of_block (a := ⟨w.heap.size + 1, 1, none⟩) (F5 (w.heap.size + 1) hX4 hown2)).trans z1; have f2 := (World.cell?_of_block (a := ⟨w.heap.size + 1, 2, none⟩) (F5 (w.heap.size + 1) hX4 hown2)).trans z2; have f3 := (World.cell?_of_block (a := ⟨w.heap.size + 1, 3, none⟩) (F5 (w.heap.size + 1) hX4 hown2)).trans z3; have f4 := (World.cell?_of_block (a := ⟨w.heap.size + 1, 4, none⟩) (F5 (w.heap.size + 1) hX4 hown2)).trans z4))
      all_goals
        go_wp2
        (try simp only [Exit.inBlock, Exit.then])
        first | refine bodyPost_ret (results_none rfl _ _ _) rfl ?_ | refine bodyPost_end (results_none rfl _ _ _) rfl ?_
        exact ⟨rfl, bops_end HBK.out HS.out hbase hB0 b4 ol4 oa4 ob4 oc4 hx (by rw [hbv]; exact F5) hown5 (by rw [hbv]; exact hat5) hlt5 (Nat.le_trans (alloc_le (Nat.le_refl _)) hgr5.size) hgr5.os hgr5.tape hgr5.output⟩
end Go.Proofs.YtabpiaaknjcnkaaGreat
