/- The texts L5, R1, R2, R4, C1, C2, C3, one behind the other. -/
import Derived.Test.YtabpiaaknjcnkabXL3L4
import Derived.LoopTactic
import Derived.Deep.AppendLies
import Derived.Deep.RegionHeld3
import Derived.Deep.RegionLaw
import Derived.Test.YtabpiaaknjcnkabXWCL1L2
import Derived.Test.YtabpiaaknjcnkabXW1W3W4
import Derived.Deep.QuietTactic
import Derived.BigQuiet
import Derived.Test.YtabpiaaknjcnkabXPDPUP4
/-
  The book: a list is written full with its mark, and made longer.
-/
namespace Go.Proofs.Ytabpiaaknjcnkab
open Go.RowKit
set_option linter.unusedVariables false
set_option linter.unusedSimpArgs false
set_option maxRecDepth 100000

/-- What the book has of a list that came out. -/
structure Entry where
  l : Value
  a : Value
  b : Value
  c : Value
  n : Nat
  m : Int
def entryCells (es : List Entry) : List Value := es.flatMap fun e => [e.l, e.a, e.b, e.c, .int .i64 e.m]
theorem entryCells_length (es : List Entry) : (entryCells es).length = es.length * 5 := by
  induction es with
  | nil => rfl
  | cons e r ih => simp [entryCells] at ih ⊢; omega
theorem entryCells_append (xs ys : List Entry) : entryCells (xs ++ ys) = entryCells xs ++ entryCells ys := by simp [entryCells]

def low (v : Value) (S : Nat → Prop) : Prop := ∀ g, v.ownBlock = some g → S g
structure Marked (w : World) (e : Entry) (S : Nat → Prop) : Prop where
  l : OwnOps w 0 e.l (marks e.n e.m)
  a : OwnOps w 0 e.a (marks (e.n + 1) e.m)
  b : OwnOps w 0 e.b (marks (e.n + 2) e.m)
  c : OwnOps w 0 e.c (marks (e.n + 3) e.m)
  n : e.n ≤ 100000
  lowl : low e.l S
  lowa : low e.a S
  lowb : low e.b S
  lowc : low e.c S

/-- 'append' of marks, as the walk takes it. -/
theorem wpList_append_marks (w : World) {ops : Array Oper} {rest : List Oper} {o : Oper} {a : Act} {Q : Exit → Act → World → Prop} (hgd : o.guard = none) (s x : Operand)
    (ho : o.op = .call { callee := .builtin .append, args := #[s, x], argTypes := #[41, 41] })
    (base : Nat) (v : Value) (n k : Nat) (m : Int) (hs : a.eval s = v) (hown : OwnOps w base v (marks n m)) (ad : Addr) (c : Nat) (hx : a.eval x = .slice (some ad) k c) (hnews : ∀ j u, (opCells (marks k m))[j]? = some u → w.cell? (ad.add j) = some u)
    (hk : 0 < k) (hle : n + k ≤ 1000000000) (hbase : base ≤ w.heap.size)
    (h : ∀ v' w', OwnOps w' base v' (marks (n + k) m) → (∀ u j, OwnOps w base u (marks j m) → OwnOps w' base u (marks j m)) → w.grownBy w' v.ownBlock → wpList Try.prog ops Q rest (a.put o.dst v') w') : wpList Try.prog ops Q (o :: rest) a w := by
  refine wpList_plain hgd fun K hK => ?_
  obtain ⟨v', w', hr, h1, h2, h3⟩ := run_append_marks w o.type base v n k m hown ad c hnews hk hle hbase
  unfold Oper.wp execOp
  simp only [ho, resolve, invoke, builtin, Sem.run_bind, Sem.run_pure, Result.andThen_ok, List.map_toArray, List.map_cons, List.map_nil, hs, hx, hr]
  exact hK _ _ (h v' w' h1 h2 h3)

theorem marks_snoc (k : Nat) (m : Int) : marks k m ++ [(⟨m, 0, ⟨#[]⟩⟩ : DOp)] = marks (k + 1) m := by
  rw [marks, marks, List.replicate_succ']; rfl

theorem far1 {w : World} {g a q : Nat} {x : Value} (h : ¬ q = g) : (w.setCell ⟨g, a, none⟩ x).heap[q]? = w.heap[q]? := Below.heap_setCell _ _ _ _ h
theorem far3 {w : World} {g a b c q : Nat} {x y z : Value} (h : ¬ q = g) : (((w.setCell ⟨g, a, none⟩ x).setCell ⟨g, b, none⟩ y).setCell ⟨g, c, none⟩ z).heap[q]? = w.heap[q]? :=
  (far1 h).trans ((far1 h).trans (far1 h))
theorem own_far {w : World} {base : Nat} {v : Value} {xs : List DOp} {g a : Nat} {x : Value} (h : OwnOps w base v xs) (hg : ∀ k, v.ownBlock = some k → ¬ k = g) : OwnOps (w.setCell ⟨g, a, none⟩ x) base v xs :=
  own_block h (fun k hk => far1 (hg k hk))

theorem news_marks {w : World} {B k : Nat} {cs : Array Value} {m : Int} (hb : w.heap[B]? = some (.cells cs 45 (0, 0))) (h : cs.toList = opCells (marks k m)) : ∀ j u, (opCells (marks k m))[j]? = some u → w.cell? ((⟨B, 0, none⟩ : Addr).add j) = some u := by
  rw [← h]; exact World.news_of_block hb

theorem row_block {w w' : World} {base : Nat} {e : TypeId} {size n : Nat} {v : Value} {xs : List Value} (h : w.ownsRow base e size v n xs) (hb : ∀ g, v.ownBlock = some g → w'.heap[g]? = w.heap[g]?) : w'.ownsRow base e size v n xs := by
  refine ⟨h.1, ?_⟩
  rcases h.2 with h' | ⟨g, cap, cur, rfl, hg, hbk, hr⟩
  · exact .inl h'
  · exact .inr ⟨g, cap, cur, rfl, hg, by rw [hb g rfl]; exact hbk, hr⟩
theorem entry_one (l a b c : Value) (m : Int) (hl : l.oneCell' = true) (ha : a.oneCell' = true) (hb : b.oneCell' = true) (hc : c.oneCell' = true) : ∀ u ∈ entryCells [⟨l, a, b, c, 0, m⟩], u.oneCell' = true := by
  intro u hu
  simp [entryCells] at hu
  rcases hu with rfl | rfl | rfl | rfl | rfl
  · exact hl
  · exact ha
  · exact hb
  · exact hc
  · rfl
theorem far_new {w4 W w5 : World} {own : Option Nat} (gr : W.grownBy w5 own) (hW : ∀ q, q < w4.heap.size → W.heap[q]? = w4.heap[q]?) (hs : w4.heap.size ≤ W.heap.size) : ∀ q, q < w4.heap.size → own ≠ some q → w5.heap[q]? = w4.heap[q]? := by
  intro q hq hne
  rw [gr.block q (by omega) (Ne.symm hne), hW q hq]
theorem alloc_le {w : World} {o : Obj} {n : Nat} (h : n ≤ w.heap.size) : n ≤ (w.alloc o).heap.size := by simp; omega
theorem alloc_size1 {w : World} {o : Obj} : (w.alloc o).heap.size = w.heap.size + 1 := by simp
theorem alloc_at {w : World} {o : Obj} {q : Nat} (h : w.heap.size = q) : (w.alloc o).heap[q]? = some o := by subst h; exact heap_alloc_new _ _

/-- A list of ops lies in no block of another kind. -/
theorem own_ne {w : World} {base : Nat} {v : Value} {xs : List DOp} {q : Nat} {cs : Array Value} {T : TypeId} {fr : Nat × Nat} (h : OwnOps w base v xs) (hq : w.heap[q]? = some (.cells cs T fr)) (hT : T ≠ 45) : ∀ g, v.ownBlock = some g → ¬ g = q := by
  intro g hg e
  subst e
  rcases h.2 with ⟨rfl, _⟩ | ⟨g', cap, cur, rfl, _, hbk, _⟩
  · cases hg
  · obtain rfl : g' = g := by simpa [Value.ownBlock] using hg
    rw [hq] at hbk
    cases hbk
    exact hT rfl

theorem OwnOps.lt {w : World} {base : Nat} {ao : Option Addr} {n cap : Nat} {xs : List DOp} (h : OwnOps w base (.slice ao n cap) xs) : low (.slice ao n cap) (· < w.heap.size) := fun g hg => row_own_lt h hg

end Go.Proofs.Ytabpiaaknjcnkab

/-
  The document's answer: find, made.
-/
namespace Go.Proofs.Ytabpiaaknjcnkab
open Go.RowKit
set_option linter.unusedVariables false
set_option linter.unusedSimpArgs false
set_option maxRecDepth 100000

theorem bytes_app (a b : ByteArray) : (a ++ b).data.toList = a.data.toList ++ b.data.toList := by
  rw [ByteArray.data_append, Array.toList_append]

def foundI (base key : List UInt8) : Int := match findFirst base key with | some j => (j : Int) | none => -1

end Go.Proofs.Ytabpiaaknjcnkab

/-
  The document's answer: Wrong, Apply.
-/
namespace Go.Proofs.Ytabpiaaknjcnkab
open Go.RowKit
set_option linter.unusedVariables false
set_option linter.unusedSimpArgs false
set_option maxRecDepth 100000

/-- What the document's answer says of a row of ops. -/
def wrongI (xs : List DOp) (b : Int) : Int := if faultF xs b < xs.length then (faultF xs b : Int) else -1

end Go.Proofs.Ytabpiaaknjcnkab

/-
  The document's answer: Apply; the program's Apply in the same words.
-/
namespace Go.Proofs.Ytabpiaaknjcnkab
open Go.RowKit
set_option linter.unusedVariables false
set_option linter.unusedSimpArgs false
set_option maxRecDepth 100000

def appS (base : ByteArray) (xs : List DOp) : ByteArray := if 2000 < base.size then ⟨#[]⟩ else if faultF xs base.size < xs.length then ⟨#[]⟩ else ⟨(madeL base.data.toList xs).toArray⟩
def appE (base : ByteArray) (xs : List DOp) : Int := if 2000 < base.size then 1 else if faultF xs base.size < xs.length then 2 else 0
def appP (base : ByteArray) (xs : List DOp) : Int := if 2000 < base.size then 0 else if faultF xs base.size < xs.length then faultF xs base.size else 0

end Go.Proofs.Ytabpiaaknjcnkab

/-
  The walks over piece, join and sizeOfAll.
-/
namespace Go.Proofs.Ytabpiaaknjcnkab
open Go.RowKit
set_option linter.unusedVariables false
set_option linter.unusedSimpArgs false
set_option maxRecDepth 100000

theorem ret_op {f f' l l' : Int} {t t' : ByteArray} (h1 : f = f') (h2 : l = l') (h3 : t = t') : Ending.returned (.agg #[.int .i64 f, .int .i64 l, .string t]) = .returned (.agg #[.int .i64 f', .int .i64 l', .string t']) := by rw [h1, h2, h3]

theorem opCells_nil : opCells [] = [] := rfl
/-- A cell of a row of ops is stored over. -/
theorem own_setCell {w : World} {base g cap j : Nat} {xs ys : List DOp} {v : Value} (h : OwnOps w base (.slice (some ⟨g, 0, none⟩) xs.length cap) xs) (hj : j < xs.length * 3) (hy : ys.length = xs.length) (he : (opCells xs).set j v = opCells ys) :
    OwnOps (w.setCell ⟨g, j, none⟩ v) base (.slice (some ⟨g, 0, none⟩) xs.length cap) ys := by
  rcases h.2 with ⟨h', _⟩ | ⟨g', cap', cur, hv, hg, hbk, h1, h2, h3, h4⟩
  · cases h'
  · cases hv
    refine ⟨opCells_length _, .inr ⟨g, cap, _, by rw [hy], hg, Lib.heap_setCell_same hbk _, by omega, h2, by simpa using h3, ?_⟩⟩
    have h4' : cur.toList = opCells xs ++ cur.toList.drop (xs.length * 3) := by
      conv => lhs; rw [← List.take_append_drop (xs.length * 3) cur.toList, h4]
    simp only [Array.toList_setIfInBounds]
    rw [h4', List.set_append_left _ _ (by rw [opCells_length]; omega), he]
    rw [List.take_left' (by rw [opCells_length])]
theorem set_len (A : List DOp) (o : DOp) (l : Int) : (opCells (A ++ [o])).set (A.length * 3 + 1) (.int .i64 l) = opCells (A ++ [⟨o.fr, l, o.tx⟩]) := by
  have e : ∀ q : DOp, opCells (A ++ [q]) = opCells A ++ [.int .i64 q.fr, .int .i64 q.len, .string q.tx] := fun q => by rw [opCells_append]; rfl
  rw [e, e]
  have hl := opCells_length A
  rw [List.set_append_right _ _ (by omega), show A.length * 3 + 1 - (opCells A).length = 1 from by omega]
  rfl
theorem set_tx (A : List DOp) (o : DOp) (t : ByteArray) : (opCells (A ++ [o])).set (A.length * 3 + 2) (.string t) = opCells (A ++ [⟨o.fr, o.len, t⟩]) := by
  have e : ∀ q : DOp, opCells (A ++ [q]) = opCells A ++ [.int .i64 q.fr, .int .i64 q.len, .string q.tx] := fun q => by rw [opCells_append]; rfl
  rw [e, e]
  have hl := opCells_length A
  rw [List.set_append_right _ _ (by omega), show A.length * 3 + 2 - (opCells A).length = 2 from by omega]
  rfl
theorem own_last {w : World} {base g cap n : Nat} {A : List DOp} {o : DOp} (hn : n = A.length + 1) (h : OwnOps w base (.slice (some ⟨g, 0, none⟩) n cap) (A ++ [o])) (l : Int) (t : ByteArray) :
    OwnOps ((w.setCell ⟨g, A.length * 3 + 1, none⟩ (.int .i64 l)).setCell ⟨g, A.length * 3 + 2, none⟩ (.string t)) base (.slice (some ⟨g, 0, none⟩) n cap) (A ++ [⟨o.fr, l, t⟩]) := by
  have hl1 : (A ++ [o]).length = A.length + 1 := by simp
  have hl2 : (A ++ [(⟨o.fr, l, o.tx⟩ : DOp)]).length = A.length + 1 := by simp
  subst hn
  rw [← hl1] at h
  have h1 := own_setCell h (by omega) (by rw [hl2, hl1]) (set_len A o l)
  rw [hl1, ← hl2] at h1
  have h2 := own_setCell h1 (by omega) (by simp) (set_tx A ⟨o.fr, l, o.tx⟩ t)
  rw [hl2] at h2
  exact h2

end Go.Proofs.Ytabpiaaknjcnkab

/-
  The walks over sizeOfAll and joinStretch.
-/
namespace Go.Proofs.Ytabpiaaknjcnkab
open Go.RowKit
set_option linter.unusedVariables false
set_option linter.unusedSimpArgs false
set_option maxRecDepth 100000

theorem sumI_take_succ {xs : List DOp} {k : Nat} {o : DOp} (h : xs[k]? = some o) : sumI (xs.take (k + 1)) = sumI (xs.take k) + sizeI o.len o.tx := by
  induction xs generalizing k with
  | nil => simp at h
  | cons a r ih =>
    cases k with
    | zero => simp at h; subst h; simp [sumI]
    | succ k => simp only [List.getElem?_cons_succ] at h; have := ih h; simp only [List.take_succ_cons, sumI]; omega
theorem sumI_nonneg (xs : List DOp) : 0 ≤ sumI xs := by
  induction xs with
  | nil => simp [sumI]
  | cons a r ih => have := sizeI_nonneg a.len a.tx; simp only [sumI]; omega
theorem sumI_take_le (xs : List DOp) (k : Nat) : sumI (xs.take k) ≤ sumI xs := by
  induction xs generalizing k with
  | nil => simp [sumI]
  | cons a r ih =>
    cases k with
    | zero => simp only [List.take_zero, sumI]; have := sizeI_nonneg a.len a.tx; have := sumI_nonneg r; omega
    | succ k => have := ih k; simp only [List.take_succ_cons, sumI]; omega

/-- What a stretch adds, op by op. -/
theorem pieceGo_drop {xs : List DOp} {k : Nat} {o : DOp} (h : xs[k]? = some o) (f n : Int) : pieceGo (xs.drop k) f n =
    (if 0 < min n (sizeI o.len o.tx - min f (sizeI o.len o.tx)) then [pieceP o (min f (sizeI o.len o.tx)) (min n (sizeI o.len o.tx - min f (sizeI o.len o.tx)))] else []) ++
      pieceGo (xs.drop (k + 1)) (f - min f (sizeI o.len o.tx)) (n - min n (sizeI o.len o.tx - min f (sizeI o.len o.tx))) := by
  rw [drop_cons h, pieceGo]

theorem sumI_append (xs ys : List DOp) : sumI (xs ++ ys) = sumI xs + sumI ys := by
  induction xs with
  | nil => simp [sumI]
  | cons a r ih => simp only [List.cons_append, sumI, ih]; omega
/-- Ops of a delta that is being made: so many bytes at most. -/
structure Fit (M : Int) (xs : List DOp) : Prop where
  nice : ∀ p ∈ xs, Nice p ∧ p.fr ≤ 4000
  sum : sumI xs ≤ M
theorem sumI_mem {xs : List DOp} {p : DOp} (h : p ∈ xs) : sizeI p.len p.tx ≤ sumI xs := by
  induction xs with
  | nil => cases h
  | cons a r ih =>
    simp only [sumI]
    have := sumI_nonneg r
    have := sizeI_nonneg a.len a.tx
    rcases List.mem_cons.1 h with rfl | h
    · omega
    · have := ih h; omega
theorem Fit.length {M : Int} {xs : List DOp} (h : Fit M xs) : (xs.length : Int) ≤ M := by
  have : (xs.length : Int) ≤ sumI xs := by
    have hn := h.nice
    clear h
    induction xs with
    | nil => simp [sumI]
    | cons a r ih =>
      have h1 := (hn a (by simp)).1.size.2
      have h2 := ih (fun p hp => hn p (by simp [hp]))
      simp only [List.length_cons, sumI]; omega
  have := h.sum; omega
theorem Fit.small {M : Int} {xs : List DOp} (h : Fit M xs) (hM : M ≤ 100000) : xs.length ≤ 100000 ∧ ∀ p ∈ xs, 0 ≤ p.fr ∧ p.fr ≤ 100000000 ∧ 0 ≤ p.len ∧ p.len ≤ 100000000 ∧ p.tx.size ≤ 100000000 := by
  refine ⟨by have := h.length; omega, fun p hp => ?_⟩
  have h1 := sumI_mem hp
  have h2 := h.sum
  obtain ⟨h3, h4⟩ := h.nice p hp
  unfold sizeI at h1
  rcases h3 with ⟨a, b, c⟩ | ⟨a, b, c⟩
  · rw [if_pos a] at h1; omega
  · rw [if_neg (by omega)] at h1; omega
theorem Fit.mono {M N : Int} {xs : List DOp} (h : Fit M xs) (hM : M ≤ N) : Fit N xs := ⟨h.nice, by have := h.sum; omega⟩
theorem Fit.join {M : Int} {xs : List DOp} {o : DOp} (h : Fit M xs) (ho : Nice o) (hf : o.fr ≤ 4000) : Fit (M + sizeI o.len o.tx) (joinP xs o) := by
  have hN := joinP_nice xs o (fun p hp => (h.nice p hp).1) ho
  have hs := h.sum
  rcases List.eq_nil_or_concat xs with rfl | ⟨A, l, rfl⟩
  · rw [joinP_nil]
    exact ⟨by simpa using ⟨ho, hf⟩, by simp only [sumI] at hs ⊢; omega⟩
  · have hl : Nice l ∧ l.fr ≤ 4000 := h.nice l (by simp)
    rw [List.concat_eq_append] at *
    have hfo := nice_follow hl.1 ho
    rw [joinP_snoc] at hN ⊢
    rw [sumI_append] at hs
    simp only [sumI] at hs
    split
    · refine ⟨fun p hp => ?_, by rw [sumI_append, sumI_append]; simp only [sumI]; omega⟩
      rcases List.mem_append.1 hp with hp | hp
      · exact h.nice p hp
      · rw [List.mem_singleton.1 hp]; exact ⟨ho, hf⟩
    · rename_i hc
      rw [if_neg hc] at hN
      have hfb : followB l.fr l.len o.fr o.len = false := by simpa using hc
      refine ⟨fun p hp => ⟨hN p hp, ?_⟩, ?_⟩
      · rcases List.mem_append.1 hp with hp | hp
        · exact (h.nice p (by simp [hp])).2
        · rw [List.mem_singleton.1 hp]; exact hl.2
      · rw [sumI_append]
        simp only [sumI]
        have e : sizeI (l.len + o.len) (l.tx ++ o.tx) = sizeI l.len l.tx + sizeI o.len o.tx := by
          unfold sizeI
          rcases ho with ⟨h1, h2, h3⟩ | ⟨h1, h2, h3⟩
          · have := (hfo.1 h1).1 hfb
            rw [if_pos (by omega), if_pos this.1, if_pos h1]
          · have := (hfo.2 h1).1 hfb
            rw [if_neg (by omega), if_neg (by omega), if_neg (by omega), ByteArray.size_append]; omega
        omega
theorem Nice.fit_piece {o : DOp} (h : Nice o) (hf : o.fr ≤ 2000) (hl : o.len ≤ 2000) {s t : Int} (hs : 0 ≤ s) (ht : 0 < t) (hst : s + t ≤ sizeI o.len o.tx) : Nice (pieceP o s t) ∧ (pieceP o s t).fr ≤ 4000 ∧ sizeI (pieceP o s t).len (pieceP o s t).tx = t ∧ (pieceP o s t).tx.size ≤ o.tx.size ∧ (pieceP o s t).len ≤ 2000 ∧ 0 ≤ (pieceP o s t).len := by
  obtain ⟨h1, h2⟩ := piece_cells h hs ht hst
  refine ⟨h2, ?_⟩
  unfold pieceP sizeI
  unfold sizeI at hst
  by_cases hc : 0 < o.len
  · rw [if_pos hc] at hst
    simp only [if_pos hc]
    refine ⟨by omega, by rw [if_pos ht], Nat.zero_le _, by omega, by omega⟩
  · rw [if_neg hc] at hst
    simp only [if_neg hc]
    rw [if_neg (by omega), size_ext _ _ _ (by omega)]
    omega

end Go.Proofs.Ytabpiaaknjcnkab

/-
  The walks over the program's Compose.
-/
namespace Go.Proofs.Ytabpiaaknjcnkab
open Go.RowKit
set_option linter.unusedVariables false
set_option linter.unusedSimpArgs false
set_option maxRecDepth 100000

theorem View.slice {w : World} {v : Value} {xs : List DOp} (h : View w v xs) : ∃ ao cap, v = .slice ao xs.length cap := by
  rcases h with ⟨rfl, ao, cap, rfl⟩ | ⟨b, off, cap, rfl, _⟩
  · exact ⟨ao, cap, rfl⟩
  · exact ⟨_, _, rfl⟩
/-- The ops are such as an int holds. -/
def Ints (xs : List DOp) : Prop := xs.length ≤ 5000000000000 ∧ (∀ o ∈ xs, o.len ≤ 9223372036854775807) ∧ ∀ o ∈ xs, o.tx.size ≤ 9223372036854770000

theorem fault_view {v : Value} {xs : List DOp} {w : World} (hv : View w v xs) (hi : Ints xs) (bs : Int) (h0 : 0 ≤ bs) (h1 : bs ≤ 2000) :
    Calls Try.prog 121 #[v, .int .i64 bs] w fun e w' => e = .returned (.int .i64 (faultF xs bs)) ∧ Below w.heap.size w w' := by
  rcases hv with ⟨rfl, ao, cap, rfl⟩ | ⟨b, off, cap, rfl, hb, hr⟩
  · refine (firstFault_nil ao cap bs w).mono ?_
    rintro e w' ⟨rfl, rfl⟩
    exact ⟨rfl, Below.refl _ _⟩
  · exact firstFault_any b off cap xs bs w h0 h1 hi.1 hr hi.2.1 hb
theorem fault_len {xs : List DOp} {b : Int} (h : faultF xs b = xs.length) : xs.length ≤ 200 := by
  have key : ∀ (xs : List DOp) (p : Option DOp) (i : Nat) (m : Int), i ≤ 200 → faultGo b xs p i m = i + xs.length → i + xs.length ≤ 200 := by
    intro xs
    induction xs with
    | nil => intro p i m hi _; simpa using hi
    | cons o r ih =>
      intro p i m hi h
      rw [faultGo] at h
      simp only [List.length_cons] at h ⊢
      by_cases h1 : i = 200
      · rw [if_pos h1] at h; omega
      · rw [if_neg h1] at h
        split at h
        · omega
        · split at h
          · omega
          · split at h
            · omega
            · have := ih _ (i + 1) _ (by omega) (by rw [h]; omega); omega
  have := key xs none 0 0 (by omega) (by unfold faultF at h; simpa using h)
  omega
/-- What a delta is. -/
structure Delta (xs : List DOp) (b : Int) : Prop where
  each : ∀ o ∈ xs, Nice o ∧ (0 < o.len → o.fr + o.len ≤ b)
  sum : sumI xs ≤ 2000
  len : xs.length ≤ 200
theorem delta_of {xs : List DOp} {b : Int} (h : faultF xs b = xs.length) : Delta xs b := by
  obtain ⟨h1, h2⟩ := fault_all (b := b) (xs := xs) (p := none) (i := 0) (m := 0) (by unfold faultF at h; simpa using h) (by omega)
  exact ⟨fun o ho => nice_of_isOp (h1 o ho), by omega, fault_len h⟩
theorem Delta.parts {xs : List DOp} {b : Int} (h : Delta xs b) (hb : b ≤ 2000) : ∀ o ∈ xs, Nice o ∧ o.fr ≤ 2000 ∧ o.len ≤ 2000 ∧ o.tx.size ≤ 2000 := by
  intro o ho
  obtain ⟨h1, h2⟩ := h.each o ho
  have h3 := sumI_mem ho
  have h4 := h.sum
  refine ⟨h1, ?_⟩
  unfold sizeI at h3
  rcases h1 with ⟨a, b', c⟩ | ⟨a, b', c⟩
  · have := h2 a; rw [if_pos a] at h3; omega
  · rw [if_neg (by omega)] at h3; omega

def cmpF (xs ys : List DOp) : Nat := if faultF xs 2000 < xs.length then faultF xs 2000 else if faultF ys (sumI xs) < ys.length then xs.length + faultF ys (sumI xs) else xs.length + ys.length
def cmpOk (xs ys : List DOp) : Prop := ¬ faultF xs 2000 < xs.length ∧ ¬ faultF ys (sumI xs) < ys.length ∧ ¬ 200 < (compOps xs ys).length
def cmpDec (xs ys : List DOp) : Decidable (cmpOk xs ys) := inferInstanceAs (Decidable (_ ∧ _ ∧ _))
def cmpL (xs ys : List DOp) : List DOp := @ite _ (cmpOk xs ys) (cmpDec xs ys) (compOps xs ys) []
def cmpE (xs ys : List DOp) : Int := @ite _ (cmpOk xs ys) (cmpDec xs ys) 0 2
def cmpP (xs ys : List DOp) : Int := @ite _ (cmpOk xs ys) (cmpDec xs ys) 0 (cmpF xs ys)

theorem ret_three {v : Value} {a b c d : Int} (h1 : a = c) (h2 : b = d) : Ending.returned (.tuple #[v, .int .i64 a, .int .i64 b]) = .returned (.tuple #[v, .int .i64 c, .int .i64 d]) := by rw [h1, h2]

end Go.Proofs.Ytabpiaaknjcnkab
