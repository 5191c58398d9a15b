/- The texts L5, R1, R2, R4, one behind the other. -/
import Derived.Test.YtabpiaaknjcnkaaXL3L4
import Derived.LoopTactic
import Derived.Deep.AppendLies
import Derived.Deep.RegionHeld3
import Derived.Deep.RegionLaw
import Derived.Test.YtabpiaaknjcnkaaXWCL1
import Derived.Test.YtabpiaaknjcnkaaXW1W3
import Derived.Deep.QuietTactic
import Derived.BigQuiet
/-
  The book: a list is written full with its mark, and made longer.
-/
namespace Go.Proofs.Ytabpiaaknjcnkaa
open Go.RowKit
set_option linter.unusedVariables false
set_option linter.unusedSimpArgs false
set_option maxRecDepth 100000

/-- What the book has of a list that came out. -/
structure Entry where
  l : Value
  a : Value
  b : Value
  c : Value
  n : Nat
  m : Int
def entryCells (es : List Entry) : List Value := es.flatMap fun e => [e.l, e.a, e.b, e.c, .int .i64 e.m]
theorem entryCells_length (es : List Entry) : (entryCells es).length = es.length * 5 := by
  induction es with
  | nil => rfl
  | cons e r ih => simp [entryCells] at ih ⊢; omega
theorem entryCells_append (xs ys : List Entry) : entryCells (xs ++ ys) = entryCells xs ++ entryCells ys := by simp [entryCells]

def low (v : Value) (S : Nat → Prop) : Prop := ∀ g, v.ownBlock = some g → S g
structure Marked (w : World) (e : Entry) (S : Nat → Prop) : Prop where
  l : OwnOps w 0 e.l (marks e.n e.m)
  a : OwnOps w 0 e.a (marks (e.n + 1) e.m)
  b : OwnOps w 0 e.b (marks (e.n + 2) e.m)
  c : OwnOps w 0 e.c (marks (e.n + 3) e.m)
  n : e.n ≤ 100000
  lowl : low e.l S
  lowa : low e.a S
  lowb : low e.b S
  lowc : low e.c S

/-- 'append' of marks, as the walk takes it. -/
theorem wpList_append_marks (w : World) {ops : Array Oper} {rest : List Oper} {o : Oper} {a : Act} {Q : Exit → Act → World → Prop} (hgd : o.guard = none) (s x : Operand)
    (ho : o.op = .call { callee := .builtin .append, args := #[s, x], argTypes := #[26, 26] })
    (base : Nat) (v : Value) (n k : Nat) (m : Int) (hs : a.eval s = v) (hown : OwnOps w base v (marks n m)) (ad : Addr) (c : Nat) (hx : a.eval x = .slice (some ad) k c) (hnews : ∀ j u, (opCells (marks k m))[j]? = some u → w.cell? (ad.add j) = some u)
    (hk : 0 < k) (hle : n + k ≤ 1000000000) (hbase : base ≤ w.heap.size)
    (h : ∀ v' w', OwnOps w' base v' (marks (n + k) m) → (∀ u j, OwnOps w base u (marks j m) → OwnOps w' base u (marks j m)) → w.grownBy w' v.ownBlock → wpList Try.prog ops Q rest (a.put o.dst v') w') : wpList Try.prog ops Q (o :: rest) a w := by
  refine wpList_plain hgd fun K hK => ?_
  obtain ⟨v', w', hr, h1, h2, h3⟩ := run_append_marks w o.type base v n k m hown ad c hnews hk hle hbase
  unfold Oper.wp execOp
  simp only [ho, resolve, invoke, builtin, Sem.run_bind, Sem.run_pure, Result.andThen_ok, List.map_toArray, List.map_cons, List.map_nil, hs, hx, hr]
  exact hK _ _ (h v' w' h1 h2 h3)

theorem marks_snoc (k : Nat) (m : Int) : marks k m ++ [(⟨m, 0, ⟨#[]⟩⟩ : DOp)] = marks (k + 1) m := by
  rw [marks, marks, List.replicate_succ']; rfl

theorem far1 {w : World} {g a q : Nat} {x : Value} (h : ¬ q = g) : (w.setCell ⟨g, a, none⟩ x).heap[q]? = w.heap[q]? := Below.heap_setCell _ _ _ _ h
theorem far3 {w : World} {g a b c q : Nat} {x y z : Value} (h : ¬ q = g) : (((w.setCell ⟨g, a, none⟩ x).setCell ⟨g, b, none⟩ y).setCell ⟨g, c, none⟩ z).heap[q]? = w.heap[q]? :=
  (far1 h).trans ((far1 h).trans (far1 h))
theorem own_far {w : World} {base : Nat} {v : Value} {xs : List DOp} {g a : Nat} {x : Value} (h : OwnOps w base v xs) (hg : ∀ k, v.ownBlock = some k → ¬ k = g) : OwnOps (w.setCell ⟨g, a, none⟩ x) base v xs :=
  own_block h (fun k hk => far1 (hg k hk))

theorem news_marks {w : World} {B k : Nat} {cs : Array Value} {m : Int} (hb : w.heap[B]? = some (.cells cs 33 (0, 0))) (h : cs.toList = opCells (marks k m)) : ∀ j u, (opCells (marks k m))[j]? = some u → w.cell? ((⟨B, 0, none⟩ : Addr).add j) = some u := by
  rw [← h]; exact World.news_of_block hb

theorem row_block {w w' : World} {base : Nat} {e : TypeId} {size n : Nat} {v : Value} {xs : List Value} (h : w.ownsRow base e size v n xs) (hb : ∀ g, v.ownBlock = some g → w'.heap[g]? = w.heap[g]?) : w'.ownsRow base e size v n xs := by
  refine ⟨h.1, ?_⟩
  rcases h.2 with h' | ⟨g, cap, cur, rfl, hg, hbk, hr⟩
  · exact .inl h'
  · exact .inr ⟨g, cap, cur, rfl, hg, by rw [hb g rfl]; exact hbk, hr⟩
theorem entry_one (l a b c : Value) (m : Int) (hl : l.oneCell' = true) (ha : a.oneCell' = true) (hb : b.oneCell' = true) (hc : c.oneCell' = true) : ∀ u ∈ entryCells [⟨l, a, b, c, 0, m⟩], u.oneCell' = true := by
  intro u hu
  simp [entryCells] at hu
  rcases hu with rfl | rfl | rfl | rfl | rfl
  · exact hl
  · exact ha
  · exact hb
  · exact hc
  · rfl
theorem far_new {w4 W w5 : World} {own : Option Nat} (gr : W.grownBy w5 own) (hW : ∀ q, q < w4.heap.size → W.heap[q]? = w4.heap[q]?) (hs : w4.heap.size ≤ W.heap.size) : ∀ q, q < w4.heap.size → own ≠ some q → w5.heap[q]? = w4.heap[q]? := by
  intro q hq hne
  rw [gr.block q (by omega) (Ne.symm hne), hW q hq]
theorem alloc_le {w : World} {o : Obj} {n : Nat} (h : n ≤ w.heap.size) : n ≤ (w.alloc o).heap.size := by simp; omega
theorem alloc_size1 {w : World} {o : Obj} : (w.alloc o).heap.size = w.heap.size + 1 := by simp
theorem alloc_at {w : World} {o : Obj} {q : Nat} (h : w.heap.size = q) : (w.alloc o).heap[q]? = some o := by subst h; exact heap_alloc_new _ _

/-- A list of ops lies in no block of another kind. -/
theorem own_ne {w : World} {base : Nat} {v : Value} {xs : List DOp} {q : Nat} {cs : Array Value} {T : TypeId} {fr : Nat × Nat} (h : OwnOps w base v xs) (hq : w.heap[q]? = some (.cells cs T fr)) (hT : T ≠ 33) : ∀ g, v.ownBlock = some g → ¬ g = q := by
  intro g hg e
  subst e
  rcases h.2 with ⟨rfl, _⟩ | ⟨g', cap, cur, rfl, _, hbk, _⟩
  · cases hg
  · obtain rfl : g' = g := by simpa [Value.ownBlock] using hg
    rw [hq] at hbk
    cases hbk
    exact hT rfl

theorem OwnOps.lt {w : World} {base : Nat} {ao : Option Addr} {n cap : Nat} {xs : List DOp} (h : OwnOps w base (.slice ao n cap) xs) : low (.slice ao n cap) (· < w.heap.size) := fun g hg => row_own_lt h hg

end Go.Proofs.Ytabpiaaknjcnkaa

/-
  The document's answer: find, made.
-/
namespace Go.Proofs.Ytabpiaaknjcnkaa
open Go.RowKit
set_option linter.unusedVariables false
set_option linter.unusedSimpArgs false
set_option maxRecDepth 100000

theorem bytes_app (a b : ByteArray) : (a ++ b).data.toList = a.data.toList ++ b.data.toList := by
  rw [ByteArray.data_append, Array.toList_append]

def foundI (base key : List UInt8) : Int := match findFirst base key with | some j => (j : Int) | none => -1

end Go.Proofs.Ytabpiaaknjcnkaa

/-
  The document's answer: Wrong, Apply.
-/
namespace Go.Proofs.Ytabpiaaknjcnkaa
open Go.RowKit
set_option linter.unusedVariables false
set_option linter.unusedSimpArgs false
set_option maxRecDepth 100000

/-- What the document's answer says of a row of ops. -/
def wrongI (xs : List DOp) (b : Int) : Int := if faultF xs b < xs.length then (faultF xs b : Int) else -1

end Go.Proofs.Ytabpiaaknjcnkaa

/-
  The document's answer: Apply; the program's Apply in the same words.
-/
namespace Go.Proofs.Ytabpiaaknjcnkaa
open Go.RowKit
set_option linter.unusedVariables false
set_option linter.unusedSimpArgs false
set_option maxRecDepth 100000

def appS (base : ByteArray) (xs : List DOp) : ByteArray := if 2000 < base.size then ⟨#[]⟩ else if faultF xs base.size < xs.length then ⟨#[]⟩ else ⟨(madeL base.data.toList xs).toArray⟩
def appE (base : ByteArray) (xs : List DOp) : Int := if 2000 < base.size then 1 else if faultF xs base.size < xs.length then 2 else 0
def appP (base : ByteArray) (xs : List DOp) : Int := if 2000 < base.size then 0 else if faultF xs base.size < xs.length then faultF xs base.size else 0

/-- What Apply of the program says, in one. -/
theorem capply_any {base : ByteArray} {v : Value} {xs : List DOp} {w : World} (hs : base.size ≤ 9223372036854775807) (hx : xs.length ≤ 5000000000000) (hv : View w v xs) (hl : ∀ o ∈ xs, o.len ≤ 9223372036854775807) :
    Calls Try.prog 12 #[.string base, v] w fun e w' => e = .returned (.tuple #[.string (appS base xs), .int .i64 (appE base xs), .int .i64 (appP base xs)]) ∧ Below w.heap.size w w' := by
  refine capply_of ?_
  unfold appS appE appP
  by_cases h : 2000 < base.size
  · simp only [if_pos h]
    exact (apply_long base v w h hs).mono (fun e w' ⟨a, b⟩ => ⟨a, by rw [b]; exact Below.refl _ _⟩)
  · simp only [if_neg h]
    rcases hv with ⟨rfl, ao, cap, rfl⟩ | ⟨b, off, cap, rfl, hbw, hr⟩
    · exact apply_nil base ao cap w (by omega)
    · by_cases hf : faultF xs base.size < xs.length
      · simp only [if_pos hf]
        exact apply_fault base b off cap xs w (by omega) hx hr hl hbw hf
      · simp only [if_neg hf]
        exact apply_ok base b off cap xs w (by omega) hx hr hl hbw (by have := faultF_le xs base.size; omega)
end Go.Proofs.Ytabpiaaknjcnkaa
