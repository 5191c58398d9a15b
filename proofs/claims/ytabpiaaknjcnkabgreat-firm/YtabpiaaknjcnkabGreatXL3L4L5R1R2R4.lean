/- The texts L3, L4, L5, R1, R2, R4, one behind the other. -/
import Derived.Test.YtabpiaaknjcnkabGreatXWCL1L2
import Derived.LoopTactic
import Derived.Deep.AppendLies
import Derived.Deep.RegionHeld3
import Derived.Deep.RegionLaw
import Derived.Test.YtabpiaaknjcnkabGreatXW1W3W4
import Derived.Deep.QuietTactic
import Derived.BigQuiet
/-
  The walks over lent and back.
-/
namespace Go.Proofs.YtabpiaaknjcnkabGreat
open Go.RowKit
set_option linter.unusedVariables false
set_option linter.unusedSimpArgs false
set_option maxRecDepth 100000

theorem add_block (a : Addr) (j : Nat) : (a.add j).block = a.block := by unfold Addr.add; split <;> rfl

theorem view_src {w : World} {v : Value} {xs : List DOp} (h : View w v xs) : ∃ sp cap, v = .slice sp xs.length cap ∧
    (0 < xs.length → ∃ ad, sp = some ad ∧ ad.block < w.heap.size ∧ ∀ j u, (opCells xs)[j]? = some u → w.cell? (ad.add j) = some u) := by
  rcases h with ⟨rfl, ao, cap, rfl⟩ | ⟨b, off, cap, rfl, hb, hr⟩
  · exact ⟨ao, cap, rfl, fun h => by simp at h⟩
  · exact ⟨_, cap, rfl, fun _ => ⟨_, rfl, hb, View.cells hr⟩⟩

theorem own_of_row {w : World} {g n : Nat} {Y : Array Value} {xs : List DOp} (hbk : w.heap[g]? = some (.cells Y 48 (0, 0))) (hY : Y.toList = opCells xs) (hn : xs.length = n) (hm : n ≤ maxLen) (base : Nat) (hb : base ≤ g) :
    OwnOps w base (.slice (some ⟨g, 0, none⟩) n n) xs := by
  subst hn
  have hs : Y.size = xs.length * 3 := by rw [← Array.length_toList, hY, opCells_length]
  exact ⟨opCells_length xs, .inr ⟨g, xs.length, Y, rfl, hb, hbk, Nat.le_refl _, hm, hs, by rw [hY, List.take_of_length_le (by rw [opCells_length]; exact Nat.le_refl _)]⟩⟩

/-- The head of a row of the call's own. -/
theorem own_head {w : World} {base g cap n : Nat} {xs ys : List DOp} (h : OwnOps w base (.slice (some ⟨g, 0, none⟩) n cap) (xs ++ ys)) (c : Nat) : View w (.slice (some ⟨g, 0, none⟩) xs.length c) xs := by
  rcases reads_of_own h with ⟨h', _⟩ | ⟨g', cap', hv, hg, _, hr⟩
  · cases h'
  · cases hv
    refine .inr ⟨g, 0, c, rfl, hg, fun i o ho => hr i o ?_⟩
    have hi := (List.getElem?_eq_some_iff.1 ho).1
    rw [List.getElem?_append_left hi]; exact ho

def seven : DOp := ⟨77, 0, ⟨#[]⟩⟩

theorem gb_refl (w : World) (r : Option Nat) : w.grownBy w r := ⟨rfl, rfl, rfl, Nat.le_refl _, fun _ _ _ => rfl⟩
theorem gb_below {w w' : World} (h : Below w.heap.size w w') (r : Option Nat) : w.grownBy w' r := ⟨h.os, h.tape, h.output, h.size, fun k hk _ => h.block k hk⟩
theorem gb_set {w w' : World} {g : Nat} (h : w.grownBy w' (some g)) (j : Nat) (u : Value) : w.grownBy (w'.setCell ⟨g, j, none⟩ u) (some g) := by
  have hs := (Below.refl 0 w').setCell (p := ⟨g, j, none⟩) (Nat.zero_le _) u
  exact ⟨hs.os.trans h.os, hs.tape.trans h.tape, hs.output.trans h.output, Nat.le_trans h.size hs.size, fun k hk hne => (Below.heap_setCell _ _ _ _ (fun e => hne (by rw [e]))).trans (h.block k hk hne)⟩

end Go.Proofs.YtabpiaaknjcnkabGreat

/-
  The book's marks: a list that is written full with a mark, and the longer ones.
-/
namespace Go.Proofs.YtabpiaaknjcnkabGreat
open Go.RowKit
set_option linter.unusedVariables false
set_option linter.unusedSimpArgs false
set_option maxRecDepth 100000

abbrev marks (n : Nat) (m : Int) : List DOp := List.replicate n (mark m)

def markCell (m : Int) (p : Nat) : Value := if p % 3 = 0 then .int .i64 m else if p % 3 = 1 then .int .i64 0 else .string ⟨#[]⟩
theorem marks_get (n : Nat) (m : Int) (p : Nat) : (opCells (marks n m))[p]? = if p < n * 3 then some (markCell m p) else none := by
  by_cases hp : p < n * 3
  · rw [if_pos hp]
    obtain ⟨a0, a1, a2⟩ := opCells_get (marks n m) (p / 3) (mark m) (by rw [List.getElem?_replicate, if_pos (by omega)])
    have h3 : p % 3 = 0 ∨ p % 3 = 1 ∨ p % 3 = 2 := by omega
    rcases h3 with h3 | h3 | h3
    · have e : p = p / 3 * 3 := by omega
      rw [markCell, if_pos h3]; conv => lhs; rw [e]
      exact a0
    · have e : p = p / 3 * 3 + 1 := by omega
      rw [markCell, if_neg (by omega), if_pos h3]; conv => lhs; rw [e]
      exact a1
    · have e : p = p / 3 * 3 + 2 := by omega
      rw [markCell, if_neg (by omega), if_neg (by omega)]; conv => lhs; rw [e]
      exact a2
  · rw [if_neg hp, List.getElem?_eq_none (by rw [opCells_length, List.length_replicate]; omega)]

theorem marks_add (n k : Nat) (m : Int) : marks n m ++ marks k m = marks (n + k) m := by simp [marks]

/-- What is owned stays owned where its block stands. -/
theorem own_block {w w' : World} {base : Nat} {v : Value} {xs : List DOp} (h : OwnOps w base v xs) (hb : ∀ g, v.ownBlock = some g → w'.heap[g]? = w.heap[g]?) : OwnOps w' base v xs := by
  refine ⟨h.1, ?_⟩
  rcases h.2 with h' | ⟨g, cap, cur, rfl, hg, hbk, hr⟩
  · exact .inl h'
  · exact .inr ⟨g, cap, cur, rfl, hg, by rw [hb g rfl]; exact hbk, hr⟩

/-- A row of marks over which marks are written. -/
theorem own_marked {w : World} {base g : Nat} {cur : Array Value} {n k j : Nat} {m : Int} {u : Value} (hbk : w.heap[g]? = some (.cells cur 48 (0, 0))) (hcur : cur.toList.take (n * 3) = opCells (marks n m)) (hfit : (n + k) * 3 ≤ cur.size)
    (hu : OwnOps w base u (marks j m)) : OwnOps (w.setRow g (cur.toList.take (n * 3) ++ opCells (marks k m) ++ cur.toList.drop ((n + k) * 3)).toArray) base u (marks j m) := by
  refine ⟨hu.1, ?_⟩
  rcases hu.2 with h' | ⟨g', cap, cur', rfl, hg, hbk', h1, h2, h3, h4⟩
  · exact .inl h'
  · by_cases e : g' = g
    · subst e
      obtain rfl : cur' = cur := by rw [hbk] at hbk'; cases hbk'; rfl
      have hl : (cur'.toList.take (n * 3) ++ opCells (marks k m) ++ cur'.toList.drop ((n + k) * 3)).length = cur'.size := by
        simp only [List.length_append, List.length_take, List.length_drop, opCells_length, List.length_replicate, Array.length_toList]; omega
      refine .inr ⟨g', cap, _, rfl, hg, setRow_heap _ _ cur' _ 48 (0, 0) hbk, h1, h2, by rw [List.size_toArray, hl]; exact h3, ?_⟩
      apply List.ext_getElem?
      intro p
      rw [List.toList_toArray]
      by_cases hp : p < (marks j m).length * 3
      · rw [List.getElem?_take_of_lt hp, marks_get, if_pos (by simpa using hp)]
        by_cases h5 : p < (n + k) * 3
        · rw [List.getElem?_append_left (by simp only [List.length_append, List.length_take, opCells_length, List.length_replicate, Array.length_toList]; omega), hcur, ← opCells_append, marks_add, marks_get, if_pos h5]
        · have hl2 : (cur'.toList.take (n * 3) ++ opCells (marks k m)).length = (n + k) * 3 := by
            simp only [List.length_append, List.length_take, opCells_length, List.length_replicate, Array.length_toList]; omega
          rw [List.getElem?_append_right (by omega), hl2, List.getElem?_drop, show (n + k) * 3 + (p - (n + k) * 3) = p from by omega]
          have h6 := congrArg (fun l : List Value => l[p]?) h4
          rw [List.getElem?_take_of_lt hp, marks_get, if_pos (by simpa using hp)] at h6
          exact h6
      · rw [List.getElem?_eq_none (by rw [List.length_take]; omega), marks_get, if_neg (by simpa using hp)]
    · exact .inr ⟨g', cap, cur', rfl, hg, by rw [setRow_other _ _ _ _ e]; exact hbk', h1, h2, h3, h4⟩

/-- 'append' of marks onto a list of marks of the call's own: it, and whatever else is marked so, reads as before; the new one reads as marks. -/
theorem run_append_marks (w : World) (ty : TypeId) (base : Nat) (v : Value) (n k : Nat) (m : Int) (hown : OwnOps w base v (marks n m)) (ad : Addr) (c : Nat) (hnews : ∀ j u, (opCells (marks k m))[j]? = some u → w.cell? (ad.add j) = some u)
    (hk : 0 < k) (hx : n + k ≤ 1000000000) (hbase : base ≤ w.heap.size) :
    ∃ v' w', (Builtin.append_ #[42, 42] ty #[v, .slice (some ad) k c]).run Tryz.prog w = .ok v' w' ∧ OwnOps w' base v' (marks (n + k) m) ∧ (∀ u j, OwnOps w base u (marks j m) → OwnOps w' base u (marks j m)) ∧ w.grownBy w' v.ownBlock := by
  obtain ⟨i0, hi, hz0, hz1, hz2⟩ := info_parts Tryz.infoOp
  have hl : (opCells (marks k m)).length = k * 3 := by rw [opCells_length, List.length_replicate]
  have hn : (marks n m).length = n := List.length_replicate
  rcases hown.2 with ⟨rfl, h0⟩ | ⟨g, cap, cur, rfl, hg, hbk, h1, h2, h3, h4⟩
  · rw [hn] at h0
    subst h0
    obtain ⟨v', w', hr, ho, hgr, _⟩ := run_append_own (P := Tryz.prog) w base 42 ty 48 i0 (.agg #[.int .i64 0, .int .i64 0, .string ⟨#[]⟩]) 3 32 Tryz.underlying42 hi hz0 hz1 hz2 rfl (by decide) (.slice none 0 0) 0 [] (World.ownsRow_nil _ _ _ _) ad k c (opCells (marks k m)) hl hnews (opCells_all_one _) (by unfold maxLen; omega) (by omega) hbase
    refine ⟨v', w', hr, ?_, fun u j hu => own_block hu (fun g hg => hgr.block g (row_own_lt hu hg) (by simp [Value.ownBlock])), hgr⟩
    simp only [Nat.zero_add, List.nil_append] at ho ⊢
    show w'.ownsRow base 48 3 v' (marks k m).length (opCells (marks k m))
    rw [List.length_replicate]; exact ho
  · rw [hn] at h1 h4
    by_cases hroom : n + k ≤ cap
    · have hr := run_append_room (P := Tryz.prog) w 42 ty 48 i0 Tryz.underlying42 hi g n cap cur hbk ad k c (opCells (marks k m)) (by rw [hl, hz1]) hnews (opCells_all_one _) hroom (by rw [hz1, hl, h3]; omega)
      rw [hz1, hl, ← Nat.add_mul] at hr
      rw [hn]
      refine ⟨_, _, hr, ?_, fun u j hu => own_marked hbk h4 (by omega) hu, ?_⟩
      · have hs : (cur.toList.take (n * 3) ++ opCells (marks k m) ++ cur.toList.drop ((n + k) * 3)).length = cur.size := by
          simp only [List.length_append, List.length_take, List.length_drop, opCells_length, List.length_replicate, Array.length_toList]; omega
        refine ⟨opCells_length _, .inr ⟨g, cap, _, by rw [List.length_replicate], hg, setRow_heap _ _ cur _ 48 (0, 0) hbk, by rw [List.length_replicate]; exact hroom, h2, by rw [List.size_toArray, hs]; exact h3, ?_⟩⟩
        rw [List.toList_toArray, h4, ← opCells_append, marks_add, List.take_left' (by rw [opCells_length])]
      · exact ⟨rfl, rfl, rfl, by simp, fun q _ hq => setRow_other _ _ _ _ (fun e => hq (by rw [e]; rfl))⟩
    · obtain ⟨v', w', hr, ho, hgr⟩ := run_append_arg_grows (P := Tryz.prog) w 42 ty 48 i0 (.agg #[.int .i64 0, .int .i64 0, .string ⟨#[]⟩]) 3 32 Tryz.underlying42 hi hz0 hz1 hz2 rfl (by decide) ⟨g, 0, none⟩ n cap (opCells (marks n m)) (by rw [opCells_length, hn])
        (fun j u hu => (World.ownsRow.cells hown (g := g) rfl) j u hu) ad k c (opCells (marks k m)) hl hnews (by omega) (by unfold maxLen; omega) (by omega)
      rw [hn]
      refine ⟨v', w', hr, ?_, fun u j hu => own_block hu (fun g hg => hgr.block g (row_own_lt hu hg) (by simp)), hgr.but _⟩
      have : OwnOps w' w.heap.size v' (marks (n + k) m) := by
        show w'.ownsRow w.heap.size 48 3 v' (marks (n + k) m).length (opCells (marks (n + k) m))
        rw [List.length_replicate, ← marks_add, opCells_append]; exact ho
      exact this.wide hbase
end Go.Proofs.YtabpiaaknjcnkabGreat

/-
  The book: a list is written full with its mark, and made longer.
-/
namespace Go.Proofs.YtabpiaaknjcnkabGreat
open Go.RowKit
set_option linter.unusedVariables false
set_option linter.unusedSimpArgs false
set_option maxRecDepth 100000

/-- What the book has of a list that came out. -/
structure Entry where
  l : Value
  a : Value
  b : Value
  c : Value
  n : Nat
  m : Int
def entryCells (es : List Entry) : List Value := es.flatMap fun e => [e.l, e.a, e.b, e.c, .int .i64 e.m]
theorem entryCells_length (es : List Entry) : (entryCells es).length = es.length * 5 := by
  induction es with
  | nil => rfl
  | cons e r ih => simp [entryCells] at ih ⊢; omega
theorem entryCells_append (xs ys : List Entry) : entryCells (xs ++ ys) = entryCells xs ++ entryCells ys := by simp [entryCells]

def low (v : Value) (S : Nat → Prop) : Prop := ∀ g, v.ownBlock = some g → S g
structure Marked (w : World) (e : Entry) (S : Nat → Prop) : Prop where
  l : OwnOps w 0 e.l (marks e.n e.m)
  a : OwnOps w 0 e.a (marks (e.n + 1) e.m)
  b : OwnOps w 0 e.b (marks (e.n + 2) e.m)
  c : OwnOps w 0 e.c (marks (e.n + 3) e.m)
  n : e.n ≤ 100000
  lowl : low e.l S
  lowa : low e.a S
  lowb : low e.b S
  lowc : low e.c S

/-- 'append' of marks, as the walk takes it. -/
theorem wpList_append_marks (w : World) {ops : Array Oper} {rest : List Oper} {o : Oper} {a : Act} {Q : Exit → Act → World → Prop} (hgd : o.guard = none) (s x : Operand)
    (ho : o.op = .call { callee := .builtin .append, args := #[s, x], argTypes := #[42, 42] })
    (base : Nat) (v : Value) (n k : Nat) (m : Int) (hs : a.eval s = v) (hown : OwnOps w base v (marks n m)) (ad : Addr) (c : Nat) (hx : a.eval x = .slice (some ad) k c) (hnews : ∀ j u, (opCells (marks k m))[j]? = some u → w.cell? (ad.add j) = some u)
    (hk : 0 < k) (hle : n + k ≤ 1000000000) (hbase : base ≤ w.heap.size)
    (h : ∀ v' w', OwnOps w' base v' (marks (n + k) m) → (∀ u j, OwnOps w base u (marks j m) → OwnOps w' base u (marks j m)) → w.grownBy w' v.ownBlock → wpList Tryz.prog ops Q rest (a.put o.dst v') w') : wpList Tryz.prog ops Q (o :: rest) a w := by
  refine wpList_plain hgd fun K hK => ?_
  obtain ⟨v', w', hr, h1, h2, h3⟩ := run_append_marks w o.type base v n k m hown ad c hnews hk hle hbase
  unfold Oper.wp execOp
  simp only [ho, resolve, invoke, builtin, Sem.run_bind, Sem.run_pure, Result.andThen_ok, List.map_toArray, List.map_cons, List.map_nil, hs, hx, hr]
  exact hK _ _ (h v' w' h1 h2 h3)

theorem marks_snoc (k : Nat) (m : Int) : marks k m ++ [(⟨m, 0, ⟨#[]⟩⟩ : DOp)] = marks (k + 1) m := by
  rw [marks, marks, List.replicate_succ']; rfl

theorem far1 {w : World} {g a q : Nat} {x : Value} (h : ¬ q = g) : (w.setCell ⟨g, a, none⟩ x).heap[q]? = w.heap[q]? := Below.heap_setCell _ _ _ _ h
theorem far3 {w : World} {g a b c q : Nat} {x y z : Value} (h : ¬ q = g) : (((w.setCell ⟨g, a, none⟩ x).setCell ⟨g, b, none⟩ y).setCell ⟨g, c, none⟩ z).heap[q]? = w.heap[q]? :=
  (far1 h).trans ((far1 h).trans (far1 h))
theorem own_far {w : World} {base : Nat} {v : Value} {xs : List DOp} {g a : Nat} {x : Value} (h : OwnOps w base v xs) (hg : ∀ k, v.ownBlock = some k → ¬ k = g) : OwnOps (w.setCell ⟨g, a, none⟩ x) base v xs :=
  own_block h (fun k hk => far1 (hg k hk))

theorem news_marks {w : World} {B k : Nat} {cs : Array Value} {m : Int} (hb : w.heap[B]? = some (.cells cs 48 (0, 0))) (h : cs.toList = opCells (marks k m)) : ∀ j u, (opCells (marks k m))[j]? = some u → w.cell? ((⟨B, 0, none⟩ : Addr).add j) = some u := by
  rw [← h]; exact World.news_of_block hb

theorem row_block {w w' : World} {base : Nat} {e : TypeId} {size n : Nat} {v : Value} {xs : List Value} (h : w.ownsRow base e size v n xs) (hb : ∀ g, v.ownBlock = some g → w'.heap[g]? = w.heap[g]?) : w'.ownsRow base e size v n xs := by
  refine ⟨h.1, ?_⟩
  rcases h.2 with h' | ⟨g, cap, cur, rfl, hg, hbk, hr⟩
  · exact .inl h'
  · exact .inr ⟨g, cap, cur, rfl, hg, by rw [hb g rfl]; exact hbk, hr⟩
theorem entry_one (l a b c : Value) (m : Int) (hl : l.oneCell' = true) (ha : a.oneCell' = true) (hb : b.oneCell' = true) (hc : c.oneCell' = true) : ∀ u ∈ entryCells [⟨l, a, b, c, 0, m⟩], u.oneCell' = true := by
  intro u hu
  simp [entryCells] at hu
  rcases hu with rfl | rfl | rfl | rfl | rfl
  · exact hl
  · exact ha
  · exact hb
  · exact hc
  · rfl
theorem far_new {w4 W w5 : World} {own : Option Nat} (gr : W.grownBy w5 own) (hW : ∀ q, q < w4.heap.size → W.heap[q]? = w4.heap[q]?) (hs : w4.heap.size ≤ W.heap.size) : ∀ q, q < w4.heap.size → own ≠ some q → w5.heap[q]? = w4.heap[q]? := by
  intro q hq hne
  rw [gr.block q (by omega) (Ne.symm hne), hW q hq]
theorem alloc_le {w : World} {o : Obj} {n : Nat} (h : n ≤ w.heap.size) : n ≤ (w.alloc o).heap.size := by simp; omega
theorem alloc_size1 {w : World} {o : Obj} : (w.alloc o).heap.size = w.heap.size + 1 := by simp
theorem alloc_at {w : World} {o : Obj} {q : Nat} (h : w.heap.size = q) : (w.alloc o).heap[q]? = some o := by subst h; exact heap_alloc_new _ _

/-- A list of ops lies in no block of another kind. -/
theorem own_ne {w : World} {base : Nat} {v : Value} {xs : List DOp} {q : Nat} {cs : Array Value} {T : TypeId} {fr : Nat × Nat} (h : OwnOps w base v xs) (hq : w.heap[q]? = some (.cells cs T fr)) (hT : T ≠ 48) : ∀ g, v.ownBlock = some g → ¬ g = q := by
  intro g hg e
  subst e
  rcases h.2 with ⟨rfl, _⟩ | ⟨g', cap, cur, rfl, _, hbk, _⟩
  · cases hg
  · obtain rfl : g' = g := by simpa [Value.ownBlock] using hg
    rw [hq] at hbk
    cases hbk
    exact hT rfl

theorem OwnOps.lt {w : World} {base : Nat} {ao : Option Addr} {n cap : Nat} {xs : List DOp} (h : OwnOps w base (.slice ao n cap) xs) : low (.slice ao n cap) (· < w.heap.size) := fun g hg => row_own_lt h hg

end Go.Proofs.YtabpiaaknjcnkabGreat

/-
  The document's answer: find, made.
-/
namespace Go.Proofs.YtabpiaaknjcnkabGreat
open Go.RowKit
set_option linter.unusedVariables false
set_option linter.unusedSimpArgs false
set_option maxRecDepth 100000

theorem bytes_app (a b : ByteArray) : (a ++ b).data.toList = a.data.toList ++ b.data.toList := by
  rw [ByteArray.data_append, Array.toList_append]

def foundI (base key : List UInt8) : Int := match findFirst base key with | some j => (j : Int) | none => -1

end Go.Proofs.YtabpiaaknjcnkabGreat

/-
  The document's answer: Wrong, Apply.
-/
namespace Go.Proofs.YtabpiaaknjcnkabGreat
open Go.RowKit
set_option linter.unusedVariables false
set_option linter.unusedSimpArgs false
set_option maxRecDepth 100000

/-- What the document's answer says of a row of ops. -/
def wrongI (xs : List DOp) (b : Int) : Int := if faultF xs b < xs.length then (faultF xs b : Int) else -1

end Go.Proofs.YtabpiaaknjcnkabGreat

/-
  The document's answer: Apply; the program's Apply in the same words.
-/
namespace Go.Proofs.YtabpiaaknjcnkabGreat
open Go.RowKit
set_option linter.unusedVariables false
set_option linter.unusedSimpArgs false
set_option maxRecDepth 100000

def appS (base : ByteArray) (xs : List DOp) : ByteArray := if 2000 < base.size then ⟨#[]⟩ else if faultF xs base.size < xs.length then ⟨#[]⟩ else ⟨(madeL base.data.toList xs).toArray⟩
def appE (base : ByteArray) (xs : List DOp) : Int := if 2000 < base.size then 1 else if faultF xs base.size < xs.length then 2 else 0
def appP (base : ByteArray) (xs : List DOp) : Int := if 2000 < base.size then 0 else if faultF xs base.size < xs.length then faultF xs base.size else 0

/-- What Apply of the program says, in one. -/
theorem capply_any {base : ByteArray} {v : Value} {xs : List DOp} {w : World} (hs : base.size ≤ 9223372036854775807) (hx : xs.length ≤ 5000000000000) (hv : View w v xs) (hl : ∀ o ∈ xs, o.len ≤ 9223372036854775807) :
    Calls Tryz.prog 12 #[.string base, v] w fun e w' => e = .returned (.tuple #[.string (appS base xs), .int .i64 (appE base xs), .int .i64 (appP base xs)]) ∧ Below w.heap.size w w' := by
  refine capply_of ?_
  unfold appS appE appP
  by_cases h : 2000 < base.size
  · simp only [if_pos h]
    exact (apply_long base v w h hs).mono (fun e w' ⟨a, b⟩ => ⟨a, by rw [b]; exact Below.refl _ _⟩)
  · simp only [if_neg h]
    rcases hv with ⟨rfl, ao, cap, rfl⟩ | ⟨b, off, cap, rfl, hbw, hr⟩
    · exact apply_nil base ao cap w (by omega)
    · by_cases hf : faultF xs base.size < xs.length
      · simp only [if_pos hf]
        exact apply_fault base b off cap xs w (by omega) hx hr hl hbw hf
      · simp only [if_neg hf]
        exact apply_ok base b off cap xs w (by omega) hx hr hl hbw (by have := faultF_le xs base.size; omega)
end Go.Proofs.YtabpiaaknjcnkabGreat
