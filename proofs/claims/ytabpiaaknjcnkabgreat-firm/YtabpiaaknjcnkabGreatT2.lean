/-
  A story of cofferkeep as it lies in memory; the walk over notes.
-/
import Derived.Test.YtabpiaaknjcnkabGreatT1
import Derived.Deep.DeepCutAuto
namespace Go.Proofs.YtabpiaaknjcnkabGreat
open Go.RowKit
set_option linter.unusedVariables false
set_option linter.unusedSimpArgs false
set_option maxRecDepth 100000

theorem Tryz.infoI4 : (Tryz.prog.info? 27).map (fun i => (i.zero, i.size, i.bytes)) = some (some (.agg #[.int .i64 0, .int .i64 0, .int .i64 0, .int .i64 0]), 4, 32) := by kernel_rfl
theorem Tryz.infoS4 : (Tryz.prog.info? 29).map (fun i => (i.zero, i.size, i.bytes)) = some (some (.agg #[.slice none 0 0, .slice none 0 0, .slice none 0 0, .slice none 0 0]), 4, 96) := by kernel_rfl

def i4 (f : Nat → Nat) : List Value := [.int .i64 (f 0), .int .i64 (f 1), .int .i64 (f 2), .int .i64 (f 3)]
def s4 (r : Nat → Value) : List Value := [r 0, r 1, r 2, r 3]
def storyCells (p : Nat) (fi : Nat → Nat) (cur : Nat → Value) (a b c : Value) : Array Value :=
  #[.pointer (some ⟨p, 0, none⟩), .int .i64 (fi 0), .int .i64 (fi 1), .int .i64 (fi 2), .int .i64 (fi 3), cur 0, cur 1, cur 2, cur 3, a, b, c]
/-- A story: its vault; what its chains have; the logs, the first numbers and the rows behind each call. -/
structure StoryAt (w : World) (q p : Nat) (fi : Nat → Nat) (cur : Nat → Value) (a b c lv : Value) (tv : Nat → Value) (s : Vlt) (sl : List (List UInt8)) (sf : List (Nat → Nat)) (sr : List (Nat → Value)) : Prop where
  blk : w.heap[q]? = some (.cells (storyCells p fi cur a b c) 33 (0, 0))
  logs : w.ownsRow 0 9 1 a sl.length (sl.map fun l => .string ⟨l.toArray⟩)
  firsts : w.ownsRow 0 27 4 b sf.length (sf.flatMap i4)
  all : w.ownsRow 0 29 4 c sr.length (sr.flatMap s4)
  vault : VaultAt w p lv tv s
  logtv : ∀ i, i < 4 → ∀ g, (tv i).ownBlock = some g → a.ownBlock ≠ some g
/-- The blocks that a story writes to. -/
def live (q p : Nat) (a b c lv : Value) (tv : Nat → Value) (g : Nat) : Prop := g = q ∨ foot p lv tv g ∨ a.ownBlock = some g ∨ b.ownBlock = some g ∨ c.ownBlock = some g
/-- Rows that lie in none of these, and are read. -/
def Views (w : World) (L : Nat → Prop) (r : Nat → Value) (tx : Nat → List ByteArray) : Prop := ∀ i, i < 4 → SView w (r i) (tx i) ∧ ∀ g, (r i).ownBlock = some g → g < w.heap.size ∧ ¬ L g
theorem Views.kept {w w' : World} {L L' : Nat → Prop} {r : Nat → Value} {tx : Nat → List ByteArray} (h : Views w L r tx) (ho : Out L w w') (hl : ∀ g, L' g → L g ∨ w.heap.size ≤ g) : Views w' L' r tx := fun i hi =>
  ⟨(h i hi).1.block (fun g hg => ho.block g ((h i hi).2 g hg).1 ((h i hi).2 g hg).2), fun g hg => ⟨Nat.lt_of_lt_of_le ((h i hi).2 g hg).1 ho.size, fun hL => by
    have := (h i hi).2 g hg
    rcases hl g hL with x | x
    · exact this.2 x
    · omega⟩⟩

section
variable {w : World} {q p : Nat} {fi : Nat → Nat} {cur : Nat → Value} {a b c lv : Value} {tv : Nat → Value} {s : Vlt} {sl : List (List UInt8)} {sf : List (Nat → Nat)} {sr : List (Nat → Value)} (h : StoryAt w q p fi cur a b c lv tv s sl sf sr)
include h
theorem StoryAt.lt : q < w.heap.size := lt_of_block h.blk
theorem StoryAt.q_foot : ¬ foot p lv tv q := by
  rintro (e | e | ⟨i, hi, e⟩)
  · have := h.vault.blk; rw [← e, h.blk] at this; simp at this
  · exact row_type h.vault.log h.blk (by decide) e
  · exact row_type (h.vault.row i hi) h.blk (by decide) e
theorem StoryAt.aq : a.ownBlock ≠ some q := row_type h.logs h.blk (by decide)
theorem StoryAt.bq : b.ownBlock ≠ some q := row_type h.firsts h.blk (by decide)
theorem StoryAt.cq : c.ownBlock ≠ some q := row_type h.all h.blk (by decide)
theorem StoryAt.a_foot {g : Nat} (hg : a.ownBlock = some g) : ¬ foot p lv tv g := by
  rintro (e | e | ⟨i, hi, e⟩)
  · subst e; exact row_type h.logs h.vault.blk (by decide) hg
  · exact row_types h.vault.log h.logs (by decide) g e hg
  · exact h.logtv i hi g e hg
theorem StoryAt.b_foot {g : Nat} (hg : b.ownBlock = some g) : ¬ foot p lv tv g := by
  rintro (e | e | ⟨i, hi, e⟩)
  · subst e; exact row_type h.firsts h.vault.blk (by decide) hg
  · exact row_types h.vault.log h.firsts (by decide) g e hg
  · exact row_types (h.vault.row i hi) h.firsts (by decide) g e hg
theorem StoryAt.c_foot {g : Nat} (hg : c.ownBlock = some g) : ¬ foot p lv tv g := by
  rintro (e | e | ⟨i, hi, e⟩)
  · subst e; exact row_type h.all h.vault.blk (by decide) hg
  · exact row_types h.vault.log h.all (by decide) g e hg
  · exact row_types (h.vault.row i hi) h.all (by decide) g e hg
theorem StoryAt.ab {g : Nat} (hg : a.ownBlock = some g) : b.ownBlock ≠ some g := row_types h.logs h.firsts (by decide) g hg
theorem StoryAt.ac {g : Nat} (hg : a.ownBlock = some g) : c.ownBlock ≠ some g := row_types h.logs h.all (by decide) g hg
theorem StoryAt.bc {g : Nat} (hg : b.ownBlock = some g) : c.ownBlock ≠ some g := row_types h.firsts h.all (by decide) g hg
theorem StoryAt.live_lt : ∀ g, live q p a b c lv tv g → g < w.heap.size := by
  rintro g (rfl | e | e | e | e)
  · exact h.lt
  · exact h.vault.foot_lt g e
  · exact row_own_lt h.logs e
  · exact row_own_lt h.firsts e
  · exact row_own_lt h.all e
/-- What touches none of its blocks leaves it as it is. -/
theorem StoryAt.kept {w' : World} (hk : ∀ g, live q p a b c lv tv g → w'.heap[g]? = w.heap[g]?) : StoryAt w' q p fi cur a b c lv tv s sl sf sr :=
  ⟨(hk q (.inl rfl)).trans h.blk, row_block h.logs (fun g hg => hk g (.inr (.inr (.inl hg)))), row_block h.firsts (fun g hg => hk g (.inr (.inr (.inr (.inl hg))))), row_block h.all (fun g hg => hk g (.inr (.inr (.inr (.inr hg))))), h.vault.kept (fun g hg => hk g (.inr (.inl hg))), h.logtv⟩
theorem StoryAt.below {w' : World} (hb : Below w.heap.size w w') : StoryAt w' q p fi cur a b c lv tv s sl sf sr := h.kept (fun g hg => hb.block g (h.live_lt g hg))
theorem StoryAt.still {w' : World} (hs : Still w w') : StoryAt w' q p fi cur a b c lv tv s sl sf sr := h.kept (fun g _ => by rw [hs.1])
/-- The vault moves. -/
theorem StoryAt.moves {w' : World} {s' : Vlt} (hm : Moves p lv tv s' w w') : ∃ lv' tv', StoryAt w' q p fi cur a b c lv' tv' s' sl sf sr ∧ Out (live q p a b c lv tv) w w' ∧ ∀ g, live q p a b c lv' tv' g → live q p a b c lv tv g ∨ w.heap.size ≤ g := by
  obtain ⟨lv', tv', h1, h2, h3⟩ := hm
  have old : ∀ g, g < w.heap.size → ¬ foot p lv tv g → w'.heap[g]? = w.heap[g]? := fun g hg hn => h2.block g hg hn
  refine ⟨lv', tv', ⟨(old q h.lt h.q_foot).trans h.blk, row_block h.logs (fun g hg => old g (row_own_lt h.logs hg) (h.a_foot hg)), row_block h.firsts (fun g hg => old g (row_own_lt h.firsts hg) (h.b_foot hg)), row_block h.all (fun g hg => old g (row_own_lt h.all hg) (h.c_foot hg)), h1, fun i hi g hg ha => ?_⟩, h2.mono (fun g hg => .inr (.inl hg)), ?_⟩
  · rcases h3 g (.inr (.inr ⟨i, hi, hg⟩)) with x | x
    · exact h.a_foot ha x
    · have := row_own_lt h.logs ha; omega
  · rintro g (x | x | x)
    · exact .inl (.inl x)
    · rcases h3 g x with y | y
      · exact .inl (.inr (.inl y))
      · exact .inr y
    · exact .inl (.inr (.inr x))
theorem StoryAt.cells : w.cell? ⟨q, 0, none⟩ = some (.pointer (some ⟨p, 0, none⟩)) ∧ w.cell? ⟨q, 9, none⟩ = some a ∧ w.cell? ⟨q, 10, none⟩ = some b ∧ w.cell? ⟨q, 11, none⟩ = some c ∧ (∀ j, w.frozen? ⟨q, j, none⟩ = false) :=
  ⟨by rw [Lib.cell_of_heap h.blk]; rfl, by rw [Lib.cell_of_heap h.blk]; rfl, by rw [Lib.cell_of_heap h.blk]; rfl, by rw [Lib.cell_of_heap h.blk]; rfl, fun j => Lib.frozen_of_heap h.blk j⟩
theorem StoryAt.cellF (n : Nat) (hn : n < 4) : w.cell? ⟨q, 1 + n, none⟩ = some (.int .i64 (fi n)) := by
  rw [Lib.cell_of_heap h.blk]
  match n, hn with
  | 0, _ => rfl
  | 1, _ => rfl
  | 2, _ => rfl
  | 3, _ => rfl
theorem StoryAt.cellR (n : Nat) (hn : n < 4) : w.cell? ⟨q, 5 + n, none⟩ = some (cur n) := by
  rw [Lib.cell_of_heap h.blk]
  match n, hn with
  | 0, _ => rfl
  | 1, _ => rfl
  | 2, _ => rfl
  | 3, _ => rfl
/-- A log is noted. -/
theorem StoryAt.noteA {w5 : World} {a' : Value} {l : List UInt8} (hg : w.grownBy w5 a.ownBlock) (ho : w5.ownsRow 0 9 1 a' (sl ++ [l]).length ((sl ++ [l]).map fun l => .string ⟨l.toArray⟩)) (hat : a'.ownBlock = a.ownBlock ∨ ∃ g, a'.ownBlock = some g ∧ w.heap.size ≤ g) :
    StoryAt (w5.setCell ⟨q, 9, none⟩ a') q p fi cur a' b c lv tv s (sl ++ [l]) sf sr ∧ Out (live q p a b c lv tv) w (w5.setCell ⟨q, 9, none⟩ a') ∧ ∀ g, live q p a' b c lv tv g → live q p a b c lv tv g ∨ w.heap.size ≤ g := by
  have old : ∀ g, g < w.heap.size → g ≠ q → a.ownBlock ≠ some g → (w5.setCell ⟨q, 9, none⟩ a').heap[g]? = w.heap[g]? := fun g hg' hq ha => (Below.heap_setCell _ _ _ _ hq).trans (hg.block g hg' (Ne.symm ha))
  have hbq : w5.heap[q]? = some (.cells (storyCells p fi cur a b c) 33 (0, 0)) := (hg.block q h.lt (Ne.symm h.aq)).trans h.blk
  have ha'q : a'.ownBlock ≠ some q := by
    rcases hat with e | ⟨g, e, hge⟩
    · rw [e]; exact h.aq
    · rw [e]; intro e2; injection e2 with e2; have := h.lt; omega
  refine ⟨⟨Lib.heap_setCell_same hbq _, row_block ho (fun g hg' => Below.heap_setCell _ _ _ _ (fun e => ha'q (by rw [hg', e]))), row_block h.firsts (fun g hg' => old g (row_own_lt h.firsts hg') (fun e => h.bq (by rw [hg', e])) (fun e => h.ab e hg')), row_block h.all (fun g hg' => old g (row_own_lt h.all hg') (fun e => h.cq (by rw [hg', e])) (fun e => h.ac e hg')), h.vault.kept (fun g hg' => old g (h.vault.foot_lt g hg') (fun e => h.q_foot (by rw [← e]; exact hg')) (fun e => h.a_foot e hg')), fun i hi g hg' ha => ?_⟩, (Out.of_grown hg (fun g e => .inr (.inr (.inl e)))).set (.inl rfl) _, ?_⟩
  · rcases hat with e | ⟨g', e, hge⟩
    · exact h.logtv i hi g hg' (by rw [← e]; exact ha)
    · rw [e] at ha; injection ha with ha; have := row_own_lt (h.vault.row i hi) hg'; omega
  · rintro g (x | x | x | x)
    · exact .inl (.inl x)
    · exact .inl (.inr (.inl x))
    · rcases hat with e | ⟨g', e, hge⟩
      · exact .inl (.inr (.inr (.inl (by rw [← e]; exact x))))
      · rw [e] at x; injection x with x; exact .inr (by omega)
    · exact .inl (.inr (.inr (.inr x)))
theorem StoryAt.noteB {w5 : World} {b' : Value} {f : Nat → Nat} (hg : w.grownBy w5 b.ownBlock) (ho : w5.ownsRow 0 27 4 b' (sf ++ [f]).length ((sf ++ [f]).flatMap i4)) (hat : b'.ownBlock = b.ownBlock ∨ ∃ g, b'.ownBlock = some g ∧ w.heap.size ≤ g) :
    StoryAt (w5.setCell ⟨q, 10, none⟩ b') q p fi cur a b' c lv tv s sl (sf ++ [f]) sr ∧ Out (live q p a b c lv tv) w (w5.setCell ⟨q, 10, none⟩ b') ∧ ∀ g, live q p a b' c lv tv g → live q p a b c lv tv g ∨ w.heap.size ≤ g := by
  have old : ∀ g, g < w.heap.size → g ≠ q → b.ownBlock ≠ some g → (w5.setCell ⟨q, 10, none⟩ b').heap[g]? = w.heap[g]? := fun g hg' hq ha => (Below.heap_setCell _ _ _ _ hq).trans (hg.block g hg' (Ne.symm ha))
  have hbq : w5.heap[q]? = some (.cells (storyCells p fi cur a b c) 33 (0, 0)) := (hg.block q h.lt (Ne.symm h.bq)).trans h.blk
  have ha'q : b'.ownBlock ≠ some q := by
    rcases hat with e | ⟨g, e, hge⟩
    · rw [e]; exact h.bq
    · rw [e]; intro e2; injection e2 with e2; have := h.lt; omega
  refine ⟨⟨Lib.heap_setCell_same hbq _, row_block h.logs (fun g hg' => old g (row_own_lt h.logs hg') (fun e => h.aq (by rw [hg', e])) (h.ab hg')), row_block ho (fun g hg' => Below.heap_setCell _ _ _ _ (fun e => ha'q (by rw [hg', e]))), row_block h.all (fun g hg' => old g (row_own_lt h.all hg') (fun e => h.cq (by rw [hg', e])) (fun e => h.bc e hg')), h.vault.kept (fun g hg' => old g (h.vault.foot_lt g hg') (fun e => h.q_foot (by rw [← e]; exact hg')) (fun e => h.b_foot e hg')), h.logtv⟩, (Out.of_grown hg (fun g e => .inr (.inr (.inr (.inl e))))).set (.inl rfl) _, ?_⟩
  rintro g (x | x | x | x | x)
  · exact .inl (.inl x)
  · exact .inl (.inr (.inl x))
  · exact .inl (.inr (.inr (.inl x)))
  · rcases hat with e | ⟨g', e, hge⟩
    · exact .inl (.inr (.inr (.inr (.inl (by rw [← e]; exact x)))))
    · rw [e] at x; injection x with x; exact .inr (by omega)
  · exact .inl (.inr (.inr (.inr (.inr x))))
theorem StoryAt.noteC {w5 : World} {c' : Value} {r : Nat → Value} (hg : w.grownBy w5 c.ownBlock) (ho : w5.ownsRow 0 29 4 c' (sr ++ [r]).length ((sr ++ [r]).flatMap s4)) (hat : c'.ownBlock = c.ownBlock ∨ ∃ g, c'.ownBlock = some g ∧ w.heap.size ≤ g) :
    StoryAt (w5.setCell ⟨q, 11, none⟩ c') q p fi cur a b c' lv tv s sl sf (sr ++ [r]) ∧ Out (live q p a b c lv tv) w (w5.setCell ⟨q, 11, none⟩ c') ∧ ∀ g, live q p a b c' lv tv g → live q p a b c lv tv g ∨ w.heap.size ≤ g := by
  have old : ∀ g, g < w.heap.size → g ≠ q → c.ownBlock ≠ some g → (w5.setCell ⟨q, 11, none⟩ c').heap[g]? = w.heap[g]? := fun g hg' hq ha => (Below.heap_setCell _ _ _ _ hq).trans (hg.block g hg' (Ne.symm ha))
  have hbq : w5.heap[q]? = some (.cells (storyCells p fi cur a b c) 33 (0, 0)) := (hg.block q h.lt (Ne.symm h.cq)).trans h.blk
  have ha'q : c'.ownBlock ≠ some q := by
    rcases hat with e | ⟨g, e, hge⟩
    · rw [e]; exact h.cq
    · rw [e]; intro e2; injection e2 with e2; have := h.lt; omega
  refine ⟨⟨Lib.heap_setCell_same hbq _, row_block h.logs (fun g hg' => old g (row_own_lt h.logs hg') (fun e => h.aq (by rw [hg', e])) (h.ac hg')), row_block h.firsts (fun g hg' => old g (row_own_lt h.firsts hg') (fun e => h.bq (by rw [hg', e])) (h.bc hg')), row_block ho (fun g hg' => Below.heap_setCell _ _ _ _ (fun e => ha'q (by rw [hg', e]))), h.vault.kept (fun g hg' => old g (h.vault.foot_lt g hg') (fun e => h.q_foot (by rw [← e]; exact hg')) (fun e => h.c_foot e hg')), h.logtv⟩, (Out.of_grown hg (fun g e => .inr (.inr (.inr (.inr e))))).set (.inl rfl) _, ?_⟩
  rintro g (x | x | x | x | x)
  · exact .inl (.inl x)
  · exact .inl (.inr (.inl x))
  · exact .inl (.inr (.inr (.inl x)))
  · exact .inl (.inr (.inr (.inr (.inl x))))
  · rcases hat with e | ⟨g', e, hge⟩
    · exact .inl (.inr (.inr (.inr (.inr (by rw [← e]; exact x)))))
    · rw [e] at x; injection x with x; exact .inr (by omega)
/-- A first number, a row is another one. -/
theorem StoryAt.setF (n x : Nat) (hn : n < 4) : StoryAt (w.setCell ⟨q, 1 + n, none⟩ (.int .i64 x)) q p (fun i => if i = n then x else fi i) cur a b c lv tv s sl sf sr ∧ Out (live q p a b c lv tv) w (w.setCell ⟨q, 1 + n, none⟩ (.int .i64 x)) := by
  have hk : ∀ g, g ≠ q → (w.setCell ⟨q, 1 + n, none⟩ (.int .i64 x)).heap[g]? = w.heap[g]? := fun g hg => Below.heap_setCell _ _ _ _ hg
  refine ⟨⟨?_, row_block h.logs (fun g hg => hk g (fun e => h.aq (by rw [hg, e]))), row_block h.firsts (fun g hg => hk g (fun e => h.bq (by rw [hg, e]))), row_block h.all (fun g hg => hk g (fun e => h.cq (by rw [hg, e]))), h.vault.kept (fun g hg => hk g (fun e => h.q_foot (by rw [← e]; exact hg))), h.logtv⟩, ⟨rfl, rfl, rfl, by simp [World.setCell], fun g _ hn => hk g (fun e => hn (.inl e))⟩⟩
  rw [Lib.heap_setCell_same h.blk]
  match n, hn with
  | 0, _ => rfl
  | 1, _ => rfl
  | 2, _ => rfl
  | 3, _ => rfl
theorem StoryAt.setR (n : Nat) (v : Value) (hn : n < 4) : StoryAt (w.setCell ⟨q, 5 + n, none⟩ v) q p fi (fun i => if i = n then v else cur i) a b c lv tv s sl sf sr ∧ Out (live q p a b c lv tv) w (w.setCell ⟨q, 5 + n, none⟩ v) := by
  have hk : ∀ g, g ≠ q → (w.setCell ⟨q, 5 + n, none⟩ v).heap[g]? = w.heap[g]? := fun g hg => Below.heap_setCell _ _ _ _ hg
  refine ⟨⟨?_, row_block h.logs (fun g hg => hk g (fun e => h.aq (by rw [hg, e]))), row_block h.firsts (fun g hg => hk g (fun e => h.bq (by rw [hg, e]))), row_block h.all (fun g hg => hk g (fun e => h.cq (by rw [hg, e]))), h.vault.kept (fun g hg => hk g (fun e => h.q_foot (by rw [← e]; exact hg))), h.logtv⟩, ⟨rfl, rfl, rfl, by simp [World.setCell], fun g _ hn => hk g (fun e => hn (.inl e))⟩⟩
  rw [Lib.heap_setCell_same h.blk]
  match n, hn with
  | 0, _ => rfl
  | 1, _ => rfl
  | 2, _ => rfl
  | 3, _ => rfl
end
end Go.Proofs.YtabpiaaknjcnkabGreat
