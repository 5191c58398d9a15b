/- The texts V5, ZL, ZC, one behind the other. -/
import Derived.Test.YtabpiaaknjcnkaaGreatXV3V4
import Derived.Test.YtabpiaaknjcnkaaGreatXR4L7L8P4S1S2L9LBLP
import Derived.LoopTactic
import Derived.Test.YtabpiaaknjcnkaaGreatXLCPER5
/-
  A vault as it lies in memory.
-/
namespace Go.Proofs.YtabpiaaknjcnkaaGreat
open Go.RowKit
set_option linter.unusedVariables false
set_option linter.unusedSimpArgs false
set_option maxRecDepth 100000

def vcells (lv : Value) (tv : Nat → Value) (s : Vlt) : Array Value :=
  #[lv, .int .i64 (s.ch 0).gone, tv 0, .int .i64 (s.ch 1).gone, tv 1, .int .i64 (s.ch 2).gone, tv 2, .int .i64 (s.ch 3).gone, tv 3]
/-- A vault. -/
structure VaultAt (w : World) (p : Nat) (lv : Value) (tv : Nat → Value) (s : Vlt) : Prop where
  blk : w.heap[p]? = some (.cells (vcells lv tv s) 81 (0, 0))
  log : OwnBytes w 0 lv s.log
  row : ∀ i, i < 4 → OwnStrs w 0 (tv i) (s.ch i).texts
  apart : ∀ i j, i < 4 → j < 4 → i ≠ j → ∀ g, (tv i).ownBlock = some g → (tv j).ownBlock ≠ some g
/-- The blocks that a vault lies in. -/
def foot (p : Nat) (lv : Value) (tv : Nat → Value) (q : Nat) : Prop := q = p ∨ lv.ownBlock = some q ∨ ∃ i, i < 4 ∧ (tv i).ownBlock = some q
/-- Blocks outside of F are as they were. -/
structure Out (F : Nat → Prop) (w w' : World) : Prop where
  os : w'.os = w.os
  tape : w'.tape = w.tape
  output : w'.output = w.output
  size : w.heap.size ≤ w'.heap.size
  block : ∀ q, q < w.heap.size → ¬ F q → w'.heap[q]? = w.heap[q]?
theorem Out.of_below {F : Nat → Prop} {w w' : World} (h : Below w.heap.size w w') : Out F w w' := ⟨h.os, h.tape, h.output, h.size, fun q hq _ => h.block q hq⟩
theorem Out.trans {F G : Nat → Prop} {a b c : World} (h : Out F a b) (k : Out G b c) (hFG : ∀ q, G q → F q ∨ a.heap.size ≤ q) : Out F a c :=
  ⟨k.os.trans h.os, k.tape.trans h.tape, k.output.trans h.output, Nat.le_trans h.size k.size, fun q hq hn => (k.block q (Nat.lt_of_lt_of_le hq h.size) (fun hg => by rcases hFG q hg with x | x; exact hn x; omega)).trans (h.block q hq hn)⟩
theorem Out.of_grown {F : Nat → Prop} {w w' : World} {row : Option Nat} (h : w.grownBy w' row) (hr : ∀ g, row = some g → F g) : Out F w w' :=
  ⟨h.os, h.tape, h.output, h.size, fun q hq hn => h.block q hq (fun e => hn (hr q e.symm))⟩
theorem Out.set {F : Nat → Prop} {w w' : World} (h : Out F w w') {p j : Nat} (hp : F p) (u : Value) : Out F w (w'.setCell ⟨p, j, none⟩ u) :=
  h.trans (G := (· = p)) ⟨rfl, rfl, rfl, by simp [World.setCell], fun q _ hn => Below.heap_setCell _ _ _ _ hn⟩ (fun q hq => .inl (by subst hq; exact hp))
theorem Out.mono {F G : Nat → Prop} {w w' : World} (h : Out F w w') (hFG : ∀ q, F q → G q) : Out G w w' := ⟨h.os, h.tape, h.output, h.size, fun q hq hn => h.block q hq (fun hf => hn (hFG q hf))⟩
theorem Out.drewN {F : Nat → Prop} {w w' : World} (h : Out F w w') (k : Nat) : Out F w (w'.drewN k) := ⟨h.os, h.tape, h.output, h.size, h.block⟩

theorem row_type {w : World} {base q : Nat} {e : TypeId} {size n : Nat} {v : Value} {xs : List Value} {cs : Array Value} {T : TypeId} {fr : Nat × Nat} (h : w.ownsRow base e size v n xs) (hq : w.heap[q]? = some (.cells cs T fr)) (hT : T ≠ e) : v.ownBlock ≠ some q := by
  intro hg
  rcases h.2 with ⟨rfl, _⟩ | ⟨g', cap, cur, rfl, _, hbk, _⟩
  · cases hg
  · obtain rfl : g' = q := by simpa [Value.ownBlock] using hg
    rw [hq] at hbk
    cases hbk
    exact hT rfl
theorem row_types {w : World} {b1 b2 : Nat} {e1 e2 : TypeId} {s1 s2 n1 n2 : Nat} {v1 v2 : Value} {x1 x2 : List Value} (h1 : w.ownsRow b1 e1 s1 v1 n1 x1) (h2 : w.ownsRow b2 e2 s2 v2 n2 x2) (hT : e1 ≠ e2) : ∀ g, v1.ownBlock = some g → v2.ownBlock ≠ some g := by
  intro g hg
  rcases h1.2 with ⟨rfl, _⟩ | ⟨g', cap, cur, rfl, _, hbk, _⟩
  · cases hg
  · obtain rfl : g' = g := by simpa [Value.ownBlock] using hg
    exact row_type h2 hbk hT

section
variable {w : World} {p : Nat} {lv : Value} {tv : Nat → Value} {s : Vlt} (h : VaultAt w p lv tv s)
include h
theorem VaultAt.lt : p < w.heap.size := lt_of_block h.blk
theorem VaultAt.cell0 : w.cell? ⟨p, 0, none⟩ = some lv := by rw [Lib.cell_of_heap h.blk]; rfl
theorem VaultAt.cellG (c : Nat) (hc : c < 4) : w.cell? ⟨p, 1 + c * 2, none⟩ = some (.int .i64 (s.ch c).gone) := by
  rw [Lib.cell_of_heap h.blk]
  match c, hc with
  | 0, _ => rfl
  | 1, _ => rfl
  | 2, _ => rfl
  | 3, _ => rfl
theorem VaultAt.cellT (c : Nat) (hc : c < 4) : w.cell? ⟨p, 1 + c * 2 + 1, none⟩ = some (tv c) := by
  rw [Lib.cell_of_heap h.blk]
  match c, hc with
  | 0, _ => rfl
  | 1, _ => rfl
  | 2, _ => rfl
  | 3, _ => rfl
theorem VaultAt.frozen (j : Nat) : w.frozen? ⟨p, j, none⟩ = false := Lib.frozen_of_heap h.blk j
theorem VaultAt.logp : lv.ownBlock ≠ some p := row_type h.log h.blk (by decide)
theorem VaultAt.rowp (i : Nat) (hi : i < 4) : (tv i).ownBlock ≠ some p := row_type (h.row i hi) h.blk (by decide)
theorem VaultAt.logrow (i : Nat) (hi : i < 4) : ∀ g, lv.ownBlock = some g → (tv i).ownBlock ≠ some g := row_types h.log (h.row i hi) (by decide)
theorem VaultAt.foot_lt : ∀ q, foot p lv tv q → q < w.heap.size := by
  rintro q (rfl | hq | ⟨i, hi, hq⟩)
  · exact h.lt
  · exact row_own_lt h.log hq
  · exact row_own_lt (h.row i hi) hq
/-- What does not touch a vault leaves it as it is. -/
theorem VaultAt.kept {w' : World} (hk : ∀ q, foot p lv tv q → w'.heap[q]? = w.heap[q]?) : VaultAt w' p lv tv s :=
  ⟨(hk p (.inl rfl)).trans h.blk, row_block h.log (fun g hg => hk g (.inr (.inl hg))), fun i hi => row_block (h.row i hi) (fun g hg => hk g (.inr (.inr ⟨i, hi, hg⟩))), h.apart⟩
theorem VaultAt.below {w' : World} (hb : Below w.heap.size w w') : VaultAt w' p lv tv s := h.kept (fun q hq => hb.block q (h.foot_lt q hq))
theorem VaultAt.drewN (k : Nat) : VaultAt (w.drewN k) p lv tv s := h.kept (fun q hq => rfl)

/-- The log grows. -/
theorem VaultAt.logged {w2 : World} {lv' : Value} {bs : List UInt8} (hg : w.grownBy w2 lv.ownBlock) (ho : OwnBytes w2 0 lv' bs) (hat : lv'.ownBlock = lv.ownBlock ∨ ∃ g, lv'.ownBlock = some g ∧ w.heap.size ≤ g) :
    VaultAt (w2.setCell ⟨p, 0, none⟩ lv') p lv' tv ⟨bs, s.ch⟩ ∧ Out (foot p lv tv) w (w2.setCell ⟨p, 0, none⟩ lv') ∧ (∀ q, foot p lv' tv q → foot p lv tv q ∨ w.heap.size ≤ q) := by
  have hp := h.lt
  have hb : w2.heap[p]? = some (.cells (vcells lv tv s) 81 (0, 0)) := (hg.block p hp (Ne.symm h.logp)).trans h.blk
  have hl : lv'.ownBlock ≠ some p := by
    rcases hat with e | ⟨g, e, hge⟩
    · rw [e]; exact h.logp
    · rw [e]; intro e2; injection e2 with e2; omega
  refine ⟨⟨Lib.heap_setCell_same hb _, row_block ho (fun g hg' => Below.heap_setCell _ _ _ _ (fun e => hl (by rw [hg', e]))), fun i hi => ?_, h.apart⟩, (Out.of_grown hg (fun g e => .inr (.inl e))).set (.inl rfl) _, ?_⟩
  · refine row_block (h.row i hi) (fun g hg' => ?_)
    have hgl := row_own_lt (h.row i hi) hg'
    exact (Below.heap_setCell _ _ _ _ (fun e => h.rowp i hi (by rw [hg', e]))).trans (hg.block g hgl (fun e => h.logrow i hi g e.symm hg'))
  · rintro q (rfl | hq | ⟨i, hi, hq⟩)
    · exact .inl (.inl rfl)
    · rcases hat with e | ⟨g, e, hge⟩
      · exact .inl (.inr (.inl (by rw [← e]; exact hq)))
      · rw [e] at hq; injection hq with hq; exact .inr (by omega)
    · exact .inl (.inr (.inr ⟨i, hi, hq⟩))

/-- A chain turns. -/
theorem VaultAt.turned {w2 w3 : World} {c g' : Nat} {v' : Value} {ts : List ByteArray} (hc : c < 4) (hg : w.grownBy w2 (tv c).ownBlock) (ho : OwnStrs w2 0 v' ts) (hat : ∀ g, v'.ownBlock = some g → (tv c).ownBlock = some g ∨ w.heap.size ≤ g)
    (hb3 : w3.heap[p]? = some (.cells (vcells lv (fun i => if i = c then v' else tv i) ⟨s.log, fun i => if i = c then ⟨g', ts⟩ else s.ch i⟩) 81 (0, 0))) (h3 : ∀ q, q ≠ p → w3.heap[q]? = w2.heap[q]?) (hs3 : w2.heap.size ≤ w3.heap.size) (hk : w3.os = w2.os ∧ w3.tape = w2.tape ∧ w3.output = w2.output) :
    VaultAt w3 p lv (fun i => if i = c then v' else tv i) ⟨s.log, fun i => if i = c then ⟨g', ts⟩ else s.ch i⟩ ∧ Out (foot p lv tv) w w3 ∧ (∀ q, foot p lv (fun i => if i = c then v' else tv i) q → foot p lv tv q ∨ w.heap.size ≤ q) := by
  have hp := h.lt
  have hvp : v'.ownBlock ≠ some p := by
    intro e
    rcases hat p e with e2 | e2
    · exact h.rowp c hc e2
    · omega
  have old : ∀ (u : Value) (q : Nat), u.ownBlock = some q → q < w.heap.size → q ≠ p → (tv c).ownBlock ≠ some q → w3.heap[q]? = w.heap[q]? := fun u q hu hq hqp hne => (h3 q hqp).trans (hg.block q hq (Ne.symm hne))
  refine ⟨⟨hb3, row_block h.log (fun g hg' => old lv g hg' (row_own_lt h.log hg') (fun e => h.logp (by rw [hg', e])) (h.logrow c hc g hg')), fun i hi => ?_, fun i j hi hj hij g => ?_⟩, ⟨hk.1.trans hg.os, hk.2.1.trans hg.tape, hk.2.2.trans hg.output, Nat.le_trans hg.size hs3, fun q hq hn => ?_⟩, ?_⟩
  · by_cases e : i = c
    · simp only [e, if_true]
      exact row_block ho (fun g hg' => h3 g (fun e => hvp (by rw [hg', e])))
    · simp only [e, if_false]
      exact row_block (h.row i hi) (fun g hg' => old (tv i) g hg' (row_own_lt (h.row i hi) hg') (fun e => h.rowp i hi (by rw [hg', e])) (h.apart i c hi hc e g hg'))
  · by_cases e1 : i = c
    · have e2 : ¬ j = c := by omega
      simp only [e1, e2, if_true, if_false]
      intro hgi
      rcases hat g hgi with x | x
      · exact h.apart c j hc hj (by omega) g x
      · intro hgj; have := row_own_lt (h.row j hj) hgj; omega
    · by_cases e2 : j = c
      · simp only [e1, e2, if_true, if_false]
        intro hgi hgj
        rcases hat g hgj with x | x
        · exact h.apart c i hc hi (by omega) g x hgi
        · have := row_own_lt (h.row i hi) hgi; omega
      · simp only [e1, e2, if_false]
        exact h.apart i j hi hj hij g
  · exact (h3 q (fun e => hn (.inl e))).trans (hg.block q hq (fun e => hn (.inr (.inr ⟨c, hc, e.symm⟩))))
  · rintro q (rfl | hq | ⟨i, hi, hq⟩)
    · exact .inl (.inl rfl)
    · exact .inl (.inr (.inl hq))
    · by_cases e : i = c
      · simp only [e, if_true] at hq
        rcases hat q hq with x | x
        · exact .inl (.inr (.inr ⟨c, hc, x⟩))
        · exact .inr x
      · simp only [e, if_false] at hq
        exact .inl (.inr (.inr ⟨i, hi, hq⟩))
end

theorem vset_one {w : World} {p c : Nat} {lv v' : Value} {tv : Nat → Value} {s : Vlt} {ts : List ByteArray} (hc : c < 4) (hb : w.heap[p]? = some (.cells (vcells lv tv s) 81 (0, 0))) :
    (w.setCell ⟨p, 1 + c * 2 + 1, none⟩ v').heap[p]? = some (.cells (vcells lv (fun i => if i = c then v' else tv i) ⟨s.log, fun i => if i = c then ⟨(s.ch c).gone, ts⟩ else s.ch i⟩) 81 (0, 0)) := by
  rw [Lib.heap_setCell_same hb]
  match c, hc with
  | 0, _ => rfl
  | 1, _ => rfl
  | 2, _ => rfl
  | 3, _ => rfl
theorem vset_two {w : World} {p c g' : Nat} {lv v' : Value} {tv : Nat → Value} {s : Vlt} {ts : List ByteArray} (hc : c < 4) (hb : w.heap[p]? = some (.cells (vcells lv tv s) 81 (0, 0))) :
    ((w.setCell ⟨p, 1 + c * 2 + 1, none⟩ v').setCell ⟨p, 1 + c * 2, none⟩ (.int .i64 g')).heap[p]? = some (.cells (vcells lv (fun i => if i = c then v' else tv i) ⟨s.log, fun i => if i = c then ⟨g', ts⟩ else s.ch i⟩) 81 (0, 0)) := by
  rw [Lib.heap_setCell_same (Lib.heap_setCell_same hb _)]
  match c, hc with
  | 0, _ => rfl
  | 1, _ => rfl
  | 2, _ => rfl
  | 3, _ => rfl

/-- A world whose memory is as it was. -/
def Still (w w' : World) : Prop := w'.heap = w.heap ∧ w'.os = w.os ∧ w'.tape = w.tape ∧ w'.output = w.output
theorem Still.drewN (w : World) (k : Nat) : Still w (w.drewN k) := ⟨rfl, rfl, rfl, rfl⟩
theorem Still.below {w w' : World} (h : Still w w') (B : Nat) : Below B w w' := ⟨h.2.1, h.2.2.1, h.2.2.2, by rw [h.1]; exact Nat.le_refl _, fun k _ => by rw [h.1]⟩
theorem Still.size {w w' : World} (h : Still w w') : w'.heap.size = w.heap.size := by rw [h.1]
theorem VaultAt.still {w w' : World} {p : Nat} {lv : Value} {tv : Nat → Value} {s : Vlt} (h : VaultAt w p lv tv s) (hs : Still w w') : VaultAt w' p lv tv s := h.kept (fun q _ => by rw [hs.1])
theorem own_still {w w' : World} {b : Nat} {v : Value} {bs : List UInt8} (h : OwnBytes w b v bs) (hs : Still w w') : OwnBytes w' b v bs := row_block h (fun q _ => by rw [hs.1])
theorem vlast_st (p o : Nat) (g n cap : Nat) (ao : Option Addr) (w : World) (h0 : w.cell? ⟨p, o, none⟩ = some (.int .i64 g)) (h1 : w.cell? ⟨p, o + 1, none⟩ = some (.slice ao n cap)) (hb : g + n ≤ 9000000000000) :
    Calls Tryz.prog 48 #[.pointer (some ⟨p, o, none⟩)] w fun e w' => e = .returned (.int .i64 ((g + n : Nat) : Int)) ∧ Still w w' :=
  (vlast_any p o g n cap ao w h0 h1 hb).mono fun e w' ⟨h, k, hw⟩ => ⟨h, by rw [hw]; exact Still.drewN _ _⟩
theorem vfirst_st (p o : Nat) (g n cap : Nat) (ao : Option Addr) (w : World) (h0 : w.cell? ⟨p, o, none⟩ = some (.int .i64 g)) (h1 : w.cell? ⟨p, o + 1, none⟩ = some (.slice ao n cap)) (hb : g + n ≤ 9000000000000) :
    Calls Tryz.prog 106 #[.pointer (some ⟨p, o, none⟩)] w fun e w' => e = .returned (.int .i64 ((min (g + 1) (g + n) : Nat) : Int)) ∧ Still w w' :=
  (vfirst_any p o g n cap ao w h0 h1 hb).mono fun e w' ⟨h, k, hw⟩ => ⟨h, by rw [hw]; exact Still.drewN _ _⟩
theorem vhas_st (p o : Nat) (g n cap : Nat) (ao : Option Addr) (z : Int) (w : World) (h0 : w.cell? ⟨p, o, none⟩ = some (.int .i64 g)) (h1 : w.cell? ⟨p, o + 1, none⟩ = some (.slice ao n cap)) (hb : g + n ≤ 9000000000000) :
    Calls Tryz.prog 53 #[.pointer (some ⟨p, o, none⟩), .int .i64 z] w fun e w' => e = .returned (.bool (decide ((g : Int) < z ∧ z ≤ ((g + n : Nat) : Int)))) ∧ Still w w' :=
  (vhas_any p o g n cap ao z w h0 h1 hb).mono fun e w' ⟨h, k, hw⟩ => ⟨h, by rw [hw]; exact Still.drewN _ _⟩
theorem vtext_st (p o : Nat) (g i cap : Nat) (ao : Option Addr) (ts : List ByteArray) (t : ByteArray) (w : World) (h0 : w.cell? ⟨p, o, none⟩ = some (.int .i64 g)) (h1 : w.cell? ⟨p, o + 1, none⟩ = some (.slice ao ts.length cap))
    (hown : OwnStrs w 0 (.slice ao ts.length cap) ts) (hi : ts[i]? = some t) (hb : g + ts.length ≤ 9000000000000) (z : Int) (hz : z = (g : Int) + i + 1) :
    Calls Tryz.prog 51 #[.pointer (some ⟨p, o, none⟩), .int .i64 z] w fun e w' => e = .returned (.string t) ∧ Still w w' := by
  obtain ⟨q, rfl, _, _, hc⟩ := hown.cell hi
  exact (vtext_any p o g q i cap ts t w h0 h1 hi hc hb z hz).mono fun e w' ⟨h, k, hw⟩ => ⟨h, by rw [hw]; exact Still.drewN _ _⟩

/-- What a call leaves of a vault. -/
def Moves (p : Nat) (lv : Value) (tv : Nat → Value) (s' : Vlt) (w w' : World) : Prop :=
  ∃ lv' tv', VaultAt w' p lv' tv' s' ∧ Out (foot p lv tv) w w' ∧ (∀ q, foot p lv' tv' q → foot p lv tv q ∨ w.heap.size ≤ q)
theorem Moves.stays {w w' : World} {p : Nat} {lv : Value} {tv : Nat → Value} {s : Vlt} (h : VaultAt w p lv tv s) (hb : Below w.heap.size w w') : Moves p lv tv s w w' :=
  ⟨lv, tv, h.below hb, Out.of_below hb, fun q hq => .inl hq⟩
end Go.Proofs.YtabpiaaknjcnkaaGreat

/-
  A step of Diff: the book moves, and nothing else.
-/
namespace Go.Proofs.YtabpiaaknjcnkaaGreat
open Go.RowKit
set_option linter.unusedVariables false
set_option linter.unusedSimpArgs false
set_option maxRecDepth 100000

/-- Behind the first of the two: all else stands. -/
theorem after_backS {w w6 w7 : World} {B0 Wb g1 g2 h0 h2 : Nat} {xv yv bv : Value} {es : List Entry} {ys : List DOp} {o : Obj} {S : Nat → Prop} (hS : ∀ q, S q → q < h0) (g7 : w6.grownBy w7 (some g1)) (c6 : Below B0 w w6) (bk6 : BookAt w6 B0 Wb xv yv bv es (fun q => S q ∨ (h2 ≤ q ∧ q < w6.heap.size))) (ob6 : w6.heap[h0]? = some o) (q26 : Lent w6 g2 ys)
    (hB0 : B0 ≤ h0) (hg1 : g1 = h0 + 1) (hg2 : g1 < g2) (hh2 : g2 < h2) (hh6 : h2 ≤ w6.heap.size) (h6 : h0 < w6.heap.size) (hB6 : B0 ≤ w6.heap.size) :
    Below B0 w w7 ∧ BookAt w7 B0 Wb xv yv bv es (fun q => S q ∨ (h2 ≤ q ∧ q < w7.heap.size)) ∧ w7.heap[h0]? = some o ∧ Lent w7 g2 ys ∧ w6.heap.size ≤ w7.heap.size := by
  have hs := g7.size
  refine ⟨below_back g7 c6 (by omega) hB6, bk6.kept (fun q hq => g7.block q (by rcases hq with h | h; have := hS q h; omega; omega) (fun e => by injection e with e; rcases hq with h | h; have := hS q h; omega; omega)) (fun q hq => by rcases hq with h | h; exact .inl h; exact .inr ⟨h.1, by omega⟩), ?_, q26.kept (g7.block _ (by omega) (fun e => by injection e with e; omega)), hs⟩
  rw [g7.block h0 h6 (fun e => by injection e with e; omega)]; exact ob6

set_option maxHeartbeats 4000000 in
theorem wdeltas_diffS (w : World) (B0 Wb : Nat) (xv yv bv : Value) (es : List Entry) (S : Nat → Prop) (hS : ∀ q, S q → q < w.heap.size) (hbook : BookAt w B0 Wb xv yv bv es S) (hes : es.length ≤ 1300000000000) (hB0 : B0 ≤ w.heap.size) (a b c : Int) (s t : ByteArray) (vl vm : Value) (xs ys : List DOp)
    (hs : s.size ≤ 9223372036854775807) (ht : t.size ≤ 9223372036854775807) (hx : xs.length ≤ 4398046511000) (hy : ys.length ≤ 4398046511000) (hl : LView B0 w vl xs) (hm : LView B0 w vm ys) :
    Calls Tryz.prog 30 #[.pointer (some ⟨Wb, 0, none⟩), .agg #[.int .i64 1, .int .i64 a, .int .i64 b, .int .i64 c, .string s, .string t, vl, vm]] w fun e w' =>
      e = .returned (.bool true) ∧ (∃ bv' es', es'.length = es.length + 1 ∧ BookAt w' B0 Wb xv yv bv' es' (fun q => S q ∨ (w.heap.size ≤ q ∧ q < w'.heap.size))) ∧ Below B0 w w' ∧ Out S w w' := by
  have HS : Hid (∀ q, S q → q < w.heap.size) := hS
  have HBK : Hid (BookAt w B0 Wb xv yv bv es S) := hbook
  have hWb : Wb < w.heap.size := hS _ hbook.wbB
  clear hS
  have hW0 : B0 ≤ Wb := hbook.wb0
  have HL : Hid (LView B0 w vl xs) := hl
  have HM : Hid (LView B0 w vm ys) := hm
  obtain ⟨lo, lc, hvl⟩ := hl.slice
  obtain ⟨mo, mc, hvm⟩ := hm.slice
  rw [hvl] at HL
  rw [hvm] at HM
  rw [hvl, hvm]
  clear hbook hl hm hvl hvm
  have hD := dL_length s t
  go_enter Tryz.func30, Tryz.ntmps30
  go_wp2_with fail
  refine (lent_any _ xs _ (by omega) ((HL.out.view hB0).kept ((Below.refl _ _).alloc (Nat.le_refl _) _))).mono ?_
  rintro e w1 ⟨rfl, o1, b1⟩
  have ob1 : w1.heap[w.heap.size]? = some (.cells #[.int .i64 1, .int .i64 a, .int .i64 b, .int .i64 c, .string s, .string t, .slice lo xs.length lc, .slice mo ys.length mc] 61 (0, 0)) := (b1.block _ (by simp)).trans (heap_alloc_new _ _)
  have c1 : Below w.heap.size w w1 := ((Below.refl _ w).alloc (Nat.le_refl _) _).trans (b1.mono (by simp))
  have p1 : Lent w1 (w.heap.size + 1) xs := by
    have h := o1
    rw [alloc_size1] at h
    exact h
  clear o1 b1
  have hs1 := c1.size
  have hp1 := p1.lt
  have k17 : w1.cell? ⟨w.heap.size, 7, none⟩ = some (.slice mo ys.length mc) := by rw [Lib.cell_of_heap ob1]; rfl
  go_wp2_with fail
  refine (lent_any _ ys _ (by omega) ((HM.out.view hB0).kept c1)).mono ?_
  rintro e w2 ⟨rfl, o2, b2⟩
  have p2 : Lent w2 w1.heap.size ys := o2
  have q1 : Lent w2 (w.heap.size + 1) xs := p1.kept (b2.block _ hp1)
  have ob2 := (b2.block _ (show w.heap.size < w1.heap.size by omega)).trans ob1
  have c2 : Below w.heap.size w w2 := c1.trans (b2.mono hs1)
  clear o2 p1 ob1 k17 c1
  have hp2 := p2.lt
  have hs2 := b2.size
  clear b2
  have k20 : w2.cell? ⟨w.heap.size, 0, none⟩ = some (.int .i64 1) := by rw [Lib.cell_of_heap ob2]; rfl
  have k24 : w2.cell? ⟨w.heap.size, 4, none⟩ = some (.string s) := by rw [Lib.cell_of_heap ob2]; rfl
  have k25 : w2.cell? ⟨w.heap.size, 5, none⟩ = some (.string t) := by rw [Lib.cell_of_heap ob2]; rfl
  go_wp2_with fail
  refine (cdiff_any s t _ hs ht).mono ?_
  rintro e w3 ⟨a3, c3, rfl, o3, b3⟩
  have k34 : w3.cell? ⟨w.heap.size, 4, none⟩ = some (.string s) := (b3.cell (p := ⟨w.heap.size, 4, none⟩) (by show w.heap.size < w2.heap.size; omega)).trans k24
  have k35 : w3.cell? ⟨w.heap.size, 5, none⟩ = some (.string t) := (b3.cell (p := ⟨w.heap.size, 5, none⟩) (by show w.heap.size < w2.heap.size; omega)).trans k25
  have hs3 := b3.size
  clear k20 k24 k25
  go_wp2_with fail
  refine (rdiff_any s t _ hs ht).mono ?_
  rintro e w4 ⟨a4, c4, rfl, o4, b4⟩
  have u4 : OwnOps w4 w2.heap.size (.slice a3 (dL s t).length c3) (dL s t) := own_block o3 (fun g hg => b4.block g (row_own_lt o3 hg))
  have hs4 := b4.size
  have b24 : Below w2.heap.size w2 w4 := b3.trans (b4.mono hs3)
  clear k34 k35 b3 b4 o3
  have HSAME : Hid (Calls Tryz.prog 58 #[.slice a3 (dL s t).length c3, .slice a4 (dL s t).length c4] w4 fun e w' => e = .returned (.bool true) ∧ ∃ n, w' = w4.drewN n) := sameOps_any (by omega) (View.of_own u4) (View.of_own o4)
  clear o4
  generalize hDD : dL s t = D at *
  generalize dE s t = E at *
  go_wp2_with fail
  refine HSAME.out.mono ?_
  rintro e w5 ⟨rfl, n5, hw5⟩
  have u5 : OwnOps w5 w2.heap.size (.slice a3 D.length c3) D := by rw [hw5]; exact u4
  have b25 : Below w2.heap.size w2 w5 := by rw [hw5]; exact b24.trans (below_drewN _ _ _)
  clear hw5 u4 b24 HSAME
  have hs5 := b25.size
  have bk5 : BookAt w5 B0 Wb xv yv bv es S := HBK.out.kept (fun q hq => (b25.block q (by have : q < w.heap.size := HS.out q hq; omega)).trans (c2.block q (HS.out q hq))) (fun q hq => hq)
  have q15 : Lent w5 (w.heap.size + 1) xs := q1.kept (b25.block _ (by omega))
  have q25 : Lent w5 w1.heap.size ys := p2.kept (b25.block _ (by omega))
  have ob5 := (b25.block _ (show w.heap.size < w2.heap.size by omega)).trans ob2
  have c5 : Below w.heap.size w w5 := c2.trans (b25.mono (by omega))
  clear q1 p2 ob2 c2 b25
  go_wp2_with fail
  refine (bops_walk w5 B0 Wb xv yv bv es S w2.heap.size _ D bk5 (fun q hq => by have : q < w.heap.size := HS.out q hq; omega) hes u5 hD hs5 (by omega)).mono ?_
  rintro e w6 ⟨rfl, ⟨bv6, e6, bk6⟩, kp6, bb6⟩
  have hbvb : ∀ q, w.heap.size ≤ q → bv.ownBlock ≠ some q := fun q hq e => by have : q < w.heap.size := HS.out _ (HBK.out.lowr q e); omega
  have hs6 := bb6.size
  have ob6 := (kp6 _ (show w.heap.size < w2.heap.size by omega) (by omega) (hbvb _ (Nat.le_refl _))).trans ob5
  have q16 : Lent w6 (w.heap.size + 1) xs := q15.kept (kp6 _ (by omega) (by omega) (hbvb _ (by omega)))
  have q26 : Lent w6 w1.heap.size ys := q25.kept (kp6 _ (by omega) (by omega) (hbvb _ (by omega)))
  have O6 : Hid (∀ q, q < w.heap.size → ¬ S q → w6.heap[q]? = w.heap[q]?) := fun q hq hn => (kp6 q (by omega) (fun e => hn (by rw [e]; exact HBK.out.wbB)) (fun e => hn (HBK.out.lowr q e))).trans (c5.block q hq)
  have c6 : Below B0 w w6 := (c5.mono hB0).trans bb6
  have hl6 := c6.size
  clear bb6 kp6 q15 q25 ob5 c5 bk5 u5
  have k66 : w6.cell? ⟨w.heap.size, 6, none⟩ = some (.slice lo xs.length lc) := by rw [Lib.cell_of_heap ob6]; rfl
  have HBACK : Hid (Calls Tryz.prog 70 #[.slice (some ⟨w.heap.size + 1, 0, none⟩) (xs.length + 2) (xs.length + 2), .slice lo xs.length lc] w6 fun e w' => e = .returned (.bool true) ∧ w6.grownBy w' (some (w.heap.size + 1))) :=
    back_list (w.heap.size + 1) (w.heap.size + 1) xs _ w6 (by omega) q16 (Nat.le_refl _) ((HL.out.kept c6).view (by omega))
  go_wp2_with fail
  refine HBACK.out.mono ?_
  rintro e w7 ⟨rfl, g7⟩
  obtain ⟨c7, bk7, ob7, q27, hs7⟩ := after_backS HS.out g7 c6 bk6 ob6 q26 hB0 (by omega) (by omega) (by omega) (by omega) (by omega) (by omega)
  have O7 : Hid (∀ q, q < w.heap.size → ¬ S q → w7.heap[q]? = w.heap[q]?) := fun q hq hn => (g7.block q (by omega) (fun e => by injection e with e; omega)).trans (O6.out q hq hn)
  clear g7 c6 bk6 ob6 q26 q16 k66 HBACK O6
  have k77 : w7.cell? ⟨w.heap.size, 7, none⟩ = some (.slice mo ys.length mc) := by rw [Lib.cell_of_heap ob7]; rfl
  have HBACK : Hid (Calls Tryz.prog 70 #[.slice (some ⟨w1.heap.size, 0, none⟩) (ys.length + 2) (ys.length + 2), .slice mo ys.length mc] w7 fun e w' => e = .returned (.bool true) ∧ w7.grownBy w' (some w1.heap.size)) :=
    back_list w1.heap.size w1.heap.size ys _ w7 (by omega) q27 (Nat.le_refl _) ((HM.out.kept c7).view (by have := c7.size; omega))
  go_wp2_with fail
  refine HBACK.out.mono ?_
  rintro e w8 ⟨rfl, g8⟩
  have c8 : Below B0 w w8 := below_back g8 c7 (by omega) (by have := c7.size; omega)
  have bk8 : BookAt w8 B0 Wb xv yv bv6 (es ++ [e6]) (fun q => S q ∨ (w.heap.size ≤ q ∧ q < w8.heap.size)) := bk7.kept (fun q hq => g8.block q (by rcases hq with h | h; have := HS.out q h; omega; omega) (fun e => by injection e with e; rcases hq with h | h; have := HS.out q h; omega; omega)) (fun q hq => by have := g8.size; rcases hq with h | h; exact .inl h; exact .inr ⟨by omega, by omega⟩)
  have O8 : Out S w w8 := ⟨c8.os, c8.tape, c8.output, c8.size, fun q hq hn => (g8.block q (by omega) (fun e => by injection e with e; omega)).trans (O7.out q hq hn)⟩
  have HO8 : Hid (Out S w w8) := O8
  clear O8 O7 g8 c7 bk7 ob7 q27 k77 HBACK
  go_wp2
  go_ret
  exact ⟨rfl, ⟨bv6, es ++ [e6], by simp, bk8⟩, c8, HO8.out⟩
end Go.Proofs.YtabpiaaknjcnkaaGreat

/-
  A step of Decode: the book moves, and nothing else.
-/
namespace Go.Proofs.YtabpiaaknjcnkaaGreat
open Go.RowKit
set_option linter.unusedVariables false
set_option linter.unusedSimpArgs false
set_option maxRecDepth 100000

set_option maxHeartbeats 4000000 in
theorem wdeltas_decS (w : World) (B0 Wb : Nat) (xv yv bv : Value) (es : List Entry) (S : Nat → Prop) (hS : ∀ q, S q → q < w.heap.size) (hbook : BookAt w B0 Wb xv yv bv es S) (hes : es.length ≤ 1300000000000) (hB0 : B0 ≤ w.heap.size) (a b c : Int) (s t : ByteArray) (vl vm : Value) (xs ys : List DOp)
    (hs : s.size ≤ 9223372036854770000) (hx : xs.length ≤ 4398046511000) (hy : ys.length ≤ 4398046511000) (hl : LView B0 w vl xs) (hm : LView B0 w vm ys) :
    Calls Tryz.prog 30 #[.pointer (some ⟨Wb, 0, none⟩), .agg #[.int .i64 6, .int .i64 a, .int .i64 b, .int .i64 c, .string s, .string t, vl, vm]] w fun e w' =>
      e = .returned (.bool true) ∧ (∃ bv' es', es'.length = es.length + 1 ∧ BookAt w' B0 Wb xv yv bv' es' (fun q => S q ∨ (w.heap.size ≤ q ∧ q < w'.heap.size))) ∧ Below B0 w w' ∧ Out S w w' := by
  have HS : Hid (∀ q, S q → q < w.heap.size) := hS
  have HBK : Hid (BookAt w B0 Wb xv yv bv es S) := hbook
  have hWb : Wb < w.heap.size := hS _ hbook.wbB
  clear hS
  have hW0 : B0 ≤ Wb := hbook.wb0
  have HL : Hid (LView B0 w vl xs) := hl
  have HM : Hid (LView B0 w vm ys) := hm
  obtain ⟨lo, lc, hvl⟩ := hl.slice
  obtain ⟨mo, mc, hvm⟩ := hm.slice
  rw [hvl] at HL
  rw [hvm] at HM
  rw [hvl, hvm]
  clear hbook hl hm hvl hvm
  have hD : (decL s).length ≤ 100000 := by have := decL_length s; omega
  go_enter Tryz.func30, Tryz.ntmps30
  go_wp2_with fail
  refine (lent_any _ xs _ (by omega) ((HL.out.view hB0).kept ((Below.refl _ _).alloc (Nat.le_refl _) _))).mono ?_
  rintro e w1 ⟨rfl, o1, b1⟩
  have ob1 : w1.heap[w.heap.size]? = some (.cells #[.int .i64 6, .int .i64 a, .int .i64 b, .int .i64 c, .string s, .string t, .slice lo xs.length lc, .slice mo ys.length mc] 61 (0, 0)) := (b1.block _ (by simp)).trans (heap_alloc_new _ _)
  have c1 : Below w.heap.size w w1 := ((Below.refl _ w).alloc (Nat.le_refl _) _).trans (b1.mono (by simp))
  have p1 : Lent w1 (w.heap.size + 1) xs := by
    have h := o1
    rw [alloc_size1] at h
    exact h
  clear o1 b1
  have hs1 := c1.size
  have hp1 := p1.lt
  have k17 : w1.cell? ⟨w.heap.size, 7, none⟩ = some (.slice mo ys.length mc) := by rw [Lib.cell_of_heap ob1]; rfl
  go_wp2_with fail
  refine (lent_any _ ys _ (by omega) ((HM.out.view hB0).kept c1)).mono ?_
  rintro e w2 ⟨rfl, o2, b2⟩
  have p2 : Lent w2 w1.heap.size ys := o2
  have q1 : Lent w2 (w.heap.size + 1) xs := p1.kept (b2.block _ hp1)
  have ob2 := (b2.block _ (show w.heap.size < w1.heap.size by omega)).trans ob1
  have c2 : Below w.heap.size w w2 := c1.trans (b2.mono hs1)
  clear o2 p1 ob1 k17 c1
  have hp2 := p2.lt
  have hs2 := b2.size
  clear b2
  have k20 : w2.cell? ⟨w.heap.size, 0, none⟩ = some (.int .i64 6) := by rw [Lib.cell_of_heap ob2]; rfl
  have k24 : w2.cell? ⟨w.heap.size, 4, none⟩ = some (.string s) := by rw [Lib.cell_of_heap ob2]; rfl
  go_wp2_with fail
  refine (cdec_any s _ (by omega)).mono ?_
  rintro e w3 ⟨⟨v3, rfl, o3⟩, b3⟩
  obtain ⟨a3, c3, hv3⟩ := o3.slice
  subst hv3
  have k34 : w3.cell? ⟨w.heap.size, 4, none⟩ = some (.string s) := (b3.cell (p := ⟨w.heap.size, 4, none⟩) (by show w.heap.size < w2.heap.size; omega)).trans k24
  have hs3 := b3.size
  clear k20 k24
  go_wp2_with fail
  refine (rdec_any s _ hs).mono ?_
  rintro e w4 ⟨⟨v4, rfl, o4⟩, b4⟩
  obtain ⟨a4, c4, hv4⟩ := o4.slice
  subst hv4
  have u4 : OwnOps w4 w2.heap.size (.slice a3 (decL s).length c3) (decL s) := own_block o3 (fun g hg => b4.block g (row_own_lt o3 hg))
  have hs4 := b4.size
  have b24 : Below w2.heap.size w2 w4 := b3.trans (b4.mono hs3)
  clear k34 b3 b4 o3
  have HSAME : Hid (Calls Tryz.prog 58 #[.slice a3 (decL s).length c3, .slice a4 (decL s).length c4] w4 fun e w' => e = .returned (.bool true) ∧ ∃ n, w' = w4.drewN n) := sameOps_any (by omega) (View.of_own u4) (View.of_own o4)
  clear o4
  generalize hDD : decL s = D at *
  generalize decE s = E at *
  generalize decP s = P at *
  go_wp2_with fail
  refine HSAME.out.mono ?_
  rintro e w5 ⟨rfl, n5, hw5⟩
  have u5 : OwnOps w5 w2.heap.size (.slice a3 D.length c3) D := by rw [hw5]; exact u4
  have b25 : Below w2.heap.size w2 w5 := by rw [hw5]; exact b24.trans (below_drewN _ _ _)
  clear hw5 u4 b24 HSAME
  have hs5 := b25.size
  have bk5 : BookAt w5 B0 Wb xv yv bv es S := HBK.out.kept (fun q hq => (b25.block q (by have : q < w.heap.size := HS.out q hq; omega)).trans (c2.block q (HS.out q hq))) (fun q hq => hq)
  have q15 : Lent w5 (w.heap.size + 1) xs := q1.kept (b25.block _ (by omega))
  have q25 : Lent w5 w1.heap.size ys := p2.kept (b25.block _ (by omega))
  have ob5 := (b25.block _ (show w.heap.size < w2.heap.size by omega)).trans ob2
  have c5 : Below w.heap.size w w5 := c2.trans (b25.mono (by omega))
  clear q1 p2 ob2 c2 b25
  go_wp2_with fail
  refine (bops_walk w5 B0 Wb xv yv bv es S w2.heap.size _ D bk5 (fun q hq => by have : q < w.heap.size := HS.out q hq; omega) hes u5 hD hs5 (by omega)).mono ?_
  rintro e w6 ⟨rfl, ⟨bv6, e6, bk6⟩, kp6, bb6⟩
  have hbvb : ∀ q, w.heap.size ≤ q → bv.ownBlock ≠ some q := fun q hq e => by have : q < w.heap.size := HS.out _ (HBK.out.lowr q e); omega
  have hs6 := bb6.size
  have ob6 := (kp6 _ (show w.heap.size < w2.heap.size by omega) (by omega) (hbvb _ (Nat.le_refl _))).trans ob5
  have q16 : Lent w6 (w.heap.size + 1) xs := q15.kept (kp6 _ (by omega) (by omega) (hbvb _ (by omega)))
  have q26 : Lent w6 w1.heap.size ys := q25.kept (kp6 _ (by omega) (by omega) (hbvb _ (by omega)))
  have O6 : Hid (∀ q, q < w.heap.size → ¬ S q → w6.heap[q]? = w.heap[q]?) := fun q hq hn => (kp6 q (by omega) (fun e => hn (by rw [e]; exact HBK.out.wbB)) (fun e => hn (HBK.out.lowr q e))).trans (c5.block q hq)
  have c6 : Below B0 w w6 := (c5.mono hB0).trans bb6
  have hl6 := c6.size
  clear bb6 kp6 q15 q25 ob5 c5 bk5 u5
  have k66 : w6.cell? ⟨w.heap.size, 6, none⟩ = some (.slice lo xs.length lc) := by rw [Lib.cell_of_heap ob6]; rfl
  have HBACK : Hid (Calls Tryz.prog 70 #[.slice (some ⟨w.heap.size + 1, 0, none⟩) (xs.length + 2) (xs.length + 2), .slice lo xs.length lc] w6 fun e w' => e = .returned (.bool true) ∧ w6.grownBy w' (some (w.heap.size + 1))) :=
    back_list (w.heap.size + 1) (w.heap.size + 1) xs _ w6 (by omega) q16 (Nat.le_refl _) ((HL.out.kept c6).view (by omega))
  go_wp2_with fail
  refine HBACK.out.mono ?_
  rintro e w7 ⟨rfl, g7⟩
  obtain ⟨c7, bk7, ob7, q27, hs7⟩ := after_backS HS.out g7 c6 bk6 ob6 q26 hB0 (by omega) (by omega) (by omega) (by omega) (by omega) (by omega)
  have O7 : Hid (∀ q, q < w.heap.size → ¬ S q → w7.heap[q]? = w.heap[q]?) := fun q hq hn => (g7.block q (by omega) (fun e => by injection e with e; omega)).trans (O6.out q hq hn)
  clear g7 c6 bk6 ob6 q26 q16 k66 HBACK O6
  have k77 : w7.cell? ⟨w.heap.size, 7, none⟩ = some (.slice mo ys.length mc) := by rw [Lib.cell_of_heap ob7]; rfl
  have HBACK : Hid (Calls Tryz.prog 70 #[.slice (some ⟨w1.heap.size, 0, none⟩) (ys.length + 2) (ys.length + 2), .slice mo ys.length mc] w7 fun e w' => e = .returned (.bool true) ∧ w7.grownBy w' (some w1.heap.size)) :=
    back_list w1.heap.size w1.heap.size ys _ w7 (by omega) q27 (Nat.le_refl _) ((HM.out.kept c7).view (by have := c7.size; omega))
  go_wp2_with fail
  refine HBACK.out.mono ?_
  rintro e w8 ⟨rfl, g8⟩
  have c8 : Below B0 w w8 := below_back g8 c7 (by omega) (by have := c7.size; omega)
  have bk8 : BookAt w8 B0 Wb xv yv bv6 (es ++ [e6]) (fun q => S q ∨ (w.heap.size ≤ q ∧ q < w8.heap.size)) := bk7.kept (fun q hq => g8.block q (by rcases hq with h | h; have := HS.out q h; omega; omega) (fun e => by injection e with e; rcases hq with h | h; have := HS.out q h; omega; omega)) (fun q hq => by have := g8.size; rcases hq with h | h; exact .inl h; exact .inr ⟨by omega, by omega⟩)
  have O8 : Out S w w8 := ⟨c8.os, c8.tape, c8.output, c8.size, fun q hq hn => (g8.block q (by omega) (fun e => by injection e with e; omega)).trans (O7.out q hq hn)⟩
  have HO8 : Hid (Out S w w8) := O8
  clear O8 O7 g8 c7 bk7 ob7 q27 k77 HBACK
  go_wp2
  go_ret
  exact ⟨rfl, ⟨bv6, es ++ [e6], by simp, bk8⟩, c8, HO8.out⟩
end Go.Proofs.YtabpiaaknjcnkaaGreat
