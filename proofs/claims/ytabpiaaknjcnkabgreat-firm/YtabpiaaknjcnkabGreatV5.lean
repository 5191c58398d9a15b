/-
  A vault as it lies in memory.
-/
import Derived.Test.YtabpiaaknjcnkabGreatXV3V4
namespace Go.Proofs.YtabpiaaknjcnkabGreat
open Go.RowKit
set_option linter.unusedVariables false
set_option linter.unusedSimpArgs false
set_option maxRecDepth 100000

def vcells (lv : Value) (tv : Nat → Value) (s : Vlt) : Array Value :=
  #[lv, .int .i64 (s.ch 0).gone, tv 0, .int .i64 (s.ch 1).gone, tv 1, .int .i64 (s.ch 2).gone, tv 2, .int .i64 (s.ch 3).gone, tv 3]
/-- A vault. -/
structure VaultAt (w : World) (p : Nat) (lv : Value) (tv : Nat → Value) (s : Vlt) : Prop where
  blk : w.heap[p]? = some (.cells (vcells lv tv s) 71 (0, 0))
  log : OwnBytes w 0 lv s.log
  row : ∀ i, i < 4 → OwnStrs w 0 (tv i) (s.ch i).texts
  apart : ∀ i j, i < 4 → j < 4 → i ≠ j → ∀ g, (tv i).ownBlock = some g → (tv j).ownBlock ≠ some g
/-- The blocks that a vault lies in. -/
def foot (p : Nat) (lv : Value) (tv : Nat → Value) (q : Nat) : Prop := q = p ∨ lv.ownBlock = some q ∨ ∃ i, i < 4 ∧ (tv i).ownBlock = some q
/-- Blocks outside of F are as they were. -/
structure Out (F : Nat → Prop) (w w' : World) : Prop where
  os : w'.os = w.os
  tape : w'.tape = w.tape
  output : w'.output = w.output
  size : w.heap.size ≤ w'.heap.size
  block : ∀ q, q < w.heap.size → ¬ F q → w'.heap[q]? = w.heap[q]?
theorem Out.of_below {F : Nat → Prop} {w w' : World} (h : Below w.heap.size w w') : Out F w w' := ⟨h.os, h.tape, h.output, h.size, fun q hq _ => h.block q hq⟩
theorem Out.trans {F G : Nat → Prop} {a b c : World} (h : Out F a b) (k : Out G b c) (hFG : ∀ q, G q → F q ∨ a.heap.size ≤ q) : Out F a c :=
  ⟨k.os.trans h.os, k.tape.trans h.tape, k.output.trans h.output, Nat.le_trans h.size k.size, fun q hq hn => (k.block q (Nat.lt_of_lt_of_le hq h.size) (fun hg => by rcases hFG q hg with x | x; exact hn x; omega)).trans (h.block q hq hn)⟩
theorem Out.of_grown {F : Nat → Prop} {w w' : World} {row : Option Nat} (h : w.grownBy w' row) (hr : ∀ g, row = some g → F g) : Out F w w' :=
  ⟨h.os, h.tape, h.output, h.size, fun q hq hn => h.block q hq (fun e => hn (hr q e.symm))⟩
theorem Out.set {F : Nat → Prop} {w w' : World} (h : Out F w w') {p j : Nat} (hp : F p) (u : Value) : Out F w (w'.setCell ⟨p, j, none⟩ u) :=
  h.trans (G := (· = p)) ⟨rfl, rfl, rfl, by simp [World.setCell], fun q _ hn => Below.heap_setCell _ _ _ _ hn⟩ (fun q hq => .inl (by subst hq; exact hp))
theorem Out.mono {F G : Nat → Prop} {w w' : World} (h : Out F w w') (hFG : ∀ q, F q → G q) : Out G w w' := ⟨h.os, h.tape, h.output, h.size, fun q hq hn => h.block q hq (fun hf => hn (hFG q hf))⟩
theorem Out.drewN {F : Nat → Prop} {w w' : World} (h : Out F w w') (k : Nat) : Out F w (w'.drewN k) := ⟨h.os, h.tape, h.output, h.size, h.block⟩

theorem row_type {w : World} {base q : Nat} {e : TypeId} {size n : Nat} {v : Value} {xs : List Value} {cs : Array Value} {T : TypeId} {fr : Nat × Nat} (h : w.ownsRow base e size v n xs) (hq : w.heap[q]? = some (.cells cs T fr)) (hT : T ≠ e) : v.ownBlock ≠ some q := by
  intro hg
  rcases h.2 with ⟨rfl, _⟩ | ⟨g', cap, cur, rfl, _, hbk, _⟩
  · cases hg
  · obtain rfl : g' = q := by simpa [Value.ownBlock] using hg
    rw [hq] at hbk
    cases hbk
    exact hT rfl
theorem row_types {w : World} {b1 b2 : Nat} {e1 e2 : TypeId} {s1 s2 n1 n2 : Nat} {v1 v2 : Value} {x1 x2 : List Value} (h1 : w.ownsRow b1 e1 s1 v1 n1 x1) (h2 : w.ownsRow b2 e2 s2 v2 n2 x2) (hT : e1 ≠ e2) : ∀ g, v1.ownBlock = some g → v2.ownBlock ≠ some g := by
  intro g hg
  rcases h1.2 with ⟨rfl, _⟩ | ⟨g', cap, cur, rfl, _, hbk, _⟩
  · cases hg
  · obtain rfl : g' = g := by simpa [Value.ownBlock] using hg
    exact row_type h2 hbk hT

section
variable {w : World} {p : Nat} {lv : Value} {tv : Nat → Value} {s : Vlt} (h : VaultAt w p lv tv s)
include h
theorem VaultAt.lt : p < w.heap.size := lt_of_block h.blk
theorem VaultAt.cell0 : w.cell? ⟨p, 0, none⟩ = some lv := by rw [Lib.cell_of_heap h.blk]; rfl
theorem VaultAt.cellG (c : Nat) (hc : c < 4) : w.cell? ⟨p, 1 + c * 2, none⟩ = some (.int .i64 (s.ch c).gone) := by
  rw [Lib.cell_of_heap h.blk]
  match c, hc with
  | 0, _ => rfl
  | 1, _ => rfl
  | 2, _ => rfl
  | 3, _ => rfl
theorem VaultAt.cellT (c : Nat) (hc : c < 4) : w.cell? ⟨p, 1 + c * 2 + 1, none⟩ = some (tv c) := by
  rw [Lib.cell_of_heap h.blk]
  match c, hc with
  | 0, _ => rfl
  | 1, _ => rfl
  | 2, _ => rfl
  | 3, _ => rfl
theorem VaultAt.frozen (j : Nat) : w.frozen? ⟨p, j, none⟩ = false := Lib.frozen_of_heap h.blk j
theorem VaultAt.logp : lv.ownBlock ≠ some p := row_type h.log h.blk (by decide)
theorem VaultAt.rowp (i : Nat) (hi : i < 4) : (tv i).ownBlock ≠ some p := row_type (h.row i hi) h.blk (by decide)
theorem VaultAt.logrow (i : Nat) (hi : i < 4) : ∀ g, lv.ownBlock = some g → (tv i).ownBlock ≠ some g := row_types h.log (h.row i hi) (by decide)
theorem VaultAt.foot_lt : ∀ q, foot p lv tv q → q < w.heap.size := by
  rintro q (rfl | hq | ⟨i, hi, hq⟩)
  · exact h.lt
  · exact row_own_lt h.log hq
  · exact row_own_lt (h.row i hi) hq
/-- What does not touch a vault leaves it as it is. -/
theorem VaultAt.kept {w' : World} (hk : ∀ q, foot p lv tv q → w'.heap[q]? = w.heap[q]?) : VaultAt w' p lv tv s :=
  ⟨(hk p (.inl rfl)).trans h.blk, row_block h.log (fun g hg => hk g (.inr (.inl hg))), fun i hi => row_block (h.row i hi) (fun g hg => hk g (.inr (.inr ⟨i, hi, hg⟩))), h.apart⟩
theorem VaultAt.below {w' : World} (hb : Below w.heap.size w w') : VaultAt w' p lv tv s := h.kept (fun q hq => hb.block q (h.foot_lt q hq))
theorem VaultAt.drewN (k : Nat) : VaultAt (w.drewN k) p lv tv s := h.kept (fun q hq => rfl)

/-- The log grows. -/
theorem VaultAt.logged {w2 : World} {lv' : Value} {bs : List UInt8} (hg : w.grownBy w2 lv.ownBlock) (ho : OwnBytes w2 0 lv' bs) (hat : lv'.ownBlock = lv.ownBlock ∨ ∃ g, lv'.ownBlock = some g ∧ w.heap.size ≤ g) :
    VaultAt (w2.setCell ⟨p, 0, none⟩ lv') p lv' tv ⟨bs, s.ch⟩ ∧ Out (foot p lv tv) w (w2.setCell ⟨p, 0, none⟩ lv') ∧ (∀ q, foot p lv' tv q → foot p lv tv q ∨ w.heap.size ≤ q) := by
  have hp := h.lt
  have hb : w2.heap[p]? = some (.cells (vcells lv tv s) 71 (0, 0)) := (hg.block p hp (Ne.symm h.logp)).trans h.blk
  have hl : lv'.ownBlock ≠ some p := by
    rcases hat with e | ⟨g, e, hge⟩
    · rw [e]; exact h.logp
    · rw [e]; intro e2; injection e2 with e2; omega
  refine ⟨⟨Lib.heap_setCell_same hb _, row_block ho (fun g hg' => Below.heap_setCell _ _ _ _ (fun e => hl (by rw [hg', e]))), fun i hi => ?_, h.apart⟩, (Out.of_grown hg (fun g e => .inr (.inl e))).set (.inl rfl) _, ?_⟩
  · refine row_block (h.row i hi) (fun g hg' => ?_)
    have hgl := row_own_lt (h.row i hi) hg'
    exact (Below.heap_setCell _ _ _ _ (fun e => h.rowp i hi (by rw [hg', e]))).trans (hg.block g hgl (fun e => h.logrow i hi g e.symm hg'))
  · rintro q (rfl | hq | ⟨i, hi, hq⟩)
    · exact .inl (.inl rfl)
    · rcases hat with e | ⟨g, e, hge⟩
      · exact .inl (.inr (.inl (by rw [← e]; exact hq)))
      · rw [e] at hq; injection hq with hq; exact .inr (by omega)
    · exact .inl (.inr (.inr ⟨i, hi, hq⟩))

/-- A chain turns. -/
theorem VaultAt.turned {w2 w3 : World} {c g' : Nat} {v' : Value} {ts : List ByteArray} (hc : c < 4) (hg : w.grownBy w2 (tv c).ownBlock) (ho : OwnStrs w2 0 v' ts) (hat : ∀ g, v'.ownBlock = some g → (tv c).ownBlock = some g ∨ w.heap.size ≤ g)
    (hb3 : w3.heap[p]? = some (.cells (vcells lv (fun i => if i = c then v' else tv i) ⟨s.log, fun i => if i = c then ⟨g', ts⟩ else s.ch i⟩) 71 (0, 0))) (h3 : ∀ q, q ≠ p → w3.heap[q]? = w2.heap[q]?) (hs3 : w2.heap.size ≤ w3.heap.size) (hk : w3.os = w2.os ∧ w3.tape = w2.tape ∧ w3.output = w2.output) :
    VaultAt w3 p lv (fun i => if i = c then v' else tv i) ⟨s.log, fun i => if i = c then ⟨g', ts⟩ else s.ch i⟩ ∧ Out (foot p lv tv) w w3 ∧ (∀ q, foot p lv (fun i => if i = c then v' else tv i) q → foot p lv tv q ∨ w.heap.size ≤ q) := by
  have hp := h.lt
  have hvp : v'.ownBlock ≠ some p := by
    intro e
    rcases hat p e with e2 | e2
    · exact h.rowp c hc e2
    · omega
  have old : ∀ (u : Value) (q : Nat), u.ownBlock = some q → q < w.heap.size → q ≠ p → (tv c).ownBlock ≠ some q → w3.heap[q]? = w.heap[q]? := fun u q hu hq hqp hne => (h3 q hqp).trans (hg.block q hq (Ne.symm hne))
  refine ⟨⟨hb3, row_block h.log (fun g hg' => old lv g hg' (row_own_lt h.log hg') (fun e => h.logp (by rw [hg', e])) (h.logrow c hc g hg')), fun i hi => ?_, fun i j hi hj hij g => ?_⟩, ⟨hk.1.trans hg.os, hk.2.1.trans hg.tape, hk.2.2.trans hg.output, Nat.le_trans hg.size hs3, fun q hq hn => ?_⟩, ?_⟩
  · by_cases e : i = c
    · simp only [e, if_true]
      exact row_block ho (fun g hg' => h3 g (fun e => hvp (by rw [hg', e])))
    · simp only [e, if_false]
      exact row_block (h.row i hi) (fun g hg' => old (tv i) g hg' (row_own_lt (h.row i hi) hg') (fun e => h.rowp i hi (by rw [hg', e])) (h.apart i c hi hc e g hg'))
  · by_cases e1 : i = c
    · have e2 : ¬ j = c := by omega
      simp only [e1, e2, if_true, if_false]
      intro hgi
      rcases hat g hgi with x | x
      · exact h.apart c j hc hj (by omega) g x
      · intro hgj; have := row_own_lt (h.row j hj) hgj; omega
    · by_cases e2 : j = c
      · simp only [e1, e2, if_true, if_false]
        intro hgi hgj
        rcases hat g hgj with x | x
        · exact h.apart c i hc hi (by omega) g x hgi
        · have := row_own_lt (h.row i hi) hgi; omega
      · simp only [e1, e2, if_false]
        exact h.apart i j hi hj hij g
  · exact (h3 q (fun e => hn (.inl e))).trans (hg.block q hq (fun e => hn (.inr (.inr ⟨c, hc, e.symm⟩))))
  · rintro q (rfl | hq | ⟨i, hi, hq⟩)
    · exact .inl (.inl rfl)
    · exact .inl (.inr (.inl hq))
    · by_cases e : i = c
      · simp only [e, if_true] at hq
        rcases hat q hq with x | x
        · exact .inl (.inr (.inr ⟨c, hc, x⟩))
        · exact .inr x
      · simp only [e, if_false] at hq
        exact .inl (.inr (.inr ⟨i, hi, hq⟩))
end

theorem vset_one {w : World} {p c : Nat} {lv v' : Value} {tv : Nat → Value} {s : Vlt} {ts : List ByteArray} (hc : c < 4) (hb : w.heap[p]? = some (.cells (vcells lv tv s) 71 (0, 0))) :
    (w.setCell ⟨p, 1 + c * 2 + 1, none⟩ v').heap[p]? = some (.cells (vcells lv (fun i => if i = c then v' else tv i) ⟨s.log, fun i => if i = c then ⟨(s.ch c).gone, ts⟩ else s.ch i⟩) 71 (0, 0)) := by
  rw [Lib.heap_setCell_same hb]
  match c, hc with
  | 0, _ => rfl
  | 1, _ => rfl
  | 2, _ => rfl
  | 3, _ => rfl
theorem vset_two {w : World} {p c g' : Nat} {lv v' : Value} {tv : Nat → Value} {s : Vlt} {ts : List ByteArray} (hc : c < 4) (hb : w.heap[p]? = some (.cells (vcells lv tv s) 71 (0, 0))) :
    ((w.setCell ⟨p, 1 + c * 2 + 1, none⟩ v').setCell ⟨p, 1 + c * 2, none⟩ (.int .i64 g')).heap[p]? = some (.cells (vcells lv (fun i => if i = c then v' else tv i) ⟨s.log, fun i => if i = c then ⟨g', ts⟩ else s.ch i⟩) 71 (0, 0)) := by
  rw [Lib.heap_setCell_same (Lib.heap_setCell_same hb _)]
  match c, hc with
  | 0, _ => rfl
  | 1, _ => rfl
  | 2, _ => rfl
  | 3, _ => rfl

/-- A world whose memory is as it was. -/
def Still (w w' : World) : Prop := w'.heap = w.heap ∧ w'.os = w.os ∧ w'.tape = w.tape ∧ w'.output = w.output
theorem Still.drewN (w : World) (k : Nat) : Still w (w.drewN k) := ⟨rfl, rfl, rfl, rfl⟩
theorem Still.below {w w' : World} (h : Still w w') (B : Nat) : Below B w w' := ⟨h.2.1, h.2.2.1, h.2.2.2, by rw [h.1]; exact Nat.le_refl _, fun k _ => by rw [h.1]⟩
theorem Still.size {w w' : World} (h : Still w w') : w'.heap.size = w.heap.size := by rw [h.1]
theorem VaultAt.still {w w' : World} {p : Nat} {lv : Value} {tv : Nat → Value} {s : Vlt} (h : VaultAt w p lv tv s) (hs : Still w w') : VaultAt w' p lv tv s := h.kept (fun q _ => by rw [hs.1])
theorem own_still {w w' : World} {b : Nat} {v : Value} {bs : List UInt8} (h : OwnBytes w b v bs) (hs : Still w w') : OwnBytes w' b v bs := row_block h (fun q _ => by rw [hs.1])
theorem vlast_st (p o : Nat) (g n cap : Nat) (ao : Option Addr) (w : World) (h0 : w.cell? ⟨p, o, none⟩ = some (.int .i64 g)) (h1 : w.cell? ⟨p, o + 1, none⟩ = some (.slice ao n cap)) (hb : g + n ≤ 9000000000000) :
    Calls Tryz.prog 52 #[.pointer (some ⟨p, o, none⟩)] w fun e w' => e = .returned (.int .i64 ((g + n : Nat) : Int)) ∧ Still w w' :=
  (vlast_any p o g n cap ao w h0 h1 hb).mono fun e w' ⟨h, k, hw⟩ => ⟨h, by rw [hw]; exact Still.drewN _ _⟩
theorem vfirst_st (p o : Nat) (g n cap : Nat) (ao : Option Addr) (w : World) (h0 : w.cell? ⟨p, o, none⟩ = some (.int .i64 g)) (h1 : w.cell? ⟨p, o + 1, none⟩ = some (.slice ao n cap)) (hb : g + n ≤ 9000000000000) :
    Calls Tryz.prog 59 #[.pointer (some ⟨p, o, none⟩)] w fun e w' => e = .returned (.int .i64 ((min (g + 1) (g + n) : Nat) : Int)) ∧ Still w w' :=
  (vfirst_any p o g n cap ao w h0 h1 hb).mono fun e w' ⟨h, k, hw⟩ => ⟨h, by rw [hw]; exact Still.drewN _ _⟩
theorem vhas_st (p o : Nat) (g n cap : Nat) (ao : Option Addr) (z : Int) (w : World) (h0 : w.cell? ⟨p, o, none⟩ = some (.int .i64 g)) (h1 : w.cell? ⟨p, o + 1, none⟩ = some (.slice ao n cap)) (hb : g + n ≤ 9000000000000) :
    Calls Tryz.prog 57 #[.pointer (some ⟨p, o, none⟩), .int .i64 z] w fun e w' => e = .returned (.bool (decide ((g : Int) < z ∧ z ≤ ((g + n : Nat) : Int)))) ∧ Still w w' :=
  (vhas_any p o g n cap ao z w h0 h1 hb).mono fun e w' ⟨h, k, hw⟩ => ⟨h, by rw [hw]; exact Still.drewN _ _⟩
theorem vtext_st (p o : Nat) (g i cap : Nat) (ao : Option Addr) (ts : List ByteArray) (t : ByteArray) (w : World) (h0 : w.cell? ⟨p, o, none⟩ = some (.int .i64 g)) (h1 : w.cell? ⟨p, o + 1, none⟩ = some (.slice ao ts.length cap))
    (hown : OwnStrs w 0 (.slice ao ts.length cap) ts) (hi : ts[i]? = some t) (hb : g + ts.length ≤ 9000000000000) (z : Int) (hz : z = (g : Int) + i + 1) :
    Calls Tryz.prog 55 #[.pointer (some ⟨p, o, none⟩), .int .i64 z] w fun e w' => e = .returned (.string t) ∧ Still w w' := by
  obtain ⟨q, rfl, _, _, hc⟩ := hown.cell hi
  exact (vtext_any p o g q i cap ts t w h0 h1 hi hc hb z hz).mono fun e w' ⟨h, k, hw⟩ => ⟨h, by rw [hw]; exact Still.drewN _ _⟩

/-- What a call leaves of a vault. -/
def Moves (p : Nat) (lv : Value) (tv : Nat → Value) (s' : Vlt) (w w' : World) : Prop :=
  ∃ lv' tv', VaultAt w' p lv' tv' s' ∧ Out (foot p lv tv) w w' ∧ (∀ q, foot p lv' tv' q → foot p lv tv q ∨ w.heap.size ≤ q)
theorem Moves.stays {w w' : World} {p : Nat} {lv : Value} {tv : Nat → Value} {s : Vlt} (h : VaultAt w p lv tv s) (hb : Below w.heap.size w w') : Moves p lv tv s w w' :=
  ⟨lv, tv, h.below hb, Out.of_below hb, fun q hq => .inl hq⟩
end Go.Proofs.YtabpiaaknjcnkabGreat
