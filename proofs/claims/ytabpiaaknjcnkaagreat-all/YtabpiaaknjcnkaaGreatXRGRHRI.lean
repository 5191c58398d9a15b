/- The texts RG, RH, RI, one behind the other. -/
import Derived.Test.YtabpiaaknjcnkaaGreatXW8WBP2
import Derived.Orders
/-
  A region that draws its order, by what each of its operations leaves in its own slot, whatever came ahead.
-/
namespace Go.Proofs.YtabpiaaknjcnkaaGreat
open Go.RowKit
set_option linter.unusedVariables false
set_option linter.unusedSimpArgs false

/-- What is wanted in a slot: a value, or a new row of cells. -/
inductive Want where
  | val (v : Value)
  | row (cs : Array Value) (n : Nat) (t : TypeId)
def Want.ok (B : Nat) (q : Want) (v : Value) (w : World) : Prop :=
  match q with
  | .val u => v = u
  | .row cs n t => ∃ g, v = .slice (some ⟨g, 0, none⟩) n n ∧ B ≤ g ∧ w.heap[g]? = some (.cells cs t (0, 0))
theorem Want.ok.kept {B : Nat} {q : Want} {v : Value} {w w' : World} (h : q.ok B v w) (hb : Below w.heap.size w w') : q.ok B v w' := by
  cases q with
  | val u => exact h
  | row cs n t =>
    obtain ⟨g, h1, h2, h3⟩ := h
    exact ⟨g, h1, h2, (hb.block g (lt_of_block h3)).trans h3⟩
/-- A frame of which only some slots are others. -/
structure Held (a0 a : Act) (S : Nat → Prop) : Prop where
  defers : a.defers = a0.defers
  size : a.tmps.size = a0.tmps.size
  at_ : ∀ s, ¬ S s → a.tmps.getD s undef = a0.tmps.getD s undef
theorem Held.refl (a : Act) (S : Nat → Prop) : Held a a S := ⟨rfl, rfl, fun _ _ => rfl⟩
theorem getD_put (a : Act) (d s : Nat) (v : Value) (hd : d < a.tmps.size) : (a.put (some d) v).tmps.getD s undef = if s = d then v else a.tmps.getD s undef := by
  unfold Act.put
  by_cases h : s = d
  · subst h
    simp [hd]
  · simp only [if_neg h]
    simp [Array.getElem?_setIfInBounds_ne (Ne.symm h)]
theorem Held.put {a0 a : Act} {S : Nat → Prop} (h : Held a0 a S) {d : Nat} (hd : S d) (hlt : d < a0.tmps.size) (v : Value) : Held a0 (a.put (some d) v) S :=
  ⟨h.defers, by simpa [Act.put] using h.size, fun s hs => by rw [getD_put _ _ _ _ (by rw [h.size]; exact hlt), if_neg (fun e => hs (by rw [e]; exact hd))]; exact h.at_ s hs⟩

def freeN (l : Array Bool) : Nat → Nat
  | 0 => 0
  | n + 1 => freeN l n + (if l.getD n true = false then 1 else 0)
theorem freeN_zero {l : Array Bool} : ∀ {n : Nat}, freeN l n = 0 → ∀ i, i < n → l.getD i true = true
  | 0, _, i, hi => by omega
  | n + 1, h, i, hi => by
    simp only [freeN] at h
    by_cases e : i = n
    · subst e
      cases hc : l.getD i true with
      | true => rfl
      | false => rw [hc] at h; simp at h
    · exact freeN_zero (n := n) (by omega) i (by omega)
theorem freeN_le {l : Array Bool} {i : Nat} : ∀ n, freeN (l.setIfInBounds i true) n ≤ freeN l n
  | 0 => Nat.le_refl _
  | n + 1 => by
    have := freeN_le (l := l) (i := i) n
    simp only [freeN]
    by_cases e : i = n
    · subst e
      have : (l.setIfInBounds i true).getD i true = true := by
        by_cases h : i < l.size <;> simp [h]
      rw [this]; simp; omega
    · rw [getD_set_ne true e]; omega
theorem freeN_lt {l : Array Bool} {i : Nat} (hi : l.getD i true = false) : ∀ n, i < n → freeN (l.setIfInBounds i true) n + 1 ≤ freeN l n
  | 0, h => by omega
  | n + 1, h => by
    simp only [freeN]
    by_cases e : i = n
    · subst e
      have h2 : (l.setIfInBounds i true).getD i true = true := by
        by_cases h : i < l.size <;> simp [h]
      have := freeN_le (l := l) (i := i) i
      rw [h2, hi]; simp; omega
    · have := freeN_lt hi n (by omega)
      rw [getD_set_ne true e]; omega
theorem wpAny_inv {P : Program} {ops : Array Oper} {Q : Exit → Act → World → Prop} {md : Region.Mode} (I : Array Bool → Act → World → Prop)
    (hstep : ∀ l a w i, I l a w → i ∈ Region.ready md ops l → wpOp P ops Q i (fun a' w' => I (l.setIfInBounds i true) a' w') a w)
    (hdone : ∀ l a w, I l a w → Region.ready md ops l = [] → Q .normal a w) :
    ∀ (fuel : Nat) (l : Array Bool) (a : Act) (w : World), I l a w → freeN l ops.size ≤ fuel → wpAny P md ops Q fuel l a w
  | 0, l, a, w, h, hf => by
    have h0 := freeN_zero (n := ops.size) (l := l) (by omega)
    have hr : Region.ready md ops l = [] := by
      rw [List.eq_nil_iff_forall_not_mem]
      intro i hi
      obtain ⟨h1, o, h2, _⟩ := mem_ready.1 hi
      have := h0 i (Array.getElem?_eq_some_iff.1 h2).1
      rw [this] at h1; cases h1
    exact ⟨hr, hdone l a w h hr⟩
  | fuel + 1, l, a, w, h, hf => by
    refine ⟨fun hr => hdone l a w h hr, fun i hi => wpOp_mono (fun a' w' h' => wpAny_inv I hstep hdone fuel _ a' w' h' ?_) (hstep l a w i h hi)⟩
    obtain ⟨h1, o, h2, _⟩ := mem_ready.1 hi
    have := freeN_lt h1 ops.size (Array.getElem?_eq_some_iff.1 h2).1
    omega
/-- The frame behind such a region, written out. -/
def putAll (D : Nat → Nat) (u : Nat → Value) : List Nat → Act → Act
  | [], a => a
  | i :: r, a => putAll D u r (a.put (some (D i)) (u i))
theorem putAll_defers (D : Nat → Nat) (u : Nat → Value) : ∀ (l : List Nat) (a : Act), (putAll D u l a).defers = a.defers
  | [], a => rfl
  | i :: r, a => by rw [putAll, putAll_defers D u r]; rfl
theorem putAll_size (D : Nat → Nat) (u : Nat → Value) : ∀ (l : List Nat) (a : Act), (putAll D u l a).tmps.size = a.tmps.size
  | [], a => rfl
  | i :: r, a => by rw [putAll, putAll_size D u r]; simp [Act.put]
theorem putAll_get (D : Nat → Nat) (u : Nat → Value) (f : Nat → Value) (hu : ∀ i, u i = f (D i)) (s : Nat) : ∀ (l : List Nat) (a : Act), (∀ i ∈ l, D i < a.tmps.size) → (putAll D u l a).tmps.getD s undef = if (∃ i ∈ l, s = D i) then f s else a.tmps.getD s undef
  | [], a, _ => by simp [putAll]
  | i :: r, a, h => by
    have hs : (a.put (some (D i)) (u i)).tmps.size = a.tmps.size := by simp [Act.put]
    rw [putAll, putAll_get D u f hu s r _ (fun j hj => by rw [hs]; exact h j (List.mem_cons_of_mem _ hj)), getD_put _ _ _ _ (h i List.mem_cons_self)]
    by_cases h1 : ∃ j ∈ r, s = D j
    · rw [if_pos h1, if_pos]
      obtain ⟨j, hj, e⟩ := h1
      exact ⟨j, List.mem_cons_of_mem _ hj, e⟩
    · rw [if_neg h1]
      by_cases h2 : s = D i
      · rw [if_pos h2, if_pos ⟨i, List.mem_cons_self, h2⟩, hu, h2]
      · rw [if_neg h2, if_neg]
        rintro ⟨j, hj, e⟩
        rcases List.mem_cons.1 hj with rfl | hj
        · exact h2 e
        · exact h1 ⟨j, hj, e⟩
theorem Held.form {a0 a : Act} {D : Nat → Nat} {n : Nat} (h : Held a0 a (fun s => ∃ i, i < n ∧ s = D i)) (hD : ∀ i, i < n → D i < a0.tmps.size) : ∃ u : Nat → Value, a = putAll D u (List.range n) a0 ∧ ∀ i, u i = a.tmps.getD (D i) undef := by
  refine ⟨fun i => a.tmps.getD (D i) undef, ?_, fun _ => rfl⟩
  have hget := fun s => putAll_get D (fun i => a.tmps.getD (D i) undef) (fun s => a.tmps.getD s undef) (fun _ => rfl) s (List.range n) a0 (fun i hi => hD i (List.mem_range.1 hi))
  have hsz := putAll_size D (fun i => a.tmps.getD (D i) undef) (List.range n) a0
  have hdf := putAll_defers D (fun i => a.tmps.getD (D i) undef) (List.range n) a0
  generalize putAll D (fun i => a.tmps.getD (D i) undef) (List.range n) a0 = b at *
  obtain ⟨t1, d1⟩ := a
  obtain ⟨t2, d2⟩ := b
  have h1 := h.defers
  have h2 := h.size
  have h3 := h.at_
  simp only at h1 h2 h3 hsz hdf hget
  have : t1 = t2 := by
    refine Array.ext (by omega) (fun i hi1 hi2 => ?_)
    have hg := hget i
    have e1 : t1.getD i undef = t1[i] := by simp [hi1]
    have e2 : t2.getD i undef = t2[i] := by simp [hi2]
    rw [← e1, ← e2, hg]
    by_cases hx : ∃ j ∈ List.range n, i = D j
    · rw [if_pos hx]
    · rw [if_neg hx]
      exact h3 i (fun ⟨j, hj, e⟩ => hx ⟨j, List.mem_range.2 hj, e⟩)
  rw [this, h1, hdf]
end Go.Proofs.YtabpiaaknjcnkaaGreat

/-
  A region that draws its order and has guards that are all met: by what each of its operations leaves in its own slot.
-/
namespace Go.Proofs.YtabpiaaknjcnkaaGreat
open Go.RowKit
set_option linter.unusedVariables false
set_option linter.unusedSimpArgs false

def tidy2 (ops : Array Oper) (D : Nat → Nat) (N : Nat) : Bool :=
  (List.range ops.size).all fun i => match ops[i]? with
    | none => false
    | some o => o.dst == some (D i) && decide (D i < N) && o.after.all (fun e => !Region.binds .any e || decide (e.on < i)) && (List.range ops.size).all (fun j => decide (D i = D j → i = j))
theorem wanted_free {ops : Array Oper} {a : Act} {o : Oper} (ho : o.guard = none) : Region.wanted o (yielded ops a.tmps) = true := by unfold Region.wanted; rw [ho]
end Go.Proofs.YtabpiaaknjcnkaaGreat

/-
  A region that draws its order and has guards: by what each of its operations leaves in its own slot; nothing where it is not wanted.
-/
namespace Go.Proofs.YtabpiaaknjcnkaaGreat
open Go.RowKit
set_option linter.unusedVariables false
set_option linter.unusedSimpArgs false

theorem wp_region_wants3 {P : Program} {ops : Array Oper} {Q : Exit → Act → World → Prop} {id : Nat} {a0 : Act} {w0 : World} (hm : P.follows .mixedOrders = true) (WS : List Want) (D : Nat → Nat) (N : Nat) (hN : a0.tmps.size = N) (ht : tidy2 ops D N = true)
    (hrun : ∀ (i : Nat) (o : Oper) (q : Want) (a : Act) (w : World), ops[i]? = some o → WS[i]? = some q → Held a0 a (fun s => ∃ i, i < ops.size ∧ s = D i) → Below w0.heap.size w0 w →
      (∀ e ∈ o.after, Region.binds .any e = true → ∀ q', WS[e.on]? = some q' → q'.ok w0.heap.size (a.tmps.getD (D e.on) undef) w) →
      (Region.wanted o (yielded ops a.tmps) = true ∧ Oper.wp P o a w (fun a' w' => ∃ v, a' = a.put (some (D i)) v ∧ Below w.heap.size w w' ∧ q.ok w0.heap.size v w') Q) ∨ (Region.wanted o (yielded ops a.tmps) = false ∧ q = .val undef))
    (hlen : WS.length = ops.size)
    (hdone : ∀ (a : Act) (w : World), Held a0 a (fun s => ∃ i, i < ops.size ∧ s = D i) → Below w0.heap.size w0 w → (∀ (i : Nat) (q : Want), WS[i]? = some q → q.ok w0.heap.size (a.tmps.getD (D i) undef) w) → Q .normal a w) :
    (Code.region id ops true).wp P Q a0 w0 := by
  have tid : ∀ i o, ops[i]? = some o → o.dst = some (D i) ∧ D i < N ∧ (∀ e ∈ o.after, Region.binds .any e = true → e.on < i) ∧ ∀ j, j < ops.size → D i = D j → i = j := fun i o ho => by
    have hi := (Array.getElem?_eq_some_iff.1 ho).1
    have := List.all_eq_true.1 ht i (List.mem_range.2 hi)
    rw [ho] at this
    simp only [Bool.and_eq_true, decide_eq_true_eq, beq_iff_eq, List.all_eq_true, Array.all_eq_true_iff_forall_mem, List.mem_range] at this
    obtain ⟨⟨⟨g2, g3⟩, g4⟩, g5⟩ := this
    exact ⟨g2, g3, fun e he hbd => by have := g4 e he; rw [hbd] at this; simpa using this, g5⟩
  refine wp_region_any hm ?_
  refine wpAny_inv (fun l a w => l.size = ops.size ∧ Held a0 a (fun s => ∃ i, i < ops.size ∧ s = D i) ∧ Below w0.heap.size w0 w ∧ ∀ (i : Nat) (q : Want), l.getD i false = true → WS[i]? = some q → q.ok w0.heap.size (a.tmps.getD (D i) undef) w) ?_ ?_ _ _ _ _ ⟨by simp, Held.refl _ _, ⟨rfl, rfl, rfl, Nat.le_refl _, fun _ _ => rfl⟩, fun i q h => ?_⟩ ?_
  · rintro l a w i ⟨hs, hh, hb, hv⟩ hi
    obtain ⟨h1, o, h2, h3⟩ := mem_ready.1 hi
    obtain ⟨g2, g3, g4, g5⟩ := tid i o h2
    have hilt := (Array.getElem?_eq_some_iff.1 h2).1
    obtain ⟨q, hq⟩ : ∃ q, WS[i]? = some q := ⟨WS[i]'(by omega), List.getElem?_eq_getElem (by omega)⟩
    have hgo := hrun i o q a w h2 hq hh hb (fun e he hbd q' hq' => hv e.on q' (h3 e he hbd) hq')
    have next : ∀ (v : Value) (w' : World), Below w.heap.size w w' → q.ok w0.heap.size v w' → (fun l a w => l.size = ops.size ∧ Held a0 a (fun s => ∃ i, i < ops.size ∧ s = D i) ∧ Below w0.heap.size w0 w ∧ ∀ (i : Nat) (q : Want), l.getD i false = true → WS[i]? = some q → q.ok w0.heap.size (a.tmps.getD (D i) undef) w) (l.setIfInBounds i true) (a.put (some (D i)) v) w' := by
      intro v w' hb' hok
      refine ⟨by simpa using hs, hh.put ⟨i, hilt, rfl⟩ (by omega) v, hb.trans (hb'.mono hb.size), fun j q' hj hq' => ?_⟩
      have hsz := hh.size
      rw [getD_put _ _ _ _ (by omega)]
      by_cases e : i = j
      · subst e
        rw [if_pos rfl]
        rw [hq] at hq'; cases hq'; exact hok
      · have hjl : j < ops.size := by have := (List.getElem?_eq_some_iff.1 hq').1; omega
        rw [if_neg (fun e2 => e (g5 j hjl e2.symm)), ]
        rw [getD_set_ne false e] at hj
        exact (hv j q' hj hq').kept hb'
    unfold wpOp
    simp only [h2]
    rcases hgo with ⟨hw, hwp⟩ | ⟨hw, hu⟩
    · rw [if_pos hw]
      refine .inl (Oper.wp_mono ?_ hwp)
      rintro a' w' ⟨v, rfl, hb', hok⟩
      exact next v w' hb' hok
    · rw [if_neg (by rw [hw]; exact Bool.false_ne_true), g2]
      exact next undef w (Below.refl _ _) (by rw [hu]; rfl)
  · rintro l a w ⟨hs, hh, hb, hv⟩ hr
    have all : ∀ i, i < ops.size → l.getD i false = true := fun i => by
      induction i using Nat.strongRecOn with
      | ind i ih =>
        intro hi
        obtain ⟨o, ho⟩ : ∃ o, ops[i]? = some o := ⟨ops[i], Array.getElem?_eq_getElem hi⟩
        obtain ⟨g2, g3, g4, g5⟩ := tid i o ho
        cases hc : l.getD i true with
        | true =>
          have : i < l.size := by omega
          simp [this] at hc ⊢; exact hc
        | false =>
          have : i ∈ Region.ready .any ops l := mem_ready.2 ⟨hc, o, ho, fun e he hbd => ih e.on (g4 e he hbd) (by have := g4 e he hbd; omega)⟩
          rw [hr] at this; cases this
    exact hdone a w hh hb (fun i q hq => hv i q (all i (by have := (List.getElem?_eq_some_iff.1 hq).1; omega)) hq)
  · rw [Array.getD_eq_getD_getElem?, Array.getElem?_replicate] at h
    split at h <;> simp at h
  · have : ∀ n, freeN (Array.replicate ops.size false) n ≤ n := fun n => by
      induction n with
      | zero => exact Nat.le_refl _
      | succ n ih => simp only [freeN]; split <;> omega
    exact this _
theorem wanted_is {ops : Array Oper} {a : Act} {o og : Oper} {g d : Nat} {b c r : Bool} (ho : o.guard = some (g, b)) (hg : ops[g]? = some og) (hd : og.dst = some d) (hv : a.tmps.getD d undef = .bool c) (hr : (c == b) = r) : Region.wanted o (yielded ops a.tmps) = r := by
  have h : a.tmps[d]? = some (.bool c) := by
    rw [Array.getD_eq_getD_getElem?] at hv
    cases h : a.tmps[d]? with
    | none => rw [h] at hv; cases hv
    | some v => rw [h] at hv; simp at hv; rw [hv]
  unfold Region.wanted yielded
  rw [ho, ← hr]
  simp [hg, hd, h]
end Go.Proofs.YtabpiaaknjcnkaaGreat
