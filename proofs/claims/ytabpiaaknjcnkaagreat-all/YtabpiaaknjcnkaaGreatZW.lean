/-
  The world of a script with its vaults: which block belongs to what.
-/
import Derived.Test.YtabpiaaknjcnkaaGreatXR4L7L8P4S1S2L9LBLP
import Derived.Test.YtabpiaaknjcnkaaGreatXV7YC
namespace Go.Proofs.YtabpiaaknjcnkaaGreat
open Go.RowKit
set_option linter.unusedVariables false
set_option linter.unusedSimpArgs false
set_option maxRecDepth 100000

structure XV where
  p : Nat
  lv : Value
  tv : Nat → Value
  s : Vlt
structure YV where
  q : Nat
  tv : Nat → Value
  s : Vlt
def XV.ptr (x : XV) : Value := .pointer (some ⟨x.p, 0, none⟩)
def YV.ptr (y : YV) : Value := .pointer (some ⟨y.q, 0, none⟩)
/-- Each block has a colour: the book's, the rows', each vault's; what lies below. -/
abbrev Col := Nat × Nat
def inCol (κ : Nat → Col) (c : Col) (n : Nat) (q : Nat) : Prop := q < n ∧ κ q = c
structure WorldAt (w : World) (B0 Wb : Nat) (xv yv bv : Value) (es : List Entry) (xs : List XV) (ys : List YV) (κ : Nat → Col) : Prop where
  book : BookAt w B0 Wb xv yv bv es (inCol κ (0, 0) w.heap.size)
  lows : ∀ q, q < B0 → κ q = (5, 0)
  xrow : w.ownsRow B0 29 1 xv xs.length (xs.map XV.ptr)
  xcol : ∀ g, xv.ownBlock = some g → κ g = (1, 0)
  yrow : w.ownsRow B0 70 1 yv ys.length (ys.map YV.ptr)
  ycol : ∀ g, yv.ownBlock = some g → κ g = (2, 0)
  xat : ∀ (i : Nat) (x : XV), xs[i]? = some x → VaultAt w x.p x.lv x.tv x.s ∧ (∀ b, foot x.p x.lv x.tv b → κ b = (3, i)) ∧ x.s.Ok
  yat : ∀ (i : Nat) (y : YV), ys[i]? = some y → YAt w y.q y.tv y.s ∧ (∀ b, yfoot y.q y.tv b → κ b = (4, i)) ∧ y.s.Ok

/-- New blocks are painted. -/
def paint (κ : Nat → Col) (n : Nat) (c : Col) : Nat → Col := fun q => if q < n then κ q else c
theorem paint_old {κ : Nat → Col} {n : Nat} {c : Col} {q : Nat} (h : q < n) : paint κ n c q = κ q := if_pos h
theorem paint_new {κ : Nat → Col} {n : Nat} {c : Col} {q : Nat} (h : n ≤ q) : paint κ n c q = c := if_neg (by omega)

theorem map_set_same {α β : Type} {f : α → β} {xs : List α} {i : Nat} {x x' : α} (h : xs[i]? = some x) (hf : f x' = f x) : (xs.set i x').map f = xs.map f := by
  apply List.ext_getElem?
  intro j
  rw [List.getElem?_map, List.getElem?_map, List.getElem?_set]
  by_cases e : i = j
  · subst e
    have := (List.getElem?_eq_some_iff.1 h).1
    rw [if_pos rfl, if_pos this, h]
    simp [hf]
  · rw [if_neg e]

theorem row_cell1 {w : World} {base n i : Nat} {e : TypeId} {v u : Value} {vals : List Value} (h : w.ownsRow base e 1 v n vals) (hi : vals[i]? = some u) : ∃ g cap, v = .slice (some ⟨g, 0, none⟩) n cap ∧ g < w.heap.size ∧ w.cell? ⟨g, i, none⟩ = some u := by
  have hlt := (List.getElem?_eq_some_iff.1 hi).1
  have hlen := h.1
  rcases h.2 with ⟨h, h0⟩ | ⟨g', cap', cur, h, hg, hbk, h1, h2, h3, h4⟩
  · rw [h0] at hlen; omega
  · refine ⟨g', cap', h, lt_of_block hbk, ?_⟩
    rw [Lib.cell_of_heap hbk]
    rw [← h4, List.getElem?_take_of_lt (by omega), Array.getElem?_toList] at hi
    exact hi

section
variable {w : World} {B0 Wb : Nat} {xv yv bv : Value} {es : List Entry} {xs : List XV} {ys : List YV} {κ : Nat → Col} (h : WorldAt w B0 Wb xv yv bv es xs ys κ)
include h
theorem WorldAt.lt : Wb < w.heap.size := h.book.wbB.1
theorem WorldAt.low0 : B0 ≤ w.heap.size := by have := h.book.wb0; have := h.lt; omega
theorem WorldAt.kbook {w' : World} {c : Col} (ho : Out (fun q => κ q = c) w w') (hc : c ≠ (0, 0)) : BookAt w' B0 Wb xv yv bv es (inCol (paint κ w.heap.size c) (0, 0) w'.heap.size) :=
  h.book.kept (fun q hq => ho.block q hq.1 (by rw [hq.2]; exact Ne.symm hc)) (fun q hq => ⟨Nat.lt_of_lt_of_le hq.1 ho.size, by rw [paint_old hq.1]; exact hq.2⟩)
theorem WorldAt.klow (c : Col) : ∀ q, q < B0 → paint κ w.heap.size c q = (5, 0) := fun q hq => by
  have := h.low0
  rw [paint_old (by omega)]; exact h.lows q hq
theorem WorldAt.kxrow {w' : World} {c : Col} (ho : Out (fun q => κ q = c) w w') (hc : c ≠ (1, 0)) : w'.ownsRow B0 29 1 xv xs.length (xs.map XV.ptr) :=
  row_block h.xrow (fun g hg => ho.block g (row_own_lt h.xrow hg) (by rw [h.xcol g hg]; exact Ne.symm hc))
theorem WorldAt.kxcol (c : Col) : ∀ g, xv.ownBlock = some g → paint κ w.heap.size c g = (1, 0) := fun g hg => by
  rw [paint_old (row_own_lt h.xrow hg)]; exact h.xcol g hg
theorem WorldAt.kyrow {w' : World} {c : Col} (ho : Out (fun q => κ q = c) w w') (hc : c ≠ (2, 0)) : w'.ownsRow B0 70 1 yv ys.length (ys.map YV.ptr) :=
  row_block h.yrow (fun g hg => ho.block g (row_own_lt h.yrow hg) (by rw [h.ycol g hg]; exact Ne.symm hc))
theorem WorldAt.kycol (c : Col) : ∀ g, yv.ownBlock = some g → paint κ w.heap.size c g = (2, 0) := fun g hg => by
  rw [paint_old (row_own_lt h.yrow hg)]; exact h.ycol g hg
theorem WorldAt.kx {w' : World} {c : Col} (ho : Out (fun q => κ q = c) w w') {i : Nat} {x : XV} (hx : xs[i]? = some x) (hc : c ≠ (3, i)) :
    VaultAt w' x.p x.lv x.tv x.s ∧ (∀ b, foot x.p x.lv x.tv b → paint κ w.heap.size c b = (3, i)) ∧ x.s.Ok := by
  obtain ⟨h1, h2, h3⟩ := h.xat i x hx
  exact ⟨h1.kept (fun q hq => ho.block q (h1.foot_lt q hq) (by rw [h2 q hq]; exact Ne.symm hc)), fun b hb => by rw [paint_old (h1.foot_lt b hb)]; exact h2 b hb, h3⟩
theorem WorldAt.ky {w' : World} {c : Col} (ho : Out (fun q => κ q = c) w w') {i : Nat} {y : YV} (hy : ys[i]? = some y) (hc : c ≠ (4, i)) :
    YAt w' y.q y.tv y.s ∧ (∀ b, yfoot y.q y.tv b → paint κ w.heap.size c b = (4, i)) ∧ y.s.Ok := by
  obtain ⟨h1, h2, h3⟩ := h.yat i y hy
  exact ⟨h1.kept (fun q hq => ho.block q (h1.foot_lt q hq) (by rw [h2 q hq]; exact Ne.symm hc)) ho.size, fun b hb => by rw [paint_old (h1.foot_lt b hb)]; exact h2 b hb, h3⟩
theorem WorldAt.under {w' : World} {c : Col} (ho : Out (fun q => κ q = c) w w') (hc : c ≠ (5, 0)) : Below B0 w w' :=
  ⟨ho.os, ho.tape, ho.output, ho.size, fun k hk => ho.block k (by have := h.low0; omega) (by rw [h.lows k hk]; exact Ne.symm hc)⟩
/-- What is new leaves all. -/
theorem WorldAt.below {w' : World} (hb : Below w.heap.size w w') : WorldAt w' B0 Wb xv yv bv es xs ys κ :=
  ⟨h.book.kept (fun q hq => hb.block q hq.1) (fun q hq => ⟨Nat.lt_of_lt_of_le hq.1 hb.size, hq.2⟩), h.lows, row_block h.xrow (fun g hg => hb.block g (row_own_lt h.xrow hg)), h.xcol, row_block h.yrow (fun g hg => hb.block g (row_own_lt h.yrow hg)), h.ycol,
    fun i x hx => by obtain ⟨h1, h2, h3⟩ := h.xat i x hx; exact ⟨h1.below hb, h2, h3⟩, fun i y hy => by obtain ⟨h1, h2, h3⟩ := h.yat i y hy; exact ⟨h1.below hb, h2, h3⟩⟩
/-- The book moves. -/
theorem WorldAt.booked {w' : World} {bv' : Value} {es' : List Entry} (hb : BookAt w' B0 Wb xv yv bv' es' (fun q => inCol κ (0, 0) w.heap.size q ∨ (w.heap.size ≤ q ∧ q < w'.heap.size))) (ho : Out (inCol κ (0, 0) w.heap.size) w w') :
    ∃ κ', WorldAt w' B0 Wb xv yv bv' es' xs ys κ' := by
  have ho2 : Out (fun q => κ q = (0, 0)) w w' := ho.mono (fun q hq => hq.2)
  refine ⟨paint κ w.heap.size (0, 0), ⟨hb.kept (fun q _ => rfl) (fun q hq => ?_), h.klow _, h.kxrow ho2 (by decide), h.kxcol _, h.kyrow ho2 (by decide), h.kycol _, fun i x hx => h.kx ho2 hx (by simp), fun i y hy => h.ky ho2 hy (by simp)⟩⟩
  rcases hq with hq | hq
  · exact ⟨Nat.lt_of_lt_of_le hq.1 ho.size, by rw [paint_old hq.1]; exact hq.2⟩
  · exact ⟨hq.2, paint_new hq.1⟩
/-- A vault of the program moves. -/
theorem WorldAt.xmove {w' : World} {i : Nat} {x : XV} {s' : Vlt} (hx : xs[i]? = some x) (hm : Moves x.p x.lv x.tv s' w w') (hok : s'.Ok) :
    Below B0 w w' ∧ ∃ x' κ', x'.s = s' ∧ x'.p = x.p ∧ WorldAt w' B0 Wb xv yv bv es (xs.set i x') ys κ' := by
  obtain ⟨lv', tv', hv, hO, hS⟩ := hm
  obtain ⟨h1, h2, h3⟩ := h.xat i x hx
  have ho : Out (fun q => κ q = (3, i)) w w' := hO.mono (fun q hq => h2 q hq)
  have hi := (List.getElem?_eq_some_iff.1 hx).1
  have hmap : (xs.set i ⟨x.p, lv', tv', s'⟩).map XV.ptr = xs.map XV.ptr := map_set_same hx rfl
  refine ⟨h.under ho (by simp), ⟨x.p, lv', tv', s'⟩, paint κ w.heap.size (3, i), rfl, rfl, ⟨h.kbook ho (by simp), h.klow _, ?_, h.kxcol _, h.kyrow ho (by simp), h.kycol _, fun j z hz => ?_, fun j y hy => h.ky ho hy (by simp)⟩⟩
  · rw [List.length_set, hmap]; exact h.kxrow ho (by simp)
  · rw [List.getElem?_set] at hz
    by_cases e : i = j
    · subst e
      rw [if_pos rfl, if_pos hi] at hz
      obtain rfl := (Option.some.injEq _ _ ▸ hz : (⟨x.p, lv', tv', s'⟩ : XV) = z)
      refine ⟨hv, fun b hb => ?_, hok⟩
      rcases hS b hb with hb' | hb'
      · rw [paint_old (h1.foot_lt b hb')]; exact h2 b hb'
      · exact paint_new hb'
    · rw [if_neg e] at hz
      exact h.kx ho hz (by simp [e])
/-- A vault of the document moves. -/
theorem WorldAt.ymove {w' : World} {i : Nat} {y : YV} {s' : Vlt} (hy : ys[i]? = some y) (hm : YMoves y.q y.tv s' w w') (hok : s'.Ok) :
    Below B0 w w' ∧ ∃ y' κ', y'.s = s' ∧ y'.q = y.q ∧ WorldAt w' B0 Wb xv yv bv es xs (ys.set i y') κ' := by
  obtain ⟨tv', hv, hO, hS⟩ := hm
  obtain ⟨h1, h2, h3⟩ := h.yat i y hy
  have ho : Out (fun q => κ q = (4, i)) w w' := hO.mono (fun q hq => h2 q (.inl hq))
  have hi := (List.getElem?_eq_some_iff.1 hy).1
  have hmap : (ys.set i ⟨y.q, tv', s'⟩).map YV.ptr = ys.map YV.ptr := map_set_same hy rfl
  refine ⟨h.under ho (by simp), ⟨y.q, tv', s'⟩, paint κ w.heap.size (4, i), rfl, rfl, ⟨h.kbook ho (by simp), h.klow _, h.kxrow ho (by simp), h.kxcol _, ?_, h.kycol _, fun j x hx => h.kx ho hx (by simp), fun j z hz => ?_⟩⟩
  · rw [List.length_set, hmap]; exact h.kyrow ho (by simp)
  · rw [List.getElem?_set] at hz
    by_cases e : i = j
    · subst e
      rw [if_pos rfl, if_pos hi] at hz
      obtain rfl := (Option.some.injEq _ _ ▸ hz : (⟨y.q, tv', s'⟩ : YV) = z)
      refine ⟨hv, fun b hb => ?_, hok⟩
      rcases hS b hb with hb' | hb'
      · rw [paint_old (h1.foot_lt b hb')]; exact h2 b hb'
      · exact paint_new hb'
    · rw [if_neg e] at hz
      exact h.ky ho hz (by simp [e])
/-- New blocks get a colour of their own. -/
theorem WorldAt.fresh {w' : World} (hb : Below w.heap.size w w') {c : Col} (h0 : c ≠ (0, 0)) (h1 : c ≠ (1, 0)) (h2 : c ≠ (2, 0)) (h3 : ∀ i x, xs[i]? = some x → c ≠ (3, i)) (h4 : ∀ i y, ys[i]? = some y → c ≠ (4, i)) : WorldAt w' B0 Wb xv yv bv es xs ys (paint κ w.heap.size c) := by
  have ho : Out (fun q => κ q = c) w w' := Out.of_below hb
  exact ⟨h.kbook ho h0, h.klow _, h.kxrow ho h1, h.kxcol _, h.kyrow ho h2, h.kycol _, fun i x hx => h.kx ho hx (h3 i x hx), fun i y hy => h.ky ho hy (h4 i y hy)⟩
/-- Which vault is meant. -/
theorem WorldAt.picks (hs : xs.map (·.s) = ys.map (·.s)) {i : Nat} (hi : i < xs.length) :
    ∃ gx cx gy cy x y, xv = .slice (some ⟨gx, 0, none⟩) xs.length cx ∧ yv = .slice (some ⟨gy, 0, none⟩) xs.length cy ∧ gx < w.heap.size ∧ gy < w.heap.size ∧ w.cell? ⟨gx, i, none⟩ = some (.pointer (some ⟨x.p, 0, none⟩)) ∧ w.cell? ⟨gy, i, none⟩ = some (.pointer (some ⟨y.q, 0, none⟩)) ∧ xs[i]? = some x ∧ ys[i]? = some y ∧ x.s = y.s := by
  have hl : xs.length = ys.length := by have := congrArg List.length hs; simpa using this
  have hx : xs[i]? = some xs[i] := List.getElem?_eq_getElem hi
  have hy : ys[i]? = some (ys[i]'(by omega)) := List.getElem?_eq_getElem (by omega)
  obtain ⟨gx, cx, e1, l1, c1⟩ := row_cell1 h.xrow (i := i) (u := xs[i].ptr) (by rw [List.getElem?_map, hx]; rfl)
  obtain ⟨gy, cy, e2, l2, c2⟩ := row_cell1 h.yrow (i := i) (u := (ys[i]'(by omega)).ptr) (by rw [List.getElem?_map, hy]; rfl)
  refine ⟨gx, cx, gy, cy, _, _, e1, by rw [e2, hl], l1, l2, c1, c2, hx, hy, ?_⟩
  have := congrArg (fun l => l[i]?) hs
  simp only [List.getElem?_map, hx, hy, Option.map_some, Option.some.injEq] at this
  exact this
theorem WorldAt.cellX : w.cell? ⟨Wb, 0, none⟩ = some xv := by rw [Lib.cell_of_heap h.book.blk]; rfl
theorem WorldAt.cellY : w.cell? ⟨Wb, 1, none⟩ = some yv := by rw [Lib.cell_of_heap h.book.blk]; rfl
theorem WorldAt.frozen (j : Nat) : w.frozen? ⟨Wb, j, none⟩ = false := Lib.frozen_of_heap h.book.blk j
/-- A vault more. -/
theorem WorldAt.turnX {w2 : World} {xv' : Value} {x : XV} (ho : Out (fun q => κ q = (1, 0)) w w2) (hrow : w2.ownsRow B0 29 1 xv' (xs.length + 1) (xs.map XV.ptr ++ [x.ptr])) (hat : xv'.ownBlock = xv.ownBlock ∨ ∃ g, xv'.ownBlock = some g ∧ w.heap.size ≤ g)
    (hx : VaultAt w x.p x.lv x.tv x.s) (hc : ∀ b, foot x.p x.lv x.tv b → κ b = (3, xs.length)) (hok : x.s.Ok) :
    Below B0 w (w2.setCell ⟨Wb, 0, none⟩ xv') ∧ WorldAt (w2.setCell ⟨Wb, 0, none⟩ xv') B0 Wb xv' yv bv es (xs ++ [x]) ys (paint κ w.heap.size (1, 0)) := by
  have hlt := h.lt
  have hW : κ Wb = (0, 0) := h.book.wbB.2
  have hb2 := h.kbook ho (by decide)
  have far : ∀ q, q < w.heap.size → κ q ≠ (0, 0) → (w2.setCell ⟨Wb, 0, none⟩ xv').heap[q]? = w2.heap[q]? := fun q _ hq => far1 (fun e => hq (by rw [e]; exact hW))
  have hsz : (w2.setCell ⟨Wb, 0, none⟩ xv').heap.size = w2.heap.size := by simp
  have hxc : ∀ g, xv'.ownBlock = some g → paint κ w.heap.size (1, 0) g = (1, 0) := fun g hg => by
    rcases hat with e | ⟨g', e, hge⟩
    · exact h.kxcol _ g (by rw [← e]; exact hg)
    · rw [e] at hg; injection hg with hg; exact paint_new (by omega)
  have hpW : paint κ w.heap.size (1, 0) Wb = (0, 0) := by rw [paint_old hlt]; exact hW
  refine ⟨⟨ho.os, ho.tape, ho.output, by rw [hsz]; exact ho.size, fun k hk => ?_⟩, ⟨⟨?_, hb2.wb0, ?_, row_block hb2.row (fun g hg => far1 (fun e => book_ne hb2 (by rw [hg, e]))), fun g hg => ⟨by rw [hsz]; exact (hb2.lowr g hg).1, (hb2.lowr g hg).2⟩, fun e he => ?_⟩, h.klow _, ?_, hxc, row_block (h.kyrow ho (by decide)) (fun g hg => far g (row_own_lt h.yrow hg) (by rw [h.ycol g hg]; decide)), h.kycol _, fun i z hz => ?_, fun i y hy => ?_⟩⟩
  · have := h.book.wb0
    rw [far1 (show ¬ k = Wb by omega)]
    exact ho.block k (by omega) (by rw [h.lows k hk]; decide)
  · exact Lib.heap_setCell_same hb2.blk _
  · exact ⟨by rw [hsz]; exact hb2.wbB.1, hb2.wbB.2⟩
  · have k := hb2.each e he
    have f : ∀ {u : Value} {zs : List DOp}, OwnOps w2 0 u zs → OwnOps (w2.setCell ⟨Wb, 0, none⟩ xv') 0 u zs := fun hu => own_block hu (fun g hg => far1 (book_own_ne hb2 hu hg).2)
    have l : ∀ {u : Value}, low u (inCol (paint κ w.heap.size (1, 0)) (0, 0) w2.heap.size) → low u (inCol (paint κ w.heap.size (1, 0)) (0, 0) (w2.setCell ⟨Wb, 0, none⟩ xv').heap.size) := fun hu g hg => ⟨by rw [hsz]; exact (hu g hg).1, (hu g hg).2⟩
    exact ⟨f k.l, f k.a, f k.b, f k.c, k.n, l k.lowl, l k.lowa, l k.lowb, l k.lowc⟩
  · have hr : w2.ownsRow B0 29 1 xv' (xs ++ [x]).length ((xs ++ [x]).map XV.ptr) := by rw [List.length_append, List.map_append]; exact hrow
    exact row_block hr (fun g hg => far1 (fun e => by have h1 := hxc g hg; rw [e, hpW] at h1; exact absurd h1 (by decide)))
  · have key : VaultAt w z.p z.lv z.tv z.s ∧ (∀ b, foot z.p z.lv z.tv b → κ b = (3, i)) ∧ z.s.Ok := by
      rw [List.getElem?_append] at hz
      split at hz
      · exact h.xat i z hz
      · rename_i hi
        obtain ⟨e1, e2⟩ : i = xs.length ∧ z = x := by
          match hj : i - xs.length, hz with
          | 0, hz => simp at hz; exact ⟨by omega, hz.symm⟩
          | n + 1, hz => simp at hz
        rw [e1, e2]; exact ⟨hx, hc, hok⟩
    obtain ⟨k1, k2, k3⟩ := key
    exact ⟨k1.kept (fun q hq => (far q (k1.foot_lt q hq) (by rw [k2 q hq]; simp)).trans (ho.block q (k1.foot_lt q hq) (by rw [k2 q hq]; simp))), fun b hb => by rw [paint_old (k1.foot_lt b hb)]; exact k2 b hb, k3⟩
  · obtain ⟨k1, k2, k3⟩ := h.yat i y hy
    exact ⟨k1.kept (fun q hq => (far q (k1.foot_lt q hq) (by rw [k2 q hq]; simp)).trans (ho.block q (k1.foot_lt q hq) (by rw [k2 q hq]; simp))) (by rw [hsz]; exact ho.size), fun b hb => by rw [paint_old (k1.foot_lt b hb)]; exact k2 b hb, k3⟩
theorem WorldAt.turnY {w2 : World} {yv' : Value} {y : YV} (ho : Out (fun q => κ q = (2, 0)) w w2) (hrow : w2.ownsRow B0 70 1 yv' (ys.length + 1) (ys.map YV.ptr ++ [y.ptr])) (hat : yv'.ownBlock = yv.ownBlock ∨ ∃ g, yv'.ownBlock = some g ∧ w.heap.size ≤ g)
    (hx : YAt w y.q y.tv y.s) (hc : ∀ b, yfoot y.q y.tv b → κ b = (4, ys.length)) (hok : y.s.Ok) :
    Below B0 w (w2.setCell ⟨Wb, 1, none⟩ yv') ∧ WorldAt (w2.setCell ⟨Wb, 1, none⟩ yv') B0 Wb xv yv' bv es xs (ys ++ [y]) (paint κ w.heap.size (2, 0)) := by
  have hlt := h.lt
  have hW : κ Wb = (0, 0) := h.book.wbB.2
  have hb2 := h.kbook ho (by decide)
  have far : ∀ q, q < w.heap.size → κ q ≠ (0, 0) → (w2.setCell ⟨Wb, 1, none⟩ yv').heap[q]? = w2.heap[q]? := fun q _ hq => far1 (fun e => hq (by rw [e]; exact hW))
  have hsz : (w2.setCell ⟨Wb, 1, none⟩ yv').heap.size = w2.heap.size := by simp
  have hxc : ∀ g, yv'.ownBlock = some g → paint κ w.heap.size (2, 0) g = (2, 0) := fun g hg => by
    rcases hat with e | ⟨g', e, hge⟩
    · exact h.kycol _ g (by rw [← e]; exact hg)
    · rw [e] at hg; injection hg with hg; exact paint_new (by omega)
  have hpW : paint κ w.heap.size (2, 0) Wb = (0, 0) := by rw [paint_old hlt]; exact hW
  refine ⟨⟨ho.os, ho.tape, ho.output, by rw [hsz]; exact ho.size, fun k hk => ?_⟩, ⟨⟨?_, hb2.wb0, ?_, row_block hb2.row (fun g hg => far1 (fun e => book_ne hb2 (by rw [hg, e]))), fun g hg => ⟨by rw [hsz]; exact (hb2.lowr g hg).1, (hb2.lowr g hg).2⟩, fun e he => ?_⟩, h.klow _, row_block (h.kxrow ho (by decide)) (fun g hg => far g (row_own_lt h.xrow hg) (by rw [h.xcol g hg]; decide)), h.kxcol _, ?_, hxc, fun i x hz => ?_, fun i z hz => ?_⟩⟩
  · have := h.book.wb0
    rw [far1 (show ¬ k = Wb by omega)]
    exact ho.block k (by omega) (by rw [h.lows k hk]; decide)
  · exact Lib.heap_setCell_same hb2.blk _
  · exact ⟨by rw [hsz]; exact hb2.wbB.1, hb2.wbB.2⟩
  · have k := hb2.each e he
    have f : ∀ {u : Value} {zs : List DOp}, OwnOps w2 0 u zs → OwnOps (w2.setCell ⟨Wb, 1, none⟩ yv') 0 u zs := fun hu => own_block hu (fun g hg => far1 (book_own_ne hb2 hu hg).2)
    have l : ∀ {u : Value}, low u (inCol (paint κ w.heap.size (2, 0)) (0, 0) w2.heap.size) → low u (inCol (paint κ w.heap.size (2, 0)) (0, 0) (w2.setCell ⟨Wb, 1, none⟩ yv').heap.size) := fun hu g hg => ⟨by rw [hsz]; exact (hu g hg).1, (hu g hg).2⟩
    exact ⟨f k.l, f k.a, f k.b, f k.c, k.n, l k.lowl, l k.lowa, l k.lowb, l k.lowc⟩
  · have hr : w2.ownsRow B0 70 1 yv' (ys ++ [y]).length ((ys ++ [y]).map YV.ptr) := by rw [List.length_append, List.map_append]; exact hrow
    exact row_block hr (fun g hg => far1 (fun e => by have h1 := hxc g hg; rw [e, hpW] at h1; exact absurd h1 (by decide)))
  · obtain ⟨k1, k2, k3⟩ := h.xat i x hz
    exact ⟨k1.kept (fun q hq => (far q (k1.foot_lt q hq) (by rw [k2 q hq]; simp)).trans (ho.block q (k1.foot_lt q hq) (by rw [k2 q hq]; simp))), fun b hb => by rw [paint_old (k1.foot_lt b hb)]; exact k2 b hb, k3⟩
  · have key : YAt w z.q z.tv z.s ∧ (∀ b, yfoot z.q z.tv b → κ b = (4, i)) ∧ z.s.Ok := by
      rw [List.getElem?_append] at hz
      split at hz
      · exact h.yat i z hz
      · rename_i hi
        obtain ⟨e1, e2⟩ : i = ys.length ∧ z = y := by
          match hj : i - ys.length, hz with
          | 0, hz => simp at hz; exact ⟨by omega, hz.symm⟩
          | n + 1, hz => simp at hz
        rw [e1, e2]; exact ⟨hx, hc, hok⟩
    obtain ⟨k1, k2, k3⟩ := key
    exact ⟨k1.kept (fun q hq => (far q (k1.foot_lt q hq) (by rw [k2 q hq]; simp)).trans (ho.block q (k1.foot_lt q hq) (by rw [k2 q hq]; simp))) (by rw [hsz]; exact ho.size), fun b hb => by rw [paint_old (k1.foot_lt b hb)]; exact k2 b hb, k3⟩
end
end Go.Proofs.YtabpiaaknjcnkaaGreat
