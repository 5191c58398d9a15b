/-
  The walk over decode and Decode.
-/
import Derived.Test.YtabpiaaknjcnkaaGreatXD5D6R7D7
namespace Go.Proofs.YtabpiaaknjcnkaaGreat
open Go.RowKit
set_option linter.unusedVariables false
set_option linter.unusedSimpArgs false
set_option maxRecDepth 100000

set_option maxHeartbeats 1000000 in
theorem newreader_any (s : ByteArray) (w : World) :
    Calls Tryz.prog 110 #[.string s] w fun e w' => e = .returned (.pointer (some ⟨w.heap.size, 0, none⟩)) ∧ w' = w.alloc (.cells #[.string s, .int .i64 0] 177) := by
  go_enter Tryz.func110, Tryz.ntmps110
  go_wp2
  go_ret
  exact ⟨rfl, rfl⟩

def decL (s : ByteArray) : List DOp := match decF s with | .inl _ => [] | .inr out => out
def decE (s : ByteArray) : Int := match decF s with | .inl _ => 3 | .inr _ => 0
def decP (s : ByteArray) : Int := match decF s with | .inl p => p | .inr _ => 0

/-- What decode does. -/
def DecPost (s : ByteArray) (w : World) (e : Ending) (w' : World) : Prop :=
  (∃ v, e = .returned (.tuple #[v, .int .i64 (decE s), .int .i64 (decP s)]) ∧ OwnOps w' w.heap.size v (decL s)) ∧ Below w.heap.size w w'

/-- The named results lie there. -/
structure Named (w : World) (q : Nat) (v : Value) (z1 z2 : Int) : Prop where
  b0 : w.heap[q]? = some (.cells #[v] 59 (0, 0))
  b1 : w.heap[q + 1]? = some (.cells #[.int .i64 z1] 38 (0, 0))
  b2 : w.heap[q + 1 + 1]? = some (.cells #[.int .i64 z2] 3 (0, 0))
theorem Named.clear {w w' : World} {q rb : Nat} {v : Value} {z1 z2 : Int} (h : Named w q v z1 z2) (hc : Clear rb w w') (hq : q + 2 < rb) : Named w' q v z1 z2 :=
  ⟨hc _ _ _ _ h.b0 (by decide) (by omega), hc _ _ _ _ h.b1 (by decide) (by omega), hc _ _ _ _ h.b2 (by decide) (by omega)⟩
theorem Named.cells {w : World} {q : Nat} {v : Value} {z1 z2 : Int} (h : Named w q v z1 z2) : w.cell? ⟨q, 0, none⟩ = some v ∧ w.cell? ⟨q + 1, 0, none⟩ = some (.int .i64 z1) ∧ w.cell? ⟨q + 1 + 1, 0, none⟩ = some (.int .i64 z2) :=
  ⟨by rw [Lib.cell_of_heap h.b0]; rfl, by rw [Lib.cell_of_heap h.b1]; rfl, by rw [Lib.cell_of_heap h.b2]; rfl⟩
theorem Named.frozen {w : World} {q : Nat} {v : Value} {z1 z2 : Int} (h : Named w q v z1 z2) : w.frozen? ⟨q, 0, none⟩ = false ∧ w.frozen? ⟨q + 1, 0, none⟩ = false ∧ w.frozen? ⟨q + 1 + 1, 0, none⟩ = false :=
  ⟨Lib.frozen_of_heap h.b0 0, Lib.frozen_of_heap h.b1 0, Lib.frozen_of_heap h.b2 0⟩
theorem Named.put {w : World} {q : Nat} {v : Value} {z1 z2 : Int} (h : Named w q v z1 z2) (u : Value) : Named (w.setCell ⟨q, 0, none⟩ u) q u z1 z2 :=
  ⟨Lib.heap_setCell_same h.b0 _, (far1 (by omega)).trans h.b1, (far1 (by omega)).trans h.b2⟩

theorem Named.given {w : World} {q : Nat} {v u : Value} {z1 z2 y1 y2 : Int} {o : Obj} (h : Named w q v z1 z2) : Named ((((w.setCell ⟨q, 0, none⟩ u).setCell ⟨q + 1, 0, none⟩ (.int .i64 y1)).setCell ⟨q + 1 + 1, 0, none⟩ (.int .i64 y2)).alloc o).drew q u y1 y2 := by
  have h0 := Lib.heap_setCell_same (i := 0) h.b0 u
  have h1 := (far1 (w := w) (a := 0) (x := u) (show ¬ q + 1 = q by omega)).trans h.b1
  have h2 := (far1 (w := w) (a := 0) (x := u) (show ¬ q + 1 + 1 = q by omega)).trans h.b2
  have g0 := (far1 (a := 0) (x := .int .i64 y1) (show ¬ q = q + 1 by omega)).trans h0
  have g1 := Lib.heap_setCell_same (i := 0) h1 (.int .i64 y1)
  have g2 := (far1 (a := 0) (x := .int .i64 y1) (show ¬ q + 1 + 1 = q + 1 by omega)).trans h2
  have k0 := (far1 (a := 0) (x := .int .i64 y2) (show ¬ q = q + 1 + 1 by omega)).trans g0
  have k1 := (far1 (a := 0) (x := .int .i64 y2) (show ¬ q + 1 = q + 1 + 1 by omega)).trans g1
  have k2 := Lib.heap_setCell_same (i := 0) g2 (.int .i64 y2)
  exact ⟨(heap_alloc_old _ _ (lt_of_block k0)).trans k0, (heap_alloc_old _ _ (lt_of_block k1)).trans k1, (heap_alloc_old _ _ (lt_of_block k2)).trans k2⟩

set_option maxHeartbeats 4000000 in
/-- What a panic becomes at the door. -/
theorem door_fault {s : ByteArray} {w w5 : World} {v : Value} {p : Nat} {tmps : Array Value} (hn : Named w5 w.heap.size v 0 0) (hb : Below w.heap.size w w5) (hd : decF s = .inl p) (t2 : tmps[2]? = some (.pointer (some ⟨w.heap.size, 0, none⟩))) (t3 : tmps[3]? = some (.pointer (some ⟨w.heap.size + 1, 0, none⟩))) (t4 : tmps[4]? = some (.pointer (some ⟨w.heap.size + 1 + 1, 0, none⟩))) :
    bodyPostD Tryz.prog Tryz.f103 (DecPost s w) (Exit.panic [{ v := .iface 128 (.agg #[.int .i64 p]), recovered := false }])
      { tmps := tmps, defers := [{ target := Target.fn (Fn.func 127) #[.pointer (some ⟨w.heap.size, 0, none⟩), .pointer (some ⟨w.heap.size + 1, 0, none⟩), .pointer (some ⟨w.heap.size + 1 + 1, 0, none⟩)], args := #[] }] } w5 := by
  obtain ⟨c0, c1, c2⟩ := hn.cells
  obtain ⟨f0, f1, f2⟩ := hn.frozen
  refine leaves_cons (f := 127) (args := #[.pointer (some ⟨w.heap.size, 0, none⟩), .pointer (some ⟨w.heap.size + 1, 0, none⟩), .pointer (some ⟨w.heap.size + 1 + 1, 0, none⟩)]) (by simp) (by simp [go_sem]) ?_
  refine (catch_fault _ _ _ p [] _ _ _ _ c0 c1 c2 f0 f1 f2 (by omega) (by omega) (by omega) (lt_of_block hn.b0) (lt_of_block hn.b1) (lt_of_block hn.b2)).mono ?_
  rintro e u' w'' ⟨rfl, rfl, rfl⟩
  have B6 : Below w.heap.size w ((((w5.setCell ⟨w.heap.size, 0, none⟩ (.slice none 0 0)).setCell ⟨w.heap.size + 1, 0, none⟩ (.int .i64 3)).setCell ⟨w.heap.size + 1 + 1, 0, none⟩ (.int .i64 p)).alloc (.cells #[.int .i64 p] 128)).drew :=
    ((((hb.setCell (p := ⟨w.heap.size, 0, none⟩) (Nat.le_refl _) _).setCell (p := ⟨w.heap.size + 1, 0, none⟩) (by simp) _).setCell (p := ⟨w.heap.size + 1 + 1, 0, none⟩) (by simp; omega) _).alloc (by simpa using hb.size) _).drew
  obtain ⟨e0, e1, e2⟩ := (hn.given (u := .slice none 0 0) (y1 := 3) (y2 := p) (o := .cells #[.int .i64 p] 128)).cells
  generalize ((((w5.setCell ⟨w.heap.size, 0, none⟩ (.slice none 0 0)).setCell ⟨w.heap.size + 1, 0, none⟩ (.int .i64 3)).setCell ⟨w.heap.size + 1 + 1, 0, none⟩ (.int .i64 p)).alloc (.cells #[.int .i64 p] 128)).drew = W6 at *
  simp [Leaves, settle, results, Tryz.results103, go_sem, t2, t3, t4, e0, e1, e2]
  refine ⟨⟨.slice none 0 0, ?_, ?_⟩, B6⟩
  · unfold decE decP; rw [hd]
  · unfold decL; rw [hd]; exact OwnOps.nil _ _

theorem own_ne_block {w : World} {B k q : Nat} {v : Value} {xs : List DOp} {cs : Array Value} {T : TypeId} {fr : Nat × Nat} (ho : OwnOps w B v xs) (hq : w.heap[q]? = some (.cells cs T fr)) (hT : T ≠ 63) (hk : v.ownBlock = some k) : ¬ k = q := by
  intro e
  subst e
  rcases ho.2 with ⟨h', _⟩ | ⟨g, cap', cur, h', _, hb, _⟩
  · rw [h'] at hk; cases hk
  · rw [h'] at hk; cases hk
    have := hb.symm.trans hq
    simp at this
    exact hT this.2.1.symm
theorem Named.stays {w : World} {q : Nat} {v u : Value} {z1 z2 y1 y2 : Int} (h : Named w q v z1 z2) : Named (((w.setCell ⟨q, 0, none⟩ u).setCell ⟨q + 1, 0, none⟩ (.int .i64 y1)).setCell ⟨q + 1 + 1, 0, none⟩ (.int .i64 y2)) q u y1 y2 := by
  have h0 := Lib.heap_setCell_same (i := 0) h.b0 u
  have h1 := (far1 (w := w) (a := 0) (x := u) (show ¬ q + 1 = q by omega)).trans h.b1
  have h2 := (far1 (w := w) (a := 0) (x := u) (show ¬ q + 1 + 1 = q by omega)).trans h.b2
  have g0 := (far1 (a := 0) (x := .int .i64 y1) (show ¬ q = q + 1 by omega)).trans h0
  have g1 := Lib.heap_setCell_same (i := 0) h1 (.int .i64 y1)
  have g2 := (far1 (a := 0) (x := .int .i64 y1) (show ¬ q + 1 + 1 = q + 1 by omega)).trans h2
  exact ⟨(far1 (show ¬ q = q + 1 + 1 by omega)).trans g0, (far1 (show ¬ q + 1 = q + 1 + 1 by omega)).trans g1, Lib.heap_setCell_same (i := 0) g2 (.int .i64 y2)⟩

set_option maxHeartbeats 4000000 in
/-- What a return becomes at the door. -/
theorem door_ok {s : ByteArray} {w w7 : World} {v : Value} {out : List DOp} {tmps : Array Value} (hn : Named w7 w.heap.size v 0 0) (hb : Below w.heap.size w w7) (ho : OwnOps w7 w.heap.size v out) (hd : decF s = .inr out) (t2 : tmps[2]? = some (.pointer (some ⟨w.heap.size, 0, none⟩))) (t3 : tmps[3]? = some (.pointer (some ⟨w.heap.size + 1, 0, none⟩))) (t4 : tmps[4]? = some (.pointer (some ⟨w.heap.size + 1 + 1, 0, none⟩))) :
    bodyPostD Tryz.prog Tryz.f103 (DecPost s w) Exit.ret
      { tmps := tmps, defers := [{ target := Target.fn (Fn.func 127) #[.pointer (some ⟨w.heap.size, 0, none⟩), .pointer (some ⟨w.heap.size + 1, 0, none⟩), .pointer (some ⟨w.heap.size + 1 + 1, 0, none⟩)], args := #[] }] } (((w7.setCell ⟨w.heap.size, 0, none⟩ v).setCell ⟨w.heap.size + 1, 0, none⟩ (.int .i64 0)).setCell ⟨w.heap.size + 1 + 1, 0, none⟩ (.int .i64 0)) := by
  have B8 : Below w.heap.size w (((w7.setCell ⟨w.heap.size, 0, none⟩ v).setCell ⟨w.heap.size + 1, 0, none⟩ (.int .i64 0)).setCell ⟨w.heap.size + 1 + 1, 0, none⟩ (.int .i64 0)) := ((hb.setCell (p := ⟨w.heap.size, 0, none⟩) (Nat.le_refl _) _).setCell (p := ⟨w.heap.size + 1, 0, none⟩) (by simp) _).setCell (p := ⟨w.heap.size + 1 + 1, 0, none⟩) (by simp; omega) _
  have o8 : OwnOps (((w7.setCell ⟨w.heap.size, 0, none⟩ v).setCell ⟨w.heap.size + 1, 0, none⟩ (.int .i64 0)).setCell ⟨w.heap.size + 1 + 1, 0, none⟩ (.int .i64 0)) w.heap.size v out :=
    own_block ho (fun k hk => (far1 (own_ne_block ho hn.b2 (by decide) hk)).trans ((far1 (own_ne_block ho hn.b1 (by decide) hk)).trans (far1 (own_ne_block ho hn.b0 (by decide) hk))))
  obtain ⟨e0, e1, e2⟩ := (hn.stays (u := v) (y1 := 0) (y2 := 0)).cells
  generalize (((w7.setCell ⟨w.heap.size, 0, none⟩ v).setCell ⟨w.heap.size + 1, 0, none⟩ (.int .i64 0)).setCell ⟨w.heap.size + 1 + 1, 0, none⟩ (.int .i64 0)) = W8 at *
  refine leaves_cons (f := 127) (args := #[.pointer (some ⟨w.heap.size, 0, none⟩), .pointer (some ⟨w.heap.size + 1, 0, none⟩), .pointer (some ⟨w.heap.size + 1 + 1, 0, none⟩)]) (by simp) (by simp [go_sem]) ?_
  refine (catch_idle _ _ _ _).mono ?_
  rintro e u' w'' ⟨rfl, rfl, rfl⟩
  simp [Leaves, settle, results, Tryz.results103, go_sem, t2, t3, t4, e0, e1, e2]
  refine ⟨⟨v, ?_, ?_⟩, B8⟩
  · unfold decE decP; rw [hd]
  · unfold decL; rw [hd]; exact o8

set_option maxHeartbeats 4000000 in
theorem decode_any (s : ByteArray) (w : World) (hs : s.size ≤ 9223372036854775000) :
    Calls Tryz.prog 103 #[.string s] w (DecPost s w) := by
  have hmf : ∀ (fn : Fn) (first cap : Array Value) (w : World), (Instr.makeFunc fn first cap).run Tryz.prog w = .ok (.func fn first cap) w := fun _ _ _ _ => rfl
  have N3 : Hid (Named (((w.alloc (.cells #[.slice none 0 0] 59)).alloc (.cells #[.int .i64 0] 38)).alloc (.cells #[.int .i64 0] 3)) w.heap.size (.slice none 0 0) 0 0) :=
    ⟨by rw [heap_alloc_old _ _ (by simp; omega), heap_alloc_old _ _ (by simp)]; exact heap_alloc_new _ _, by rw [heap_alloc_old _ _ (by simp)]; simpa using heap_alloc_new (w.alloc (.cells #[.slice none 0 0] 59)) (.cells #[.int .i64 0] 38), by simpa using heap_alloc_new ((w.alloc (.cells #[.slice none 0 0] 59)).alloc (.cells #[.int .i64 0] 38)) (.cells #[.int .i64 0] 3)⟩
  have B3 : Below w.heap.size w (((w.alloc (.cells #[.slice none 0 0] 59)).alloc (.cells #[.int .i64 0] 38)).alloc (.cells #[.int .i64 0] 3)) := (((Below.refl _ _).alloc (Nat.le_refl _) _).alloc (by simp) _).alloc (by simp; omega) _
  have hW3 : (((w.alloc (.cells #[.slice none 0 0] 59)).alloc (.cells #[.int .i64 0] 38)).alloc (.cells #[.int .i64 0] 3)).heap.size = w.heap.size + 3 := by simp
  go_enter_defers Tryz.func103, Tryz.ntmps103
  go_wp2_with fail
  generalize (((w.alloc (.cells #[.slice none 0 0] 59)).alloc (.cells #[.int .i64 0] 38)).alloc (.cells #[.int .i64 0] 3)) = W3 at *
  refine (newreader_any s _).mono ?_
  rintro e w4 ⟨rfl, rfl⟩
  have HR4 : Hid (RAt (W3.alloc (.cells #[.string s, .int .i64 0] 177)) W3.heap.size s 0) := heap_alloc_new _ _
  have B4 : Below w.heap.size w (W3.alloc (.cells #[.string s, .int .i64 0] 177)) := B3.alloc (by omega) _
  have N4 : Hid (Named (W3.alloc (.cells #[.string s, .int .i64 0] 177)) w.heap.size (.slice none 0 0) 0 0) := ⟨(heap_alloc_old _ _ (lt_of_block N3.out.b0)).trans N3.out.b0, (heap_alloc_old _ _ (lt_of_block N3.out.b1)).trans N3.out.b1, (heap_alloc_old _ _ (lt_of_block N3.out.b2)).trans N3.out.b2⟩
  generalize (W3.alloc (.cells #[.string s, .int .i64 0] 177)) = W4 at *
  rw [hW3] at HR4 ⊢
  clear N3 B3 hW3
  go_wp2_with fail
  refine (read_any (w.heap.size + 3) s 0 w.heap.size _ HR4.out (by omega) (Nat.zero_le _) hs).mono ?_
  rintro e w5 ⟨hcase, hb5, hc5⟩
  have B5 : Below w.heap.size w w5 := B4.trans hb5
  have N5 : Hid (Named w5 w.heap.size (.slice none 0 0) 0 0) := N4.out.clear hc5 (by omega)
  clear hb5 hc5 HR4 N4 B4
  rcases hcase with ⟨p, rfl, hp⟩ | ⟨v, out, c, a, at', rfl, h1, h2, h3, ho, hr, hat⟩
  · have HD : Hid (decF s = .inl p) := by
      show decF s = _
      unfold decF
      rcases hp with hp | ⟨c, a, h1, h | h⟩
      · rw [hp]
      · rw [h1]; simp only [if_pos h.1]; rw [h.2]
      · rw [h1]; simp only [if_neg h.1]; rw [h.2]
    clear hp
    go_wp2
    exact door_fault N5.out B5 HD.out rfl rfl rfl
  · have HO5 : Hid (OwnOps w5 w.heap.size v out) := ho
    have HR5 : Hid (RAt w5 (w.heap.size + 3) s at') := hr
    obtain ⟨ao, cap, hv⟩ := ho.slice
    subst hv
    obtain ⟨c0, c1, c2⟩ := N5.out.cells
    obtain ⟨f0, f1, f2⟩ := N5.out.frozen
    have N6 : Hid (Named (w5.setCell ⟨w.heap.size, 0, none⟩ (.slice ao out.length cap)) w.heap.size (.slice ao out.length cap) 0 0) := N5.out.put _
    have HO6 : Hid (OwnOps (w5.setCell ⟨w.heap.size, 0, none⟩ (.slice ao out.length cap)) w.heap.size (.slice ao out.length cap) out) := own_far ho (fun k hk e => by
      subst e
      rcases ho.2 with ⟨h', _⟩ | ⟨g, cap', cur, h', _, hb, _⟩
      · rw [h'] at hk; cases hk
      · rw [h'] at hk; cases hk
        have := hb.symm.trans N5.out.b0
        simp at this)
    have HR6 : Hid (RAt (w5.setCell ⟨w.heap.size, 0, none⟩ (.slice ao out.length cap)) (w.heap.size + 3) s at') := (far1 (by omega)).trans hr
    have B6 : Below w.heap.size w (w5.setCell ⟨w.heap.size, 0, none⟩ (.slice ao out.length cap)) := B5.setCell (p := ⟨w.heap.size, 0, none⟩) (Nat.le_refl _) _
    have H3 : Hid (numF s 0 = .inr (c, a) ∧ ¬ 200 < c ∧ decGo s c [] 0 a = .inr (out, at')) := ⟨h1, h2, h3⟩
    clear ho hr HO5 HR5 h1 h2 h3 N5
    by_cases hend : at' < s.size
    · have HD : Hid (decF s = .inl at') := by
        show decF s = _
        obtain ⟨h1, h2, h3⟩ := H3.out
        unfold decF
        rw [h1]; simp only [if_neg h2]; rw [h3]; simp only [if_pos hend]
      go_wp2_with fail
      refine (end_more (w.heap.size + 3) s at' _ HR6.out hend).mono ?_
      rintro e w7 ⟨rfl, hm7⟩
      have N7 : Hid (Named w7 w.heap.size (.slice ao out.length cap) 0 0) := N6.out.clear (.of_moved hm7) (by omega)
      have B7 : Below w.heap.size w w7 := B6.trans (hm7.below (by omega) B6.size)
      clear hm7
      go_wp2
      exact door_fault N7.out B7 HD.out rfl rfl rfl
    · have HD : Hid (decF s = .inr out) := by
        show decF s = _
        obtain ⟨h1, h2, h3⟩ := H3.out
        unfold decF
        rw [h1]; simp only [if_neg h2]; rw [h3]; simp only [if_neg hend]
      go_wp2_with fail
      refine (end_none (w.heap.size + 3) s at' _ HR6.out hend hat).mono ?_
      rintro e w7 ⟨rfl, hm7⟩
      have N7 : Hid (Named w7 w.heap.size (.slice ao out.length cap) 0 0) := N6.out.clear (.of_moved hm7) (by omega)
      have B7 : Below w.heap.size w w7 := B6.trans (hm7.below (by omega) B6.size)
      have HO7 : Hid (OwnOps w7 w.heap.size (.slice ao out.length cap) out) := HO6.out.moved HR6.out hm7
      obtain ⟨d0, d1, d2⟩ := N7.out.cells
      obtain ⟨g0, g1, g2⟩ := N7.out.frozen
      clear hm7 N6 HO6 HR6 B6 c0 c1 c2 f0 f1 f2
      go_wp2
      exact door_ok N7.out B7 HO7.out HD.out rfl rfl rfl

set_option maxHeartbeats 1000000 in
theorem cdec_any (s : ByteArray) (w : World) (hs : s.size ≤ 9223372036854775000) :
    Calls Tryz.prog 68 #[.string s] w (DecPost s w) := by
  go_enter Tryz.func68, Tryz.ntmps68
  go_wp2_with fail
  refine (decode_any s _ hs).mono ?_
  rintro e w' ⟨⟨v', rfl, ho⟩, hb⟩
  have HO : Hid (OwnOps w' w.heap.size v' (decL s)) := ho
  clear ho
  go_wp2
  go_ret3
  exact ⟨⟨_, rfl, HO.out⟩, hb⟩
end Go.Proofs.YtabpiaaknjcnkaaGreat
