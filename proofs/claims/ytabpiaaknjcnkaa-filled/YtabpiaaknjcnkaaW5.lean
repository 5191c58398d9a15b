/-
  The walks over strings.Clone and addText.
-/
import Derived.Test.YtabpiaaknjcnkaaXW1W3
import Derived.Test.YtabpiaaknjcnkaaP1
import Derived.Test.YtabpiaaknjcnkaaShelf
import Derived.LoopTactic
namespace Go.Proofs.Ytabpiaaknjcnkaa
open Go.RowKit
set_option linter.unusedVariables false
set_option linter.unusedSimpArgs false
set_option maxRecDepth 100000

theorem Try.infoOp : (Try.prog.info? 33).map (fun i => (i.zero, i.size, i.bytes)) = some (some (.agg #[.int .i64 0, .int .i64 0, .string ⟨#[]⟩]), 3, 32) := by kernel_rfl

def opCells (xs : List DOp) : List Value := xs.flatMap fun o => [.int .i64 o.fr, .int .i64 o.len, .string o.tx]
theorem opCells_length (xs : List DOp) : (opCells xs).length = xs.length * 3 := by
  induction xs with
  | nil => rfl
  | cons o r ih => simp [opCells] at ih ⊢; omega
theorem opCells_append (xs ys : List DOp) : opCells (xs ++ ys) = opCells xs ++ opCells ys := by simp [opCells]
theorem opCells_one (f l : Int) (t : ByteArray) : opCells [⟨f, l, t⟩] = [.int .i64 f, .int .i64 l, .string t] := rfl
theorem opCells_oneCell (f l : Int) (t : ByteArray) : ∀ u ∈ opCells [⟨f, l, t⟩], u.oneCell' = true := by
  intro u hu
  simp [opCells] at hu
  rcases hu with rfl | rfl | rfl <;> rfl

/-- A list of ops of the call's own. -/
def OwnOps (w : World) (base : Nat) (v : Value) (xs : List DOp) : Prop := w.ownsRow base 33 3 v xs.length (opCells xs)

theorem cells_op_new (w : World) (f l : Int) (t : ByteArray) (T : TypeId) : ∀ j u, (opCells [⟨f, l, t⟩])[j]? = some u → (w.alloc (.cells #[.int .i64 f, .int .i64 l, .string t] T)).cell? ((⟨w.heap.size, 0, none⟩ : Addr).add j) = some u := by
  intro j u hu
  match j, hu with
  | 0, hu => simp [opCells] at hu; subst hu; simp [Addr.add]
  | 1, hu => simp [opCells] at hu; subst hu; simp [Addr.add]
  | 2, hu => simp [opCells] at hu; subst hu; simp [Addr.add]
  | n + 3, hu => simp [opCells] at hu

theorem row_own_ge {w : World} {base : Nat} {e : TypeId} {size n : Nat} {v : Value} {xs : List Value} (h : w.ownsRow base e size v n xs) {k : Nat} (hk : v.ownBlock = some k) : base ≤ k := by
  rcases h.2 with ⟨rfl, _⟩ | ⟨g, cap, cur, rfl, hg, _⟩
  · cases hk
  · cases hk; exact hg
theorem row_own_lt {w : World} {base : Nat} {e : TypeId} {size n : Nat} {v : Value} {xs : List Value} (h : w.ownsRow base e size v n xs) {k : Nat} (hk : v.ownBlock = some k) : k < w.heap.size := by
  rcases h.2 with ⟨rfl, _⟩ | ⟨g, cap, cur, rfl, hg, hb, _⟩
  · cases hk
  · cases hk
    rcases Nat.lt_or_ge g w.heap.size with h' | h'
    · exact h'
    · simp [Array.getElem?_eq_none h'] at hb
theorem OwnOps.kept {w w1 : World} {base : Nat} {v : Value} {xs : List DOp} (h : OwnOps w base v xs) (hb : Below w.heap.size w w1) : OwnOps w1 base v xs := by
  refine ⟨h.1, ?_⟩
  rcases h.2 with h' | ⟨g, cap, cur, rfl, hg, hbk, hr⟩
  · exact .inl h'
  · refine .inr ⟨g, cap, cur, rfl, hg, ?_, hr⟩
    rw [hb.block g (row_own_lt h rfl)]
    exact hbk
theorem OwnOps.wide {w : World} {b c : Nat} {v : Value} {xs : List DOp} (h : OwnOps w b v xs) (hb : c ≤ b) : OwnOps w c v xs := by
  refine ⟨h.1, ?_⟩
  rcases h.2 with h' | ⟨g, cap, cur, rfl, hg, hr⟩
  · exact .inl h'
  · exact .inr ⟨g, cap, cur, rfl, by omega, hr⟩
theorem OwnOps.nil (w : World) (b : Nat) : OwnOps w b (.slice none 0 0) [] := World.ownsRow_nil _ _ _ _

set_option maxHeartbeats 400000 in
theorem clone_any (s : ByteArray) (w : World) (hlim : s.size ≤ 100000) :
    Calls Try.prog 67 #[.string s] w fun e w' => e = .returned (.string s) ∧ Below w.heap.size w w' := by
  go_enter Try.func67, Try.ntmps67
  go_wp2_with (go_at_call 89; refine (Try.stringslite_Clone s _ (by omega)).mono ?_; rintro e w' ⟨rfl, hb⟩)
  go_ret
  exact ⟨rfl, by assumption⟩

set_option maxHeartbeats 1000000 in
theorem addText_any (v : Value) (xs : List DOp) (t : ByteArray) (base : Nat) (w : World) (hown : OwnOps w base v xs) (hbase : base ≤ w.heap.size) (hx : xs.length ≤ 100000) (ht : t.size ≤ 100000) :
    Calls Try.prog 43 #[v, .string t] w fun e w' => ∃ v', e = .returned v' ∧ OwnOps w' base v' (xs ++ addT t) ∧ Below base w w' := by
  obtain ⟨i0, hi, hz0, hz1, hz2⟩ := info_parts Try.infoOp
  cases h0 : t.toList.isEmpty
  · go_enter Try.func43, Try.ntmps43
    go_wp2_with (go_at_call 67; refine (clone_any t _ ht).mono ?_)
    rintro e w1 ⟨rfl, hb⟩
    have hown1 : w1.ownsRow base 33 3 v xs.length (opCells xs) := OwnOps.kept hown hb
    have hsz := hb.size
    go_wp2_with (first | (at_builtin; refine wpList_append_own _ rfl _ _ 26 rfl base 33 i0 (.agg #[.int .i64 0, .int .i64 0, .string ⟨#[]⟩]) 3 32 Try.underlying26 hi hz0 hz1 hz2 rfl (by decide) _ _ _ rfl (hown1.alloc _) ⟨w1.heap.size, 0, none⟩ 1 1 (opCells [⟨0, 0, t⟩]) rfl rfl (cells_op_new _ _ _ _ _) (opCells_oneCell _ _ _) ?c3 ?c4 ?c5 ?_))
    case c3 => unfold maxLen; omega
    case c4 => omega
    case c5 => simp; omega
    intro v' w2 hown2 hgrow _
    have R1 : OwnOps w2 base v' (xs ++ addT t) := by
      simpa [OwnOps, addT, h0, opCells_append] using hown2
    have R2 : Below base w w2 := ((hb.mono hbase).alloc (by omega) _).grown hgrow (by simp; omega) (fun k hk => row_own_ge hown1 hk)
    clear hown2 hgrow hown1
    go_wp2
    go_ret
    exact ⟨v', rfl, R1, R2⟩
  · go_enter Try.func43, Try.ntmps43
    go_wp2
    go_ret
    exact ⟨v, rfl, by simpa [addT, h0] using hown, Below.refl _ _⟩
end Go.Proofs.Ytabpiaaknjcnkaa
