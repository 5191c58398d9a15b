/- The texts WC, L1, one behind the other. -/
import Derived.Test.YtabpiaaknjcnkaaW7
import Derived.Test.YtabpiaaknjcnkaaWA
import Derived.Deep.QuietTactic
import Derived.BigQuiet
import Derived.LoopTactic
/-
  What Diff finds, read and applied.
-/
namespace Go.Proofs.Ytabpiaaknjcnkaa
open Go.RowKit
set_option linter.unusedVariables false
set_option linter.unusedSimpArgs false
set_option maxRecDepth 100000

theorem opCells_get (D : List DOp) (i : Nat) (o : DOp) (h : D[i]? = some o) :
    (opCells D)[i * 3]? = some (.int .i64 o.fr) ∧ (opCells D)[i * 3 + 1]? = some (.int .i64 o.len) ∧ (opCells D)[i * 3 + 2]? = some (.string o.tx) := by
  induction D generalizing i with
  | nil => simp at h
  | cons q r ih =>
    have e : opCells (q :: r) = .int .i64 q.fr :: .int .i64 q.len :: .string q.tx :: opCells r := rfl
    cases i with
    | zero => simp at h; subst h; simp [e]
    | succ i =>
      have := ih i (by simpa using h)
      rw [e, show (i + 1) * 3 = i * 3 + 3 from by omega]
      simpa using this

theorem reads_of_own {w : World} {base : Nat} {v : Value} {D : List DOp} (h : OwnOps w base v D) :
    (v = .slice none 0 0 ∧ D = []) ∨ ∃ g cap, v = .slice (some ⟨g, 0, none⟩) D.length cap ∧ g < w.heap.size ∧ base ≤ g ∧ ReadsAt w g 0 D := by
  rcases h.2 with ⟨rfl, h0⟩ | ⟨g, cap, cur, rfl, hg, hbk, hr⟩
  · exact .inl ⟨rfl, List.eq_nil_of_length_eq_zero h0⟩
  · refine .inr ⟨g, cap, rfl, row_own_lt h rfl, hg, ?_⟩
    intro i o ho
    have hi : i < D.length := (List.getElem?_eq_some_iff.1 ho).1
    obtain ⟨a0, a1, a2⟩ := opCells_get D i o ho
    refine ⟨?_, ?_, ?_⟩
    · rw [Nat.zero_add]; exact (World.ownsRow.cellAt h (i * 3) (by omega)).trans a0
    · rw [Nat.zero_add]; exact (World.ownsRow.cellAt h (i * 3 + 1) (by omega)).trans a1
    · rw [Nat.zero_add]; exact (World.ownsRow.cellAt h (i * 3 + 2) (by omega)).trans a2

theorem diffF_desc (base next : ByteArray) (h : next.size ≤ 700) : diffF base next = descF base next := by
  have := descF_length (base := base) (next := next)
  rw [diffF, if_neg (by omega)]

/-- What differs makes it again. -/
theorem capply_back (base next : ByteArray) (v : Value) (bs : Nat) (w : World) (hb : base.size ≤ 2000) (hn : next.size ≤ 700) (hown : OwnOps w bs v (descF base next)) :
    Calls Try.prog 12 #[.string base, v] w fun e w' => e = .returned (.tuple #[.string next, .int .i64 0, .int .i64 0]) ∧ Below w.heap.size w w' := by
  have hm := descF_made base next
  rcases reads_of_own hown with ⟨rfl, hD⟩ | ⟨g, cap, rfl, hg, _, hr⟩
  · rw [hD] at hm
    have hnx : next = ⟨#[]⟩ := by rw [← Lib.mk_data next, ← hm]; rfl
    rw [hnx]
    exact capply_of (apply_nil base none 0 w hb)
  · have := apply_ok base g 0 cap (descF base next) w hb (by have := descF_length (base := base) (next := next); omega) hr
      (fun o ho => by have := (descF_good base next o ho).len; omega) hg (descF_fault base next hn)
    rw [hm, Lib.mk_data] at this
    exact capply_of this
end Go.Proofs.Ytabpiaaknjcnkaa

/-
  The statement's small functions over lists of ops: sameOps, full.
-/
namespace Go.Proofs.Ytabpiaaknjcnkaa
open Go.RowKit
set_option linter.unusedVariables false
set_option linter.unusedSimpArgs false
set_option maxRecDepth 100000

/-- A list of ops, wherever it lies. -/
def View (w : World) (v : Value) (xs : List DOp) : Prop :=
  (xs = [] ∧ ∃ ao cap, v = .slice ao 0 cap) ∨ ∃ b off cap, v = .slice (some ⟨b, off, none⟩) xs.length cap ∧ b < w.heap.size ∧ ReadsAt w b off xs

theorem View.kept {w w' : World} {v : Value} {xs : List DOp} (h : View w v xs) (hb : Below w.heap.size w w') : View w' v xs := by
  rcases h with h | ⟨b, off, cap, rfl, hlt, hr⟩
  · exact .inl h
  · refine .inr ⟨b, off, cap, rfl, by have := hb.size; omega, fun i o ho => ?_⟩
    obtain ⟨r0, r1, r2⟩ := hr i o ho
    exact ⟨(hb.cell (p := ⟨b, _, none⟩) hlt).trans r0, (hb.cell (p := ⟨b, _, none⟩) hlt).trans r1, (hb.cell (p := ⟨b, _, none⟩) hlt).trans r2⟩
theorem View.of_own {w : World} {base : Nat} {v : Value} {xs : List DOp} (h : OwnOps w base v xs) : View w v xs := by
  rcases reads_of_own h with ⟨rfl, rfl⟩ | ⟨g, cap, rfl, hg, _, hr⟩
  · exact .inl ⟨rfl, _, _, rfl⟩
  · exact .inr ⟨g, 0, cap, rfl, hg, hr⟩

/-- A mark of the book's. -/
def mark (m : Int) : DOp := ⟨m, 0, ⟨#[]⟩⟩

end Go.Proofs.Ytabpiaaknjcnkaa
