/-
  The walks over lent and back.
-/
import Derived.Test.YtabpiaaknjcnkaaL2
import Derived.LoopTactic
namespace Go.Proofs.Ytabpiaaknjcnkaa
open Go.RowKit
set_option linter.unusedVariables false
set_option linter.unusedSimpArgs false
set_option maxRecDepth 100000

theorem add_block (a : Addr) (j : Nat) : (a.add j).block = a.block := by unfold Addr.add; split <;> rfl

theorem view_src {w : World} {v : Value} {xs : List DOp} (h : View w v xs) : ∃ sp cap, v = .slice sp xs.length cap ∧
    (0 < xs.length → ∃ ad, sp = some ad ∧ ad.block < w.heap.size ∧ ∀ j u, (opCells xs)[j]? = some u → w.cell? (ad.add j) = some u) := by
  rcases h with ⟨rfl, ao, cap, rfl⟩ | ⟨b, off, cap, rfl, hb, hr⟩
  · exact ⟨ao, cap, rfl, fun h => by simp at h⟩
  · exact ⟨_, cap, rfl, fun _ => ⟨_, rfl, hb, View.cells hr⟩⟩

theorem own_of_row {w : World} {g n : Nat} {Y : Array Value} {xs : List DOp} (hbk : w.heap[g]? = some (.cells Y 33 (0, 0))) (hY : Y.toList = opCells xs) (hn : xs.length = n) (hm : n ≤ maxLen) (base : Nat) (hb : base ≤ g) :
    OwnOps w base (.slice (some ⟨g, 0, none⟩) n n) xs := by
  subst hn
  have hs : Y.size = xs.length * 3 := by rw [← Array.length_toList, hY, opCells_length]
  exact ⟨opCells_length xs, .inr ⟨g, xs.length, Y, rfl, hb, hbk, Nat.le_refl _, hm, hs, by rw [hY, List.take_of_length_le (by rw [opCells_length]; exact Nat.le_refl _)]⟩⟩

/-- The head of a row of the call's own. -/
theorem own_head {w : World} {base g cap n : Nat} {xs ys : List DOp} (h : OwnOps w base (.slice (some ⟨g, 0, none⟩) n cap) (xs ++ ys)) (c : Nat) : View w (.slice (some ⟨g, 0, none⟩) xs.length c) xs := by
  rcases reads_of_own h with ⟨h', _⟩ | ⟨g', cap', hv, hg, _, hr⟩
  · cases h'
  · cases hv
    refine .inr ⟨g, 0, c, rfl, hg, fun i o ho => hr i o ?_⟩
    have hi := (List.getElem?_eq_some_iff.1 ho).1
    rw [List.getElem?_append_left hi]; exact ho

def seven : DOp := ⟨77, 0, ⟨#[]⟩⟩

theorem gb_refl (w : World) (r : Option Nat) : w.grownBy w r := ⟨rfl, rfl, rfl, Nat.le_refl _, fun _ _ _ => rfl⟩
theorem gb_below {w w' : World} (h : Below w.heap.size w w') (r : Option Nat) : w.grownBy w' r := ⟨h.os, h.tape, h.output, h.size, fun k hk _ => h.block k hk⟩
theorem gb_set {w w' : World} {g : Nat} (h : w.grownBy w' (some g)) (j : Nat) (u : Value) : w.grownBy (w'.setCell ⟨g, j, none⟩ u) (some g) := by
  have hs := (Below.refl 0 w').setCell (p := ⟨g, j, none⟩) (Nat.zero_le _) u
  exact ⟨hs.os.trans h.os, hs.tape.trans h.tape, hs.output.trans h.output, Nat.le_trans h.size hs.size, fun k hk hne => (Below.heap_setCell _ _ _ _ (fun e => hne (by rw [e]))).trans (h.block k hk hne)⟩

end Go.Proofs.Ytabpiaaknjcnkaa
