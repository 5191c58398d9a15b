/-
  A step of Diff, Apply or Sum: the common words.
-/
import Derived.Test.YtabpiaaknjcnkaaGreatL6
import Derived.Test.YtabpiaaknjcnkaaGreatR3
import Derived.Test.YtabpiaaknjcnkaaGreatR4
import Derived.LoopTactic
namespace Go.Proofs.YtabpiaaknjcnkaaGreat
open Go.RowKit
set_option linter.unusedVariables false
set_option linter.unusedSimpArgs false
set_option maxRecDepth 100000

/-- A list of the script's: it lies below B0. -/
def LView (B0 : Nat) (w : World) (v : Value) (xs : List DOp) : Prop :=
  (xs = [] ∧ ∃ ao cap, v = .slice ao 0 cap) ∨ ∃ b off cap, v = .slice (some ⟨b, off, none⟩) xs.length cap ∧ b < B0 ∧ ReadsAt w b off xs
theorem LView.kept {B0 : Nat} {w w' : World} {v : Value} {xs : List DOp} (h : LView B0 w v xs) (hb : Below B0 w w') : LView B0 w' v xs := by
  rcases h with h | ⟨b, off, cap, rfl, hlt, hr⟩
  · exact .inl h
  · refine .inr ⟨b, off, cap, rfl, hlt, fun i o ho => ?_⟩
    obtain ⟨r0, r1, r2⟩ := hr i o ho
    exact ⟨(hb.cell (p := ⟨b, _, none⟩) hlt).trans r0, (hb.cell (p := ⟨b, _, none⟩) hlt).trans r1, (hb.cell (p := ⟨b, _, none⟩) hlt).trans r2⟩
theorem LView.view {B0 : Nat} {w : World} {v : Value} {xs : List DOp} (h : LView B0 w v xs) (hb : B0 ≤ w.heap.size) : View w v xs := by
  rcases h with h | ⟨b, off, cap, rfl, hlt, hr⟩
  · exact .inl h
  · exact .inr ⟨b, off, cap, rfl, by omega, hr⟩
theorem LView.slice {B0 : Nat} {w : World} {v : Value} {xs : List DOp} (h : LView B0 w v xs) : ∃ ao cap, v = .slice ao xs.length cap := by
  rcases h with ⟨rfl, ao, cap, rfl⟩ | ⟨b, off, cap, rfl, _⟩
  · exact ⟨ao, cap, rfl⟩
  · exact ⟨_, _, rfl⟩

/-- The book stands where its blocks stand. -/
theorem BookAt.kept {w w' : World} {B0 Wb : Nat} {xv yv bv : Value} {es : List Entry} {S S' : Nat → Prop} (h : BookAt w B0 Wb xv yv bv es S) (hk : ∀ q, S q → w'.heap[q]? = w.heap[q]?) (hS : ∀ q, S q → S' q) : BookAt w' B0 Wb xv yv bv es S' := by
  refine ⟨by rw [hk _ h.wbB]; exact h.blk, h.wb0, hS _ h.wbB, row_block h.row (fun g hg => hk g (h.lowr g hg)), fun g hg => hS _ (h.lowr g hg), fun e he => ?_⟩
  have k := h.each e he
  exact ⟨own_block k.l (fun g hg => hk g (k.lowl g hg)), own_block k.a (fun g hg => hk g (k.lowa g hg)), own_block k.b (fun g hg => hk g (k.lowb g hg)), own_block k.c (fun g hg => hk g (k.lowc g hg)), k.n,
    fun g hg => hS _ (k.lowl g hg), fun g hg => hS _ (k.lowa g hg), fun g hg => hS _ (k.lowb g hg), fun g hg => hS _ (k.lowc g hg)⟩

def dLong (s t : ByteArray) : Prop := 2000 < s.size ∨ 2000 < t.size
def dLongDec (s t : ByteArray) : Decidable (dLong s t) := inferInstanceAs (Decidable (_ ∨ _))
def dL (s t : ByteArray) : List DOp := @ite _ (dLong s t) (dLongDec s t) [] (diffF s t)
def dE (s t : ByteArray) : Int := @ite _ (dLong s t) (dLongDec s t) 1 0

set_option maxHeartbeats 1000000 in
theorem rdiff_long (base next : ByteArray) (w : World) (hs : base.size ≤ 9223372036854775807) (hn : next.size ≤ 9223372036854775807) (h : 2000 < base.size ∨ 2000 < next.size) :
    Calls Tryz.prog 57 #[.string base, .string next] w fun e w' => e = .returned (.tuple #[.slice none 0 0, .int .i64 1]) ∧ w' = w := by
  by_cases h1 : 2000 < base.size
  · go_enter Tryz.func57, Tryz.ntmps57
    go_wp2
    go_ret2
    exact ⟨rfl, rfl⟩
  · have h2 : 2000 < next.size := by omega
    clear h
    go_enter Tryz.func57, Tryz.ntmps57
    go_wp2
    go_ret2
    exact ⟨rfl, rfl⟩

theorem cdiff_any (s t : ByteArray) (w : World) (hs : s.size ≤ 9223372036854775807) (ht : t.size ≤ 9223372036854775807) :
    Calls Tryz.prog 56 #[.string s, .string t] w fun e w' => ∃ ao cap, e = .returned (.tuple #[.slice ao (dL s t).length cap, .int .i64 (dE s t)]) ∧ OwnOps w' w.heap.size (.slice ao (dL s t).length cap) (dL s t) ∧ Below w.heap.size w w' := by
  unfold dL dE
  by_cases h : dLong s t
  · simp only [if_pos h]
    refine (cdiff_long s t w hs ht h).mono ?_
    rintro e w' ⟨rfl, rfl⟩
    exact ⟨none, 0, rfl, OwnOps.nil _ _, Below.refl _ _⟩
  · simp only [if_neg h]
    unfold dLong at h
    refine (cdiff_ok s t w (by omega) (by omega)).mono ?_
    rintro e w' ⟨v, rfl, ho, hb⟩
    obtain ⟨ao, cap, rfl⟩ := ho.slice
    exact ⟨ao, cap, rfl, ho, hb⟩
theorem rdiff_any (s t : ByteArray) (w : World) (hs : s.size ≤ 9223372036854775807) (ht : t.size ≤ 9223372036854775807) :
    Calls Tryz.prog 57 #[.string s, .string t] w fun e w' => ∃ ao cap, e = .returned (.tuple #[.slice ao (dL s t).length cap, .int .i64 (dE s t)]) ∧ OwnOps w' w.heap.size (.slice ao (dL s t).length cap) (dL s t) ∧ Below w.heap.size w w' := by
  unfold dL dE
  by_cases h : dLong s t
  · simp only [if_pos h]
    refine (rdiff_long s t w hs ht h).mono ?_
    rintro e w' ⟨rfl, rfl⟩
    exact ⟨none, 0, rfl, OwnOps.nil _ _, Below.refl _ _⟩
  · simp only [if_neg h]
    unfold dLong at h
    refine (rdiff_ok s t w (by omega) (by omega)).mono ?_
    rintro e w' ⟨v, rfl, ho, hb⟩
    obtain ⟨ao, cap, rfl⟩ := ho.slice
    exact ⟨ao, cap, rfl, ho, hb⟩
theorem dL_length (s t : ByteArray) : (dL s t).length ≤ 100000 := by
  unfold dL
  by_cases h : dLong s t
  · rw [if_pos h]; simp
  · rw [if_neg h]
    unfold dLong at h
    have := @descF_length s t
    unfold diffF
    split
    · unfold addT; split <;> simp
    · omega
end Go.Proofs.YtabpiaaknjcnkaaGreat
