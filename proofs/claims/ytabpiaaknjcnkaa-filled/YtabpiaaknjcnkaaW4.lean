/-
  The walk over firstPlaces: the map holds, for each stretch of eight bytes, where it stands first.
-/
import Derived.Test.YtabpiaaknjcnkaaXW1W3
import Derived.Test.YtabpiaaknjcnkaaP1
import Derived.Maps.Own
import Derived.Maps.OwnSet
import Derived.LoopTactic
namespace Go.Proofs.Ytabpiaaknjcnkaa
open Go.RowKit Go.Maps Go.WideMaps
set_option linter.unusedVariables false
set_option linter.unusedSimpArgs false
set_option maxRecDepth 100000

theorem Try.keyLaw : Keyed Try.prog 9 := string_keyed Try.underlying9
theorem Try.zeroInt (w : World) : (zeroValue 3).run Try.prog w = .ok (.int .i64 0) w := by kernel_rfl

/-- The map tells of the stretches from m on. -/
def Tells (base : List UInt8) (m : Nat) (D : DataW Unit) : Prop :=
  IsMap D ∧ (∀ key j, IsFirst base m key j → Maps.has D (.string key) = true ∧ D.atKey (.string key) (.lit (.int .i64 0)) = .lit (.int .i64 j)) ∧
    (∀ key, (∀ j, m ≤ j → ¬ occ base key j) → Maps.has D (.string key) = false)

theorem tells_start (base : List UInt8) (m : Nat) (h : base.length < m + 8) : Tells base m (.map []) := by
  refine ⟨isMap_empty, fun key j hf => ?_, fun key _ => rfl⟩
  have := hf.2.1.1; have := hf.1; omega

theorem tells_step {base : List UInt8} {m : Nat} {D : DataW Unit} (h : Tells base (m + 1) D) (hm : m + 8 ≤ base.length) :
    Tells base m (D.put (.string ((base.drop m).take 8)) (.lit (.int .i64 m))) := by
  obtain ⟨h1, h2, h3⟩ := h
  refine ⟨h1.put _ _, fun key j hf => ?_, fun key hn => ?_⟩
  · by_cases e : key = (base.drop m).take 8
    · subst e
      have : j = m := by
        rcases Nat.lt_or_ge m j with hlt | hge
        · exact absurd ⟨hm, rfl⟩ (hf.2.2 m (Nat.le_refl _) hlt)
        · have := hf.1; omega
      subst this
      exact ⟨has_put_same h1 (show WideAt.IsKeyLit (.string _) from trivial) _, atKey_put_same h1 (show WideAt.IsKeyLit (.string _) from trivial) _ _⟩
    · have hne : (Lit.string key) ≠ .string ((base.drop m).take 8) := fun h => e (by simpa using h)
      have hj : m ≠ j := by
        rintro rfl
        exact e hf.2.1.2.symm
      have hf' : IsFirst base (m + 1) key j := ⟨by have := hf.1; omega, hf.2.1, fun i hi hij => hf.2.2 i (by omega) hij⟩
      have := h2 key j hf'
      exact ⟨(has_put_other hne _).trans this.1, (atKey_put_other hne _ _).trans this.2⟩
  · have e : key ≠ (base.drop m).take 8 := by
      rintro rfl
      exact hn m (Nat.le_refl _) ⟨hm, rfl⟩
    have hne : (Lit.string key) ≠ .string ((base.drop m).take 8) := fun h => e (by simpa using h)
    exact (has_put_other hne _).trans (h3 key fun j hj => hn j (by omega))

set_option maxHeartbeats 1000000 in
theorem firstPlaces_any (base : ByteArray) (w : World) (hs : base.size ≤ 100000) :
    Calls Try.prog 68 #[.string base] w fun e w' => e = .returned (.map (some w.heap.size)) ∧
      (∃ n D, w'.ownsMap Try.prog 9 (plainElem Try.prog 3) w.heap.size n D ∧ Tells base.data.toList 0 D) ∧ Below w.heap.size w w' := by
  have hmm := @run_makeMap Try.prog
  go_enter Try.func68, Try.ntmps68
  go_wp2
  go_loopw [4] (fun i wr => ∃ (x : Int) (n : Nat) (D : DataW Unit), i = .int .i64 x ∧ -8 ≤ x ∧ x + 8 ≤ base.size ∧ (n : Int) + (x + 1).toNat ≤ base.size + 1 ∧ wr.ownsMap Try.prog 9 (plainElem Try.prog 3) w.heap.size n D ∧ Tells base.data.toList (x + 1).toNat D ∧ Below w.heap.size w wr)
    (fun i _ => (intOf i + 1).toNat)
  case atStart =>
    exact ⟨_, 0, .map [], rfl, by omega, by omega, by omega, World.ownsMap_made _ _ _ _, tells_start _ _ (by rw [← Lib.size_eq]; omega), (Below.refl _ _).alloc (Nat.le_refl _) _⟩
  case round =>
    obtain ⟨x, n, D, rfl, hx, hx8, hn, hown, ht, hb⟩ := hrel
    by_cases hlt : 0 ≤ x
    · obtain ⟨m, rfl⟩ : ∃ m : Nat, x = (m : Int) := ⟨x.toNat, by omega⟩
      have HT : Hid (Tells base.data.toList ((m : Int) + 1).toNat D) := ht
      clear ht
      go_wp2_with (first | (at_mapUpdate; refine wpList_mapUpdate_own _ rfl _ _ _ 110 rfl 9 3 Try.keyLaw Try.underlying110 _ w.heap.size n _ rfl hown (by unfold maxLen; omega) _ _ _ rfl rfl (keyOf_string_mk Try.underlying9 ?hkey) _ [] (plainElem_int Try.underlying3 (WalkArith.wf_i64 (by omega))) ?_) | go_in)
      case hkey => simp [maxLen]; omega
      intro w1 hown1 hgrow1
      have HR : Hid (Tells base.data.toList m (D.put (.string (List.take 8 (List.drop m base.data.toList))) (.lit (.int .i64 m)))) := by
        have h := HT.out
        rw [show ((m : Int) + 1).toNat = m + 1 from by omega] at h
        exact tells_step h (by rw [← Lib.size_eq]; omega)
      go_wp2
      go_roundw
      case rel =>
        refine ⟨(m : Int) - 1, n + 1, _, by go_num, by omega, by omega, by omega, hown1, ?_, hb.grown hgrow1 hb.size (fun j hj => by cases hj; exact Nat.le_refl _)⟩
        rw [show ((m : Int) - 1 + 1).toNat = m from by omega]
        exact HR.out
      case measure => simp [intOf]
    · go_wp2
      go_ret
      exact ⟨rfl, ⟨n, D, hown, by rw [show (x + 1).toNat = 0 from by omega] at ht; exact ht⟩, hb⟩
end Go.Proofs.Ytabpiaaknjcnkaa
