/- The texts W1, W3, W4, one behind the other. -/
import Derived.Test.YtabpiaaknjcnkabGreatRows
import Derived.Test.YtabpiaaknjcnkabGreatXP1P2
import Derived.WalkKit
import Derived.WalkSpells
import Derived.WalkLawsBesides
import Derived.Deep.QuietTactic
import Derived.BigQuiet
import Derived.RegionTactic
import Derived.LoopTactic
import Derived.Maps.Own
import Derived.Maps.OwnSet
/-
  The walks over the small functions: short, pick, isCopy, size, stands.
-/
namespace Go.Proofs.YtabpiaaknjcnkabGreat
open Go.RowKit
set_option linter.unusedVariables false
set_option linter.unusedSimpArgs false
set_option maxRecDepth 100000

theorem ret_int {k : IntKind} {a b : Int} (h : a = b) : Ending.returned (.int k a) = .returned (.int k b) := by rw [h]
theorem ret_bool {a b : Bool} (h : a = b) : Ending.returned (.bool a) = .returned (.bool b) := by rw [h]
theorem ret_str {a b : ByteArray} (h : a = b) : Ending.returned (.string a) = .returned (.string b) := by rw [h]

def shortB (s : ByteArray) (n : Nat) : ByteArray := if n < s.size then s.extract 0 n else s

set_option maxHeartbeats 400000 in
theorem short_any (s : ByteArray) (n : Nat) (w : World) (hn : n ≤ 100000) (hs : s.size ≤ 9223372036854775807) :
    Calls Tryz.prog 22 #[.string s, .int .i64 n] w fun e w' => e = .returned (.string (shortB s n)) ∧ w' = w := by
  by_cases h : n < s.size
  · go_enter Tryz.func22, Tryz.ntmps22
    go_wp2
    go_ret
    exact ⟨by simp [shortB, h], rfl⟩
  · go_enter Tryz.func22, Tryz.ntmps22
    go_wp2
    go_ret
    exact ⟨by simp [shortB, h], rfl⟩

def pickN (c : Int) (n : Nat) : Nat := (if c < 0 then -(c + 1) else c).toNat % n
theorem pickN_lt (c : Int) (n : Nat) (h : 0 < n) : pickN c n < n := Nat.mod_lt _ h

set_option maxHeartbeats 400000 in
theorem pick_any (c : Int) (n : Nat) (w : World) (hc : -9223372036854775808 ≤ c) (hc2 : c ≤ 9223372036854775807) (hn0 : 0 < n) (hn : n ≤ 9223372036854775807) :
    Calls Tryz.prog 10 #[.int .i64 c, .int .i64 n] w fun e w' => e = .returned (.int .i64 (pickN c n)) ∧ w' = w := by
  by_cases h : c < 0
  · go_enter Tryz.func10, Tryz.ntmps10
    go_wp2
    go_ret
    refine ⟨ret_int ?_, rfl⟩
    obtain ⟨m, hm⟩ : ∃ m : Nat, -(c + 1) = (m : Int) := ⟨(-(c + 1)).toNat, by omega⟩
    have e : c + 1 = -(m : Int) := by omega
    rw [pickN, if_pos h, hm, e, Int.toNat_natCast, Int.neg_tmod]
    simp
    exact Int.tmod_eq_emod_of_nonneg (by omega)
  · go_enter Tryz.func10, Tryz.ntmps10
    go_wp2
    go_ret
    refine ⟨ret_int ?_, rfl⟩
    obtain ⟨m, rfl⟩ : ∃ m : Nat, c = (m : Int) := ⟨c.toNat, by omega⟩
    rw [pickN, if_neg (by omega), Int.toNat_natCast]
    simp

theorem pick_eq (c : Int) (n : Nat) (w : World) (hc : -9223372036854775808 ≤ c) (hc2 : c ≤ 9223372036854775807) (hn0 : 0 < n) (hn : n ≤ 9223372036854775807) :
    Calls Tryz.prog 10 #[.int .i64 c, .int .i64 n] w fun e w' => e = .returned (.int .i64 (pickN c n)) ∧ w = w' :=
  (pick_any c n w hc hc2 hn0 hn).mono fun _ _ ⟨h1, h2⟩ => ⟨h1, h2.symm⟩
theorem short_eq (s : ByteArray) (n : Nat) (w : World) (hn : n ≤ 100000) (hs : s.size ≤ 9223372036854775807) :
    Calls Tryz.prog 22 #[.string s, .int .i64 n] w fun e w' => e = .returned (.string (shortB s n)) ∧ w = w' :=
  (short_any s n w hn hs).mono fun _ _ ⟨h1, h2⟩ => ⟨h1, h2.symm⟩
theorem shortB_size (s : ByteArray) (n : Nat) : (shortB s n).size ≤ n := by
  unfold shortB; split
  · rw [ByteArray.size_extract]; omega
  · omega

set_option maxHeartbeats 400000 in
theorem isCopy_any (f l : Int) (t : ByteArray) (w : World) :
    Calls Tryz.prog 43 #[.agg #[.int .i64 f, .int .i64 l, .string t]] w fun e w' => e = .returned (.bool (decide (0 < l))) ∧ Below w.heap.size w w' := by
  go_enter Tryz.func43, Tryz.ntmps43
  go_wp2
  go_ret
  exact ⟨rfl, (Below.refl _ _).alloc (Nat.le_refl _) _⟩

set_option maxHeartbeats 400000 in
theorem size_any (f l : Int) (t : ByteArray) (w : World) :
    Calls Tryz.prog 72 #[.agg #[.int .i64 f, .int .i64 l, .string t]] w fun e w' => e = .returned (.int .i64 (sizeI l t)) ∧ Below w.heap.size w w' := by
  by_cases h : 0 < l
  · go_enter Tryz.func72, Tryz.ntmps72
    go_wp2
    go_ret
    exact ⟨ret_int (by rw [sizeI, if_pos h]), ((Below.refl _ _).alloc (Nat.le_refl _) _).alloc (by simp) _⟩
  · go_enter Tryz.func72, Tryz.ntmps72
    go_wp2
    go_ret
    exact ⟨ret_int (by rw [sizeI, if_neg (by omega)]), ((Below.refl _ _).alloc (Nat.le_refl _) _).alloc (by simp) _⟩

end Go.Proofs.YtabpiaaknjcnkabGreat

/-
  The walks over stands and sameBytes.
-/
namespace Go.Proofs.YtabpiaaknjcnkabGreat
open Go.RowKit
set_option linter.unusedVariables false
set_option linter.unusedSimpArgs false
set_option maxRecDepth 100000

theorem bytes_ext {a b : ByteArray} (h : a.data.toList = b.data.toList) : a = b := by
  rw [← Lib.mk_data a, ← Lib.mk_data b, h]
theorem eq_of_beq_toList {a b : ByteArray} (h : (a.toList == b.toList) = true) : a = b :=
  bytes_ext (by rw [← Lib.toList_data, ← Lib.toList_data]; exact beq_iff_eq.1 h)

theorem byte_get (a : ByteArray) (k : Nat) (h : k < a.size) : a.data.toList[k]? = some a[k] := by
  rw [List.getElem?_eq_getElem (by simpa using h)]; rfl

theorem byte_eq {x y : UInt8} (h : ((x.toNat : Int) == (y.toNat : Int)) = true) : x = y := by
  have : (x.toNat : Int) = y.toNat := by simpa using h
  exact UInt8.toNat_inj.1 (by omega)
theorem byte_ne {x y : UInt8} (h : ((x.toNat : Int) == (y.toNat : Int)) = false) : x ≠ y := by
  intro e; subst e; simp at h

set_option maxHeartbeats 1000000 in
theorem sameBytes_any (a b : ByteArray) (w : World) (hs : a.size ≤ 100000) (ht : b.size ≤ 100000) :
    Calls Tryz.prog 69 #[.string a, .string b] w fun e w' => e = .returned (.int .i64 (same a b)) ∧ ∃ n, w' = w.drewN n := by
  have HA : Hid (∀ k, (h : k < a.size) → a.data.toList[k]? = some a[k]) := fun k h => byte_get a k h
  have HB : Hid (∀ k, (h : k < b.size) → b.data.toList[k]? = some b[k]) := fun k h => byte_get b k h
  go_enter Tryz.func69, Tryz.ntmps69
  go_wp2
  go_loopw [5] (fun i wr => ∃ k : Nat, k ≤ a.size ∧ k ≤ b.size ∧ i = .int .i64 k ∧ (∀ j, j < k → a.data.toList[j]? = b.data.toList[j]?) ∧ ∃ n, wr = w.drewN n) (fun i _ => a.size + 1 - (intOf i).toNat)
  case atStart => exact ⟨0, by omega, by omega, rfl, fun j hj => by omega, 0, rfl⟩
  case round =>
    obtain ⟨k, hk, hk2, rfl, he, n, hn⟩ := hrel
    have HE : Hid (∀ j, j < k → a.data.toList[j]? = b.data.toList[j]?) := he
    have HN : Hid (∃ n, wr = w.drewN n) := ⟨n, hn⟩
    clear he hn
    by_cases hlt : k < a.size
    · have hd : decide ((k : Int) < (a.size : Int)) = true := by simp; omega
      by_cases hlt2 : k < b.size
      · have hd2 : decide ((k : Int) < (b.size : Int)) = true := by simp; omega
        go_wp2
        go_quiet (fail)
        go_wp2
        · go_roundw
          case rel =>
            refine ⟨k + 1, by omega, by omega, by go_num, ?_, ?_⟩
            · intro j hj
              by_cases e : j = k
              · subst e; have e2 := byte_eq (x := a[j]) (y := b[j]) (by assumption); rw [HA.out j hlt, HB.out j hlt2, e2]
              · exact HE.out j (by omega)
            · obtain ⟨n, hn⟩ := HN.out; exact ⟨n + nq, by rw [hn, World.drewN_drewN]⟩
          case measure => simp [intOf]; omega
        · go_ret
          refine ⟨ret_int ?_, ?_⟩
          · rw [same, cpl_of _ _ k (by rw [← Lib.size_eq]; omega) (by rw [← Lib.size_eq]; omega) HE.out (.inr (.inr ?_))]
            rw [HA.out k hlt, HB.out k hlt2]
            intro e
            exact byte_ne (x := a[k]) (y := b[k]) (by assumption) (by simpa using e)
          · obtain ⟨n, hn⟩ := HN.out; exact ⟨n + nq, by rw [hn, World.drewN_drewN]⟩
      · have hd2 : decide ((k : Int) < (b.size : Int)) = false := by simp; omega
        go_wp2
        go_quiet (fail)
        go_wp2
        go_ret
        refine ⟨ret_int ?_, ?_⟩
        · rw [same, cpl_of _ _ k (by rw [← Lib.size_eq]; omega) (by rw [← Lib.size_eq]; omega) HE.out (.inr (.inl ?_))]
          rw [← Lib.size_eq]; omega
        · obtain ⟨n, hn⟩ := HN.out; exact ⟨n + nq, by rw [hn, World.drewN_drewN]⟩
    · have hd : decide ((k : Int) < (a.size : Int)) = false := by simp; omega
      go_wp2
      go_quiet (fail)
      go_wp2
      go_ret
      refine ⟨ret_int ?_, ?_⟩
      · rw [same, cpl_of _ _ k (by rw [← Lib.size_eq]; omega) (by rw [← Lib.size_eq]; omega) HE.out (.inl ?_)]
        rw [← Lib.size_eq]; omega
      · obtain ⟨n, hn⟩ := HN.out; exact ⟨n + nq, by rw [hn, World.drewN_drewN]⟩
end Go.Proofs.YtabpiaaknjcnkabGreat

/-
  The walk over firstPlaces: the map holds, for each stretch of eight bytes, where it stands first.
-/
namespace Go.Proofs.YtabpiaaknjcnkabGreat
open Go.RowKit Go.Maps Go.WideMaps
set_option linter.unusedVariables false
set_option linter.unusedSimpArgs false
set_option maxRecDepth 100000

theorem Tryz.keyLaw : Keyed Tryz.prog 9 := string_keyed Tryz.underlying9
theorem Tryz.zeroInt (w : World) : (zeroValue 3).run Tryz.prog w = .ok (.int .i64 0) w := by kernel_rfl

/-- The map tells of the stretches from m on. -/
def Tells (base : List UInt8) (m : Nat) (D : DataW Unit) : Prop :=
  IsMap D ∧ (∀ key j, IsFirst base m key j → Maps.has D (.string key) = true ∧ D.atKey (.string key) (.lit (.int .i64 0)) = .lit (.int .i64 j)) ∧
    (∀ key, (∀ j, m ≤ j → ¬ occ base key j) → Maps.has D (.string key) = false)

theorem tells_start (base : List UInt8) (m : Nat) (h : base.length < m + 8) : Tells base m (.map []) := by
  refine ⟨isMap_empty, fun key j hf => ?_, fun key _ => rfl⟩
  have := hf.2.1.1; have := hf.1; omega

theorem tells_step {base : List UInt8} {m : Nat} {D : DataW Unit} (h : Tells base (m + 1) D) (hm : m + 8 ≤ base.length) :
    Tells base m (D.put (.string ((base.drop m).take 8)) (.lit (.int .i64 m))) := by
  obtain ⟨h1, h2, h3⟩ := h
  refine ⟨h1.put _ _, fun key j hf => ?_, fun key hn => ?_⟩
  · by_cases e : key = (base.drop m).take 8
    · subst e
      have : j = m := by
        rcases Nat.lt_or_ge m j with hlt | hge
        · exact absurd ⟨hm, rfl⟩ (hf.2.2 m (Nat.le_refl _) hlt)
        · have := hf.1; omega
      subst this
      exact ⟨has_put_same h1 (show WideAt.IsKeyLit (.string _) from trivial) _, atKey_put_same h1 (show WideAt.IsKeyLit (.string _) from trivial) _ _⟩
    · have hne : (Lit.string key) ≠ .string ((base.drop m).take 8) := fun h => e (by simpa using h)
      have hj : m ≠ j := by
        rintro rfl
        exact e hf.2.1.2.symm
      have hf' : IsFirst base (m + 1) key j := ⟨by have := hf.1; omega, hf.2.1, fun i hi hij => hf.2.2 i (by omega) hij⟩
      have := h2 key j hf'
      exact ⟨(has_put_other hne _).trans this.1, (atKey_put_other hne _ _).trans this.2⟩
  · have e : key ≠ (base.drop m).take 8 := by
      rintro rfl
      exact hn m (Nat.le_refl _) ⟨hm, rfl⟩
    have hne : (Lit.string key) ≠ .string ((base.drop m).take 8) := fun h => e (by simpa using h)
    exact (has_put_other hne _).trans (h3 key fun j hj => hn j (by omega))

set_option maxHeartbeats 1000000 in
theorem firstPlaces_any (base : ByteArray) (w : World) (hs : base.size ≤ 100000) :
    Calls Tryz.prog 68 #[.string base] w fun e w' => e = .returned (.map (some w.heap.size)) ∧
      (∃ n D, w'.ownsMap Tryz.prog 9 (plainElem Tryz.prog 3) w.heap.size n D ∧ Tells base.data.toList 0 D) ∧ Below w.heap.size w w' := by
  have hmm := @run_makeMap Tryz.prog
  go_enter Tryz.func68, Tryz.ntmps68
  go_wp2
  go_loopw [4] (fun i wr => ∃ (x : Int) (n : Nat) (D : DataW Unit), i = .int .i64 x ∧ -8 ≤ x ∧ x + 8 ≤ base.size ∧ (n : Int) + (x + 1).toNat ≤ base.size + 1 ∧ wr.ownsMap Tryz.prog 9 (plainElem Tryz.prog 3) w.heap.size n D ∧ Tells base.data.toList (x + 1).toNat D ∧ Below w.heap.size w wr)
    (fun i _ => (intOf i + 1).toNat)
  case atStart =>
    exact ⟨_, 0, .map [], rfl, by omega, by omega, by omega, World.ownsMap_made _ _ _ _, tells_start _ _ (by rw [← Lib.size_eq]; omega), (Below.refl _ _).alloc (Nat.le_refl _) _⟩
  case round =>
    obtain ⟨x, n, D, rfl, hx, hx8, hn, hown, ht, hb⟩ := hrel
    by_cases hlt : 0 ≤ x
    · obtain ⟨m, rfl⟩ : ∃ m : Nat, x = (m : Int) := ⟨x.toNat, by omega⟩
      have HT : Hid (Tells base.data.toList ((m : Int) + 1).toNat D) := ht
      clear ht
      go_wp2_with (first | (at_mapUpdate; refine wpList_mapUpdate_own _ rfl _ _ _ 111 rfl 9 3 Tryz.keyLaw Tryz.underlying111 _ w.heap.size n _ rfl hown (by unfold maxLen; omega) _ _ _ rfl rfl (keyOf_string_mk Tryz.underlying9 ?hkey) _ [] (plainElem_int Tryz.underlying3 (WalkArith.wf_i64 (by omega))) ?_) | go_in)
      case hkey => simp [maxLen]; omega
      intro w1 hown1 hgrow1
      have HR : Hid (Tells base.data.toList m (D.put (.string (List.take 8 (List.drop m base.data.toList))) (.lit (.int .i64 m)))) := by
        have h := HT.out
        rw [show ((m : Int) + 1).toNat = m + 1 from by omega] at h
        exact tells_step h (by rw [← Lib.size_eq]; omega)
      go_wp2
      go_roundw
      case rel =>
        refine ⟨(m : Int) - 1, n + 1, _, by go_num, by omega, by omega, by omega, hown1, ?_, hb.grown hgrow1 hb.size (fun j hj => by cases hj; exact Nat.le_refl _)⟩
        rw [show ((m : Int) - 1 + 1).toNat = m from by omega]
        exact HR.out
      case measure => simp [intOf]
    · go_wp2
      go_ret
      exact ⟨rfl, ⟨n, D, hown, by rw [show (x + 1).toNat = 0 from by omega] at ht; exact ht⟩, hb⟩
end Go.Proofs.YtabpiaaknjcnkabGreat
