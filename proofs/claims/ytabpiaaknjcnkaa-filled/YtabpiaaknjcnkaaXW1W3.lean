/- The texts W1, W3, one behind the other. -/
import Derived.Test.YtabpiaaknjcnkaaRows
import Derived.Test.YtabpiaaknjcnkaaP1
import Derived.WalkKit
import Derived.WalkSpells
import Derived.WalkLawsBesides
import Derived.Deep.QuietTactic
import Derived.BigQuiet
import Derived.RegionTactic
import Derived.LoopTactic
/-
  The walks over the small functions: short, pick, isCopy, size, stands.
-/
namespace Go.Proofs.Ytabpiaaknjcnkaa
open Go.RowKit
set_option linter.unusedVariables false
set_option linter.unusedSimpArgs false
set_option maxRecDepth 100000

theorem ret_int {k : IntKind} {a b : Int} (h : a = b) : Ending.returned (.int k a) = .returned (.int k b) := by rw [h]
theorem ret_bool {a b : Bool} (h : a = b) : Ending.returned (.bool a) = .returned (.bool b) := by rw [h]
theorem ret_str {a b : ByteArray} (h : a = b) : Ending.returned (.string a) = .returned (.string b) := by rw [h]

def shortB (s : ByteArray) (n : Nat) : ByteArray := if n < s.size then s.extract 0 n else s

set_option maxHeartbeats 400000 in
theorem short_any (s : ByteArray) (n : Nat) (w : World) (hn : n ≤ 100000) (hs : s.size ≤ 9223372036854775807) :
    Calls Try.prog 9 #[.string s, .int .i64 n] w fun e w' => e = .returned (.string (shortB s n)) ∧ w' = w := by
  by_cases h : n < s.size
  · go_enter Try.func9, Try.ntmps9
    go_wp2
    go_ret
    exact ⟨by simp [shortB, h], rfl⟩
  · go_enter Try.func9, Try.ntmps9
    go_wp2
    go_ret
    exact ⟨by simp [shortB, h], rfl⟩

def pickN (c : Int) (n : Nat) : Nat := (if c < 0 then -(c + 1) else c).toNat % n
theorem pickN_lt (c : Int) (n : Nat) (h : 0 < n) : pickN c n < n := Nat.mod_lt _ h

set_option maxHeartbeats 400000 in
theorem pick_any (c : Int) (n : Nat) (w : World) (hc : -9223372036854775808 ≤ c) (hc2 : c ≤ 9223372036854775807) (hn0 : 0 < n) (hn : n ≤ 9223372036854775807) :
    Calls Try.prog 16 #[.int .i64 c, .int .i64 n] w fun e w' => e = .returned (.int .i64 (pickN c n)) ∧ w' = w := by
  by_cases h : c < 0
  · go_enter Try.func16, Try.ntmps16
    go_wp2
    go_ret
    refine ⟨ret_int ?_, rfl⟩
    obtain ⟨m, hm⟩ : ∃ m : Nat, -(c + 1) = (m : Int) := ⟨(-(c + 1)).toNat, by omega⟩
    have e : c + 1 = -(m : Int) := by omega
    rw [pickN, if_pos h, hm, e, Int.toNat_natCast, Int.neg_tmod]
    simp
    exact Int.tmod_eq_emod_of_nonneg (by omega)
  · go_enter Try.func16, Try.ntmps16
    go_wp2
    go_ret
    refine ⟨ret_int ?_, rfl⟩
    obtain ⟨m, rfl⟩ : ∃ m : Nat, c = (m : Int) := ⟨c.toNat, by omega⟩
    rw [pickN, if_neg (by omega), Int.toNat_natCast]
    simp

theorem pick_eq (c : Int) (n : Nat) (w : World) (hc : -9223372036854775808 ≤ c) (hc2 : c ≤ 9223372036854775807) (hn0 : 0 < n) (hn : n ≤ 9223372036854775807) :
    Calls Try.prog 16 #[.int .i64 c, .int .i64 n] w fun e w' => e = .returned (.int .i64 (pickN c n)) ∧ w = w' :=
  (pick_any c n w hc hc2 hn0 hn).mono fun _ _ ⟨h1, h2⟩ => ⟨h1, h2.symm⟩
theorem short_eq (s : ByteArray) (n : Nat) (w : World) (hn : n ≤ 100000) (hs : s.size ≤ 9223372036854775807) :
    Calls Try.prog 9 #[.string s, .int .i64 n] w fun e w' => e = .returned (.string (shortB s n)) ∧ w = w' :=
  (short_any s n w hn hs).mono fun _ _ ⟨h1, h2⟩ => ⟨h1, h2.symm⟩
theorem shortB_size (s : ByteArray) (n : Nat) : (shortB s n).size ≤ n := by
  unfold shortB; split
  · rw [ByteArray.size_extract]; omega
  · omega

set_option maxHeartbeats 400000 in
theorem isCopy_any (f l : Int) (t : ByteArray) (w : World) :
    Calls Try.prog 45 #[.agg #[.int .i64 f, .int .i64 l, .string t]] w fun e w' => e = .returned (.bool (decide (0 < l))) ∧ Below w.heap.size w w' := by
  go_enter Try.func45, Try.ntmps45
  go_wp2
  go_ret
  exact ⟨rfl, (Below.refl _ _).alloc (Nat.le_refl _) _⟩

set_option maxHeartbeats 400000 in
theorem size_any (f l : Int) (t : ByteArray) (w : World) :
    Calls Try.prog 72 #[.agg #[.int .i64 f, .int .i64 l, .string t]] w fun e w' => e = .returned (.int .i64 (sizeI l t)) ∧ Below w.heap.size w w' := by
  by_cases h : 0 < l
  · go_enter Try.func72, Try.ntmps72
    go_wp2
    go_ret
    exact ⟨ret_int (by rw [sizeI, if_pos h]), ((Below.refl _ _).alloc (Nat.le_refl _) _).alloc (by simp) _⟩
  · go_enter Try.func72, Try.ntmps72
    go_wp2
    go_ret
    exact ⟨ret_int (by rw [sizeI, if_neg (by omega)]), ((Below.refl _ _).alloc (Nat.le_refl _) _).alloc (by simp) _⟩

end Go.Proofs.Ytabpiaaknjcnkaa

/-
  The walks over stands and sameBytes.
-/
namespace Go.Proofs.Ytabpiaaknjcnkaa
open Go.RowKit
set_option linter.unusedVariables false
set_option linter.unusedSimpArgs false
set_option maxRecDepth 100000

theorem bytes_ext {a b : ByteArray} (h : a.data.toList = b.data.toList) : a = b := by
  rw [← Lib.mk_data a, ← Lib.mk_data b, h]
theorem eq_of_beq_toList {a b : ByteArray} (h : (a.toList == b.toList) = true) : a = b :=
  bytes_ext (by rw [← Lib.toList_data, ← Lib.toList_data]; exact beq_iff_eq.1 h)

set_option maxHeartbeats 400000 in
theorem stands_no (s t : ByteArray) (w : World) (hs : s.size ≤ 100000) (ht : t.size ≤ 100000) (h : ∀ j, j + t.size ≤ s.size → s.extract j (j + t.size) ≠ t) :
    Calls Try.prog 13 #[.string s, .string t] w fun e w' => e = .returned (.bool false) ∧ w' = w := by
  have H : Hid (∀ j, j + t.size ≤ s.size → s.extract j (j + t.size) ≠ t) := h
  clear h
  go_enter Try.func13, Try.ntmps13
  go_wp2
  go_loop [5] (fun i => ∃ k : Nat, k ≤ s.size + 1 ∧ i = .int .i64 k) (fun i => s.size + 1 - (intOf i).toNat)
  case atStart => exact ⟨0, by omega, rfl⟩
  case round =>
    obtain ⟨k, hk, rfl⟩ := hrel
    by_cases hlt : k + t.size ≤ s.size
    · have hne := H.out k hlt
      go_wp2
      · exact absurd (eq_of_beq_toList (by assumption)) hne
      · go_round
        case rel => exact ⟨k + 1, by omega, by go_num⟩
        case measure => simp [intOf]; omega
    · go_wp2
      go_ret
      exact ⟨rfl, rfl⟩

theorem stands_eq (s t : ByteArray) (w : World) (hs : s.size ≤ 100000) (ht : t.size ≤ 100000) (h : ∀ j, j + t.size ≤ s.size → s.extract j (j + t.size) ≠ t) :
    Calls Try.prog 13 #[.string s, .string t] w fun e w' => e = .returned (.bool false) ∧ w = w' :=
  (stands_no s t w hs ht h).mono fun _ _ ⟨h1, h2⟩ => ⟨h1, h2.symm⟩

theorem byte_get (a : ByteArray) (k : Nat) (h : k < a.size) : a.data.toList[k]? = some a[k] := by
  rw [List.getElem?_eq_getElem (by simpa using h)]; rfl

theorem byte_eq {x y : UInt8} (h : ((x.toNat : Int) == (y.toNat : Int)) = true) : x = y := by
  have : (x.toNat : Int) = y.toNat := by simpa using h
  exact UInt8.toNat_inj.1 (by omega)
theorem byte_ne {x y : UInt8} (h : ((x.toNat : Int) == (y.toNat : Int)) = false) : x ≠ y := by
  intro e; subst e; simp at h

set_option maxHeartbeats 1000000 in
theorem sameBytes_any (a b : ByteArray) (w : World) (hs : a.size ≤ 100000) (ht : b.size ≤ 100000) :
    Calls Try.prog 69 #[.string a, .string b] w fun e w' => e = .returned (.int .i64 (same a b)) ∧ ∃ n, w' = w.drewN n := by
  have HA : Hid (∀ k, (h : k < a.size) → a.data.toList[k]? = some a[k]) := fun k h => byte_get a k h
  have HB : Hid (∀ k, (h : k < b.size) → b.data.toList[k]? = some b[k]) := fun k h => byte_get b k h
  go_enter Try.func69, Try.ntmps69
  go_wp2
  go_loopw [5] (fun i wr => ∃ k : Nat, k ≤ a.size ∧ k ≤ b.size ∧ i = .int .i64 k ∧ (∀ j, j < k → a.data.toList[j]? = b.data.toList[j]?) ∧ ∃ n, wr = w.drewN n) (fun i _ => a.size + 1 - (intOf i).toNat)
  case atStart => exact ⟨0, by omega, by omega, rfl, fun j hj => by omega, 0, rfl⟩
  case round =>
    obtain ⟨k, hk, hk2, rfl, he, n, hn⟩ := hrel
    have HE : Hid (∀ j, j < k → a.data.toList[j]? = b.data.toList[j]?) := he
    have HN : Hid (∃ n, wr = w.drewN n) := ⟨n, hn⟩
    clear he hn
    by_cases hlt : k < a.size
    · have hd : decide ((k : Int) < (a.size : Int)) = true := by simp; omega
      by_cases hlt2 : k < b.size
      · have hd2 : decide ((k : Int) < (b.size : Int)) = true := by simp; omega
        go_wp2
        go_quiet (fail)
        go_wp2
        · go_roundw
          case rel =>
            refine ⟨k + 1, by omega, by omega, by go_num, ?_, ?_⟩
            · intro j hj
              by_cases e : j = k
              · subst e; have e2 := byte_eq (x := a[j]) (y := b[j]) (by assumption); rw [HA.out j hlt, HB.out j hlt2, e2]
              · exact HE.out j (by omega)
            · obtain ⟨n, hn⟩ := HN.out; exact ⟨n + nq, by rw [hn, World.drewN_drewN]⟩
          case measure => simp [intOf]; omega
        · go_ret
          refine ⟨ret_int ?_, ?_⟩
          · rw [same, cpl_of _ _ k (by rw [← Lib.size_eq]; omega) (by rw [← Lib.size_eq]; omega) HE.out (.inr (.inr ?_))]
            rw [HA.out k hlt, HB.out k hlt2]
            intro e
            exact byte_ne (x := a[k]) (y := b[k]) (by assumption) (by simpa using e)
          · obtain ⟨n, hn⟩ := HN.out; exact ⟨n + nq, by rw [hn, World.drewN_drewN]⟩
      · have hd2 : decide ((k : Int) < (b.size : Int)) = false := by simp; omega
        go_wp2
        go_quiet (fail)
        go_wp2
        go_ret
        refine ⟨ret_int ?_, ?_⟩
        · rw [same, cpl_of _ _ k (by rw [← Lib.size_eq]; omega) (by rw [← Lib.size_eq]; omega) HE.out (.inr (.inl ?_))]
          rw [← Lib.size_eq]; omega
        · obtain ⟨n, hn⟩ := HN.out; exact ⟨n + nq, by rw [hn, World.drewN_drewN]⟩
    · have hd : decide ((k : Int) < (a.size : Int)) = false := by simp; omega
      go_wp2
      go_quiet (fail)
      go_wp2
      go_ret
      refine ⟨ret_int ?_, ?_⟩
      · rw [same, cpl_of _ _ k (by rw [← Lib.size_eq]; omega) (by rw [← Lib.size_eq]; omega) HE.out (.inl ?_)]
        rw [← Lib.size_eq]; omega
      · obtain ⟨n, hn⟩ := HN.out; exact ⟨n + nq, by rw [hn, World.drewN_drewN]⟩
end Go.Proofs.Ytabpiaaknjcnkaa
