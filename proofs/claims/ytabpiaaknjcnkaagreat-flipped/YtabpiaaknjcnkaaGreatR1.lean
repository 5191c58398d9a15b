/-
  The document's answer: find, made.
-/
import Derived.Test.YtabpiaaknjcnkaaGreatXWCL1L2
import Derived.Test.YtabpiaaknjcnkaaGreatXW1W3W4
import Derived.Deep.QuietTactic
import Derived.BigQuiet
import Derived.LoopTactic
namespace Go.Proofs.YtabpiaaknjcnkaaGreat
open Go.RowKit
set_option linter.unusedVariables false
set_option linter.unusedSimpArgs false
set_option maxRecDepth 100000

theorem bytes_app (a b : ByteArray) : (a ++ b).data.toList = a.data.toList ++ b.data.toList := by
  rw [ByteArray.data_append, Array.toList_append]

def foundI (base key : List UInt8) : Int := match findFirst base key with | some j => (j : Int) | none => -1

set_option maxHeartbeats 1000000 in
theorem find_any (s t : ByteArray) (w : World) (hs : s.size ≤ 100000) (ht : t.size = 8) :
    Calls Tryz.prog 94 #[.string s, .string t] w fun e w' => e = .returned (.int .i64 (foundI s.data.toList t.data.toList)) ∧ w = w' := by
  have HT : Hid (t.size = 8) := ht
  have ht8 : (t.size : Int) = 8 := by omega
  have hle : t.size ≤ 8 := by omega
  have hge : 8 ≤ t.size := by omega
  clear ht ht8
  go_enter Tryz.func94, Tryz.ntmps94
  go_wp2
  go_loop [5] (fun i => ∃ k : Nat, k ≤ s.size + 1 ∧ i = .int .i64 k ∧ Hid (∀ j, j < k → ¬ occ s.data.toList t.data.toList j)) (fun i => s.size + 1 - (intOf i).toNat)
  case atStart => exact ⟨0, by omega, rfl, fun j hj => by omega⟩
  case round =>
    obtain ⟨k, hk, rfl, HK⟩ := hrel
    by_cases hlt : k + t.size ≤ s.size
    · have HE : Hid (((s.extract k (k + t.size)).toList == t.toList) = true → occ s.data.toList t.data.toList k) := by
        intro h
        have e := eq_of_beq_toList h
        refine ⟨by rw [← Lib.size_eq]; omega, ?_⟩
        have e2 := congrArg (fun x : ByteArray => x.data.toList) e
        simp only [Lib.extract_data] at e2
        rw [show k + t.size - k = 8 from by omega] at e2
        exact e2
      have HN : Hid (((s.extract k (k + t.size)).toList == t.toList) = false → ¬ occ s.data.toList t.data.toList k) := by
        intro h ho
        have : s.extract k (k + t.size) = t := bytes_ext (by rw [Lib.extract_data, show k + t.size - k = 8 from by omega]; exact ho.2)
        rw [this] at h
        simp at h
      go_wp2
      · have hoc := HE.out (by assumption)
        go_ret
        refine ⟨ret_int ?_, rfl⟩
        rw [foundI, findFirst_of ⟨Nat.zero_le _, hoc, fun i _ hi => HK.out i hi⟩]
      · have hoc := HN.out (by assumption)
        go_round
        case rel => exact ⟨k + 1, by omega, by go_num, fun j hj => by
          by_cases e : j = k
          · subst e; exact hoc
          · exact HK.out j (by omega)⟩
        case measure => simp [intOf]; omega
    · go_wp2
      go_ret
      refine ⟨ret_int ?_, rfl⟩
      have hno : ∀ j, ¬ occ s.data.toList t.data.toList j := by
        intro j ho
        rcases Nat.lt_or_ge j k with h | h
        · exact HK.out j h ho
        · have := ho.1; rw [← Lib.size_eq] at this; have := HT.out; omega
      rw [foundI, findFirst_of_none hno]

set_option maxHeartbeats 2000000 in
theorem made_two (base : ByteArray) (b off cap : Nat) (xs : List DOp) (w : World) (h : base.size ≤ 2000) (hx : xs.length ≤ 5000000000000) (hr : ReadsAt w b off xs) (hall : ∀ o ∈ xs, isOpB o.fr o.len o.tx base.size = true)
    (hmade : (madeL base.data.toList xs).length ≤ 2000) :
    Calls Tryz.prog 97 #[.string base, .slice (some ⟨b, off, none⟩) xs.length cap] w fun e w' => e = .returned (.string ⟨(madeL base.data.toList xs).toArray⟩) ∧ ∃ n, w' = w.drewN n := by
  have HR : Hid (ReadsAt w b off xs) := hr
  have HA : Hid (∀ o ∈ xs, isOpB o.fr o.len o.tx base.size = true) := hall
  clear hr hall
  go_enter Tryz.func97, Tryz.ntmps97
  go_wp2
  go_loopw [5, 6] (fun s i wr => ∃ (k n : Nat) (S : ByteArray), k ≤ xs.length ∧ i = .int .i64 k ∧ s = .string S ∧ Hid (S.data.toList = madeL base.data.toList (xs.take k)) ∧ wr = w.drewN n) (fun _ i _ => xs.length + 1 - (intOf i).toNat)
  case atStart => exact ⟨0, 0, ⟨#[]⟩, by omega, rfl, rfl, rfl, rfl⟩
  case round =>
    obtain ⟨k, n, S, hk, rfl, rfl, HS, hwr⟩ := hrel
    subst hwr
    by_cases hlt : k < xs.length
    · obtain ⟨⟨f, l, t⟩, ho⟩ : ∃ o, xs[k]? = some o := ⟨xs[k], by simp [hlt]⟩
      obtain ⟨r0, r1, r2⟩ := HR.out k _ ho
      have c0 : (w.drewN n).cell? ⟨b, off + k * 3, none⟩ = some (.int .i64 f) := r0
      have c1 : (w.drewN n).cell? ⟨b, off + k * 3 + 1, none⟩ = some (.int .i64 l) := r1
      have c2 : (w.drewN n).cell? ⟨b, off + k * 3 + 2, none⟩ = some (.string t) := r2
      have hop := HA.out _ (List.mem_of_getElem? ho)
      simp only at hop
      have hsucc := madeL_take_succ base.data.toList xs k _ ho
      have hle := madeL_take_le base.data.toList xs (k + 1)
      rw [hsucc, List.length_append, ← HS.out, ← Lib.size_eq] at hle
      have HC : Hid (madeL base.data.toList (xs.take (k + 1)) = S.data.toList ++ opBytes base.data.toList ⟨f, l, t⟩) := by
        show _ = _
        rw [hsucc, HS.out]
      clear hsucc ho
      have q1 : (k : Int) < (xs.length : Int) := by omega
      have q2 : (0 : Int) ≤ (k : Int) := by omega
      by_cases hl0 : 0 < l
      · obtain ⟨hf0, hfl⟩ := isOpB_copy hop hl0
        obtain ⟨fn, rfl⟩ := Int.eq_ofNat_of_zero_le hf0
        obtain ⟨ln, rfl⟩ := Int.eq_ofNat_of_zero_le (Int.le_of_lt hl0)
        have hfl' : fn + ln ≤ base.size := by omega
        have HB : Hid (opBytes base.data.toList ⟨fn, ln, t⟩ = (base.extract fn (fn + ln)).data.toList) := by
          show opBytes _ _ = _
          rw [opBytes, if_pos hl0, Lib.extract_data]; simp
        rw [HB.out, ← Lib.size_eq] at hle
        have q3 : IntKind.i64.wrap ((fn : Int) + (ln : Int)) = (fn : Int) + (ln : Int) := by rw [IntKind.wrap_i64]; omega
        have q4 : (fn : Int) + (ln : Int) ≤ (base.size : Int) := by omega
        have q5 : (0 : Int) ≤ (fn : Int) := by omega
        have q6 : (fn : Int) ≤ (fn : Int) + (ln : Int) := by omega
        have q7 : (0 : Int) ≤ (fn : Int) + (ln : Int) := by omega
        have hadd : ∀ W : World, (Op.stringOp .add S (base.extract fn (fn + ln))).run Tryz.prog W = .ok (.string (S ++ base.extract fn (fn + ln))) W := fun W => run_string_add_sum W _ _ (by omega)
        clear hop
        go_wp2
        go_quiet (fail)
        go_wp2
        go_roundw
        case rel => exact ⟨k + 1, n + nq, _, by omega, by go_num, rfl, by
            show _ = _
            rw [bytes_app, HC.out, HB.out], rfl⟩
        case measure => simp [intOf]; omega
      · have HB : Hid (opBytes base.data.toList ⟨f, l, t⟩ = t.data.toList) := by
          show opBytes _ _ = _
          rw [opBytes, if_neg hl0]
        rw [HB.out, ← Lib.size_eq] at hle
        clear hop
        go_wp2
        go_roundw
        case rel => exact ⟨k + 1, n, _, by omega, by go_num, rfl, by
            show _ = _
            rw [bytes_app, HC.out, HB.out], rfl⟩
        case measure => simp [intOf]; omega
    · have HE : Hid (S = ⟨(madeL base.data.toList xs).toArray⟩) := by
        show S = _
        rw [← Lib.mk_data S, HS.out, List.take_of_length_le (by omega)]
      go_wp2
      go_ret
      exact ⟨ret_str HE.out, n, rfl⟩
end Go.Proofs.YtabpiaaknjcnkaaGreat
