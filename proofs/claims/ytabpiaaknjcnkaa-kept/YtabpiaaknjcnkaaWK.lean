/-
  The walk over Back.
-/
import Derived.Test.YtabpiaaknjcnkaaXWCL1L2
import Derived.Test.YtabpiaaknjcnkaaXW1W3W4
import Derived.Test.YtabpiaaknjcnkaaXW9K2
namespace Go.Proofs.Ytabpiaaknjcnkaa
open Go.RowKit
set_option linter.unusedVariables false
set_option linter.unusedSimpArgs false
set_option maxRecDepth 100000

/-- What turned does with a list of numbers, in whatever later world. -/
def Turns (rv : Value) (w : World) : Prop :=
  ∀ (s : ByteArray) (most : Nat) (w' : World), s.size ≤ 700 → most ≤ 700 → Below w.heap.size w w' →
    Calls Try.prog 10 #[.string s, rv, .int .i64 most] w' fun e w'' => (∃ t : ByteArray, e = .returned (.string t) ∧ t.size ≤ most) ∧ Below w'.heap.size w' w''

theorem self_reads {S : ByteArray} {w : World} {b : Nat} {v : Value} (h : OwnOps w b v (diffF S S)) (h8 : 8 ≤ S.size) (h7 : S.size ≤ 700) :
    ∃ g cap, v = .slice (some ⟨g, 0, none⟩) 1 cap ∧ w.cell? ⟨g, 0, none⟩ = some (.int .i64 0) ∧ w.cell? ⟨g, 1, none⟩ = some (.int .i64 S.size) := by
  rw [diffF_desc _ _ h7, descF_self _ h8] at h
  rcases reads_of_own h with ⟨hv, hD⟩ | ⟨g, cap, hv, hg, _, hr⟩
  · simp at hD
  · obtain ⟨r0, r1, r2⟩ := hr 0 _ rfl
    exact ⟨g, cap, hv, by simpa using r0, by simpa using r1⟩

set_option maxHeartbeats 8000000 in
theorem back_any (base next : ByteArray) (rv : Value) (w : World) (hb : base.size ≤ 9223372036854775807) (hn : next.size ≤ 9223372036854775807) (ht : Turns rv w) :
    Calls Try.prog 3 #[.string base, .string next, rv] w fun e w' => e = .returned (.bool true) ∧ Below w.heap.size w w' := by
  have HT : Hid (Turns rv w) := ht
  clear ht
  go_enter Try.func3, Try.ntmps3
  go_wp2_with fail
  refine (short_eq base 600 _ (by omega) hb).mono ?_
  rintro e w0 ⟨rfl, rfl⟩
  have hB := shortB_size base 600
  generalize shortB base 600 = B at *
  go_wp2_with fail
  refine (short_eq next 600 _ (by omega) hn).mono ?_
  rintro e w0 ⟨rfl, rfl⟩
  have hN := shortB_size next 600
  generalize shortB next 600 = N at *
  go_wp2_with fail
  refine (HT.out B 600 _ (by omega) (by omega) (Below.refl _ _)).mono ?_
  rintro e w1 ⟨⟨T, rfl, hT⟩, hb1⟩
  clear HT
  have hsz1 := hb1.size
  go_wp2
  go_loopw [8] (fun i wr => ∃ k : Nat, k ≤ 3 ∧ i = .int .i64 k ∧ Below (w1.heap.size + 1) (w1.alloc (.cells #[.string N, .string T, .string B] 9)) wr) (fun i _ => 4 - (intOf i).toNat)
  case atStart => exact ⟨0, by omega, rfl, Below.refl _ _⟩
  case round =>
    obtain ⟨k, hk, rfl, hb2⟩ := hrel
    have hsz2 := hb2.size
    simp at hsz2
    have hb2' : Below w.heap.size w wr := (hb1.alloc hsz1 _).trans (hb2.mono (by omega))
    by_cases hlt : k < 3
    · obtain ⟨t, htk, hcell⟩ : ∃ t : ByteArray, t.size ≤ 600 ∧ (w1.alloc (.cells #[.string N, .string T, .string B] 9)).cell? ⟨w1.heap.size, k, none⟩ = some (.string t) := by
        match k, hlt with
        | 0, _ => exact ⟨N, hN, by simp⟩
        | 1, _ => exact ⟨T, hT, by simp⟩
        | 2, _ => exact ⟨B, hB, by simp⟩
      have c0 : wr.cell? ⟨w1.heap.size, k, none⟩ = some (.string t) := (hb2.cell (p := ⟨w1.heap.size, k, none⟩) (by simp)).trans hcell
      clear hcell
      go_wp2_with fail
      refine (cdiff_ok B t _ (by omega) (by omega)).mono ?_
      rintro e w2 ⟨v, rfl, hown, hb3⟩
      rw [diffF_desc B t (by omega)] at hown
      have c1 : w2.cell? ⟨w1.heap.size, k, none⟩ = some (.string t) := (hb3.cell (p := ⟨w1.heap.size, k, none⟩) (by simp; omega)).trans c0
      have hsz3 := hb3.size
      have HC : Hid (Calls Try.prog 12 #[.string B, v] w2 fun e w' => e = .returned (.tuple #[.string t, .int .i64 0, .int .i64 0]) ∧ Below w2.heap.size w2 w') := capply_back B t v _ w2 (by omega) (by omega) hown
      have HG : Hid (∀ o ∈ descF B t, Good B t o) := descF_good B t
      have hlen := descF_length (base := B) (next := t)
      rcases reads_of_own hown with ⟨hv, hD⟩ | ⟨g, cap, hv, hg, _, hr⟩
      · rw [hv] at HC ⊢
        clear hown hv hD c0 HG
        go_wp2_with fail
        refine HC.out.mono ?_
        rintro e w3 ⟨rfl, hb4⟩
        have c2 : w3.cell? ⟨w1.heap.size, k, none⟩ = some (.string t) := (hb4.cell (p := ⟨w1.heap.size, k, none⟩) (by simp; omega)).trans c1
        have hb5 : Below (w1.heap.size + 1) wr w3 := (hb3.mono (by omega)).trans (hb4.mono (by omega))
        clear c1 HC
        go_wp2
        go_loop [14] (fun i => i = .int .i64 0) (fun _ => 0)
        case atStart => rfl
        case round =>
          subst hrel
          go_wp2
          go_roundw
          case rel => exact ⟨k + 1, by omega, by go_num, hb2.trans hb5⟩
          case measure => simp [intOf]; omega
      · have HR : Hid (ReadsAt w2 g 0 (descF B t)) := hr
        rw [hv] at HC ⊢
        clear hown hv hr c0
        generalize descF B t = D at *
        go_wp2_with fail
        refine HC.out.mono ?_
        rintro e w3 ⟨rfl, hb4⟩
        have c2 : w3.cell? ⟨w1.heap.size, k, none⟩ = some (.string t) := (hb4.cell (p := ⟨w1.heap.size, k, none⟩) (by simp; omega)).trans c1
        have hb5 : Below (w1.heap.size + 1) wr w3 := (hb3.mono (by omega)).trans (hb4.mono (by omega))
        clear c1 HC
        go_wp2
        go_loop [14] (fun i => ∃ m : Nat, m ≤ D.length ∧ i = .int .i64 m) (fun i => D.length + 1 - (intOf i).toNat)
        case atStart => exact ⟨0, by omega, rfl⟩
        case round =>
          obtain ⟨m, hm, rfl⟩ := hrel
          by_cases hm2 : m < D.length
          · obtain ⟨⟨f, l, x⟩, ho⟩ : ∃ o, D[m]? = some o := ⟨D[m], by simp [hm2]⟩
            obtain ⟨r0, r1, r2⟩ := HR.out m _ ho
            have hgood := HG.out _ (List.mem_of_getElem? ho)
            have d1 : w3.cell? ⟨g, m * 3 + 1, none⟩ = some (.int .i64 l) := (hb4.cell (p := ⟨g, _, none⟩) hg).trans (by simpa using r1)
            have d2 : w3.cell? ⟨g, m * 3 + 2, none⟩ = some (.string x) := (hb4.cell (p := ⟨g, _, none⟩) hg).trans (by simpa using r2)
            have hcp : 0 < l → 8 ≤ l := fun h => (hgood.copy h).1
            have hx : x.size ≤ 600 := Nat.le_trans hgood.size htk
            have HX : Hid (∀ j, j + 8 ≤ x.size → ∀ i, i + 8 ≤ B.size → B.extract i (i + 8) ≠ x.extract j (j + 8)) := hgood.text
            clear ho r0 r1 r2 hgood
            have hcp2 : ¬ 0 < l ∨ (0 < l ∧ 8 ≤ l) := by
              by_cases h : 0 < l
              · exact .inr ⟨h, hcp h⟩
              · exact .inl h
            clear hcp
            rcases hcp2 with hl | ⟨hl, hl8⟩
            all_goals
              go_wp2
              go_loop [15] (fun i => ∃ j : Nat, j ≤ x.size + 1 ∧ i = .int .i64 j) (fun i => x.size + 2 - (intOf i).toNat)
              case atStart => exact ⟨0, by omega, rfl⟩
              case round =>
                obtain ⟨j, hj, rfl⟩ := hrel
                by_cases hj8 : j + 8 ≤ x.size
                · have hs8 : (x.extract j (j + 8)).size = 8 := by rw [ByteArray.size_extract]; omega
                  have HS : Hid (∀ i, i + (x.extract j (j + 8)).size ≤ B.size → B.extract i (i + (x.extract j (j + 8)).size) ≠ x.extract j (j + 8)) := by
                    intro i hi
                    rw [hs8] at hi ⊢
                    exact HX.out j hj8 i hi
                  have hs8' : (x.extract j (j + 8)).size ≤ 100000 := by omega
                  clear hs8
                  go_wp2_with fail
                  refine (stands_eq B (x.extract j (j + 8)) _ (by omega) hs8' HS.out).mono ?_
                  rintro e w4 ⟨rfl, rfl⟩
                  clear hs8' HS
                  go_wp2
                  go_round
                  case rel => exact ⟨j + 1, by omega, by go_num⟩
                  case measure => simp [intOf]; omega
                · go_wp2
                  go_round
                  case rel => exact ⟨m + 1, by omega, by go_num⟩
                  case measure => simp [intOf]; omega
          · go_wp2
            go_roundw
            case rel => exact ⟨k + 1, by omega, by go_num, hb2.trans hb5⟩
            case measure => simp [intOf]; omega
    · go_wp2_with fail
      refine (cdiff_ok _ _ _ ?_ ?_).mono ?_
      · rw [ByteArray.size_append]; show B.size + 8 ≤ 2000; omega
      · rw [ByteArray.size_append]; show B.size + 8 ≤ 2000; omega
      rintro e w2 ⟨v, rfl, hown, hb3⟩
      have R : Below w.heap.size w w2 := hb2'.trans (hb3.mono hb2'.size)
      obtain ⟨g, cap, hv, d0, d1⟩ := self_reads hown (by rw [ByteArray.size_append]; show 8 ≤ B.size + 8; omega) (by rw [ByteArray.size_append]; show B.size + 8 ≤ 700; omega)
      have d2 : w2.cell? ⟨g, 1, none⟩ = some (.int .i64 ((B.size : Int) + 8)) := d1.trans (by rw [ByteArray.size_append]; exact congrArg (fun z => some (Value.int .i64 z)) (Int.natCast_add B.size 8))
      rw [hv]
      clear hown hv d1 hb3
      go_wp2
      go_ret
      exact ⟨by simp, R⟩
end Go.Proofs.Ytabpiaaknjcnkaa
