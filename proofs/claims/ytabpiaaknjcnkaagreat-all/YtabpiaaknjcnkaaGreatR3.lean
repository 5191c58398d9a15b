/-
  The document's answer: Diff.
-/
import Derived.Test.YtabpiaaknjcnkaaGreatXL6R1
import Derived.Test.YtabpiaaknjcnkaaGreatXL3L4
import Derived.Deep.QuietTactic
import Derived.BigQuiet
import Derived.LoopTactic
namespace Go.Proofs.YtabpiaaknjcnkaaGreat
open Go.RowKit
set_option linter.unusedVariables false
set_option linter.unusedSimpArgs false
set_option maxRecDepth 100000

theorem ext_snoc (s : ByteArray) (a b : Nat) (h1 : a ≤ b) (h2 : b < s.size) : s.extract a b ++ s.extract b (b + 1) = s.extract a (b + 1) := by
  apply bytes_ext
  rw [bytes_app, Lib.extract_data, Lib.extract_data, Lib.extract_data, show b + 1 - b = 1 from by omega, show b + 1 - a = (b - a) + 1 from by omega]
  rw [List.take_add, List.drop_drop, show a + (b - a) = b from by omega]
theorem ext_empty (s : ByteArray) (a : Nat) : s.extract a a = ⟨#[]⟩ := by
  apply bytes_ext
  rw [Lib.extract_data]; simp
theorem foundI_none {B K : List UInt8} (h : findFirst B K = none) : foundI B K = -1 := by rw [foundI, h]
theorem foundI_some {B K : List UInt8} {j : Nat} (h : findFirst B K = some j) : foundI B K = (j : Int) := by rw [foundI, h]

theorem same_of (base next : ByteArray) (j at_ m : Nat) (h1 : j + m ≤ base.size) (h2 : at_ + m ≤ next.size) (he : ∀ i, i < m → base.data.toList[j + i]? = next.data.toList[at_ + i]?)
    (hs : j + m = base.size ∨ at_ + m = next.size ∨ base.data.toList[j + m]? ≠ next.data.toList[at_ + m]?) : same (base.extract j base.size) (next.extract at_ next.size) = m := by
  have hb := Lib.size_eq base
  have hn := Lib.size_eq next
  rw [same_toEnd]
  refine cpl_of _ _ m (by rw [List.length_drop]; omega) (by rw [List.length_drop]; omega) (fun i hi => by rw [List.getElem?_drop, List.getElem?_drop]; exact he i hi) ?_
  rw [List.length_drop, List.length_drop, List.getElem?_drop, List.getElem?_drop]
  rcases hs with h | h | h
  · exact .inl (by omega)
  · exact .inr (.inl (by omega))
  · exact .inr (.inr h)

theorem diffF_big {base next : ByteArray} (h : 200 < (descF base next).length) : diffF base next = [(⟨0, 0, next⟩ : DOp)] := by
  have := @descF_length base next
  rw [diffF, if_pos h, addT_of_pos (by omega)]
theorem one_out {w wr : World} {base next : ByteArray} (hb : Below w.heap.size w wr) (h : diffF base next = [(⟨0, 0, next⟩ : DOp)]) : ∃ v', Ending.returned (.tuple #[.slice (some ⟨wr.heap.size, 0, none⟩) 1 1, .int .i64 0]) = .returned (.tuple #[v', .int .i64 0]) ∧ OwnOps (wr.alloc (.cells #[.int .i64 0, .int .i64 0, .string next] 63 (0, 0))) w.heap.size v' (diffF base next) ∧ Below w.heap.size w (wr.alloc (.cells #[.int .i64 0, .int .i64 0, .string next] 63 (0, 0))) := by
  refine ⟨_, rfl, ?_, hb.alloc hb.size _⟩
  rw [h]
  exact own_of_row (n := 1) (Y := #[.int .i64 0, .int .i64 0, .string next]) (by show (wr.heap.push _)[wr.heap.size]? = _; exact Array.getElem?_push_size) rfl rfl (by decide) _ hb.size
set_option maxHeartbeats 8000000 in
theorem rdiff_ok (base next : ByteArray) (w : World) (hs : base.size ≤ 2000) (hn : next.size ≤ 2000) :
    Calls Tryz.prog 57 #[.string base, .string next] w fun e w' => ∃ v', e = .returned (.tuple #[v', .int .i64 0]) ∧ OwnOps w' w.heap.size v' (diffF base next) ∧ Below w.heap.size w w' := by
  obtain ⟨i0, hi, hz0, hz1, hz2⟩ := info_parts Tryz.infoOp
  have hc1 : ¬ (2000 : Int) < base.size := by omega
  have hc2 : ¬ (2000 : Int) < next.size := by omega
  go_enter Tryz.func57, Tryz.ntmps57
  go_wp2
  go_loopw [6, 7, 8] (fun v t a wr => ∃ (ts at_ f : Nat) (acc : List DOp) (T : ByteArray), ts ≤ at_ ∧ at_ ≤ next.size ∧ next.size - at_ < f ∧ t = .string T ∧ Hid (T = next.extract ts at_) ∧ T.size ≤ 2000 ∧ a = .int .i64 at_ ∧ OwnOps wr w.heap.size v acc ∧ acc.length ≤ 2 * at_ ∧ Below w.heap.size w wr ∧ Hid (acc ++ descGo base next f ts at_ = descF base next))
    (fun _ _ a _ => 3000 - (intOf a).toNat)
  case atStart =>
    exact ⟨0, 0, next.size + 1, [], ⟨#[]⟩, by omega, by omega, by omega, rfl, (ext_empty next 0).symm, by decide, rfl, OwnOps.nil _ _, by simp, Below.refl _ _, rfl⟩
  case round =>
    obtain ⟨ts, at_, f, acc, T, h1, h2, h3, rfl, HT, hTs, rfl, hown, hacc, hb2, HD⟩ := hrel
    have hsz2 := hb2.size
    by_cases hlt : at_ < next.size
    · have HE : Hid (T ++ next.extract at_ (at_ + 1) = next.extract ts (at_ + 1)) := by
        show _ = _
        rw [HT.out, ext_snoc next ts at_ h1 hlt]
      have hE1 : (next.extract at_ (at_ + 1)).size = 1 := by rw [ByteArray.size_extract]; omega
      have hE2 : (T ++ next.extract at_ (at_ + 1)).size ≤ 2000 := by rw [HE.out, ByteArray.size_extract]; omega
      have hadd : T.size + (next.extract at_ (at_ + 1)).size ≤ 9223372036854775807 := by omega
      clear hE1
      by_cases h8 : at_ + 8 ≤ next.size
      · obtain ⟨f, rfl⟩ : ∃ f', f = f' + 1 := ⟨f - 1, by omega⟩
        have hk8 : (next.extract at_ (at_ + 8)).size = 8 := by rw [ByteArray.size_extract]; omega
        have HF : Hid (Calls Tryz.prog 94 #[.string base, .string (next.extract at_ (at_ + 8))] wr fun e w' => e = .returned (.int .i64 (foundI base.data.toList (next.extract at_ (at_ + 8)).data.toList)) ∧ wr = w') := find_any base _ wr (by omega) hk8
        clear hk8
        cases hf : findFirst base.data.toList (next.extract at_ (at_ + 8)).data.toList with
        | none =>
          rw [foundI_none hf] at HF
          have HD2 : Hid (acc ++ descGo base next f ts (at_ + 1) = descF base next) := by rw [← descGo_miss h8 hf]; exact HD
          clear hf HD
          go_wp2_with fail
          refine HF.out.mono ?_
          rintro e w1 ⟨rfl, rfl⟩
          go_wp2
          go_roundw
          case rel => exact ⟨ts, at_ + 1, f, acc, _, by omega, by omega, by omega, rfl, HE.out, hE2, by go_num, hown, by omega, hb2, HD2⟩
          case measure => simp [intOf]; omega
        | some j =>
          rw [foundI_some hf] at HF
          have hocc := (findFirst_some hf).2.1
          have hge := same_ge h8 hocc
          have hjb : j + 8 ≤ base.size := by have := hocc.1; rwa [← Lib.size_eq] at this
          have HD2 : Hid ((acc ++ addT (next.extract ts at_)) ++ (⟨j, same (base.extract j base.size) (next.extract at_ next.size), ByteArray.empty⟩ :: descGo base next f (at_ + same (base.extract j base.size) (next.extract at_ next.size)) (at_ + same (base.extract j base.size) (next.extract at_ next.size))) = descF base next) := by
            rw [List.append_assoc, ← descGo_hit h8 hf]; exact HD
          have HG : Hid (8 ≤ same (base.extract j base.size) (next.extract at_ next.size)) := hge
          clear hf HD hocc hge HE hE2 hadd
          go_wp2_with fail
          refine HF.out.mono ?_
          rintro e w1 ⟨rfl, rfl⟩
          go_wp2
          go_loopw [10] (fun i wx => ∃ (m q : Nat), i = .int .i64 m ∧ j + m ≤ base.size ∧ at_ + m ≤ next.size ∧ Hid (∀ i, i < m → base.data.toList[j + i]? = next.data.toList[at_ + i]?) ∧ wx = wr.drewN q) (fun i _ => 3000 - (intOf i).toNat)
          case atStart => exact ⟨0, 0, rfl, by omega, by omega, fun i hi => by omega, rfl⟩
          case round =>
            obtain ⟨m, q, rfl, hm1, hm2, HQ, hwx⟩ := hrel
            subst hwx
            have q3 : IntKind.i64.wrap ((j : Int) + (m : Int)) = (j : Int) + (m : Int) := by rw [IntKind.wrap_i64]; omega
            have q4 : IntKind.i64.wrap ((at_ : Int) + (m : Int)) = (at_ : Int) + (m : Int) := by rw [IntKind.wrap_i64]; omega
            have q5 : (0 : Int) ≤ (j : Int) + (m : Int) := by omega
            have q6 : (0 : Int) ≤ (at_ : Int) + (m : Int) := by omega
            by_cases hlt1 : j + m < base.size
            · have hd1 : decide ((j : Int) + (m : Int) < (base.size : Int)) = true := by simp; omega
              have hi1 : (j : Int) + (m : Int) < (base.size : Int) := by omega
              by_cases hlt2 : at_ + m < next.size
              · have hd2 : decide ((at_ : Int) + (m : Int) < (next.size : Int)) = true := by simp; omega
                have hi2 : (at_ : Int) + (m : Int) < (next.size : Int) := by omega
                go_wp2
                go_quiet (fail)
                cases hby : ((base[j + m].toNat : Int) == (next[at_ + m].toNat : Int))
                · have hne : base.data.toList[j + m]? ≠ next.data.toList[at_ + m]? := by
                    rw [byte_get base (j + m) hlt1, byte_get next (at_ + m) hlt2]
                    intro h
                    exact byte_ne (x := base[j + m]) (y := next[at_ + m]) hby (by simpa using h)
                  have hsame : same (base.extract j base.size) (next.extract at_ next.size) = m := same_of base next j at_ m hm1 hm2 HQ.out (.inr (.inr hne))
                  have hm8 : 8 ≤ m := by have := HG.out; omega
                  rw [hsame] at HD2
                  clear hsame HG HQ
                  have hown3 : (wr.drewN (q + nq)).ownsRow w.heap.size 63 3 _ acc.length (opCells acc) := hown
                  have hbq : Below w.heap.size w (wr.drewN (q + nq)) := hb2.trans (below_drewN _ _ _)
                  cases hT : T.toList.isEmpty
                  · have HD3 : Hid (acc ++ [⟨0, 0, T⟩] ++ [⟨j, m, ByteArray.empty⟩] ++ descGo base next f (at_ + m) (at_ + m) = descF base next) := by
                      have := HD2.out
                      rw [← HT.out, addT, hT] at this
                      show acc ++ [(⟨0, 0, T⟩ : DOp)] ++ [(⟨j, m, ByteArray.empty⟩ : DOp)] ++ descGo base next f (at_ + m) (at_ + m) = descF base next
                      rw [← this]; simp
                    clear HD2
                    go_wp2_with (first | (at_builtin; refine wpList_append_own _ rfl _ _ 59 rfl w.heap.size 63 i0 (.agg #[.int .i64 0, .int .i64 0, .string ⟨#[]⟩]) 3 32 Tryz.underlying59 hi hz0 hz1 hz2 rfl (by decide) _ _ _ rfl (hown3.alloc _) ⟨wr.heap.size, 0, none⟩ 1 1 (opCells [⟨0, 0, T⟩]) rfl rfl (cells_op_new _ _ _ _ _) (opCells_oneCell _ _ _) ?c3xa ?c4xa ?c5xa ?_))
                    case c3xa => unfold maxLen; omega
                    case c4xa => omega
                    case c5xa => simp; omega
                    intro v3 w3 hown4 hgrow _
                    have R1 : w3.ownsRow w.heap.size 63 3 v3 (acc ++ [(⟨0, 0, T⟩ : DOp)]).length (opCells (acc ++ [(⟨0, 0, T⟩ : DOp)])) := by simpa [opCells_append] using hown4
                    have R2 : Below w.heap.size w w3 := (hbq.alloc (by simp; omega) _).grown hgrow (by simp; omega) (fun k hk => row_own_ge hown3 hk)
                    have hs3 := R2.size
                    clear hown4 hgrow hown3 hbq
                    go_wp2_with (first | (at_builtin; refine wpList_append_own _ rfl _ _ 59 rfl w.heap.size 63 i0 (.agg #[.int .i64 0, .int .i64 0, .string ⟨#[]⟩]) 3 32 Tryz.underlying59 hi hz0 hz1 hz2 rfl (by decide) _ _ _ rfl (R1.alloc _) ⟨w3.heap.size, 0, none⟩ 1 1 (opCells [⟨j, m, ByteArray.empty⟩]) rfl rfl (cells_op_new _ _ _ _ _) (opCells_oneCell _ _ _) ?c3xb ?c4xb ?c5xb ?_))
                    case c3xb => unfold maxLen; simp; omega
                    case c4xb => simp; omega
                    case c5xb => simp; omega
                    intro v4 w4 hown5 hgrow5 _
                    have R3 : OwnOps w4 w.heap.size v4 (acc ++ [⟨0, 0, T⟩] ++ [⟨j, m, ByteArray.empty⟩]) := by
                      have h := hown5
                      simp only [List.length_append, List.length_cons, List.length_nil, opCells_append, OwnOps, List.append_assoc] at h ⊢
                      exact h
                    have R4 : Below w.heap.size w w4 := (R2.alloc (by omega) _).grown hgrow5 (by simp; omega) (fun k hk => row_own_ge R1 hk)
                    clear hown5 hgrow5 R1 R2
                    go_wp2
                    go_roundw
                    case rel => exact ⟨at_ + m, at_ + m, f, _, ⟨#[]⟩, by omega, by omega, by omega, rfl, (ext_empty next _).symm, by decide, by go_num, R3, by simp <;> omega, R4, HD3⟩
                    case measure => simp [intOf]; omega
                  · have HD3 : Hid (acc ++ [⟨j, m, ByteArray.empty⟩] ++ descGo base next f (at_ + m) (at_ + m) = descF base next) := by
                      have := HD2.out
                      rw [← HT.out, addT, hT] at this
                      show acc ++ [(⟨j, m, ByteArray.empty⟩ : DOp)] ++ descGo base next f (at_ + m) (at_ + m) = descF base next
                      rw [← this]; simp
                    have HTE : Hid (T = next.extract (at_ + m) (at_ + m)) := by
                      show T = _
                      rw [ext_empty]; exact bytes_ext (by rw [Lib.toList_data, List.isEmpty_iff] at hT; rw [hT])
                    clear HD2
                    go_wp2_with (first | (at_builtin; refine wpList_append_own _ rfl _ _ 59 rfl w.heap.size 63 i0 (.agg #[.int .i64 0, .int .i64 0, .string ⟨#[]⟩]) 3 32 Tryz.underlying59 hi hz0 hz1 hz2 rfl (by decide) _ _ _ rfl (hown3.alloc _) ⟨wr.heap.size, 0, none⟩ 1 1 (opCells [⟨j, m, ByteArray.empty⟩]) rfl rfl (cells_op_new _ _ _ _ _) (opCells_oneCell _ _ _) ?c3xd ?c4xd ?c5xd ?_))
                    case c3xd => unfold maxLen; omega
                    case c4xd => omega
                    case c5xd => simp; omega
                    intro v4 w4 hown5 hgrow5 _
                    have R3 : OwnOps w4 w.heap.size v4 (acc ++ [⟨j, m, ByteArray.empty⟩]) := by simpa [OwnOps, opCells_append] using hown5
                    have R4 : Below w.heap.size w w4 := (hbq.alloc (by simp; omega) _).grown hgrow5 (by simp; omega) (fun k hk => row_own_ge hown3 hk)
                    clear hown5 hgrow5 hown3 hbq
                    go_wp2
                    go_roundw
                    case rel => exact ⟨at_ + m, at_ + m, f, _, T, by omega, by omega, by omega, rfl, HTE, hTs, by go_num, R3, by simp <;> omega, R4, HD3⟩
                    case measure => simp [intOf]; omega
                · have heq := byte_eq (x := base[j + m]) (y := next[at_ + m]) hby
                  have HQ2 : Hid (∀ i, i < m + 1 → base.data.toList[j + i]? = next.data.toList[at_ + i]?) := by
                    intro i hi
                    by_cases e : i = m
                    · subst e; rw [byte_get base (j + i) hlt1, byte_get next (at_ + i) hlt2, heq]
                    · exact HQ.out i (by omega)
                  clear heq
                  go_wp2
                  go_roundw
                  case rel => exact ⟨m + 1, q + nq, by go_num, by omega, by omega, HQ2, rfl⟩
                  case measure => simp [intOf]; omega
              · have hd2 : decide ((at_ : Int) + (m : Int) < (next.size : Int)) = false := by simp; omega
                go_wp2
                go_quiet (fail)
                have hsame : same (base.extract j base.size) (next.extract at_ next.size) = m := same_of base next j at_ m hm1 hm2 HQ.out (.inr (.inl (by omega)))
                have hm8 : 8 ≤ m := by have := HG.out; omega
                rw [hsame] at HD2
                clear hsame HG HQ
                have hown3 : (wr.drewN (q + nq)).ownsRow w.heap.size 63 3 _ acc.length (opCells acc) := hown
                have hbq : Below w.heap.size w (wr.drewN (q + nq)) := hb2.trans (below_drewN _ _ _)
                cases hT : T.toList.isEmpty
                · have HD3 : Hid (acc ++ [⟨0, 0, T⟩] ++ [⟨j, m, ByteArray.empty⟩] ++ descGo base next f (at_ + m) (at_ + m) = descF base next) := by
                    have := HD2.out
                    rw [← HT.out, addT, hT] at this
                    show acc ++ [(⟨0, 0, T⟩ : DOp)] ++ [(⟨j, m, ByteArray.empty⟩ : DOp)] ++ descGo base next f (at_ + m) (at_ + m) = descF base next
                    rw [← this]; simp
                  clear HD2
                  go_wp2_with (first | (at_builtin; refine wpList_append_own _ rfl _ _ 59 rfl w.heap.size 63 i0 (.agg #[.int .i64 0, .int .i64 0, .string ⟨#[]⟩]) 3 32 Tryz.underlying59 hi hz0 hz1 hz2 rfl (by decide) _ _ _ rfl (hown3.alloc _) ⟨wr.heap.size, 0, none⟩ 1 1 (opCells [⟨0, 0, T⟩]) rfl rfl (cells_op_new _ _ _ _ _) (opCells_oneCell _ _ _) ?c3ya ?c4ya ?c5ya ?_))
                  case c3ya => unfold maxLen; omega
                  case c4ya => omega
                  case c5ya => simp; omega
                  intro v3 w3 hown4 hgrow _
                  have R1 : w3.ownsRow w.heap.size 63 3 v3 (acc ++ [(⟨0, 0, T⟩ : DOp)]).length (opCells (acc ++ [(⟨0, 0, T⟩ : DOp)])) := by simpa [opCells_append] using hown4
                  have R2 : Below w.heap.size w w3 := (hbq.alloc (by simp; omega) _).grown hgrow (by simp; omega) (fun k hk => row_own_ge hown3 hk)
                  have hs3 := R2.size
                  clear hown4 hgrow hown3 hbq
                  go_wp2_with (first | (at_builtin; refine wpList_append_own _ rfl _ _ 59 rfl w.heap.size 63 i0 (.agg #[.int .i64 0, .int .i64 0, .string ⟨#[]⟩]) 3 32 Tryz.underlying59 hi hz0 hz1 hz2 rfl (by decide) _ _ _ rfl (R1.alloc _) ⟨w3.heap.size, 0, none⟩ 1 1 (opCells [⟨j, m, ByteArray.empty⟩]) rfl rfl (cells_op_new _ _ _ _ _) (opCells_oneCell _ _ _) ?c3yb ?c4yb ?c5yb ?_))
                  case c3yb => unfold maxLen; simp; omega
                  case c4yb => simp; omega
                  case c5yb => simp; omega
                  intro v4 w4 hown5 hgrow5 _
                  have R3 : OwnOps w4 w.heap.size v4 (acc ++ [⟨0, 0, T⟩] ++ [⟨j, m, ByteArray.empty⟩]) := by
                    have h := hown5
                    simp only [List.length_append, List.length_cons, List.length_nil, opCells_append, OwnOps, List.append_assoc] at h ⊢
                    exact h
                  have R4 : Below w.heap.size w w4 := (R2.alloc (by omega) _).grown hgrow5 (by simp; omega) (fun k hk => row_own_ge R1 hk)
                  clear hown5 hgrow5 R1 R2
                  go_wp2
                  go_roundw
                  case rel => exact ⟨at_ + m, at_ + m, f, _, ⟨#[]⟩, by omega, by omega, by omega, rfl, (ext_empty next _).symm, by decide, by go_num, R3, by simp <;> omega, R4, HD3⟩
                  case measure => simp [intOf]; omega
                · have HD3 : Hid (acc ++ [⟨j, m, ByteArray.empty⟩] ++ descGo base next f (at_ + m) (at_ + m) = descF base next) := by
                    have := HD2.out
                    rw [← HT.out, addT, hT] at this
                    show acc ++ [(⟨j, m, ByteArray.empty⟩ : DOp)] ++ descGo base next f (at_ + m) (at_ + m) = descF base next
                    rw [← this]; simp
                  have HTE : Hid (T = next.extract (at_ + m) (at_ + m)) := by
                    show T = _
                    rw [ext_empty]; exact bytes_ext (by rw [Lib.toList_data, List.isEmpty_iff] at hT; rw [hT])
                  clear HD2
                  go_wp2_with (first | (at_builtin; refine wpList_append_own _ rfl _ _ 59 rfl w.heap.size 63 i0 (.agg #[.int .i64 0, .int .i64 0, .string ⟨#[]⟩]) 3 32 Tryz.underlying59 hi hz0 hz1 hz2 rfl (by decide) _ _ _ rfl (hown3.alloc _) ⟨wr.heap.size, 0, none⟩ 1 1 (opCells [⟨j, m, ByteArray.empty⟩]) rfl rfl (cells_op_new _ _ _ _ _) (opCells_oneCell _ _ _) ?c3yd ?c4yd ?c5yd ?_))
                  case c3yd => unfold maxLen; omega
                  case c4yd => omega
                  case c5yd => simp; omega
                  intro v4 w4 hown5 hgrow5 _
                  have R3 : OwnOps w4 w.heap.size v4 (acc ++ [⟨j, m, ByteArray.empty⟩]) := by simpa [OwnOps, opCells_append] using hown5
                  have R4 : Below w.heap.size w w4 := (hbq.alloc (by simp; omega) _).grown hgrow5 (by simp; omega) (fun k hk => row_own_ge hown3 hk)
                  clear hown5 hgrow5 hown3 hbq
                  go_wp2
                  go_roundw
                  case rel => exact ⟨at_ + m, at_ + m, f, _, T, by omega, by omega, by omega, rfl, HTE, hTs, by go_num, R3, by simp <;> omega, R4, HD3⟩
                  case measure => simp [intOf]; omega
            · have hd1 : decide ((j : Int) + (m : Int) < (base.size : Int)) = false := by simp; omega
              go_wp2
              go_quiet (fail)
              have hsame : same (base.extract j base.size) (next.extract at_ next.size) = m := same_of base next j at_ m hm1 hm2 HQ.out (.inl (by omega))
              have hm8 : 8 ≤ m := by have := HG.out; omega
              rw [hsame] at HD2
              clear hsame HG HQ
              have hown3 : (wr.drewN (q + nq)).ownsRow w.heap.size 63 3 _ acc.length (opCells acc) := hown
              have hbq : Below w.heap.size w (wr.drewN (q + nq)) := hb2.trans (below_drewN _ _ _)
              cases hT : T.toList.isEmpty
              · have HD3 : Hid (acc ++ [⟨0, 0, T⟩] ++ [⟨j, m, ByteArray.empty⟩] ++ descGo base next f (at_ + m) (at_ + m) = descF base next) := by
                  have := HD2.out
                  rw [← HT.out, addT, hT] at this
                  show acc ++ [(⟨0, 0, T⟩ : DOp)] ++ [(⟨j, m, ByteArray.empty⟩ : DOp)] ++ descGo base next f (at_ + m) (at_ + m) = descF base next
                  rw [← this]; simp
                clear HD2
                go_wp2_with (first | (at_builtin; refine wpList_append_own _ rfl _ _ 59 rfl w.heap.size 63 i0 (.agg #[.int .i64 0, .int .i64 0, .string ⟨#[]⟩]) 3 32 Tryz.underlying59 hi hz0 hz1 hz2 rfl (by decide) _ _ _ rfl (hown3.alloc _) ⟨wr.heap.size, 0, none⟩ 1 1 (opCells [⟨0, 0, T⟩]) rfl rfl (cells_op_new _ _ _ _ _) (opCells_oneCell _ _ _) ?c3za ?c4za ?c5za ?_))
                case c3za => unfold maxLen; omega
                case c4za => omega
                case c5za => simp; omega
                intro v3 w3 hown4 hgrow _
                have R1 : w3.ownsRow w.heap.size 63 3 v3 (acc ++ [(⟨0, 0, T⟩ : DOp)]).length (opCells (acc ++ [(⟨0, 0, T⟩ : DOp)])) := by simpa [opCells_append] using hown4
                have R2 : Below w.heap.size w w3 := (hbq.alloc (by simp; omega) _).grown hgrow (by simp; omega) (fun k hk => row_own_ge hown3 hk)
                have hs3 := R2.size
                clear hown4 hgrow hown3 hbq
                go_wp2_with (first | (at_builtin; refine wpList_append_own _ rfl _ _ 59 rfl w.heap.size 63 i0 (.agg #[.int .i64 0, .int .i64 0, .string ⟨#[]⟩]) 3 32 Tryz.underlying59 hi hz0 hz1 hz2 rfl (by decide) _ _ _ rfl (R1.alloc _) ⟨w3.heap.size, 0, none⟩ 1 1 (opCells [⟨j, m, ByteArray.empty⟩]) rfl rfl (cells_op_new _ _ _ _ _) (opCells_oneCell _ _ _) ?c3zb ?c4zb ?c5zb ?_))
                case c3zb => unfold maxLen; simp; omega
                case c4zb => simp; omega
                case c5zb => simp; omega
                intro v4 w4 hown5 hgrow5 _
                have R3 : OwnOps w4 w.heap.size v4 (acc ++ [⟨0, 0, T⟩] ++ [⟨j, m, ByteArray.empty⟩]) := by
                  have h := hown5
                  simp only [List.length_append, List.length_cons, List.length_nil, opCells_append, OwnOps, List.append_assoc] at h ⊢
                  exact h
                have R4 : Below w.heap.size w w4 := (R2.alloc (by omega) _).grown hgrow5 (by simp; omega) (fun k hk => row_own_ge R1 hk)
                clear hown5 hgrow5 R1 R2
                go_wp2
                go_roundw
                case rel => exact ⟨at_ + m, at_ + m, f, _, ⟨#[]⟩, by omega, by omega, by omega, rfl, (ext_empty next _).symm, by decide, by go_num, R3, by simp <;> omega, R4, HD3⟩
                case measure => simp [intOf]; omega
              · have HD3 : Hid (acc ++ [⟨j, m, ByteArray.empty⟩] ++ descGo base next f (at_ + m) (at_ + m) = descF base next) := by
                  have := HD2.out
                  rw [← HT.out, addT, hT] at this
                  show acc ++ [(⟨j, m, ByteArray.empty⟩ : DOp)] ++ descGo base next f (at_ + m) (at_ + m) = descF base next
                  rw [← this]; simp
                have HTE : Hid (T = next.extract (at_ + m) (at_ + m)) := by
                  show T = _
                  rw [ext_empty]; exact bytes_ext (by rw [Lib.toList_data, List.isEmpty_iff] at hT; rw [hT])
                clear HD2
                go_wp2_with (first | (at_builtin; refine wpList_append_own _ rfl _ _ 59 rfl w.heap.size 63 i0 (.agg #[.int .i64 0, .int .i64 0, .string ⟨#[]⟩]) 3 32 Tryz.underlying59 hi hz0 hz1 hz2 rfl (by decide) _ _ _ rfl (hown3.alloc _) ⟨wr.heap.size, 0, none⟩ 1 1 (opCells [⟨j, m, ByteArray.empty⟩]) rfl rfl (cells_op_new _ _ _ _ _) (opCells_oneCell _ _ _) ?c3zd ?c4zd ?c5zd ?_))
                case c3zd => unfold maxLen; omega
                case c4zd => omega
                case c5zd => simp; omega
                intro v4 w4 hown5 hgrow5 _
                have R3 : OwnOps w4 w.heap.size v4 (acc ++ [⟨j, m, ByteArray.empty⟩]) := by simpa [OwnOps, opCells_append] using hown5
                have R4 : Below w.heap.size w w4 := (hbq.alloc (by simp; omega) _).grown hgrow5 (by simp; omega) (fun k hk => row_own_ge hown3 hk)
                clear hown5 hgrow5 hown3 hbq
                go_wp2
                go_roundw
                case rel => exact ⟨at_ + m, at_ + m, f, _, T, by omega, by omega, by omega, rfl, HTE, hTs, by go_num, R3, by simp <;> omega, R4, HD3⟩
                case measure => simp [intOf]; omega
      · have HD2 : Hid (acc ++ descGo base next f ts (at_ + 1) = descF base next) := by
          have := HD.out
          rw [descGo_end h8] at this
          show acc ++ descGo base next f ts (at_ + 1) = descF base next
          rw [descGo_end (by omega)]; exact this
        clear HD
        go_wp2
        go_roundw
        case rel => exact ⟨ts, at_ + 1, f, acc, _, by omega, by omega, by omega, rfl, HE.out, hE2, by go_num, hown, by omega, hb2, HD2⟩
        case measure => simp [intOf]; omega
    · have HE : Hid (acc ++ addT T = descF base next) := by
        have := HD.out
        rw [descGo_end (by omega)] at this
        show acc ++ addT T = descF base next
        rw [HT.out, show at_ = next.size from by omega]; exact this
      clear HD HT
      cases hT : T.toList.isEmpty
      · have HE2 : Hid (acc ++ [(⟨0, 0, T⟩ : DOp)] = descF base next) := by
          have := HE.out
          rw [addT, hT] at this
          exact this
        clear HE
        have hown3 : wr.ownsRow w.heap.size 63 3 _ acc.length (opCells acc) := hown
        go_wp2_with (first | (at_builtin; refine wpList_append_own _ rfl _ _ 59 rfl w.heap.size 63 i0 (.agg #[.int .i64 0, .int .i64 0, .string ⟨#[]⟩]) 3 32 Tryz.underlying59 hi hz0 hz1 hz2 rfl (by decide) _ _ _ rfl (hown3.alloc _) ⟨wr.heap.size, 0, none⟩ 1 1 (opCells [⟨0, 0, T⟩]) rfl rfl (cells_op_new _ _ _ _ _) (opCells_oneCell _ _ _) ?c3ua ?c4ua ?c5ua ?_))
        case c3ua => unfold maxLen; omega
        case c4ua => omega
        case c5ua => simp; omega
        intro v3 w3 hown4 hgrow _
        have R1 : OwnOps w3 w.heap.size v3 (descF base next) := by
          have h : OwnOps w3 w.heap.size v3 (acc ++ [(⟨0, 0, T⟩ : DOp)]) := by simpa [OwnOps, opCells_append] using hown4
          rw [HE2.out] at h; exact h
        have R2 : Below w.heap.size w w3 := (hb2.alloc (by omega) _).grown hgrow (by simp; omega) (fun k hk => row_own_ge hown3 hk)
        have hs3 := R2.size
        clear hown4 hgrow hown3 HE2 hb2 hown
        by_cases hl : 200 < (descF base next).length
        · have hl2 : (200 : Int) < (descF base next).length := by omega
          have HE3 : Hid (diffF base next = [(⟨0, 0, next⟩ : DOp)]) := diffF_big hl
          obtain ⟨ao, cap, hv⟩ := R1.slice
          rw [hv]
          clear R1 hv
          go_wp2
          go_ret2
          exact one_out R2 HE3.out
        · have hl2 : ¬ (200 : Int) < (descF base next).length := by omega
          have R3 : OwnOps w3 w.heap.size v3 (diffF base next) := by rw [diffF, if_neg hl]; exact R1
          obtain ⟨ao, cap, hv⟩ := R1.slice
          rw [hv] at R3 ⊢
          clear R1 hv
          go_wp2
          go_ret2
          exact ⟨_, rfl, R3, R2⟩
      · have HE2 : Hid (acc = descF base next) := by
          have := HE.out
          rw [addT, hT] at this
          show acc = _
          simpa using this
        clear HE
        have R1 := hown
        rw [HE2.out] at R1
        clear hown
        by_cases hl : 200 < (descF base next).length
        · have hl2 : (200 : Int) < (descF base next).length := by omega
          have HE3 : Hid (diffF base next = [(⟨0, 0, next⟩ : DOp)]) := diffF_big hl
          obtain ⟨ao, cap, hv⟩ := R1.slice
          rw [hv]
          clear R1 hv
          go_wp2
          go_ret2
          exact one_out hb2 HE3.out
        · have hl2 : ¬ (200 : Int) < (descF base next).length := by omega
          have R3 := R1
          rw [← (show diffF base next = descF base next from by rw [diffF, if_neg hl])] at R3
          obtain ⟨ao, cap, hv⟩ := R1.slice
          rw [hv] at R3 ⊢
          clear R1 hv
          go_wp2
          go_ret2
          exact ⟨_, rfl, R3, hb2⟩
end Go.Proofs.YtabpiaaknjcnkaaGreat
