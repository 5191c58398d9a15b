/-
  The walk over describe.
-/
import Derived.Test.YtabpiaaknjcnkaaXW1W3
import Derived.Test.YtabpiaaknjcnkaaW4
import Derived.Test.YtabpiaaknjcnkaaW5
import Derived.Deep.QuietTactic
import Derived.BigQuiet
import Derived.RegionTactic
import Derived.LoopTactic
namespace Go.Proofs.Ytabpiaaknjcnkaa
open Go.RowKit Go.Maps Go.WideMaps
set_option linter.unusedVariables false
set_option linter.unusedSimpArgs false
set_option maxRecDepth 100000

theorem sameBytes_quiet (a b : ByteArray) (w : World) (hs : a.size ≤ 100000) (ht : b.size ≤ 100000) :
    Calls Try.prog 69 #[.string a, .string b] w fun e w' => e = .returned (.int .i64 (same a b)) ∧ ∃ n, w' = w.drewN n := sameBytes_any a b w hs ht

theorem same_le (a b : ByteArray) : same a b ≤ a.size ∧ same a b ≤ b.size := by
  have := cpl_le a.data.toList b.data.toList
  rw [← Lib.size_eq, ← Lib.size_eq] at this
  exact this

theorem descGo_miss {base next : ByteArray} {f ts at_ : Nat} (h : at_ + 8 ≤ next.size) (hn : findFirst base.data.toList (next.extract at_ (at_ + 8)).data.toList = none) :
    descGo base next (f + 1) ts at_ = descGo base next f ts (at_ + 1) := by
  rw [descGo, if_pos h, hn]
theorem descGo_hit {base next : ByteArray} {f ts at_ j : Nat} (h : at_ + 8 ≤ next.size) (hn : findFirst base.data.toList (next.extract at_ (at_ + 8)).data.toList = some j) :
    descGo base next (f + 1) ts at_ = addT (next.extract ts at_) ++ ⟨j, same (base.extract j base.size) (next.extract at_ next.size), ByteArray.empty⟩ :: descGo base next f (at_ + same (base.extract j base.size) (next.extract at_ next.size)) (at_ + same (base.extract j base.size) (next.extract at_ next.size)) := by
  rw [descGo, if_pos h, hn]
theorem descGo_end {base next : ByteArray} {f ts at_ : Nat} (h : ¬ at_ + 8 ≤ next.size) : descGo base next f ts at_ = addT (next.extract ts next.size) := by
  cases f with
  | zero => rfl
  | succ f => rw [descGo, if_neg h]

theorem below_drewN (B : Nat) (w : World) (n : Nat) : Below B w (w.drewN n) := ⟨rfl, rfl, rfl, Nat.le_refl _, fun _ _ => rfl⟩
theorem addT_length (t : ByteArray) : (addT t).length ≤ 1 := by unfold addT; split <;> simp

/-- Behind a hit at least eight bytes are the same. -/
theorem same_ge {base next : ByteArray} {at_ j : Nat} (h : at_ + 8 ≤ next.size) (hj : occ base.data.toList (next.extract at_ (at_ + 8)).data.toList j) :
    8 ≤ same (base.extract j base.size) (next.extract at_ next.size) := by
  obtain ⟨h1, h2⟩ := hj
  rw [Lib.extract_data] at h2
  have hb := Lib.size_eq base
  have hn := Lib.size_eq next
  refine cpl_ge _ _ 8 ?_ ?_ ?_
  · rw [Lib.extract_data]; simp; omega
  · rw [Lib.extract_data]; simp; omega
  · rw [Lib.extract_data, Lib.extract_data, List.take_take, List.take_take, Nat.min_eq_left (by omega), Nat.min_eq_left (by omega), h2]
    congr 1; omega

theorem Tells.found {base : List UInt8} {D : DataW Unit} (h : Tells base 0 D) {key : List UInt8} {j : Nat} (hf : findFirst base key = some j) :
    Maps.has D (.string key) = true ∧ D.atKey (.string key) (.lit (.int .i64 0)) = .lit (.int .i64 j) := h.2.1 key j (findFirst_some hf)
theorem Tells.none {base : List UInt8} {D : DataW Unit} (h : Tells base 0 D) {key : List UInt8} (hf : findFirst base key = none) :
    Maps.has D (.string key) = false := h.2.2 key (fun j _ => findFirst_none hf j)

set_option maxHeartbeats 2000000 in
theorem describe_any (base next : ByteArray) (w : World) (hs : base.size ≤ 2000) (hn : next.size ≤ 2000) :
    Calls Try.prog 42 #[.string base, .string next] w fun e w' => ∃ v', e = .returned v' ∧ OwnOps w' w.heap.size v' (descF base next) ∧ Below w.heap.size w w' := by
  obtain ⟨i0, hi, hz0, hz1, hz2⟩ := info_parts Try.infoOp
  go_enter Try.func42, Try.ntmps42
  go_wp2_with (go_at_call 68; refine (firstPlaces_any base _ (by omega)).mono ?_)
  rintro e w1 ⟨rfl, ⟨nM, D, hmap, htell⟩, hb1⟩
  have HT : Hid (Tells base.data.toList 0 D) := htell
  clear htell
  have hB : w.heap.size < w1.heap.size := by
    obtain ⟨es, clock, hh, _⟩ := hmap
    rcases Nat.lt_or_ge w.heap.size w1.heap.size with h' | h'
    · exact h'
    · simp [Array.getElem?_eq_none h'] at hh
  go_wp2
  go_loopw [6, 7, 8] (fun v t a wr => ∃ (ts at_ f : Nat) (acc : List DOp), ts ≤ at_ ∧ at_ ≤ next.size ∧ next.size - at_ < f ∧ t = .int .i64 ts ∧ a = .int .i64 at_ ∧ OwnOps wr w1.heap.size v acc ∧ acc.length ≤ 2 * at_ ∧ Below w1.heap.size w1 wr ∧ Hid (acc ++ descGo base next f ts at_ = descF base next))
    (fun _ _ a _ => 3000 - (intOf a).toNat)
  case atStart =>
    exact ⟨0, 0, next.size + 1, [], by omega, by omega, by omega, rfl, rfl, OwnOps.nil _ _, by simp, Below.refl _ _, rfl⟩
  case round =>
    obtain ⟨ts, at_, f, acc, h1, h2, h3, rfl, rfl, hown, hacc, hb2, HD⟩ := hrel
    have hmap2 : wr.ownsMap Try.prog 9 (plainElem Try.prog 3) w.heap.size nM D := by
      obtain ⟨es, clock, hh, hr⟩ := hmap
      exact ⟨es, clock, by rw [hb2.block _ hB]; exact hh, hr⟩
    by_cases hlt : at_ + 8 ≤ next.size
    · obtain ⟨f, rfl⟩ : ∃ f', f = f' + 1 := ⟨f - 1, by omega⟩
      cases hf : findFirst base.data.toList (next.extract at_ (at_ + 8)).data.toList with
      | none =>
        have hhas : Maps.has D (.string (List.take 8 (List.drop at_ next.data.toList))) = false := by
          have := HT.out.none hf
          rwa [Lib.extract_data, show at_ + 8 - at_ = 8 from by omega] at this
        have HD2 : Hid (acc ++ descGo base next f ts (at_ + 1) = descF base next) := by rw [← descGo_miss hlt hf]; exact HD
        clear hf HD
        go_wp2_with (first | (at_lookup; refine wpList_lookup_own_ok_int _ rfl _ _ 110 rfl 9 3 .i64 Try.keyLaw Try.underlying110 Try.underlying3 (Try.zeroInt _) w.heap.size nM D rfl hmap2 _ _ rfl (keyOf_string_mk Try.underlying9 ?hkey) ?_))
        case hkey => simp [maxLen]; omega
        intro c hat hwc
        clear hat hwc
        go_wp2
        go_roundw
        case rel => exact ⟨ts, at_ + 1, f, acc, by omega, by omega, by omega, rfl, by go_num, hown, by omega, hb2, HD2⟩
        case measure => simp [intOf]; omega
      | some j =>
        have hat' : Maps.has D (.string (List.take 8 (List.drop at_ next.data.toList))) = true ∧ D.atKey (.string (List.take 8 (List.drop at_ next.data.toList))) (.lit (.int .i64 0)) = .lit (.int .i64 j) := by
          have := HT.out.found hf
          rwa [Lib.extract_data, show at_ + 8 - at_ = 8 from by omega] at this
        obtain ⟨hhas, hj⟩ := hat'
        have hocc := (findFirst_some hf).2.1
        have hge := same_ge hlt hocc
        have hjb : j + 8 ≤ base.size := by have := hocc.1; rwa [← Lib.size_eq] at this
        have hle := (same_le (base.extract j base.size) (next.extract at_ next.size)).2
        simp only [ByteArray.size_extract, Nat.min_self] at hle
        have HD2 : Hid ((acc ++ addT (next.extract ts at_)) ++ (⟨j, same (base.extract j base.size) (next.extract at_ next.size), ByteArray.empty⟩ :: descGo base next f (at_ + same (base.extract j base.size) (next.extract at_ next.size)) (at_ + same (base.extract j base.size) (next.extract at_ next.size))) = descF base next) := by
          rw [List.append_assoc, ← descGo_hit hlt hf]; exact HD
        clear hf HD hocc
        go_wp2_with (first | (at_lookup; refine wpList_lookup_own_ok_int _ rfl _ _ 110 rfl 9 3 .i64 Try.keyLaw Try.underlying110 Try.underlying3 (Try.zeroInt _) w.heap.size nM D rfl hmap2 _ _ rfl (keyOf_string_mk Try.underlying9 ?hkey) ?_))
        case hkey => simp [maxLen]; omega
        intro hwc
        clear hwc hhas hj
        generalize hsm : same (base.extract j base.size) (next.extract at_ next.size) = sm at *
        have HS : Hid (same (base.extract j base.size) (next.extract at_ next.size) = sm) := hsm
        clear hsm
        go_wp2_with (go_at_call 43; refine (addText_any _ acc (next.extract ts at_) w1.heap.size _ hown ?_ (by omega) ?_).mono ?_)
        · exact hb2.size
        · simp; omega
        rintro e w2 ⟨v2, rfl, hown2, hb3⟩
        go_wp2
        have q1 : j ≤ base.size := by omega
        have q2 : (j : Int) ≤ (base.size : Int) := by omega
        have q3 : (at_ : Int) ≤ (next.size : Int) := by omega
        have q4 : (base.extract j base.size).size ≤ 100000 := by simp; omega
        have q5 : (next.extract at_ next.size).size ≤ 100000 := by simp; omega
        go_quiet ((go_at_call 69; exact Calls.quiet_of (sameBytes_any _ _ _ (by assumption) (by assumption))))
        rw [HS.out]
        have hsz2 := hb2.size
        have hsz3 := hb3.size
        have hown3 : (w2.drewN nq).ownsRow w1.heap.size 33 3 v2 (acc ++ addT (next.extract ts at_)).length (opCells (acc ++ addT (next.extract ts at_))) := hown2
        have hlen : (acc ++ addT (next.extract ts at_)).length ≤ 2 * at_ + 1 := by
          rw [List.length_append]
          have := addT_length (next.extract ts at_)
          omega
        have HD3 : Hid (acc ++ addT (next.extract ts at_) ++ [⟨j, sm, ByteArray.empty⟩] ++ descGo base next f (at_ + sm) (at_ + sm) = descF base next) := by
          rw [List.append_assoc (acc ++ addT (next.extract ts at_))]; exact HD2
        clear HD2 HS hown hown2 q4 q5
        generalize acc ++ addT (next.extract ts at_) = acc2 at *
        go_wp2_with (first | (at_builtin; refine wpList_append_own _ rfl _ _ 26 rfl w1.heap.size 33 i0 (.agg #[.int .i64 0, .int .i64 0, .string ⟨#[]⟩]) 3 32 Try.underlying26 hi hz0 hz1 hz2 rfl (by decide) _ _ _ rfl (hown3.alloc _) ⟨w2.heap.size, 0, none⟩ 1 1 (opCells [⟨j, sm, ByteArray.empty⟩]) rfl rfl (cells_op_new _ _ _ _ _) (opCells_oneCell _ _ _) ?c3 ?c4 ?c5 ?_))
        case c3 => unfold maxLen; omega
        case c4 => omega
        case c5 => simp; omega
        intro v3 w3 hown4 hgrow _
        have R1 : OwnOps w3 w1.heap.size v3 (acc2 ++ [⟨j, sm, ByteArray.empty⟩]) := by
          simpa [OwnOps, opCells_append] using hown4
        have R2 : Below w1.heap.size w1 w3 := ((hb2.trans hb3).trans (((below_drewN _ w2 nq).alloc (by simp; omega) _).grown hgrow (by simp; omega) (fun k hk => row_own_ge hown3 hk)))
        clear hown4 hgrow hown3
        go_wp2
        go_roundw
        case rel => exact ⟨at_ + sm, at_ + sm, f, _, by omega, by omega, by omega, by go_num, by go_num, R1, by simp; omega, R2, HD3⟩
        case measure => simp [intOf]; omega
    · have HD2 : Hid (acc ++ addT (next.extract ts next.size) = descF base next) := by rw [← descGo_end hlt (base := base) (f := f)]; exact HD
      clear HD
      go_wp2_with (go_at_call 43; refine (addText_any _ acc (next.extract ts next.size) w1.heap.size _ hown ?_ (by omega) ?_).mono ?_)
      · exact hb2.size
      · simp; omega
      rintro e w2 ⟨v2, rfl, hown2, hb3⟩
      have R1 : OwnOps w2 w.heap.size v2 (descF base next) := by rw [← HD2.out]; exact hown2.wide (by omega)
      have R2 : Below w.heap.size w w2 := hb1.trans ((hb2.trans hb3).mono (by omega))
      clear hown2 hown hb3 hb2 HD2
      go_wp2
      go_ret
      exact ⟨v2, rfl, R1, R2⟩
end Go.Proofs.Ytabpiaaknjcnkaa
