/- The texts W5, W6, W7, W2, one behind the other. -/
import Derived.Test.YtabpiaaknjcnkaaGreatXP1W1W3W4
import Derived.Test.YtabpiaaknjcnkaaGreatShelf
import Derived.LoopTactic
import Derived.Deep.QuietTactic
import Derived.BigQuiet
import Derived.RegionTactic
import Derived.Deep.RegionWith
/-
  The walks over strings.Clone and addText.
-/
namespace Go.Proofs.YtabpiaaknjcnkaaGreat
open Go.RowKit
set_option linter.unusedVariables false
set_option linter.unusedSimpArgs false
set_option maxRecDepth 100000

theorem Tryz.infoOp : (Tryz.prog.info? 63).map (fun i => (i.zero, i.size, i.bytes)) = some (some (.agg #[.int .i64 0, .int .i64 0, .string ⟨#[]⟩]), 3, 32) := by kernel_rfl

def opCells (xs : List DOp) : List Value := xs.flatMap fun o => [.int .i64 o.fr, .int .i64 o.len, .string o.tx]
theorem opCells_length (xs : List DOp) : (opCells xs).length = xs.length * 3 := by
  induction xs with
  | nil => rfl
  | cons o r ih => simp [opCells] at ih ⊢; omega
theorem opCells_append (xs ys : List DOp) : opCells (xs ++ ys) = opCells xs ++ opCells ys := by simp [opCells]
theorem opCells_oneCell (f l : Int) (t : ByteArray) : ∀ u ∈ opCells [⟨f, l, t⟩], u.oneCell' = true := by
  intro u hu
  simp [opCells] at hu
  rcases hu with rfl | rfl | rfl <;> rfl

/-- A list of ops of the call's own. -/
def OwnOps (w : World) (base : Nat) (v : Value) (xs : List DOp) : Prop := w.ownsRow base 63 3 v xs.length (opCells xs)

theorem cells_op_new (w : World) (f l : Int) (t : ByteArray) (T : TypeId) : ∀ j u, (opCells [⟨f, l, t⟩])[j]? = some u → (w.alloc (.cells #[.int .i64 f, .int .i64 l, .string t] T)).cell? ((⟨w.heap.size, 0, none⟩ : Addr).add j) = some u := by
  intro j u hu
  match j, hu with
  | 0, hu => simp [opCells] at hu; subst hu; simp [Addr.add]
  | 1, hu => simp [opCells] at hu; subst hu; simp [Addr.add]
  | 2, hu => simp [opCells] at hu; subst hu; simp [Addr.add]
  | n + 3, hu => simp [opCells] at hu

theorem row_own_ge {w : World} {base : Nat} {e : TypeId} {size n : Nat} {v : Value} {xs : List Value} (h : w.ownsRow base e size v n xs) {k : Nat} (hk : v.ownBlock = some k) : base ≤ k := by
  rcases h.2 with ⟨rfl, _⟩ | ⟨g, cap, cur, rfl, hg, _⟩
  · cases hk
  · cases hk; exact hg
theorem row_own_lt {w : World} {base : Nat} {e : TypeId} {size n : Nat} {v : Value} {xs : List Value} (h : w.ownsRow base e size v n xs) {k : Nat} (hk : v.ownBlock = some k) : k < w.heap.size := by
  rcases h.2 with ⟨rfl, _⟩ | ⟨g, cap, cur, rfl, hg, hb, _⟩
  · cases hk
  · cases hk
    rcases Nat.lt_or_ge g w.heap.size with h' | h'
    · exact h'
    · simp [Array.getElem?_eq_none h'] at hb
theorem OwnOps.kept {w w1 : World} {base : Nat} {v : Value} {xs : List DOp} (h : OwnOps w base v xs) (hb : Below w.heap.size w w1) : OwnOps w1 base v xs := by
  refine ⟨h.1, ?_⟩
  rcases h.2 with h' | ⟨g, cap, cur, rfl, hg, hbk, hr⟩
  · exact .inl h'
  · refine .inr ⟨g, cap, cur, rfl, hg, ?_, hr⟩
    rw [hb.block g (row_own_lt h rfl)]
    exact hbk
theorem OwnOps.wide {w : World} {b c : Nat} {v : Value} {xs : List DOp} (h : OwnOps w b v xs) (hb : c ≤ b) : OwnOps w c v xs := by
  refine ⟨h.1, ?_⟩
  rcases h.2 with h' | ⟨g, cap, cur, rfl, hg, hr⟩
  · exact .inl h'
  · exact .inr ⟨g, cap, cur, rfl, by omega, hr⟩
theorem OwnOps.nil (w : World) (b : Nat) : OwnOps w b (.slice none 0 0) [] := World.ownsRow_nil _ _ _ _

set_option maxHeartbeats 400000 in
theorem clone_any (s : ByteArray) (w : World) (hlim : s.size ≤ 100000) :
    Calls Tryz.prog 54 #[.string s] w fun e w' => e = .returned (.string s) ∧ Below w.heap.size w w' := by
  go_enter Tryz.func54, Tryz.ntmps54
  go_wp2_with (go_at_call 92; refine (Tryz.stringslite_Clone s _ (by omega)).mono ?_; rintro e w' ⟨rfl, hb⟩)
  go_ret
  exact ⟨rfl, by assumption⟩

set_option maxHeartbeats 1000000 in
theorem addText_any (v : Value) (xs : List DOp) (t : ByteArray) (base : Nat) (w : World) (hown : OwnOps w base v xs) (hbase : base ≤ w.heap.size) (hx : xs.length ≤ 100000) (ht : t.size ≤ 100000) :
    Calls Tryz.prog 117 #[v, .string t] w fun e w' => ∃ v', e = .returned v' ∧ OwnOps w' base v' (xs ++ addT t) ∧ Below base w w' := by
  obtain ⟨i0, hi, hz0, hz1, hz2⟩ := info_parts Tryz.infoOp
  cases h0 : t.toList.isEmpty
  · go_enter Tryz.func117, Tryz.ntmps117
    go_wp2_with (go_at_call 54; refine (clone_any t _ ht).mono ?_)
    rintro e w1 ⟨rfl, hb⟩
    have hown1 : w1.ownsRow base 63 3 v xs.length (opCells xs) := OwnOps.kept hown hb
    have hsz := hb.size
    go_wp2_with (first | (at_builtin; refine wpList_append_own _ rfl _ _ 59 rfl base 63 i0 (.agg #[.int .i64 0, .int .i64 0, .string ⟨#[]⟩]) 3 32 Tryz.underlying59 hi hz0 hz1 hz2 rfl (by decide) _ _ _ rfl (hown1.alloc _) ⟨w1.heap.size, 0, none⟩ 1 1 (opCells [⟨0, 0, t⟩]) rfl rfl (cells_op_new _ _ _ _ _) (opCells_oneCell _ _ _) ?c3 ?c4 ?c5 ?_))
    case c3 => unfold maxLen; omega
    case c4 => omega
    case c5 => simp; omega
    intro v' w2 hown2 hgrow _
    have R1 : OwnOps w2 base v' (xs ++ addT t) := by
      simpa [OwnOps, addT, h0, opCells_append] using hown2
    have R2 : Below base w w2 := ((hb.mono hbase).alloc (by omega) _).grown hgrow (by simp; omega) (fun k hk => row_own_ge hown1 hk)
    clear hown2 hgrow hown1
    go_wp2
    go_ret
    exact ⟨v', rfl, R1, R2⟩
  · go_enter Tryz.func117, Tryz.ntmps117
    go_wp2
    go_ret
    exact ⟨v, rfl, by simpa [addT, h0] using hown, Below.refl _ _⟩
end Go.Proofs.YtabpiaaknjcnkaaGreat

/-
  The walk over describe.
-/
namespace Go.Proofs.YtabpiaaknjcnkaaGreat
open Go.RowKit Go.Maps Go.WideMaps
set_option linter.unusedVariables false
set_option linter.unusedSimpArgs false
set_option maxRecDepth 100000

theorem same_le (a b : ByteArray) : same a b ≤ a.size ∧ same a b ≤ b.size := by
  have := cpl_le a.data.toList b.data.toList
  rw [← Lib.size_eq, ← Lib.size_eq] at this
  exact this

theorem descGo_miss {base next : ByteArray} {f ts at_ : Nat} (h : at_ + 8 ≤ next.size) (hn : findFirst base.data.toList (next.extract at_ (at_ + 8)).data.toList = none) :
    descGo base next (f + 1) ts at_ = descGo base next f ts (at_ + 1) := by
  rw [descGo, if_pos h, hn]
theorem descGo_hit {base next : ByteArray} {f ts at_ j : Nat} (h : at_ + 8 ≤ next.size) (hn : findFirst base.data.toList (next.extract at_ (at_ + 8)).data.toList = some j) :
    descGo base next (f + 1) ts at_ = addT (next.extract ts at_) ++ ⟨j, same (base.extract j base.size) (next.extract at_ next.size), ByteArray.empty⟩ :: descGo base next f (at_ + same (base.extract j base.size) (next.extract at_ next.size)) (at_ + same (base.extract j base.size) (next.extract at_ next.size)) := by
  rw [descGo, if_pos h, hn]
theorem descGo_end {base next : ByteArray} {f ts at_ : Nat} (h : ¬ at_ + 8 ≤ next.size) : descGo base next f ts at_ = addT (next.extract ts next.size) := by
  cases f with
  | zero => rfl
  | succ f => rw [descGo, if_neg h]

theorem below_drewN (B : Nat) (w : World) (n : Nat) : Below B w (w.drewN n) := ⟨rfl, rfl, rfl, Nat.le_refl _, fun _ _ => rfl⟩
theorem addT_length (t : ByteArray) : (addT t).length ≤ 1 := by unfold addT; split <;> simp

/-- Behind a hit at least eight bytes are the same. -/
theorem same_ge {base next : ByteArray} {at_ j : Nat} (h : at_ + 8 ≤ next.size) (hj : occ base.data.toList (next.extract at_ (at_ + 8)).data.toList j) :
    8 ≤ same (base.extract j base.size) (next.extract at_ next.size) := by
  obtain ⟨h1, h2⟩ := hj
  rw [Lib.extract_data] at h2
  have hb := Lib.size_eq base
  have hn := Lib.size_eq next
  refine cpl_ge _ _ 8 ?_ ?_ ?_
  · rw [Lib.extract_data]; simp; omega
  · rw [Lib.extract_data]; simp; omega
  · rw [Lib.extract_data, Lib.extract_data, List.take_take, List.take_take, Nat.min_eq_left (by omega), Nat.min_eq_left (by omega), h2]
    congr 1; omega

theorem Tells.found {base : List UInt8} {D : DataW Unit} (h : Tells base 0 D) {key : List UInt8} {j : Nat} (hf : findFirst base key = some j) :
    Maps.has D (.string key) = true ∧ D.atKey (.string key) (.lit (.int .i64 0)) = .lit (.int .i64 j) := h.2.1 key j (findFirst_some hf)
theorem Tells.none {base : List UInt8} {D : DataW Unit} (h : Tells base 0 D) {key : List UInt8} (hf : findFirst base key = none) :
    Maps.has D (.string key) = false := h.2.2 key (fun j _ => findFirst_none hf j)

set_option maxHeartbeats 2000000 in
theorem describe_any (base next : ByteArray) (w : World) (hs : base.size ≤ 2000) (hn : next.size ≤ 2000) :
    Calls Tryz.prog 116 #[.string base, .string next] w fun e w' => ∃ v', e = .returned v' ∧ OwnOps w' w.heap.size v' (descF base next) ∧ Below w.heap.size w w' := by
  obtain ⟨i0, hi, hz0, hz1, hz2⟩ := info_parts Tryz.infoOp
  go_enter Tryz.func116, Tryz.ntmps116
  go_wp2_with (go_at_call 137; refine (firstPlaces_any base _ (by omega)).mono ?_)
  rintro e w1 ⟨rfl, ⟨nM, D, hmap, htell⟩, hb1⟩
  have HT : Hid (Tells base.data.toList 0 D) := htell
  clear htell
  have hB : w.heap.size < w1.heap.size := by
    obtain ⟨es, clock, hh, _⟩ := hmap
    rcases Nat.lt_or_ge w.heap.size w1.heap.size with h' | h'
    · exact h'
    · simp [Array.getElem?_eq_none h'] at hh
  go_wp2
  go_loopw [6, 7, 8] (fun v t a wr => ∃ (ts at_ f : Nat) (acc : List DOp), ts ≤ at_ ∧ at_ ≤ next.size ∧ next.size - at_ < f ∧ t = .int .i64 ts ∧ a = .int .i64 at_ ∧ OwnOps wr w1.heap.size v acc ∧ acc.length ≤ 2 * at_ ∧ Below w1.heap.size w1 wr ∧ Hid (acc ++ descGo base next f ts at_ = descF base next))
    (fun _ _ a _ => 3000 - (intOf a).toNat)
  case atStart =>
    exact ⟨0, 0, next.size + 1, [], by omega, by omega, by omega, rfl, rfl, OwnOps.nil _ _, by simp, Below.refl _ _, rfl⟩
  case round =>
    obtain ⟨ts, at_, f, acc, h1, h2, h3, rfl, rfl, hown, hacc, hb2, HD⟩ := hrel
    have hmap2 : wr.ownsMap Tryz.prog 9 (plainElem Tryz.prog 3) w.heap.size nM D := by
      obtain ⟨es, clock, hh, hr⟩ := hmap
      exact ⟨es, clock, by rw [hb2.block _ hB]; exact hh, hr⟩
    by_cases hlt : at_ + 8 ≤ next.size
    · obtain ⟨f, rfl⟩ : ∃ f', f = f' + 1 := ⟨f - 1, by omega⟩
      cases hf : findFirst base.data.toList (next.extract at_ (at_ + 8)).data.toList with
      | none =>
        have hhas : Maps.has D (.string (List.take 8 (List.drop at_ next.data.toList))) = false := by
          have := HT.out.none hf
          rwa [Lib.extract_data, show at_ + 8 - at_ = 8 from by omega] at this
        have HD2 : Hid (acc ++ descGo base next f ts (at_ + 1) = descF base next) := by rw [← descGo_miss hlt hf]; exact HD
        clear hf HD
        go_wp2_with (first | (at_lookup; refine wpList_lookup_own_ok_int _ rfl _ _ 181 rfl 9 3 .i64 Tryz.keyLaw Tryz.underlying181 Tryz.underlying3 (Tryz.zeroInt _) w.heap.size nM D rfl hmap2 _ _ rfl (keyOf_string_mk Tryz.underlying9 ?hkey) ?_))
        case hkey => simp [maxLen]; omega
        intro c hat hwc
        clear hat hwc
        go_wp2
        go_roundw
        case rel => exact ⟨ts, at_ + 1, f, acc, by omega, by omega, by omega, rfl, by go_num, hown, by omega, hb2, HD2⟩
        case measure => simp [intOf]; omega
      | some j =>
        have hat' : Maps.has D (.string (List.take 8 (List.drop at_ next.data.toList))) = true ∧ D.atKey (.string (List.take 8 (List.drop at_ next.data.toList))) (.lit (.int .i64 0)) = .lit (.int .i64 j) := by
          have := HT.out.found hf
          rwa [Lib.extract_data, show at_ + 8 - at_ = 8 from by omega] at this
        obtain ⟨hhas, hj⟩ := hat'
        have hocc := (findFirst_some hf).2.1
        have hge := same_ge hlt hocc
        have hjb : j + 8 ≤ base.size := by have := hocc.1; rwa [← Lib.size_eq] at this
        have hle := (same_le (base.extract j base.size) (next.extract at_ next.size)).2
        simp only [ByteArray.size_extract, Nat.min_self] at hle
        have HD2 : Hid ((acc ++ addT (next.extract ts at_)) ++ (⟨j, same (base.extract j base.size) (next.extract at_ next.size), ByteArray.empty⟩ :: descGo base next f (at_ + same (base.extract j base.size) (next.extract at_ next.size)) (at_ + same (base.extract j base.size) (next.extract at_ next.size))) = descF base next) := by
          rw [List.append_assoc, ← descGo_hit hlt hf]; exact HD
        clear hf HD hocc
        go_wp2_with (first | (at_lookup; refine wpList_lookup_own_ok_int _ rfl _ _ 181 rfl 9 3 .i64 Tryz.keyLaw Tryz.underlying181 Tryz.underlying3 (Tryz.zeroInt _) w.heap.size nM D rfl hmap2 _ _ rfl (keyOf_string_mk Tryz.underlying9 ?hkey) ?_))
        case hkey => simp [maxLen]; omega
        intro hwc
        clear hwc hhas hj
        generalize hsm : same (base.extract j base.size) (next.extract at_ next.size) = sm at *
        have HS : Hid (same (base.extract j base.size) (next.extract at_ next.size) = sm) := hsm
        clear hsm
        go_wp2_with (go_at_call 117; refine (addText_any _ acc (next.extract ts at_) w1.heap.size _ hown ?_ (by omega) ?_).mono ?_)
        · exact hb2.size
        · simp; omega
        rintro e w2 ⟨v2, rfl, hown2, hb3⟩
        go_wp2
        have q1 : j ≤ base.size := by omega
        have q2 : (j : Int) ≤ (base.size : Int) := by omega
        have q3 : (at_ : Int) ≤ (next.size : Int) := by omega
        have q4 : (base.extract j base.size).size ≤ 100000 := by simp; omega
        have q5 : (next.extract at_ next.size).size ≤ 100000 := by simp; omega
        go_quiet ((go_at_call 138; exact Calls.quiet_of (sameBytes_any _ _ _ (by assumption) (by assumption))))
        rw [HS.out]
        have hsz2 := hb2.size
        have hsz3 := hb3.size
        have hown3 : (w2.drewN nq).ownsRow w1.heap.size 63 3 v2 (acc ++ addT (next.extract ts at_)).length (opCells (acc ++ addT (next.extract ts at_))) := hown2
        have hlen : (acc ++ addT (next.extract ts at_)).length ≤ 2 * at_ + 1 := by
          rw [List.length_append]
          have := addT_length (next.extract ts at_)
          omega
        have HD3 : Hid (acc ++ addT (next.extract ts at_) ++ [⟨j, sm, ByteArray.empty⟩] ++ descGo base next f (at_ + sm) (at_ + sm) = descF base next) := by
          rw [List.append_assoc (acc ++ addT (next.extract ts at_))]; exact HD2
        clear HD2 HS hown hown2 q4 q5
        generalize acc ++ addT (next.extract ts at_) = acc2 at *
        go_wp2_with (first | (at_builtin; refine wpList_append_own _ rfl _ _ 59 rfl w1.heap.size 63 i0 (.agg #[.int .i64 0, .int .i64 0, .string ⟨#[]⟩]) 3 32 Tryz.underlying59 hi hz0 hz1 hz2 rfl (by decide) _ _ _ rfl (hown3.alloc _) ⟨w2.heap.size, 0, none⟩ 1 1 (opCells [⟨j, sm, ByteArray.empty⟩]) rfl rfl (cells_op_new _ _ _ _ _) (opCells_oneCell _ _ _) ?c3 ?c4 ?c5 ?_))
        case c3 => unfold maxLen; omega
        case c4 => omega
        case c5 => simp; omega
        intro v3 w3 hown4 hgrow _
        have R1 : OwnOps w3 w1.heap.size v3 (acc2 ++ [⟨j, sm, ByteArray.empty⟩]) := by
          simpa [OwnOps, opCells_append] using hown4
        have R2 : Below w1.heap.size w1 w3 := ((hb2.trans hb3).trans (((below_drewN _ w2 nq).alloc (by simp; omega) _).grown hgrow (by simp; omega) (fun k hk => row_own_ge hown3 hk)))
        clear hown4 hgrow hown3
        go_wp2
        go_roundw
        case rel => exact ⟨at_ + sm, at_ + sm, f, _, by omega, by omega, by omega, by go_num, by go_num, R1, by simp; omega, R2, HD3⟩
        case measure => simp [intOf]; omega
    · have HD2 : Hid (acc ++ addT (next.extract ts next.size) = descF base next) := by rw [← descGo_end hlt (base := base) (f := f)]; exact HD
      clear HD
      go_wp2_with (go_at_call 117; refine (addText_any _ acc (next.extract ts next.size) w1.heap.size _ hown ?_ (by omega) ?_).mono ?_)
      · exact hb2.size
      · simp; omega
      rintro e w2 ⟨v2, rfl, hown2, hb3⟩
      have R1 : OwnOps w2 w.heap.size v2 (descF base next) := by rw [← HD2.out]; exact hown2.wide (by omega)
      have R2 : Below w.heap.size w w2 := hb1.trans ((hb2.trans hb3).mono (by omega))
      clear hown2 hown hb3 hb2 HD2
      go_wp2
      go_ret
      exact ⟨v2, rfl, R1, R2⟩
end Go.Proofs.YtabpiaaknjcnkaaGreat

/-
  The walks over delta.Diff and coffer.Diff.
-/
namespace Go.Proofs.YtabpiaaknjcnkaaGreat
open Go.RowKit
set_option linter.unusedVariables false
set_option linter.unusedSimpArgs false
set_option maxRecDepth 100000

def diffF (base next : ByteArray) : List DOp := if 200 < (descF base next).length then addT next else descF base next

theorem OwnOps.slice {w : World} {b : Nat} {v : Value} {xs : List DOp} (h : OwnOps w b v xs) : ∃ ao cap, v = .slice ao xs.length cap := by
  rcases h.2 with ⟨rfl, h0⟩ | ⟨g, cap, cur, rfl, _⟩
  · rw [h0]; exact ⟨none, 0, rfl⟩
  · exact ⟨_, _, rfl⟩

set_option maxHeartbeats 1000000 in
theorem diff_ok (base next : ByteArray) (w : World) (hs : base.size ≤ 2000) (hn : next.size ≤ 2000) :
    Calls Tryz.prog 93 #[.string base, .string next] w fun e w' => ∃ v', e = .returned (.tuple #[v', .int .i64 0]) ∧ OwnOps w' w.heap.size v' (diffF base next) ∧ Below w.heap.size w w' := by
  have hc1 : ¬ (2000 : Int) < base.size := by omega
  have hc2 : ¬ (2000 : Int) < next.size := by omega
  by_cases hl : 200 < (descF base next).length
  · have HE : Hid (diffF base next = addT next) := by show diffF base next = _; rw [diffF, if_pos hl]
    go_enter Tryz.func93, Tryz.ntmps93
    go_wp2_with fail
    refine (describe_any base next _ hs hn).mono ?_
    rintro e w1 ⟨v1, rfl, hown, hb⟩
    obtain ⟨ao, cap, hv⟩ := hown.slice
    rw [hv]
    clear hown hv
    have hsz := hb.size
    go_wp2_with fail
    refine (addText_any (.slice none 0 0) [] next w.heap.size _ (OwnOps.nil _ _) hsz (by simp) (by omega)).mono ?_
    rintro e w2 ⟨v2, rfl, hown2, hb2⟩
    have R1 : OwnOps w2 w.heap.size v2 (diffF base next) := by rw [HE.out]; exact hown2
    have R2 : Below w.heap.size w w2 := hb.trans hb2
    clear hown2 HE hb hb2
    go_wp2
    go_ret2
    exact ⟨v2, rfl, R1, R2⟩
  · have HE : Hid (diffF base next = descF base next) := by show diffF base next = _; rw [diffF, if_neg hl]
    have hl2 : ¬ (200 : Int) < (descF base next).length := by omega
    go_enter Tryz.func93, Tryz.ntmps93
    go_wp2_with fail
    refine (describe_any base next _ hs hn).mono ?_
    rintro e w1 ⟨v1, rfl, hown, hb⟩
    have R1 : OwnOps w1 w.heap.size v1 (diffF base next) := by rw [HE.out]; exact hown
    obtain ⟨ao, cap, hv⟩ := hown.slice
    rw [hv] at R1 ⊢
    clear hown hv HE
    go_wp2
    go_ret2
    exact ⟨_, rfl, R1, hb⟩

set_option maxHeartbeats 1000000 in
theorem diff_long (base next : ByteArray) (w : World) (hs : base.size ≤ 9223372036854775807) (hn : next.size ≤ 9223372036854775807) (h : 2000 < base.size ∨ 2000 < next.size) :
    Calls Tryz.prog 93 #[.string base, .string next] w fun e w' => e = .returned (.tuple #[.slice none 0 0, .int .i64 1]) ∧ w' = w := by
  by_cases h1 : 2000 < base.size
  · go_enter Tryz.func93, Tryz.ntmps93
    go_wp2
    go_ret2
    exact ⟨rfl, rfl⟩
  · have h2 : 2000 < next.size := by omega
    clear h
    go_enter Tryz.func93, Tryz.ntmps93
    go_wp2
    go_ret2
    exact ⟨rfl, rfl⟩

set_option maxHeartbeats 1000000 in
theorem cdiff_ok (base next : ByteArray) (w : World) (hs : base.size ≤ 2000) (hn : next.size ≤ 2000) :
    Calls Tryz.prog 56 #[.string base, .string next] w fun e w' => ∃ v', e = .returned (.tuple #[v', .int .i64 0]) ∧ OwnOps w' w.heap.size v' (diffF base next) ∧ Below w.heap.size w w' := by
  go_enter Tryz.func56, Tryz.ntmps56
  go_wp2_with fail
  refine (diff_ok base next _ hs hn).mono ?_
  rintro e w1 ⟨v1, rfl, hown, hb⟩
  go_wp2
  go_ret2
  exact ⟨v1, rfl, hown, hb⟩

set_option maxHeartbeats 1000000 in
theorem cdiff_long (base next : ByteArray) (w : World) (hs : base.size ≤ 9223372036854775807) (hn : next.size ≤ 9223372036854775807) (h : 2000 < base.size ∨ 2000 < next.size) :
    Calls Tryz.prog 56 #[.string base, .string next] w fun e w' => e = .returned (.tuple #[.slice none 0 0, .int .i64 1]) ∧ w' = w := by
  go_enter Tryz.func56, Tryz.ntmps56
  go_wp2_with fail
  refine (diff_long base next _ hs hn h).mono ?_
  rintro e w1 ⟨rfl, rfl⟩
  go_wp2
  go_ret2
  exact ⟨rfl, rfl⟩
end Go.Proofs.YtabpiaaknjcnkaaGreat

/-
  The walks over isOp, mayFollow, stands, sameBytes.
-/
namespace Go.Proofs.YtabpiaaknjcnkaaGreat
open Go.RowKit
set_option linter.unusedVariables false
set_option linter.unusedSimpArgs false
set_option maxRecDepth 100000

set_option maxHeartbeats 1000000 in
theorem isOp_any (f l : Int) (t : ByteArray) (b : Int) (w : World) (hb0 : 0 ≤ b) (hb : b ≤ 100000) (hl : l ≤ 9223372036854775807) :
    Calls Tryz.prog 139 #[.agg #[.int .i64 f, .int .i64 l, .string t], .int .i64 b] w fun e w' => e = .returned (.bool (isOpB f l t b)) ∧ Below w.heap.size w w' := by
  by_cases h : 0 < l
  · by_cases h1 : 0 ≤ f
    · cases h2 : t.toList.isEmpty
      · go_enter Tryz.func139, Tryz.ntmps139
        go_wp2
        go_ret
        exact ⟨ret_bool (by simp only [isOpB, if_pos h, h1, h2]; simp), ((Below.refl _ _).alloc (Nat.le_refl _) _).alloc (by simp) _⟩
      · go_enter Tryz.func139, Tryz.ntmps139
        go_wp2
        go_ret
        exact ⟨ret_bool (by simp only [isOpB, if_pos h, h1, h2]; simp), ((Below.refl _ _).alloc (Nat.le_refl _) _).alloc (by simp) _⟩
    · go_enter Tryz.func139, Tryz.ntmps139
      go_wp2
      go_ret
      exact ⟨ret_bool (by simp only [isOpB, if_pos h]; simp; omega), ((Below.refl _ _).alloc (Nat.le_refl _) _).alloc (by simp) _⟩
  · cases h2 : t.toList.isEmpty
    · cases h3 : f == 0
      · go_enter Tryz.func139, Tryz.ntmps139
        go_wp2
        go_ret
        exact ⟨ret_bool (by rw [isOpB, if_neg (by omega), h2, h3]; simp), ((Below.refl _ _).alloc (Nat.le_refl _) _).alloc (by simp) _⟩
      · go_enter Tryz.func139, Tryz.ntmps139
        go_wp2
        go_ret
        exact ⟨ret_bool (by rw [isOpB, if_neg (by omega), h2, h3]; simp), ((Below.refl _ _).alloc (Nat.le_refl _) _).alloc (by simp) _⟩
    · go_enter Tryz.func139, Tryz.ntmps139
      go_wp2
      go_ret
      exact ⟨ret_bool (by rw [isOpB, if_neg (by omega), h2]; simp), ((Below.refl _ _).alloc (Nat.le_refl _) _).alloc (by simp) _⟩

theorem below4 (w : World) (a b c d : Obj) : Below w.heap.size w ((((w.alloc a).alloc b).alloc c).alloc d) :=
  ((((Below.refl _ _).alloc (Nat.le_refl _) _).alloc (by simp) _).alloc (by simp; omega) _).alloc (by simp; omega) _
theorem below5 (w : World) (a b c d f : Obj) : Below w.heap.size w (((((w.alloc a).alloc b).alloc c).alloc d).alloc f) :=
  (below4 w a b c d).alloc (by simp; omega) _

set_option maxHeartbeats 4000000 in
theorem mayFollow_any (f1 l1 f2 l2 : Int) (t1 t2 : ByteArray) (w : World) (h3 : 0 < l1 → 0 ≤ f1) (h4 : 0 < l1 → f1 + l1 ≤ 9223372036854775807) :
    Calls Tryz.prog 140 #[.agg #[.int .i64 f1, .int .i64 l1, .string t1], .agg #[.int .i64 f2, .int .i64 l2, .string t2]] w fun e w' => e = .returned (.bool (followB f1 l1 f2 l2)) ∧ Below w.heap.size w w' := by
  by_cases h1 : 0 < l1
  · have g3 := h3 h1
    have g4 := h4 h1
    clear h3 h4
    by_cases h2 : 0 < l2
    · go_enter Tryz.func140, Tryz.ntmps140
      go_wp2
      go_region_with (go_in)
      all_goals (go_wp2; go_ret; exact ⟨ret_bool (by simp [followB, h1, h2]), (below5 _ _ _ _ _ _).drew⟩)
    · have e2 : decide (0 < l2) = false := by simp; omega
      go_enter Tryz.func140, Tryz.ntmps140
      go_wp2
      go_region_with (go_in)
      all_goals (go_wp2; go_ret; exact ⟨ret_bool (by simp [followB, h1, e2]), (below4 _ _ _ _ _).drew⟩)
  · have e1 : decide (0 < l1) = false := by simp; omega
    clear h3 h4
    by_cases h2 : 0 < l2
    · go_enter Tryz.func140, Tryz.ntmps140
      go_wp2
      go_region_with (go_in)
      all_goals (go_wp2; go_ret; exact ⟨ret_bool (by simp [followB, e1, h2]), (below4 _ _ _ _ _).drew⟩)
    · have e2 : decide (0 < l2) = false := by simp; omega
      go_enter Tryz.func140, Tryz.ntmps140
      go_wp2
      go_region_with (go_in)
      all_goals (go_wp2; go_ret; exact ⟨ret_bool (by simp [followB, e1, e2]), (below5 _ _ _ _ _ _).drew⟩)

end Go.Proofs.YtabpiaaknjcnkaaGreat
