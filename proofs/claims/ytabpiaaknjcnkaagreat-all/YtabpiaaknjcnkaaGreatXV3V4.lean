/- The texts V3, V4, one behind the other. -/
import Derived.Test.YtabpiaaknjcnkaaGreatXPVV1V2
import Derived.Deep.AppendLies
import Derived.Deep.RegionLaw
import Derived.Lib.SliceRun
/-
  The walks over package store: one chain.
-/
namespace Go.Proofs.YtabpiaaknjcnkaaGreat
open Go.RowKit
set_option linter.unusedVariables false
set_option linter.unusedSimpArgs false
set_option maxRecDepth 100000

theorem Tryz.infoStr : (Tryz.prog.info? 9).map (fun i => (i.zero, i.size, i.bytes)) = some (some (.string ⟨#[]⟩), 1, 16) := by kernel_rfl

/-- A row of texts. -/
def OwnStrs (w : World) (base : Nat) (v : Value) (ts : List ByteArray) : Prop := w.ownsRow base 9 1 v ts.length (ts.map .string)
theorem OwnStrs.slice {w : World} {b : Nat} {v : Value} {ts : List ByteArray} (h : OwnStrs w b v ts) : ∃ ao cap, v = .slice ao ts.length cap := by
  rcases h.2 with ⟨h, h0⟩ | ⟨g', cap', cur, h, _⟩
  · exact ⟨none, 0, by rw [h, h0]⟩
  · exact ⟨_, _, h⟩
theorem OwnStrs.cell {w : World} {b : Nat} {ao : Option Addr} {n cap : Nat} {ts : List ByteArray} (h : OwnStrs w b (.slice ao n cap) ts) {i : Nat} {t : ByteArray} (hi : ts[i]? = some t) : ∃ g, ao = some ⟨g, 0, none⟩ ∧ b ≤ g ∧ g < w.heap.size ∧ w.cell? ⟨g, i, none⟩ = some (.string t) := by
  have hlt := (List.getElem?_eq_some_iff.1 hi).1
  rcases h.2 with ⟨h, h0⟩ | ⟨g', cap', cur, h, hg, hbk, h1, h2, h3, h4⟩
  · omega
  · injection h with e1 e2 e3
    refine ⟨g', e1, hg, lt_of_block hbk, ?_⟩
    rw [Lib.cell_of_heap hbk]
    have hu : (ts.map Value.string)[i]? = some (.string t) := by simp [hi]
    rw [← h4, List.getElem?_take_of_lt (by omega), Array.getElem?_toList] at hu
    exact hu


set_option maxHeartbeats 1000000 in
theorem ischain_any (c : Int) (w : World) : Calls Tryz.prog 46 #[.int .i64 c] w fun e w' => e = .returned (.bool (decide (0 ≤ c ∧ c < 4))) ∧ w = w' := by
  by_cases h1 : 0 ≤ c
  · by_cases h2 : c < 4
    · rw [show decide (0 ≤ c ∧ c < 4) = true from by simp; omega]
      go_enter Tryz.func46, Tryz.ntmps46
      go_wp2
      go_ret
      exact ⟨rfl, rfl⟩
    · rw [show decide (0 ≤ c ∧ c < 4) = false from by simp; omega]
      go_enter Tryz.func46, Tryz.ntmps46
      go_wp2
      go_ret
      exact ⟨rfl, rfl⟩
  · rw [show decide (0 ≤ c ∧ c < 4) = false from by simp; omega]
    go_enter Tryz.func46, Tryz.ntmps46
    go_wp2
    go_ret
    exact ⟨rfl, rfl⟩

set_option maxHeartbeats 1000000 in
theorem vlast_any (p o : Nat) (g n cap : Nat) (ao : Option Addr) (w : World) (h0 : w.cell? ⟨p, o, none⟩ = some (.int .i64 g)) (h1 : w.cell? ⟨p, o + 1, none⟩ = some (.slice ao n cap)) (hb : g + n ≤ 9000000000000) :
    Calls Tryz.prog 48 #[.pointer (some ⟨p, o, none⟩)] w fun e w' => e = .returned (.int .i64 ((g + n : Nat) : Int)) ∧ ∃ k, w' = w.drewN k := by
  go_enter Tryz.func48, Tryz.ntmps48
  go_wp2
  go_quiet (fail)
  go_wp2
  go_ret
  exact ⟨ret_int (by omega), _, rfl⟩

set_option maxHeartbeats 1000000 in
theorem vfirst_any (p o : Nat) (g n cap : Nat) (ao : Option Addr) (w : World) (h0 : w.cell? ⟨p, o, none⟩ = some (.int .i64 g)) (h1 : w.cell? ⟨p, o + 1, none⟩ = some (.slice ao n cap)) (hb : g + n ≤ 9000000000000) :
    Calls Tryz.prog 106 #[.pointer (some ⟨p, o, none⟩)] w fun e w' => e = .returned (.int .i64 ((min (g + 1) (g + n) : Nat) : Int)) ∧ ∃ k, w' = w.drewN k := by
  have HC : Hid (∀ k, Calls Tryz.prog 48 #[.pointer (some ⟨p, o, none⟩)] (w.drewN k) fun e w' => e = .returned (.int .i64 ((g + n : Nat) : Int)) ∧ ∃ k', w' = (w.drewN k).drewN k') := fun k => vlast_any p o g n cap ao _ h0 h1 hb
  generalize hm : g + n = m at *
  go_enter Tryz.func106, Tryz.ntmps106
  go_wp2
  go_region_held3 (fun w' => w'.cell? ⟨p, o, none⟩ = some (.int .i64 g) ∧ w'.cell? ⟨p, o + 1, none⟩ = some (.slice ao n cap)) (go_keep)
    (first | (go_at_call 48; refine (HC.out 1).mono ?_; rintro e w' ⟨rfl, k, rfl⟩))
  all_goals
    go_wp2
    go_ret
    exact ⟨ret_int (by rw [IntKind.wrap_i64]; omega), _, rfl⟩

set_option maxHeartbeats 1000000 in
theorem vhas_any (p o : Nat) (g n cap : Nat) (ao : Option Addr) (z : Int) (w : World) (h0 : w.cell? ⟨p, o, none⟩ = some (.int .i64 g)) (h1 : w.cell? ⟨p, o + 1, none⟩ = some (.slice ao n cap)) (hb : g + n ≤ 9000000000000) :
    Calls Tryz.prog 53 #[.pointer (some ⟨p, o, none⟩), .int .i64 z] w fun e w' => e = .returned (.bool (decide ((g : Int) < z ∧ z ≤ ((g + n : Nat) : Int)))) ∧ ∃ k, w' = w.drewN k := by
  have HC : Hid (Calls Tryz.prog 48 #[.pointer (some ⟨p, o, none⟩)] w fun e w' => e = .returned (.int .i64 ((g + n : Nat) : Int)) ∧ ∃ k, w' = w.drewN k) := vlast_any p o g n cap ao _ h0 h1 hb
  generalize hm : g + n = m at *
  by_cases a1 : (g : Int) < z
  · by_cases a2 : z ≤ (m : Int)
    · rw [show decide ((g : Int) < z ∧ z ≤ (m : Int)) = true from by simp; omega]
      go_enter Tryz.func53, Tryz.ntmps53
      go_wp2_with fail
      refine HC.out.mono ?_
      rintro e w' ⟨rfl, k, rfl⟩
      go_wp2
      go_ret
      exact ⟨rfl, _, rfl⟩
    · rw [show decide ((g : Int) < z ∧ z ≤ (m : Int)) = false from by simp; omega]
      go_enter Tryz.func53, Tryz.ntmps53
      go_wp2_with fail
      refine HC.out.mono ?_
      rintro e w' ⟨rfl, k, rfl⟩
      go_wp2
      go_ret
      exact ⟨ret_bool (by simpa using a2), _, rfl⟩
  · rw [show decide ((g : Int) < z ∧ z ≤ (m : Int)) = false from by simp; omega]
    go_enter Tryz.func53, Tryz.ntmps53
    go_wp2
    go_ret
    exact ⟨rfl, 0, rfl⟩

set_option maxHeartbeats 1000000 in
theorem vtext_any (p o : Nat) (g q i cap : Nat) (ts : List ByteArray) (t : ByteArray) (w : World) (h0 : w.cell? ⟨p, o, none⟩ = some (.int .i64 g)) (h1 : w.cell? ⟨p, o + 1, none⟩ = some (.slice (some ⟨q, 0, none⟩) ts.length cap))
    (hi : ts[i]? = some t) (hc : w.cell? ⟨q, i, none⟩ = some (.string t)) (hb : g + ts.length ≤ 9000000000000) (z : Int) (hz : z = (g : Int) + i + 1) :
    Calls Tryz.prog 51 #[.pointer (some ⟨p, o, none⟩), .int .i64 z] w fun e w' => e = .returned (.string t) ∧ ∃ k, w' = w.drewN k := by
  have hlt := (List.getElem?_eq_some_iff.1 hi).1
  subst hz
  have w1 : IntKind.i64.wrap ((g : Int) + i + 1 - g) = (i : Int) + 1 := by rw [IntKind.wrap_i64]; omega
  have w2 : IntKind.i64.wrap ((i : Int) + 1 - 1) = (i : Int) := by rw [IntKind.wrap_i64]; omega
  clear hi
  go_enter Tryz.func51, Tryz.ntmps51
  go_wp2
  go_quiet (fail)
  go_wp2
  go_ret
  exact ⟨rfl, _, rfl⟩

theorem str_cells (w : World) (t : ByteArray) : ∀ j u, [Value.string t][j]? = some u → (w.alloc (.cells #[.string t] 9)).cell? ((⟨w.heap.size, 0, none⟩ : Addr).add j) = some u := by
  intro j u hu
  match j, hu with
  | 0, hu => simp at hu; subst hu; simp [Addr.add]
  | j + 1, hu => simp at hu
theorem str_one (t : ByteArray) : ∀ u ∈ [Value.string t], u.oneCell' = true := by
  intro u hu; simp at hu; subst hu; rfl

theorem vadd_own {w : World} {v : Value} {ts : List ByteArray} {t : ByteArray} (h : w.ownsRow 0 9 1 v (ts.length + 1) (ts.map .string ++ [.string t])) : OwnStrs w 0 v (ts ++ [t]) := by
  unfold OwnStrs; rw [List.map_append, List.length_append]; exact h
theorem vadd_grown {w w1 w5 : World} {o : Obj} {own : Option Nat} (b1 : Below w.drew.heap.size w.drew w1) (hg : (w1.alloc o).grownBy w5 own) (F5 : ∀ q, q < w1.heap.size → own ≠ some q → w5.heap[q]? = w1.heap[q]?) : w.grownBy w5 own := by
  have h1 := b1.size
  have h2 := hg.size
  refine ⟨hg.os.trans b1.os, hg.tape.trans b1.tape, hg.output.trans b1.output, ?_, fun q hq hne => ?_⟩
  · simp at h1 h2; omega
  · exact (F5 q (Nat.lt_of_lt_of_le hq h1) (Ne.symm hne)).trans (b1.block q hq)
theorem vadd_at {w w1 : World} {own : Option Nat} {g5 n cap : Nat} (h : own = some g5 ∨ g5 = w1.heap.size + 1) (hs : w.drew.heap.size ≤ w1.heap.size) : (Value.slice (some ⟨g5, 0, none⟩) n cap).ownBlock = own ∨ ∃ g, (Value.slice (some ⟨g5, 0, none⟩) n cap).ownBlock = some g ∧ w.heap.size ≤ g := by
  rcases h with h | h
  · exact .inl (by rw [h]; rfl)
  · exact .inr ⟨g5, rfl, by simp at hs; omega⟩

theorem grown_drewN {w w5 : World} {k : Nat} {own : Option Nat} (h : (w.drewN k).grownBy w5 own) : w.grownBy w5 own := ⟨h.os, h.tape, h.output, h.size, h.block⟩

set_option maxHeartbeats 1000000 in
theorem vcount_any (p o : Nat) (n cap : Nat) (ao : Option Addr) (w : World) (h1 : w.cell? ⟨p, o + 1, none⟩ = some (.slice ao n cap)) :
    Calls Tryz.prog 130 #[.pointer (some ⟨p, o, none⟩)] w fun e w' => e = .returned (.int .i64 n) ∧ w = w' := by
  go_enter Tryz.func130, Tryz.ntmps130
  go_wp2
  go_ret
  exact ⟨rfl, rfl⟩

set_option maxHeartbeats 1000000 in
/-- No number is left for a text. -/
theorem vadd_full (p o g cap : Nat) (ao : Option Addr) (n : Nat) (t : ByteArray) (w : World) (h0 : w.cell? ⟨p, o, none⟩ = some (.int .i64 g)) (h1 : w.cell? ⟨p, o + 1, none⟩ = some (.slice ao n cap)) (hb : g + n = 2147483647) :
    Calls Tryz.prog 52 #[.pointer (some ⟨p, o, none⟩), .string t] w fun e w' => e = .returned (.bool false) ∧ ∃ k, w' = w.drewN k := by
  have HC : Hid (Calls Tryz.prog 48 #[.pointer (some ⟨p, o, none⟩)] w fun e w' => e = .returned (.int .i64 ((g + n : Nat) : Int)) ∧ ∃ k, w' = w.drewN k) := vlast_any p o g n cap ao _ h0 h1 (by omega)
  rw [hb] at HC
  clear hb h0 h1
  go_enter Tryz.func52, Tryz.ntmps52
  go_wp2_with fail
  refine HC.out.mono ?_
  rintro e w' ⟨rfl, k, rfl⟩
  go_wp2
  go_ret
  exact ⟨rfl, _, rfl⟩

set_option maxHeartbeats 4000000 in
/-- A text comes into a chain. -/
theorem vadd_any (p o g : Nat) (v : Value) (ts : List ByteArray) (t : ByteArray) (w : World) (hp : p < w.heap.size) (h0 : w.cell? ⟨p, o, none⟩ = some (.int .i64 g)) (h1 : w.cell? ⟨p, o + 1, none⟩ = some v) (hf : w.frozen? ⟨p, o + 1, none⟩ = false) (hown : OwnStrs w 0 v ts) (hne : v.ownBlock ≠ some p) (hb : g + ts.length < 2147483647) (ht : t.size ≤ 2000) :
    Calls Tryz.prog 52 #[.pointer (some ⟨p, o, none⟩), .string t] w fun e w' => e = .returned (.bool true) ∧ ∃ v' w2, w' = w2.setCell ⟨p, o + 1, none⟩ v' ∧ OwnStrs w2 0 v' (ts ++ [t]) ∧ w.grownBy w2 v.ownBlock ∧ (v'.ownBlock = v.ownBlock ∨ ∃ g, v'.ownBlock = some g ∧ w.heap.size ≤ g) := by
  obtain ⟨ao, cap, hv⟩ := hown.slice
  rw [hv] at h1 hown hne ⊢
  obtain ⟨i1, hi1, hj0, hj1, hj2⟩ := info_parts Tryz.infoStr
  have HO : Hid (OwnStrs w 0 (.slice ao ts.length cap) ts) := hown
  have HC : Hid (Calls Tryz.prog 48 #[.pointer (some ⟨p, o, none⟩)] w fun e w' => e = .returned (.int .i64 ((g + ts.length : Nat) : Int)) ∧ ∃ k, w' = w.drewN k) := vlast_any p o g ts.length cap ao _ h0 h1 (by omega)
  have hb2 : ts.length ≤ 2147483647 := by omega
  have hb3 : ¬ ((g + ts.length : Nat) : Int) = 2147483647 := by omega
  generalize g + ts.length = m at *
  clear hv hown hb
  go_enter Tryz.func52, Tryz.ntmps52
  go_wp2_with fail
  refine HC.out.mono ?_
  rintro e w' ⟨rfl, nk, rfl⟩
  clear HC
  go_wp2
  go_region_law
    (first | (go_simp; go_at_call 54; refine (clone_any t _ (by omega)).mono ?_; rintro e w1 ⟨rfl, b1⟩; have e1 := (b1.cell (p := ⟨p, o + 1, none⟩) hp).trans h1; have ef := (b1.frozen (p := ⟨p, o + 1, none⟩) hp).trans hf; have hs1 := b1.size; have ea : ∀ ob : Obj, (w1.alloc ob).cell? ⟨p, o + 1, none⟩ = some (.slice ao ts.length cap) := (fun ob => (World.cell?_of_block (a := ⟨p, o + 1, none⟩) (heap_alloc_old _ _ (Nat.lt_of_lt_of_le hp hs1))).trans e1); have o1 : ∀ W : World, (∀ q, q < w1.heap.size → W.heap[q]? = w1.heap[q]?) → OwnStrs W 0 (.slice ao ts.length cap) ts := (fun W hW => row_block HO.out (fun g hg => (hW g (Nat.lt_of_lt_of_le (row_own_lt HO.out hg) hs1)).trans (b1.block g (row_own_lt HO.out hg))))) | (refine step_append_lies _ rfl (.tmp 12) (.tmp 15) 31 rfl 0 9 i1 (.string ⟨#[]⟩) 1 16 Tryz.underlying31 hi1 hj0 hj1 hj2 rfl (by decide) (.slice ao ts.length cap) ts.length (ts.map .string) (by simp [Act.eval, Act.put]) (o1 _ (fun k hk => heap_alloc_old _ _ hk)) ⟨w1.heap.size, 0, none⟩ 1 1 [.string t] (by simp [Act.eval, Act.put]) rfl (str_cells w1 t) (str_one t) (by decide) (by unfold maxLen; omega) (by omega) (Nat.zero_le _) (w1.heap.size + 1) alloc_size1 ?_; intro g5 cap5 w5 hown5 hgr5 hat5 hlt5; have F5 := far_new hgr5 (w4 := w1) (fun q hq => heap_alloc_old _ _ hq) (alloc_le (Nat.le_refl _)); have hp1 : p < w1.heap.size := Nat.lt_of_lt_of_le hp hs1; have e5 := (World.cell?_of_block (a := ⟨p, o + 1, none⟩) (F5 p hp1 hne)).trans e1; have f5 := (World.frozen?_of_block (a := ⟨p, o + 1, none⟩) (F5 p hp1 hne)).trans ef))
  all_goals
    go_wp2
    go_ret
    exact ⟨rfl, _, _, rfl, vadd_own hown5, grown_drewN (vadd_grown b1 hgr5 F5), vadd_at hat5 hs1⟩
end Go.Proofs.YtabpiaaknjcnkaaGreat

/-
  The walks over package store: versions go; room in the log.
-/
namespace Go.Proofs.YtabpiaaknjcnkaaGreat
open Go.RowKit
set_option linter.unusedVariables false
set_option linter.unusedSimpArgs false
set_option maxRecDepth 100000

set_option maxHeartbeats 2000000 in
theorem slclone_any (q k m c : Nat) (ts : List ByteArray) (w : World) (hm : m = ts.length) (hb : ts.length ≤ 2147483647) (hq : q < w.heap.size) (hc : ∀ j t, ts[j]? = some t → w.cell? ⟨q, k + j, none⟩ = some (.string t)) :
    Calls Tryz.prog 109 #[.slice (some ⟨q, k, none⟩) m c] w fun e w' => ∃ v', e = .returned v' ∧ OwnStrs w' w.heap.size v' ts ∧ Below w.heap.size w w' := by
  obtain ⟨i1, hi1, hj0, hj1, hj2⟩ := info_parts Tryz.infoStr
  have q24 : ∀ (w : World) (a : Option Addr) (n c n' c' : Nat), (binOp .eql 31 (.slice a n c) (.slice none n' c')).run Tryz.prog w = .ok (.bool a.isNone) w := fun w a n c n' c' => Lib.run_eql_slice_nil w _ _ a n c n' c' Tryz.underlying31
  have HC : Hid (∀ j t, ts[j]? = some t → w.cell? ⟨q, k + j, none⟩ = some (.string t)) := hc
  clear hc
  subst hm
  go_enter Tryz.func109, Tryz.ntmps109
  go_wp2_with (first | (at_builtin; refine wpList_append_own _ rfl _ _ 31 rfl w.heap.size 9 i1 (.string ⟨#[]⟩) 1 16 Tryz.underlying31 hi1 hj0 hj1 hj2 rfl (by decide) _ _ _ rfl (World.ownsRow_made w #[] 0 (Nat.le_refl _) (Nat.zero_le _) rfl) ⟨q, k, none⟩ ts.length c (ts.map .string) rfl ?c1 ?c2 ?c3 ?c4 ?c5 ?c6 ?_))
  case c1 => simp
  case c2 =>
    intro j u hu
    rw [List.getElem?_map] at hu
    rw [show (⟨q, k, none⟩ : Addr).add j = ⟨q, k + j, none⟩ from by unfold Addr.add; split <;> simp_all]
    cases ht : ts[j]? with
    | none => rw [ht] at hu; cases hu
    | some t =>
      rw [ht] at hu
      injection hu with hu
      subst hu
      exact (World.cell?_of_block (a := ⟨q, k + j, none⟩) (heap_alloc_old _ _ hq)).trans (HC.out j t ht)
  case c3 => intro u hu; obtain ⟨x, _, rfl⟩ := List.mem_map.1 hu; rfl
  case c4 => unfold maxLen; omega
  case c5 => omega
  case c6 => simp
  intro v' w1 hown hgrow _
  have R1 : Hid (OwnStrs w1 w.heap.size v' ts) := by
    show OwnStrs w1 w.heap.size v' ts
    unfold OwnStrs; simpa using hown
  have R2 : Below w.heap.size w w1 := ((Below.refl _ w).alloc (Nat.le_refl _) _).grown hgrow (by simp) (by intro k hk; simp [Value.ownBlock] at hk; omega)
  clear hown hgrow
  go_wp2
  go_ret
  exact ⟨v', rfl, R1.out, R2⟩

set_option maxHeartbeats 4000000 in
theorem vdrop_any (p o g k cap : Nat) (ao : Option Addr) (ts : List ByteArray) (w : World) (hp : p < w.heap.size) (h0 : w.cell? ⟨p, o, none⟩ = some (.int .i64 g)) (h1 : w.cell? ⟨p, o + 1, none⟩ = some (.slice ao ts.length cap)) (hf : ∀ j, w.frozen? ⟨p, j, none⟩ = false)
    (hown : OwnStrs w 0 (.slice ao ts.length cap) ts) (hk : k < ts.length) (hb : g + ts.length ≤ 2147483647) :
    Calls Tryz.prog 86 #[.pointer (some ⟨p, o, none⟩), .int .i64 ((g : Int) + k + 1)] w fun e w' => e = .returned (.bool true) ∧ ∃ v' w2, w' = (w2.setCell ⟨p, o + 1, none⟩ v').setCell ⟨p, o, none⟩ (.int .i64 ((g + k : Nat) : Int)) ∧ OwnStrs w2 w.heap.size v' (ts.drop k) ∧ Below w.heap.size w w2 := by
  obtain ⟨t0, ht0⟩ : ∃ t, ts[0]? = some t := ⟨ts[0], by simp [show 0 < ts.length by omega]⟩
  obtain ⟨q, hao, _, hq, _⟩ := hown.cell ht0
  subst hao
  have hcap : ts.length ≤ cap := by
    rcases hown.2 with ⟨h, h0'⟩ | ⟨g', cap', cur, h, _, _, h2, _⟩
    · cases h
    · injection h with _ _ e3; omega
  have HC : Hid (∀ j t, (ts.drop k)[j]? = some t → w.cell? ⟨q, k + j, none⟩ = some (.string t)) := by
    intro j t h
    rw [List.getElem?_drop] at h
    obtain ⟨g', hg', _, _, hc⟩ := hown.cell h
    injection hg' with e; injection e with e; subst e
    exact hc
  have HCL : Hid (Calls Tryz.prog 109 #[.slice (some ⟨q, k, none⟩) (ts.length - k) (cap - k)] w fun e w' => ∃ v', e = .returned v' ∧ OwnStrs w' w.heap.size v' (ts.drop k) ∧ Below w.heap.size w w') :=
    slclone_any q k _ _ (ts.drop k) w (by simp) (by simp; omega) hq HC.out
  have HCL2 : Hid (∀ n, Calls Tryz.prog 109 #[.slice (some ⟨q, k, none⟩) (ts.length - k) (cap - k)] (w.drewN n) fun e w' => ∃ v', e = .returned v' ∧ OwnStrs w' w.heap.size v' (ts.drop k) ∧ Below w.heap.size w w') := fun n =>
    (slclone_any q k _ _ (ts.drop k) (w.drewN n) (by simp) (by simp; omega) hq HC.out).mono fun e w' ⟨v', h1, h2, h3⟩ => ⟨v', h1, h2, (below_drewN0 _ _ _).trans h3⟩
  have HH : Hid (Calls Tryz.prog 53 #[.pointer (some ⟨p, o, none⟩), .int .i64 ((g : Int) + k + 1)] w fun e w' => e = .returned (.bool true) ∧ ∃ n, w' = w.drewN n) := by
    have := vhas_any p o g ts.length cap (some ⟨q, 0, none⟩) ((g : Int) + k + 1) w h0 h1 (by omega)
    rw [show decide ((g : Int) < (g : Int) + k + 1 ∧ (g : Int) + k + 1 ≤ ((g + ts.length : Nat) : Int)) = true from by simp; omega] at this
    exact this
  have w1 : IntKind.i64.wrap ((g : Int) + k + 1 - g) = (k : Int) + 1 := by rw [IntKind.wrap_i64]; omega
  have w2 : IntKind.i64.wrap ((k : Int) + 1 - 1) = (k : Int) := by rw [IntKind.wrap_i64]; omega
  have n1 : (k : Int) ≤ (ts.length : Int) := by omega
  have n2 : k ≤ ts.length := by omega
  have n3 : k ≤ cap := by omega
  have f0 := hf o
  have f1 := hf (o + 1)
  clear hown HC ht0
  go_enter Tryz.func86, Tryz.ntmps86
  go_wp2_with fail
  refine HH.out.mono ?_
  rintro e w' ⟨rfl, nk, rfl⟩
  go_wp2_with fail
  refine (HCL2.out nk).mono ?_
  rintro e w3 ⟨v3, rfl, o3, b3⟩
  obtain ⟨ao3, c3, hv3⟩ := o3.slice
  subst hv3
  have e0 := (b3.cell (p := ⟨p, o, none⟩) hp).trans h0
  have e1 := (b3.cell (p := ⟨p, o + 1, none⟩) hp).trans h1
  have g0 := (b3.frozen (p := ⟨p, o, none⟩) hp).trans f0
  have g1 := (b3.frozen (p := ⟨p, o + 1, none⟩) hp).trans f1
  have w4 : IntKind.i64.wrap ((g : Int) + (k : Int)) = (g : Int) + (k : Int) := by rw [IntKind.wrap_i64]; omega
  have R1 : Hid (OwnStrs w3 w.heap.size (.slice ao3 (ts.drop k).length c3) (ts.drop k)) := o3
  clear o3 HCL HCL2 HH
  go_wp2
  go_ret
  exact ⟨rfl, _, _, by rw [Int.natCast_add, List.length_drop], R1.out, b3⟩

set_option maxHeartbeats 1000000 in
theorem vdrop_none (p o : Nat) (g n cap : Nat) (ao : Option Addr) (z : Int) (w : World) (h0 : w.cell? ⟨p, o, none⟩ = some (.int .i64 g)) (h1 : w.cell? ⟨p, o + 1, none⟩ = some (.slice ao n cap)) (hb : g + n ≤ 9000000000000) (hz : ¬ ((g : Int) < z ∧ z ≤ ((g + n : Nat) : Int))) :
    Calls Tryz.prog 86 #[.pointer (some ⟨p, o, none⟩), .int .i64 z] w fun e w' => e = .returned (.bool false) ∧ ∃ k, w' = w.drewN k := by
  have HH : Hid (Calls Tryz.prog 53 #[.pointer (some ⟨p, o, none⟩), .int .i64 z] w fun e w' => e = .returned (.bool false) ∧ ∃ k, w' = w.drewN k) := by
    have := vhas_any p o g n cap ao z w h0 h1 hb
    rw [decide_eq_false hz] at this
    exact this
  clear hz h0 h1
  go_enter Tryz.func86, Tryz.ntmps86
  go_wp2_with fail
  refine HH.out.mono ?_
  rintro e w' ⟨rfl, nk, rfl⟩
  go_wp2
  go_ret
  exact ⟨rfl, _, rfl⟩

set_option maxHeartbeats 1000000 in
theorem hasroom_any (p n c m d : Nat) (ao bo : Option Addr) (w : World) (h0 : w.cell? ⟨p, 0, none⟩ = some (.slice ao n c)) (hn : n ≤ 100000) (hm : m ≤ 100000) :
    Calls Tryz.prog 49 #[.pointer (some ⟨p, 0, none⟩), .slice bo m d] w fun e w' => e = .returned (.bool (decide (n + m ≤ 20000))) ∧ w = w' := by
  go_enter Tryz.func49, Tryz.ntmps49
  go_wp2
  go_ret
  exact ⟨ret_bool (by rw [decide_eq_decide]; omega), rfl⟩
end Go.Proofs.YtabpiaaknjcnkaaGreat
