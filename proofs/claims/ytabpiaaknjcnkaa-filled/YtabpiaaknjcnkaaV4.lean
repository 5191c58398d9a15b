/-
  The walks over package store: versions go; room in the log.
-/
import Derived.Test.YtabpiaaknjcnkaaV3
namespace Go.Proofs.Ytabpiaaknjcnkaa
open Go.RowKit
set_option linter.unusedVariables false
set_option linter.unusedSimpArgs false
set_option maxRecDepth 100000

set_option maxHeartbeats 2000000 in
theorem slclone_any (q k m c : Nat) (ts : List ByteArray) (w : World) (hm : m = ts.length) (hb : ts.length ≤ 2147483647) (hq : q < w.heap.size) (hc : ∀ j t, ts[j]? = some t → w.cell? ⟨q, k + j, none⟩ = some (.string t)) :
    Calls Try.prog 95 #[.slice (some ⟨q, k, none⟩) m c] w fun e w' => ∃ v', e = .returned v' ∧ OwnStrs w' w.heap.size v' ts ∧ Below w.heap.size w w' := by
  obtain ⟨i1, hi1, hj0, hj1, hj2⟩ := info_parts Try.infoStr
  have q24 : ∀ (w : World) (a : Option Addr) (n c n' c' : Nat), (binOp .eql 25 (.slice a n c) (.slice none n' c')).run Try.prog w = .ok (.bool a.isNone) w := fun w a n c n' c' => Lib.run_eql_slice_nil w _ _ a n c n' c' Try.underlying25
  have HC : Hid (∀ j t, ts[j]? = some t → w.cell? ⟨q, k + j, none⟩ = some (.string t)) := hc
  clear hc
  subst hm
  go_enter Try.func95, Try.ntmps95
  go_wp2_with (first | (at_builtin; refine wpList_append_own _ rfl _ _ 25 rfl w.heap.size 9 i1 (.string ⟨#[]⟩) 1 16 Try.underlying25 hi1 hj0 hj1 hj2 rfl (by decide) _ _ _ rfl (World.ownsRow_made w #[] 0 (Nat.le_refl _) (Nat.zero_le _) rfl) ⟨q, k, none⟩ ts.length c (ts.map .string) rfl ?c1 ?c2 ?c3 ?c4 ?c5 ?c6 ?_))
  case c1 => simp
  case c2 =>
    intro j u hu
    rw [List.getElem?_map] at hu
    rw [show (⟨q, k, none⟩ : Addr).add j = ⟨q, k + j, none⟩ from by unfold Addr.add; split <;> simp_all]
    cases ht : ts[j]? with
    | none => rw [ht] at hu; cases hu
    | some t =>
      rw [ht] at hu
      injection hu with hu
      subst hu
      exact (World.cell?_of_block (a := ⟨q, k + j, none⟩) (heap_alloc_old _ _ hq)).trans (HC.out j t ht)
  case c3 => intro u hu; obtain ⟨x, _, rfl⟩ := List.mem_map.1 hu; rfl
  case c4 => unfold maxLen; omega
  case c5 => omega
  case c6 => simp
  intro v' w1 hown hgrow _
  have R1 : Hid (OwnStrs w1 w.heap.size v' ts) := by
    show OwnStrs w1 w.heap.size v' ts
    unfold OwnStrs; simpa using hown
  have R2 : Below w.heap.size w w1 := ((Below.refl _ w).alloc (Nat.le_refl _) _).grown hgrow (by simp) (by intro k hk; simp [Value.ownBlock] at hk; omega)
  clear hown hgrow
  go_wp2
  go_ret
  exact ⟨v', rfl, R1.out, R2⟩

set_option maxHeartbeats 4000000 in
theorem vdrop_any (p o g k cap : Nat) (ao : Option Addr) (ts : List ByteArray) (w : World) (hp : p < w.heap.size) (h0 : w.cell? ⟨p, o, none⟩ = some (.int .i64 g)) (h1 : w.cell? ⟨p, o + 1, none⟩ = some (.slice ao ts.length cap)) (hf : ∀ j, w.frozen? ⟨p, j, none⟩ = false)
    (hown : OwnStrs w 0 (.slice ao ts.length cap) ts) (hk : k < ts.length) (hb : g + ts.length ≤ 2147483647) :
    Calls Try.prog 84 #[.pointer (some ⟨p, o, none⟩), .int .i64 ((g : Int) + k + 1)] w fun e w' => e = .returned (.bool true) ∧ ∃ v' w2, w' = (w2.setCell ⟨p, o + 1, none⟩ v').setCell ⟨p, o, none⟩ (.int .i64 ((g + k : Nat) : Int)) ∧ OwnStrs w2 w.heap.size v' (ts.drop k) ∧ Below w.heap.size w w2 := by
  obtain ⟨t0, ht0⟩ : ∃ t, ts[0]? = some t := ⟨ts[0], by simp [show 0 < ts.length by omega]⟩
  obtain ⟨q, hao, _, hq, _⟩ := hown.cell ht0
  subst hao
  have hcap : ts.length ≤ cap := by
    rcases hown.2 with ⟨h, h0'⟩ | ⟨g', cap', cur, h, _, _, h2, _⟩
    · cases h
    · injection h with _ _ e3; omega
  have HC : Hid (∀ j t, (ts.drop k)[j]? = some t → w.cell? ⟨q, k + j, none⟩ = some (.string t)) := by
    intro j t h
    rw [List.getElem?_drop] at h
    obtain ⟨g', hg', _, _, hc⟩ := hown.cell h
    injection hg' with e; injection e with e; subst e
    exact hc
  have HCL : Hid (Calls Try.prog 95 #[.slice (some ⟨q, k, none⟩) (ts.length - k) (cap - k)] w fun e w' => ∃ v', e = .returned v' ∧ OwnStrs w' w.heap.size v' (ts.drop k) ∧ Below w.heap.size w w') :=
    slclone_any q k _ _ (ts.drop k) w (by simp) (by simp; omega) hq HC.out
  have HCL2 : Hid (∀ n, Calls Try.prog 95 #[.slice (some ⟨q, k, none⟩) (ts.length - k) (cap - k)] (w.drewN n) fun e w' => ∃ v', e = .returned v' ∧ OwnStrs w' w.heap.size v' (ts.drop k) ∧ Below w.heap.size w w') := fun n =>
    (slclone_any q k _ _ (ts.drop k) (w.drewN n) (by simp) (by simp; omega) hq HC.out).mono fun e w' ⟨v', h1, h2, h3⟩ => ⟨v', h1, h2, (below_drewN0 _ _ _).trans h3⟩
  have HH : Hid (Calls Try.prog 66 #[.pointer (some ⟨p, o, none⟩), .int .i64 ((g : Int) + k + 1)] w fun e w' => e = .returned (.bool true) ∧ ∃ n, w' = w.drewN n) := by
    have := vhas_any p o g ts.length cap (some ⟨q, 0, none⟩) ((g : Int) + k + 1) w h0 h1 (by omega)
    rw [show decide ((g : Int) < (g : Int) + k + 1 ∧ (g : Int) + k + 1 ≤ ((g + ts.length : Nat) : Int)) = true from by simp; omega] at this
    exact this
  have w1 : IntKind.i64.wrap ((g : Int) + k + 1 - g) = (k : Int) + 1 := by rw [IntKind.wrap_i64]; omega
  have w2 : IntKind.i64.wrap ((k : Int) + 1 - 1) = (k : Int) := by rw [IntKind.wrap_i64]; omega
  have n1 : (k : Int) ≤ (ts.length : Int) := by omega
  have n2 : k ≤ ts.length := by omega
  have n3 : k ≤ cap := by omega
  have f0 := hf o
  have f1 := hf (o + 1)
  clear hown HC ht0
  go_enter Try.func84, Try.ntmps84
  go_wp2_with fail
  refine HH.out.mono ?_
  rintro e w' ⟨rfl, nk, rfl⟩
  go_wp2_with fail
  refine (HCL2.out nk).mono ?_
  rintro e w3 ⟨v3, rfl, o3, b3⟩
  obtain ⟨ao3, c3, hv3⟩ := o3.slice
  subst hv3
  have e0 := (b3.cell (p := ⟨p, o, none⟩) hp).trans h0
  have e1 := (b3.cell (p := ⟨p, o + 1, none⟩) hp).trans h1
  have g0 := (b3.frozen (p := ⟨p, o, none⟩) hp).trans f0
  have g1 := (b3.frozen (p := ⟨p, o + 1, none⟩) hp).trans f1
  have w4 : IntKind.i64.wrap ((g : Int) + (k : Int)) = (g : Int) + (k : Int) := by rw [IntKind.wrap_i64]; omega
  have R1 : Hid (OwnStrs w3 w.heap.size (.slice ao3 (ts.drop k).length c3) (ts.drop k)) := o3
  clear o3 HCL HCL2 HH
  go_wp2
  go_ret
  exact ⟨rfl, _, _, by rw [Int.natCast_add, List.length_drop], R1.out, b3⟩

set_option maxHeartbeats 1000000 in
theorem vdrop_none (p o : Nat) (g n cap : Nat) (ao : Option Addr) (z : Int) (w : World) (h0 : w.cell? ⟨p, o, none⟩ = some (.int .i64 g)) (h1 : w.cell? ⟨p, o + 1, none⟩ = some (.slice ao n cap)) (hb : g + n ≤ 9000000000000) (hz : ¬ ((g : Int) < z ∧ z ≤ ((g + n : Nat) : Int))) :
    Calls Try.prog 84 #[.pointer (some ⟨p, o, none⟩), .int .i64 z] w fun e w' => e = .returned (.bool false) ∧ ∃ k, w' = w.drewN k := by
  have HH : Hid (Calls Try.prog 66 #[.pointer (some ⟨p, o, none⟩), .int .i64 z] w fun e w' => e = .returned (.bool false) ∧ ∃ k, w' = w.drewN k) := by
    have := vhas_any p o g n cap ao z w h0 h1 hb
    rw [decide_eq_false hz] at this
    exact this
  clear hz h0 h1
  go_enter Try.func84, Try.ntmps84
  go_wp2_with fail
  refine HH.out.mono ?_
  rintro e w' ⟨rfl, nk, rfl⟩
  go_wp2
  go_ret
  exact ⟨rfl, _, rfl⟩

set_option maxHeartbeats 1000000 in
theorem hasroom_any (p n c m d : Nat) (ao bo : Option Addr) (w : World) (h0 : w.cell? ⟨p, 0, none⟩ = some (.slice ao n c)) (hn : n ≤ 100000) (hm : m ≤ 100000) :
    Calls Try.prog 62 #[.pointer (some ⟨p, 0, none⟩), .slice bo m d] w fun e w' => e = .returned (.bool (decide (n + m ≤ 20000))) ∧ w = w' := by
  go_enter Try.func62, Try.ntmps62
  go_wp2
  go_ret
  exact ⟨ret_bool (by rw [decide_eq_decide]; omega), rfl⟩
end Go.Proofs.Ytabpiaaknjcnkaa
