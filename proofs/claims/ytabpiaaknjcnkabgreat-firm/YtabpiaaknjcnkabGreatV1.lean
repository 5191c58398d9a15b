/-
  The walks over package record: what a record is made of.
-/
import Derived.Test.YtabpiaaknjcnkabGreatXPVW2
import Derived.Test.YtabpiaaknjcnkabGreatXE2S1S2
import Derived.LoopTactic
import Derived.Deep.RegionHeld3
import Derived.Deep.RegionLaw
namespace Go.Proofs.YtabpiaaknjcnkabGreat
open Go.RowKit
set_option linter.unusedVariables false
set_option linter.unusedSimpArgs false
set_option maxRecDepth 100000

theorem own_first (w : World) (base : Nat) (hb : base ≤ w.heap.size) (c : UInt8) : OwnBytes (w.alloc (.cells #[.int .u8 c.toNat] 5)) base (.slice (some ⟨w.heap.size, 0, none⟩) 1 1) [c] :=
  ⟨by simp, .inr ⟨w.heap.size, 1, _, rfl, hb, heap_alloc_new _ _, Nat.le_refl _, by unfold maxLen; omega, by simp, by simp [byteV]⟩⟩

/-- A string behind a row of bytes, at a step of a region that draws its order. -/
theorem step_append_str {w : World} {ops : Array Oper} {o : Oper} {a : Act} {K : Act → World → Prop} {Q : Exit → Act → World → Prop} {E : Prop} (hgd : o.guard = none) (sl x : Operand)
    (ho : o.op = .call { callee := .builtin .append, args := #[sl, x], argTypes := #[41, 9] })
    (base : Nat) (v : Value) (bs : List UInt8) (hs : a.eval sl = v) (hown : OwnBytes w base v bs) (s : ByteArray) (hx : a.eval x = .string s) (hl : bs.length + s.size ≤ 1000000) (hbase : base ≤ w.heap.size)
    (h : ∀ v' w', OwnBytes w' base v' (bs ++ s.data.toList) → w.grownBy w' v.ownBlock → K (a.put o.dst v') w') :
    if Region.wanted o (yielded ops a.tmps) = true then Oper.wp Tryz.prog o a w K Q else E := by
  have hw : Region.wanted o (yielded ops a.tmps) = true := by simp [Region.wanted, hgd]
  rw [if_pos hw]
  obtain ⟨i0, hi, hz0, hz1, hz2⟩ := info_parts Tryz.infoByte
  obtain ⟨v', w', hr, h2, h3, h4⟩ := Lib.run_append_own_string (P := Tryz.prog) w base 41 9 o.type 5 i0 Tryz.underlying41 Tryz.underlying9 hi hz0 hz1 hz2 v bs.length (bs.map byteV) hown s (by unfold maxLen; omega) (by omega) hbase
  unfold Oper.wp execOp
  simp only [ho, resolve, invoke, builtin, Sem.run_bind, Sem.run_pure, Result.andThen_ok, List.map_toArray, List.map_cons, List.map_nil, hs, hx, hr]
  refine h v' w' ?_ h3
  unfold OwnBytes
  rw [List.map_append, List.length_append, ← Lib.size_eq]
  exact h2

theorem OwnBytes.wide {w : World} {base b : Nat} {v : Value} {bs : List UInt8} (h : OwnBytes w base v bs) (hb : b ≤ base) : OwnBytes w b v bs := by
  refine ⟨h.1, ?_⟩
  rcases h.2 with h' | ⟨g, cap, cur, rfl, hg, hr⟩
  · exact .inl h'
  · exact .inr ⟨g, cap, cur, rfl, by omega, hr⟩
theorem grown_cell {w w' : World} {base : Nat} {v : Value} {bs : List UInt8} (ho : OwnBytes w base v bs) (hg : w.grownBy w' v.ownBlock) (hb : base ≤ w.heap.size) (q j : Nat) (hq : q < base) : w'.cell? ⟨q, j, none⟩ = w.cell? ⟨q, j, none⟩ :=
  World.cell?_of_block (a := ⟨q, j, none⟩) (hg.block q (by omega) (fun e => by have := row_own_ge ho e.symm; omega))

set_option maxHeartbeats 2000000 in
theorem begin_any (L : UInt8) (c : Nat) (w : World) (hc : c < 128) :
    Calls Tryz.prog 128 #[.agg #[.int .u8 L.toNat, .int .i64 c]] w fun e w' => ∃ v, e = .returned v ∧ OwnBytes w' w.heap.size v (L :: uN c) ∧ Below w.heap.size w w' := by
  have HO : Hid (OwnBytes ((w.alloc (.cells #[.int .u8 L.toNat, .int .i64 c] 127)).alloc (.cells #[.int .u8 L.toNat] 5)) w.heap.size (.slice (some ⟨w.heap.size + 1, 0, none⟩) 1 1) [L]) := by
    have := own_first (w.alloc (.cells #[.int .u8 L.toNat, .int .i64 c] 127)) w.heap.size (by simp) L
    simpa [Hid] using this
  have HB : Hid (Below w.heap.size w ((w.alloc (.cells #[.int .u8 L.toNat, .int .i64 c] 127)).alloc (.cells #[.int .u8 L.toNat] 5))) := ((Below.refl _ _).alloc (Nat.le_refl _) _).alloc (by simp) _
  go_enter Tryz.func128, Tryz.ntmps128
  go_wp2_with fail
  refine (addnum_any _ [L] c w.heap.size _ HO.out (by simp; omega) (by simp) (by omega)).mono ?_
  rintro e w1 ⟨v1, rfl, ho1, hb1, _⟩
  have R1 : Below w.heap.size w w1 := HB.out.trans hb1
  have R2 : Hid (OwnBytes w1 w.heap.size v1 (L :: uN c)) := ho1
  clear ho1 hb1 HB HO
  go_wp2
  go_ret
  exact ⟨v1, rfl, R2.out, R1⟩

set_option maxHeartbeats 4000000 in
theorem fbody_any (c : Nat) (t : ByteArray) (w : World) (hc : c < 128) (ht : t.size ≤ 2000) :
    Calls Tryz.prog 133 #[.agg #[.int .u8 70, .int .i64 c, .string t]] w fun e w' => ∃ v, e = .returned v ∧ OwnBytes w' w.heap.size v (bodyF c t.data.toList) ∧ Below w.heap.size w w' := by
  have hu := uN_length (n := c) (by omega)
  have hq : w.heap.size < (w.alloc (.cells #[.int .u8 70, .int .i64 c, .string t] 141)).heap.size := by simp
  have k0 : (w.alloc (.cells #[.int .u8 70, .int .i64 c, .string t] 141)).cell? ⟨w.heap.size, 0, none⟩ = some (.int .u8 70) := by simp
  have k1 : (w.alloc (.cells #[.int .u8 70, .int .i64 c, .string t] 141)).cell? ⟨w.heap.size, 1, none⟩ = some (.int .i64 c) := by simp
  have k2 : (w.alloc (.cells #[.int .u8 70, .int .i64 c, .string t] 141)).cell? ⟨w.heap.size, 2, none⟩ = some (.string t) := by simp
  have HC : Hid (∀ W : World, Calls Tryz.prog 128 #[.agg #[.int .u8 70, .int .i64 c]] W fun e w' => ∃ v, e = .returned v ∧ OwnBytes w' W.heap.size v (70 :: uN c) ∧ Below W.heap.size W w') := fun W => begin_any 70 c W hc
  go_enter Tryz.func133, Tryz.ntmps133
  go_wp2
  go_region_held3 (fun w' => w'.cell? ⟨w.heap.size, 0, none⟩ = some (.int .u8 70) ∧ w'.cell? ⟨w.heap.size, 1, none⟩ = some (.int .i64 c) ∧ w'.cell? ⟨w.heap.size, 2, none⟩ = some (.string t)) (go_keep)
    (first | (go_at_call 128; refine (HC.out _).mono ?_; rintro e w3 ⟨v3, rfl, o3, hb3⟩; have e0 := (hb3.cell (p := ⟨w.heap.size, 0, none⟩) hq).trans k0; have e1 := (hb3.cell (p := ⟨w.heap.size, 1, none⟩) hq).trans k1; have e2 := (hb3.cell (p := ⟨w.heap.size, 2, none⟩) hq).trans k2) | (refine step_append_str rfl (.tmp 5) (.tmp 7) rfl _ _ _ (by simp [Act.eval, Act.put]) o3 t (by simp [Act.eval, Act.put]) (by simp; omega) (by have := hb3.size; simp at this ⊢; omega) ?_; intro v4 w4 o4 hg4; have hs3 := hb3.size; have e0 := (grown_cell o3 hg4 hs3 _ 0 hq).trans e0; have e1 := (grown_cell o3 hg4 hs3 _ 1 hq).trans e1; have e2 := (grown_cell o3 hg4 hs3 _ 2 hq).trans e2))
  all_goals
    have R1 : Below w.heap.size w w4 := by
      have h1 : Below w.heap.size w w3 := (((Below.refl w.heap.size w).alloc (Nat.le_refl _) (.cells #[.int .u8 70, .int .i64 c, .string t] 141)).drew).trans (hb3.mono (by simp))
      exact h1.grown hg4 h1.size (fun k hk => by have := row_own_ge o3 hk; simp at this; omega)
    have R2 : Hid (OwnBytes w4 w.heap.size v4 (bodyF c t.data.toList)) := by
      have := OwnBytes.wide (b := w.heap.size) o4 (by simp)
      simpa [bodyF, Hid] using this
    clear o3 o4 hb3 hg4 hs3
    go_wp2
    go_ret
    exact ⟨v4, rfl, R2.out, R1⟩

set_option maxHeartbeats 4000000 in
theorem pbody_any (c n : Nat) (w : World) (hc : c < 128) (hn : n < 34359738368) :
    Calls Tryz.prog 127 #[.agg #[.int .u8 80, .int .i64 c, .int .i64 n]] w fun e w' => ∃ v, e = .returned v ∧ OwnBytes w' w.heap.size v (bodyP c n) ∧ Below w.heap.size w w' := by
  have hu := uN_length (n := c) (by omega)
  have hq : w.heap.size < (w.alloc (.cells #[.int .u8 80, .int .i64 c, .int .i64 n] 129)).heap.size := by simp
  have k0 : (w.alloc (.cells #[.int .u8 80, .int .i64 c, .int .i64 n] 129)).cell? ⟨w.heap.size, 0, none⟩ = some (.int .u8 80) := by simp
  have k1 : (w.alloc (.cells #[.int .u8 80, .int .i64 c, .int .i64 n] 129)).cell? ⟨w.heap.size, 1, none⟩ = some (.int .i64 c) := by simp
  have k2 : (w.alloc (.cells #[.int .u8 80, .int .i64 c, .int .i64 n] 129)).cell? ⟨w.heap.size, 2, none⟩ = some (.int .i64 n) := by simp
  have HC : Hid (∀ W : World, Calls Tryz.prog 128 #[.agg #[.int .u8 80, .int .i64 c]] W fun e w' => ∃ v, e = .returned v ∧ OwnBytes w' W.heap.size v (80 :: uN c) ∧ Below W.heap.size W w') := fun W => begin_any 80 c W hc
  go_enter Tryz.func127, Tryz.ntmps127
  go_wp2
  go_region_held3 (fun w' => w'.cell? ⟨w.heap.size, 0, none⟩ = some (.int .u8 80) ∧ w'.cell? ⟨w.heap.size, 1, none⟩ = some (.int .i64 c) ∧ w'.cell? ⟨w.heap.size, 2, none⟩ = some (.int .i64 n)) (go_keep)
    (first | (go_at_call 128; refine (HC.out _).mono ?_; rintro e w3 ⟨v3, rfl, o3, hb3⟩; have e0 := (hb3.cell (p := ⟨w.heap.size, 0, none⟩) hq).trans k0; have e1 := (hb3.cell (p := ⟨w.heap.size, 1, none⟩) hq).trans k1; have e2 := (hb3.cell (p := ⟨w.heap.size, 2, none⟩) hq).trans k2) | (go_at_call 75; refine (addnum_any _ _ n _ _ o3 hb3.size (by simp; omega) hn).mono ?_; rintro e w4 ⟨v4, rfl, o4, hb4, _⟩; have e0 := (hb4.cell (p := ⟨w.heap.size, 0, none⟩) hq).trans e0; have e1 := (hb4.cell (p := ⟨w.heap.size, 1, none⟩) hq).trans e1; have e2 := (hb4.cell (p := ⟨w.heap.size, 2, none⟩) hq).trans e2))
  all_goals
    have R1 : Below w.heap.size w w4 := by
      have h1 : Below w.heap.size w w3 := (((Below.refl w.heap.size w).alloc (Nat.le_refl _) (.cells #[.int .u8 80, .int .i64 c, .int .i64 n] 129)).drew).trans (hb3.mono (by simp))
      exact h1.trans (hb4.mono (by simp))
    have R2 : Hid (OwnBytes w4 w.heap.size v4 (bodyP c n)) := by
      have := OwnBytes.wide (b := w.heap.size) o4 (by simp)
      simpa [bodyP, Hid] using this
    clear o3 o4 hb3 hb4
    go_wp2
    go_ret
    exact ⟨v4, rfl, R2.out, R1⟩

set_option maxHeartbeats 4000000 in
theorem dbody_any (c : Nat) (v : Value) (xs : List DOp) (w : World) (hc : c < 128) (hv : View w v xs) (hD : Delta xs 2000) :
    Calls Tryz.prog 135 #[.agg #[.int .u8 68, .int .i64 c, v]] w fun e w' => ∃ v, e = .returned v ∧ OwnBytes w' w.heap.size v (bodyD c xs) ∧ Below w.heap.size w w' := by
  obtain ⟨ao, c1, hv1⟩ := hv.slice
  rw [hv1] at hv ⊢
  have HV : Hid (View w (.slice ao xs.length c1) xs) := hv
  have HD : Hid (Delta xs 2000) := hD
  clear hv hv1 hD
  have hu := uN_length (n := c) (by omega)
  have hq : w.heap.size < (w.alloc (.cells #[.int .u8 68, .int .i64 c, .slice ao xs.length c1] 147)).heap.size := by simp
  have k0 : (w.alloc (.cells #[.int .u8 68, .int .i64 c, .slice ao xs.length c1] 147)).cell? ⟨w.heap.size, 0, none⟩ = some (.int .u8 68) := by simp
  have k1 : (w.alloc (.cells #[.int .u8 68, .int .i64 c, .slice ao xs.length c1] 147)).cell? ⟨w.heap.size, 1, none⟩ = some (.int .i64 c) := by simp
  have k2 : (w.alloc (.cells #[.int .u8 68, .int .i64 c, .slice ao xs.length c1] 147)).cell? ⟨w.heap.size, 2, none⟩ = some (.slice ao xs.length c1) := by simp
  have HC : Hid (∀ W : World, Calls Tryz.prog 128 #[.agg #[.int .u8 68, .int .i64 c]] W fun e w' => ∃ v, e = .returned v ∧ OwnBytes w' W.heap.size v (68 :: uN c) ∧ Below W.heap.size W w') := fun W => begin_any 68 c W hc
  go_enter Tryz.func135, Tryz.ntmps135
  go_wp2
  go_region_held3 (fun w' => w'.cell? ⟨w.heap.size, 0, none⟩ = some (.int .u8 68) ∧ w'.cell? ⟨w.heap.size, 1, none⟩ = some (.int .i64 c) ∧ w'.cell? ⟨w.heap.size, 2, none⟩ = some (.slice ao xs.length c1)) (go_keep)
    (first | (go_at_call 128; refine (HC.out _).mono ?_; rintro e w3 ⟨v3, rfl, o3, hb3⟩; have h13 : Below w.heap.size w w3 := (((Below.refl w.heap.size w).alloc (Nat.le_refl _) (.cells #[.int .u8 68, .int .i64 c, .slice ao xs.length c1] 147)).drew).trans (hb3.mono (by simp)); have e0 := (hb3.cell (p := ⟨w.heap.size, 0, none⟩) hq).trans k0; have e1 := (hb3.cell (p := ⟨w.heap.size, 1, none⟩) hq).trans k1; have e2 := (hb3.cell (p := ⟨w.heap.size, 2, none⟩) hq).trans k2) | (go_at_call 49; refine (addcode_any HV.out h13 (by simp) HD.out o3 hb3.size (by simp; omega)).mono ?_; rintro e w4 ⟨v4, rfl, o4, hb4, _⟩; have e0 := (hb4.cell (p := ⟨w.heap.size, 0, none⟩) hq).trans e0; have e1 := (hb4.cell (p := ⟨w.heap.size, 1, none⟩) hq).trans e1; have e2 := (hb4.cell (p := ⟨w.heap.size, 2, none⟩) hq).trans e2))
  all_goals
    have R1 : Below w.heap.size w w4 := h13.trans (hb4.mono (by simp))
    have R2 : Hid (OwnBytes w4 w.heap.size v4 (bodyD c xs)) := by
      have := OwnBytes.wide (b := w.heap.size) o4 (by simp)
      simpa [bodyD, Hid] using this
    clear o3 o4 hb3 hb4 h13
    go_wp2
    go_ret
    exact ⟨v4, rfl, R2.out, R1⟩
end Go.Proofs.YtabpiaaknjcnkabGreat
