/- The texts PV, V1, V2, one behind the other. -/
import Derived.Test.YtabpiaaknjcnkaaGreatXPCPDPU
import Derived.Test.YtabpiaaknjcnkaaGreatXR4L7L8P4S1S2L9LBLP
import Derived.Test.YtabpiaaknjcnkaaGreatXP3WAWCL1L2
import Derived.Test.YtabpiaaknjcnkaaGreatXW5W6W7W2
import Derived.Test.YtabpiaaknjcnkaaGreatXE2W9R6
import Derived.LoopTactic
import Derived.Deep.RegionHeld3
import Derived.Deep.RegionLaw
/-
  Plain facts: records, chains and vaults.
-/
namespace Go.Proofs.YtabpiaaknjcnkaaGreat
set_option linter.unusedVariables false
set_option linter.unusedSimpArgs false

/-- Four bytes, the lowest first. -/
def le4 (v : Nat) : List UInt8 := [UInt8.ofNat v, UInt8.ofNat (v / 256), UInt8.ofNat (v / 65536), UInt8.ofNat (v / 16777216)]
def bodyF (c : Nat) (t : List UInt8) : List UInt8 := 70 :: (uN c ++ t)
def bodyD (c : Nat) (xs : List DOp) : List UInt8 := 68 :: (uN c ++ encL xs)
def bodyP (c n : Nat) : List UInt8 := 80 :: (uN c ++ uN n)
/-- A body's record. -/
def recL (b : List UInt8) : List UInt8 := uN b.length ++ b ++ le4 (sumL b)
theorem recL_length (b : List UInt8) : (recL b).length = (uN b.length).length + b.length + 4 := by simp [recL, le4]; omega

/-- A chain: how many versions have gone; the texts of those that there are. -/
structure Chn where
  gone : Nat
  texts : List ByteArray
structure Vlt where
  log : List UInt8
  ch : Nat → Chn
def Chn.last (c : Chn) : Nat := c.gone + c.texts.length
def Chn.first (c : Chn) : Nat := min (c.gone + 1) c.last
def Chn.has (c : Chn) (n : Int) : Prop := (c.gone : Int) < n ∧ n ≤ c.last

/-- What a Backup adds to the log. -/
def addedL (c : Nat) (last : Option ByteArray) (t : ByteArray) : List UInt8 :=
  match last with
  | none => recL (bodyF c t.data.toList)
  | some b => if (recL (bodyD c (diffF b t))).length < (recL (bodyF c t.data.toList)).length then recL (bodyD c (diffF b t)) else recL (bodyF c t.data.toList)
def noVault : Vlt := ⟨[], fun _ => ⟨0, []⟩⟩
def Vlt.put (s : Vlt) (c : Nat) (t : ByteArray) : Vlt :=
  ⟨s.log ++ addedL c (s.ch c).texts.getLast? t, fun i => if i = c then ⟨(s.ch c).gone, (s.ch c).texts ++ [t]⟩ else s.ch i⟩
def Vlt.drop (s : Vlt) (c n : Nat) : Vlt :=
  ⟨s.log ++ recL (bodyP c n), fun i => if i = c then ⟨n - 1, (s.ch c).texts.drop (n - (s.ch c).gone - 1)⟩ else s.ch i⟩
/-- There is no room for a text's full record, or no number for it. -/
def Vlt.full (s : Vlt) (c : Nat) (t : ByteArray) : Prop := 20000 < s.log.length + (recL (bodyF c t.data.toList)).length ∨ (s.ch c).last = 2147483647
def Vlt.noRoom (s : Vlt) (c n : Nat) : Prop := 20000 < s.log.length + (recL (bodyP c n)).length

/-- What every vault keeps to. -/
structure Vlt.Ok (s : Vlt) : Prop where
  log : s.log.length ≤ 20000
  last : ∀ i, (s.ch i).last ≤ 2147483647
  size : ∀ i, ∀ t ∈ (s.ch i).texts, t.size ≤ 2000
  none : ∀ i, (s.ch i).texts = [] → (s.ch i).gone = 0
theorem noVault_ok : noVault.Ok := ⟨by simp [noVault], fun i => by simp [noVault, Chn.last], fun i t h => by simp [noVault] at h, fun i _ => rfl⟩

theorem addedL_le (c : Nat) (l : Option ByteArray) (t : ByteArray) : (addedL c l t).length ≤ (recL (bodyF c t.data.toList)).length := by
  unfold addedL
  split
  · exact Nat.le_refl _
  · split
    · omega
    · exact Nat.le_refl _
theorem put_ok {s : Vlt} (h : s.Ok) {c : Nat} {t : ByteArray} (ht : t.size ≤ 2000) (hf : ¬ s.full c t) : (s.put c t).Ok := by
  have h1 := addedL_le c (s.ch c).texts.getLast? t
  have h2 := h.log
  have h3 := h.last c
  unfold Vlt.full at hf
  refine ⟨?_, fun i => ?_, fun i u hu => ?_, fun i hi => ?_⟩
  · simp only [Vlt.put, List.length_append]; omega
  · simp only [Vlt.put]
    split
    · unfold Chn.last at *; simp only [List.length_append, List.length_cons, List.length_nil]; omega
    · exact h.last i
  · simp only [Vlt.put] at hu
    split at hu
    · rcases List.mem_append.1 hu with hu | hu
      · exact h.size _ _ hu
      · obtain rfl : u = t := by simpa using hu
        exact ht
    · exact h.size _ _ hu
  · simp only [Vlt.put] at hi ⊢
    split at hi
    · simp at hi
    · rename_i hne; rw [if_neg hne]; exact h.none i hi
theorem drop_ok {s : Vlt} (h : s.Ok) {c n : Nat} (hh : (s.ch c).has n) (hr : ¬ s.noRoom c n) : (s.drop c n).Ok := by
  have h2 := h.log
  have h3 := h.last c
  unfold Vlt.noRoom at hr
  unfold Chn.has Chn.last at hh
  refine ⟨?_, fun i => ?_, fun i u hu => ?_, fun i hi => ?_⟩
  · simp only [Vlt.drop, List.length_append]; omega
  · simp only [Vlt.drop]
    split
    · unfold Chn.last at *; simp only [List.length_drop]; omega
    · exact h.last i
  · simp only [Vlt.drop] at hu
    split at hu
    · exact h.size _ _ (List.mem_of_mem_drop hu)
    · exact h.size _ _ hu
  · simp only [Vlt.drop] at hi ⊢
    split at hi
    · simp at hi; omega
    · rename_i hne; rw [if_neg hne]; exact h.none i hi

theorem isOpB_wide {f l b b' : Int} {t : ByteArray} (h : isOpB f l t b = true) (hb : b ≤ b') : isOpB f l t b' = true := by
  unfold isOpB at h ⊢
  split at h
  · rename_i hl
    rw [if_pos hl]
    simp only [Bool.and_eq_true, decide_eq_true_eq] at h ⊢
    exact ⟨h.1, by omega⟩
  · rename_i hl
    rw [if_neg hl]; exact h
theorem fault_wide {b b' : Int} (hb : b ≤ b') : ∀ (xs : List DOp) (p : Option DOp) (i : Nat) (m : Int), faultGo b xs p i m = i + xs.length → faultGo b' xs p i m = i + xs.length := by
  intro xs
  induction xs with
  | nil => intro p i m _; simp [faultGo]
  | cons o r ih =>
    intro p i m h
    have hle := fun p' i' m' => (faultGo_le b r p' i' m').1
    rw [faultGo] at h ⊢
    rw [List.length_cons] at h ⊢
    split at h
    · omega
    · rename_i h0
      rw [if_neg h0]
      by_cases h1 : isOpB o.fr o.len o.tx b = false
      · rw [if_pos h1] at h; omega
      · rw [if_neg h1] at h
        have h1' : isOpB o.fr o.len o.tx b = true := by simpa using h1
        rw [if_neg (by rw [isOpB_wide h1' hb]; simp)]
        split at h
        · omega
        · rename_i h2
          rw [if_neg h2]
          split at h
          · omega
          · rename_i h3
            rw [if_neg h3]
            rw [ih _ _ _ (by rw [h]; omega)]; omega
/-- What Diff makes is a delta. -/
theorem diffF_fault {b t : ByteArray} (hb : b.size ≤ 2000) (ht : t.size ≤ 2000) : faultF (diffF b t) 2000 = (diffF b t).length := by
  have key : faultF (diffF b t) b.size = (diffF b t).length := by
    unfold diffF
    split
    · by_cases h0 : t.size = 0
      · rw [addT_of_zero h0]; simp [faultF, faultGo]
      · have he : t.extract 0 t.size = t := by simp
        rw [addT_of_pos (by omega)]
        have := fault_text (base := b) (next := t) (b := (b.size : Int)) (p := none) (ts := 0) (at_ := t.size) (i := 0) (m := 0) (r := []) (.inl rfl) (by omega) (Nat.le_refl _) (by omega) (by omega)
        rw [he] at this
        unfold faultF; rw [this]; simp [faultGo]
    · rename_i hl
      have := fault_go (at_start b t) none 0 0 (.inl rfl) (by have : (descGo b t (t.size + 1) 0 0).length = (descF b t).length := rfl; omega) (by omega) (by omega)
      simpa [descF, faultF] using this
  have := fault_wide (b := b.size) (b' := 2000) (by omega) (diffF b t) none 0 0 (by unfold faultF at key; rw [key]; omega)
  unfold faultF; rw [this]; omega
end Go.Proofs.YtabpiaaknjcnkaaGreat

/-
  The walks over package record: what a record is made of.
-/
namespace Go.Proofs.YtabpiaaknjcnkaaGreat
open Go.RowKit
set_option linter.unusedVariables false
set_option linter.unusedSimpArgs false
set_option maxRecDepth 100000

theorem own_first (w : World) (base : Nat) (hb : base ≤ w.heap.size) (c : UInt8) : OwnBytes (w.alloc (.cells #[.int .u8 c.toNat] 5)) base (.slice (some ⟨w.heap.size, 0, none⟩) 1 1) [c] :=
  ⟨by simp, .inr ⟨w.heap.size, 1, _, rfl, hb, heap_alloc_new _ _, Nat.le_refl _, by unfold maxLen; omega, by simp, by simp [byteV]⟩⟩

/-- A string behind a row of bytes, at a step of a region that draws its order. -/
theorem step_append_str {w : World} {ops : Array Oper} {o : Oper} {a : Act} {K : Act → World → Prop} {Q : Exit → Act → World → Prop} {E : Prop} (hgd : o.guard = none) (sl x : Operand)
    (ho : o.op = .call { callee := .builtin .append, args := #[sl, x], argTypes := #[48, 9] })
    (base : Nat) (v : Value) (bs : List UInt8) (hs : a.eval sl = v) (hown : OwnBytes w base v bs) (s : ByteArray) (hx : a.eval x = .string s) (hl : bs.length + s.size ≤ 1000000) (hbase : base ≤ w.heap.size)
    (h : ∀ v' w', OwnBytes w' base v' (bs ++ s.data.toList) → w.grownBy w' v.ownBlock → K (a.put o.dst v') w') :
    if Region.wanted o (yielded ops a.tmps) = true then Oper.wp Tryz.prog o a w K Q else E := by
  have hw : Region.wanted o (yielded ops a.tmps) = true := by simp [Region.wanted, hgd]
  rw [if_pos hw]
  obtain ⟨i0, hi, hz0, hz1, hz2⟩ := info_parts Tryz.infoByte
  obtain ⟨v', w', hr, h2, h3, h4⟩ := Lib.run_append_own_string (P := Tryz.prog) w base 48 9 o.type 5 i0 Tryz.underlying48 Tryz.underlying9 hi hz0 hz1 hz2 v bs.length (bs.map byteV) hown s (by unfold maxLen; omega) (by omega) hbase
  unfold Oper.wp execOp
  simp only [ho, resolve, invoke, builtin, Sem.run_bind, Sem.run_pure, Result.andThen_ok, List.map_toArray, List.map_cons, List.map_nil, hs, hx, hr]
  refine h v' w' ?_ h3
  unfold OwnBytes
  rw [List.map_append, List.length_append, ← Lib.size_eq]
  exact h2

theorem OwnBytes.wide {w : World} {base b : Nat} {v : Value} {bs : List UInt8} (h : OwnBytes w base v bs) (hb : b ≤ base) : OwnBytes w b v bs := by
  refine ⟨h.1, ?_⟩
  rcases h.2 with h' | ⟨g, cap, cur, rfl, hg, hr⟩
  · exact .inl h'
  · exact .inr ⟨g, cap, cur, rfl, by omega, hr⟩
theorem grown_cell {w w' : World} {base : Nat} {v : Value} {bs : List UInt8} (ho : OwnBytes w base v bs) (hg : w.grownBy w' v.ownBlock) (hb : base ≤ w.heap.size) (q j : Nat) (hq : q < base) : w'.cell? ⟨q, j, none⟩ = w.cell? ⟨q, j, none⟩ :=
  World.cell?_of_block (a := ⟨q, j, none⟩) (hg.block q (by omega) (fun e => by have := row_own_ge ho e.symm; omega))

set_option maxHeartbeats 2000000 in
theorem begin_any (L : UInt8) (c : Nat) (w : World) (hc : c < 128) :
    Calls Tryz.prog 175 #[.agg #[.int .u8 L.toNat, .int .i64 c]] w fun e w' => ∃ v, e = .returned v ∧ OwnBytes w' w.heap.size v (L :: uN c) ∧ Below w.heap.size w w' := by
  have HO : Hid (OwnBytes ((w.alloc (.cells #[.int .u8 L.toNat, .int .i64 c] 145)).alloc (.cells #[.int .u8 L.toNat] 5)) w.heap.size (.slice (some ⟨w.heap.size + 1, 0, none⟩) 1 1) [L]) := by
    have := own_first (w.alloc (.cells #[.int .u8 L.toNat, .int .i64 c] 145)) w.heap.size (by simp) L
    simpa [Hid] using this
  have HB : Hid (Below w.heap.size w ((w.alloc (.cells #[.int .u8 L.toNat, .int .i64 c] 145)).alloc (.cells #[.int .u8 L.toNat] 5))) := ((Below.refl _ _).alloc (Nat.le_refl _) _).alloc (by simp) _
  go_enter Tryz.func175, Tryz.ntmps175
  go_wp2_with fail
  refine (addnum_any _ [L] c w.heap.size _ HO.out (by simp; omega) (by simp) (by omega)).mono ?_
  rintro e w1 ⟨v1, rfl, ho1, hb1, _⟩
  have R1 : Below w.heap.size w w1 := HB.out.trans hb1
  have R2 : Hid (OwnBytes w1 w.heap.size v1 (L :: uN c)) := ho1
  clear ho1 hb1 HB HO
  go_wp2
  go_ret
  exact ⟨v1, rfl, R2.out, R1⟩

set_option maxHeartbeats 4000000 in
theorem fbody_any (c : Nat) (t : ByteArray) (w : World) (hc : c < 128) (ht : t.size ≤ 2000) :
    Calls Tryz.prog 177 #[.agg #[.int .u8 70, .int .i64 c, .string t]] w fun e w' => ∃ v, e = .returned v ∧ OwnBytes w' w.heap.size v (bodyF c t.data.toList) ∧ Below w.heap.size w w' := by
  have hu := uN_length (n := c) (by omega)
  have hq : w.heap.size < (w.alloc (.cells #[.int .u8 70, .int .i64 c, .string t] 155)).heap.size := by simp
  have k0 : (w.alloc (.cells #[.int .u8 70, .int .i64 c, .string t] 155)).cell? ⟨w.heap.size, 0, none⟩ = some (.int .u8 70) := by simp
  have k1 : (w.alloc (.cells #[.int .u8 70, .int .i64 c, .string t] 155)).cell? ⟨w.heap.size, 1, none⟩ = some (.int .i64 c) := by simp
  have k2 : (w.alloc (.cells #[.int .u8 70, .int .i64 c, .string t] 155)).cell? ⟨w.heap.size, 2, none⟩ = some (.string t) := by simp
  have HC : Hid (∀ W : World, Calls Tryz.prog 175 #[.agg #[.int .u8 70, .int .i64 c]] W fun e w' => ∃ v, e = .returned v ∧ OwnBytes w' W.heap.size v (70 :: uN c) ∧ Below W.heap.size W w') := fun W => begin_any 70 c W hc
  go_enter Tryz.func177, Tryz.ntmps177
  go_wp2
  go_region_held3 (fun w' => w'.cell? ⟨w.heap.size, 0, none⟩ = some (.int .u8 70) ∧ w'.cell? ⟨w.heap.size, 1, none⟩ = some (.int .i64 c) ∧ w'.cell? ⟨w.heap.size, 2, none⟩ = some (.string t)) (go_keep)
    (first | (go_at_call 175; refine (HC.out _).mono ?_; rintro e w3 ⟨v3, rfl, o3, hb3⟩; have e0 := (hb3.cell (p := ⟨w.heap.size, 0, none⟩) hq).trans k0; have e1 := (hb3.cell (p := ⟨w.heap.size, 1, none⟩) hq).trans k1; have e2 := (hb3.cell (p := ⟨w.heap.size, 2, none⟩) hq).trans k2) | (refine step_append_str rfl (.tmp 5) (.tmp 7) rfl _ _ _ (by simp [Act.eval, Act.put]) o3 t (by simp [Act.eval, Act.put]) (by simp; omega) (by have := hb3.size; simp at this ⊢; omega) ?_; intro v4 w4 o4 hg4; have hs3 := hb3.size; have e0 := (grown_cell o3 hg4 hs3 _ 0 hq).trans e0; have e1 := (grown_cell o3 hg4 hs3 _ 1 hq).trans e1; have e2 := (grown_cell o3 hg4 hs3 _ 2 hq).trans e2))
  all_goals
    have R1 : Below w.heap.size w w4 := by
      have h1 : Below w.heap.size w w3 := (((Below.refl w.heap.size w).alloc (Nat.le_refl _) (.cells #[.int .u8 70, .int .i64 c, .string t] 155)).drew).trans (hb3.mono (by simp))
      exact h1.grown hg4 h1.size (fun k hk => by have := row_own_ge o3 hk; simp at this; omega)
    have R2 : Hid (OwnBytes w4 w.heap.size v4 (bodyF c t.data.toList)) := by
      have := OwnBytes.wide (b := w.heap.size) o4 (by simp)
      simpa [bodyF, Hid] using this
    clear o3 o4 hb3 hg4 hs3
    go_wp2
    go_ret
    exact ⟨v4, rfl, R2.out, R1⟩

set_option maxHeartbeats 4000000 in
theorem pbody_any (c n : Nat) (w : World) (hc : c < 128) (hn : n < 34359738368) :
    Calls Tryz.prog 174 #[.agg #[.int .u8 80, .int .i64 c, .int .i64 n]] w fun e w' => ∃ v, e = .returned v ∧ OwnBytes w' w.heap.size v (bodyP c n) ∧ Below w.heap.size w w' := by
  have hu := uN_length (n := c) (by omega)
  have hq : w.heap.size < (w.alloc (.cells #[.int .u8 80, .int .i64 c, .int .i64 n] 147)).heap.size := by simp
  have k0 : (w.alloc (.cells #[.int .u8 80, .int .i64 c, .int .i64 n] 147)).cell? ⟨w.heap.size, 0, none⟩ = some (.int .u8 80) := by simp
  have k1 : (w.alloc (.cells #[.int .u8 80, .int .i64 c, .int .i64 n] 147)).cell? ⟨w.heap.size, 1, none⟩ = some (.int .i64 c) := by simp
  have k2 : (w.alloc (.cells #[.int .u8 80, .int .i64 c, .int .i64 n] 147)).cell? ⟨w.heap.size, 2, none⟩ = some (.int .i64 n) := by simp
  have HC : Hid (∀ W : World, Calls Tryz.prog 175 #[.agg #[.int .u8 80, .int .i64 c]] W fun e w' => ∃ v, e = .returned v ∧ OwnBytes w' W.heap.size v (80 :: uN c) ∧ Below W.heap.size W w') := fun W => begin_any 80 c W hc
  go_enter Tryz.func174, Tryz.ntmps174
  go_wp2
  go_region_held3 (fun w' => w'.cell? ⟨w.heap.size, 0, none⟩ = some (.int .u8 80) ∧ w'.cell? ⟨w.heap.size, 1, none⟩ = some (.int .i64 c) ∧ w'.cell? ⟨w.heap.size, 2, none⟩ = some (.int .i64 n)) (go_keep)
    (first | (go_at_call 175; refine (HC.out _).mono ?_; rintro e w3 ⟨v3, rfl, o3, hb3⟩; have e0 := (hb3.cell (p := ⟨w.heap.size, 0, none⟩) hq).trans k0; have e1 := (hb3.cell (p := ⟨w.heap.size, 1, none⟩) hq).trans k1; have e2 := (hb3.cell (p := ⟨w.heap.size, 2, none⟩) hq).trans k2) | (go_at_call 132; refine (addnum_any _ _ n _ _ o3 hb3.size (by simp; omega) hn).mono ?_; rintro e w4 ⟨v4, rfl, o4, hb4, _⟩; have e0 := (hb4.cell (p := ⟨w.heap.size, 0, none⟩) hq).trans e0; have e1 := (hb4.cell (p := ⟨w.heap.size, 1, none⟩) hq).trans e1; have e2 := (hb4.cell (p := ⟨w.heap.size, 2, none⟩) hq).trans e2))
  all_goals
    have R1 : Below w.heap.size w w4 := by
      have h1 : Below w.heap.size w w3 := (((Below.refl w.heap.size w).alloc (Nat.le_refl _) (.cells #[.int .u8 80, .int .i64 c, .int .i64 n] 147)).drew).trans (hb3.mono (by simp))
      exact h1.trans (hb4.mono (by simp))
    have R2 : Hid (OwnBytes w4 w.heap.size v4 (bodyP c n)) := by
      have := OwnBytes.wide (b := w.heap.size) o4 (by simp)
      simpa [bodyP, Hid] using this
    clear o3 o4 hb3 hb4
    go_wp2
    go_ret
    exact ⟨v4, rfl, R2.out, R1⟩

set_option maxHeartbeats 4000000 in
theorem dbody_any (c : Nat) (v : Value) (xs : List DOp) (w : World) (hc : c < 128) (hv : View w v xs) (hD : Delta xs 2000) :
    Calls Tryz.prog 180 #[.agg #[.int .u8 68, .int .i64 c, v]] w fun e w' => ∃ v, e = .returned v ∧ OwnBytes w' w.heap.size v (bodyD c xs) ∧ Below w.heap.size w w' := by
  obtain ⟨ao, c1, hv1⟩ := hv.slice
  rw [hv1] at hv ⊢
  have HV : Hid (View w (.slice ao xs.length c1) xs) := hv
  have HD : Hid (Delta xs 2000) := hD
  clear hv hv1 hD
  have hu := uN_length (n := c) (by omega)
  have hq : w.heap.size < (w.alloc (.cells #[.int .u8 68, .int .i64 c, .slice ao xs.length c1] 180)).heap.size := by simp
  have k0 : (w.alloc (.cells #[.int .u8 68, .int .i64 c, .slice ao xs.length c1] 180)).cell? ⟨w.heap.size, 0, none⟩ = some (.int .u8 68) := by simp
  have k1 : (w.alloc (.cells #[.int .u8 68, .int .i64 c, .slice ao xs.length c1] 180)).cell? ⟨w.heap.size, 1, none⟩ = some (.int .i64 c) := by simp
  have k2 : (w.alloc (.cells #[.int .u8 68, .int .i64 c, .slice ao xs.length c1] 180)).cell? ⟨w.heap.size, 2, none⟩ = some (.slice ao xs.length c1) := by simp
  have HC : Hid (∀ W : World, Calls Tryz.prog 175 #[.agg #[.int .u8 68, .int .i64 c]] W fun e w' => ∃ v, e = .returned v ∧ OwnBytes w' W.heap.size v (68 :: uN c) ∧ Below W.heap.size W w') := fun W => begin_any 68 c W hc
  go_enter Tryz.func180, Tryz.ntmps180
  go_wp2
  go_region_held3 (fun w' => w'.cell? ⟨w.heap.size, 0, none⟩ = some (.int .u8 68) ∧ w'.cell? ⟨w.heap.size, 1, none⟩ = some (.int .i64 c) ∧ w'.cell? ⟨w.heap.size, 2, none⟩ = some (.slice ao xs.length c1)) (go_keep)
    (first | (go_at_call 175; refine (HC.out _).mono ?_; rintro e w3 ⟨v3, rfl, o3, hb3⟩; have h13 : Below w.heap.size w w3 := (((Below.refl w.heap.size w).alloc (Nat.le_refl _) (.cells #[.int .u8 68, .int .i64 c, .slice ao xs.length c1] 180)).drew).trans (hb3.mono (by simp)); have e0 := (hb3.cell (p := ⟨w.heap.size, 0, none⟩) hq).trans k0; have e1 := (hb3.cell (p := ⟨w.heap.size, 1, none⟩) hq).trans k1; have e2 := (hb3.cell (p := ⟨w.heap.size, 2, none⟩) hq).trans k2) | (go_at_call 126; refine (addcode_any HV.out h13 (by simp) HD.out o3 hb3.size (by simp; omega)).mono ?_; rintro e w4 ⟨v4, rfl, o4, hb4, _⟩; have e0 := (hb4.cell (p := ⟨w.heap.size, 0, none⟩) hq).trans e0; have e1 := (hb4.cell (p := ⟨w.heap.size, 1, none⟩) hq).trans e1; have e2 := (hb4.cell (p := ⟨w.heap.size, 2, none⟩) hq).trans e2))
  all_goals
    have R1 : Below w.heap.size w w4 := h13.trans (hb4.mono (by simp))
    have R2 : Hid (OwnBytes w4 w.heap.size v4 (bodyD c xs)) := by
      have := OwnBytes.wide (b := w.heap.size) o4 (by simp)
      simpa [bodyD, Hid] using this
    clear o3 o4 hb3 hb4 h13
    go_wp2
    go_ret
    exact ⟨v4, rfl, R2.out, R1⟩
end Go.Proofs.YtabpiaaknjcnkaaGreat

/-
  The walks over package record: a record's bytes.
-/
namespace Go.Proofs.YtabpiaaknjcnkaaGreat
open Go.RowKit
set_option linter.unusedVariables false
set_option linter.unusedSimpArgs false
set_option maxRecDepth 100000

theorem ofNat_mod (x : Nat) : ((x : Int) % 256) = ((UInt8.ofNat x).toNat : Int) := by
  rw [UInt8.toNat_ofNat']; omega

/-- Four bytes in a row: those of a number that have been written, then zeros. -/
def leCells (x k : Nat) : Array Value := #[byteV (if 0 < k then UInt8.ofNat x else 0), byteV (if 1 < k then UInt8.ofNat (x / 256) else 0), byteV (if 2 < k then UInt8.ofNat (x / 65536) else 0), byteV (if 3 < k then UInt8.ofNat (x / 16777216) else 0)]
theorem leCells_set (w : World) (g x k : Nat) (hk : k < 4) (T : TypeId) (h : w.heap[g]? = some (.cells (leCells x k) T (0, 0))) (y : Nat) (hy : y = x / 256 ^ k) : (w.setCell ⟨g, k, none⟩ (.int .u8 ((UInt8.ofNat y).toNat : Int))).heap[g]? = some (.cells (leCells x (k + 1)) T (0, 0)) := by
  rw [Lib.heap_setCell_same h]
  subst hy
  rcases (show k = 0 ∨ k = 1 ∨ k = 2 ∨ k = 3 by omega) with rfl | rfl | rfl | rfl <;> simp [leCells, byteV]
theorem le4_conv (w : World) (g x : Nat) (T : TypeId) (h : w.heap[g]? = some (.cells (leCells x 4) T (0, 0))) : (convert 48 9 (.slice (some ⟨g, 0, none⟩) 4 4)).run Tryz.prog w = .ok (.string ⟨(le4 x).toArray⟩) w := by
  have := run_convert_bytes_back (P := Tryz.prog) w 48 9 5 ⟨g, 0, none⟩ 4 (le4 x) Tryz.underlying48 Tryz.underlying5 Tryz.underlying9 (fun j hj => by
    have hj4 : j < 4 := by simpa [le4] using hj
    have e : (⟨g, 0, none⟩ : Addr).add j = ⟨g, j, none⟩ := by unfold Addr.add; split <;> simp_all
    rw [e, Lib.cell_of_heap h]
    rcases (show j = 0 ∨ j = 1 ∨ j = 2 ∨ j = 3 by omega) with rfl | rfl | rfl | rfl <;> simp [leCells, byteV, le4])
  exact this

set_option maxHeartbeats 2000000 in
/-- The sum of a body as it stands behind it. -/
theorem sumof4_any (b : ByteArray) (w : World) (hb : b.size ≤ 9223372036854775806) :
    Calls Tryz.prog 133 #[.string b] w fun e w' => e = .returned (.string ⟨(le4 (sumL b.data.toList)).toArray⟩) ∧ Below w.heap.size w w' := by
  have hx : sumL b.data.toList < 4294967296 := sumL_lt _
  have HS : Hid (∀ W, Calls Tryz.prog 98 #[.string b] W fun e w' => e = .returned (.int .u32 (sumL b.data.toList)) ∧ W = w') := fun W => of_any b W hb
  generalize sumL b.data.toList = x at *
  have HB0 : Hid (Below w.heap.size w (w.alloc (.cells (leCells x 0) 192))) := (Below.refl _ _).alloc (Nat.le_refl _) _
  have HC0 : Hid ((w.alloc (.cells (leCells x 0) 192)).heap[w.heap.size]? = some (.cells (leCells x 0) 192 (0, 0))) := heap_alloc_new _ _
  go_enter Tryz.func133, Tryz.ntmps133
  go_wp2_with fail
  refine (HS.out _).mono ?_
  rintro e w1 ⟨rfl, rfl⟩
  go_wp2
  go_loopw [4, 8] (fun b c wr => ∃ (k y : Nat), c = .int .i64 k ∧ b = .int .u32 y ∧ k ≤ 4 ∧ y < 4294967296 ∧ Hid (y = x / 256 ^ k) ∧ Hid (wr.heap[w.heap.size]? = some (.cells (leCells x k) 192 (0, 0))) ∧ Hid (Below w.heap.size w wr)) (fun _ c _ => 5 - (intOf c).toNat)
  case atStart => exact ⟨0, x, rfl, rfl, by omega, hx, by simp [Hid], HC0, HB0⟩
  case round =>
    obtain ⟨k, y, rfl, rfl, hk, hy, HY, HC, HB⟩ := hrel
    by_cases hlt : k < 4
    · have hcell : (wr.cell? ⟨w.heap.size, k, none⟩).isSome = true := by
        rw [Lib.cell_of_heap HC.out]
        rcases (show k = 0 ∨ k = 1 ∨ k = 2 ∨ k = 3 by omega) with rfl | rfl | rfl | rfl <;> simp [leCells]
      have hfr : wr.frozen? ⟨w.heap.size, k, none⟩ = false := Lib.frozen_of_heap HC.out k
      obtain ⟨u, hu⟩ := Option.isSome_iff_exists.1 hcell
      have hw8 : IntKind.u8.wrap (y : Int) = ((UInt8.ofNat y).toNat : Int) := by rw [IntKind.wrap_u8]; exact ofNat_mod y
      have HC2 : Hid ((wr.setCell ⟨w.heap.size, k, none⟩ (.int .u8 ((UInt8.ofNat y).toNat : Int))).heap[w.heap.size]? = some (.cells (leCells x (k + 1)) 192 (0, 0))) := leCells_set wr _ x k hlt 192 HC.out y HY.out
      have HB2 : Hid (Below w.heap.size w (wr.setCell ⟨w.heap.size, k, none⟩ (.int .u8 ((UInt8.ofNat y).toNat : Int)))) := HB.out.setCell (p := ⟨w.heap.size, k, none⟩) (Nat.le_refl _) _
      have HY2 : Hid (y / 256 = x / 256 ^ (k + 1)) := by
        show _ = _
        rw [HY.out, Nat.pow_succ, Nat.div_div_eq_div_mul]
      clear hcell HC HB HY
      generalize ((UInt8.ofNat y).toNat : Int) = z at *
      go_wp2
      go_roundw
      case rel => exact ⟨k + 1, y / 256, by go_num, val_u32 (by omega), by omega, by omega, HY2, HC2, HB2⟩
      case measure => simp [intOf]; omega
    · obtain rfl : k = 4 := by omega
      have hcv := le4_conv wr w.heap.size x 192 HC.out
      go_wp2
      go_ret
      exact ⟨rfl, HB.out⟩

theorem own_news {w : World} {base : Nat} {v : Value} {bs : List UInt8} {g n c : Nat} (h : OwnBytes w base v bs) (hv : v = .slice (some ⟨g, 0, none⟩) n c) : ∀ j u, (bs.map byteV)[j]? = some u → w.cell? ((⟨g, 0, none⟩ : Addr).add j) = some u := by
  rcases h.2 with ⟨h', _⟩ | ⟨g', cap', cur, h', _, hbk, h1, h2, h3, h4⟩
  · rw [h'] at hv; cases hv
  · rw [h'] at hv
    injection hv with e1 e2 e3
    injection e1 with e1
    injection e1 with e1
    subst e1
    intro j u hu
    rw [show (⟨g', 0, none⟩ : Addr).add j = ⟨g', j, none⟩ from by unfold Addr.add; split <;> simp_all, Lib.cell_of_heap hbk]
    have hj := (List.getElem?_eq_some_iff.1 hu).1
    rw [← h4] at hu hj
    rw [List.length_take] at hj
    rw [List.getElem?_take_of_lt (by omega), Array.getElem?_toList] at hu
    exact hu
theorem own_form {w : World} {base : Nat} {v : Value} {bs : List UInt8} (h : OwnBytes w base v bs) (hb : 0 < bs.length) : ∃ g c, v = .slice (some ⟨g, 0, none⟩) bs.length c ∧ base ≤ g ∧ g < w.heap.size := by
  rcases h.2 with ⟨h', h0⟩ | ⟨g', cap', cur, h', hg, hbk, _⟩
  · omega
  · exact ⟨g', cap', h', hg, lt_of_block hbk⟩
theorem own_kept {w w' : World} {base B : Nat} {v : Value} {bs : List UInt8} (h : OwnBytes w base v bs) (hb : Below B w w') (hlt : ∀ g, v.ownBlock = some g → g < B) : OwnBytes w' base v bs := row_block h (fun g hg => hb.block g (hlt g hg))

set_option maxHeartbeats 4000000 in
/-- A body's record. -/
theorem wrap_any (g c1 : Nat) (body : List UInt8) (base : Nat) (w : World) (hb0 : 0 < body.length) (hbl : body.length ≤ 10000) (ho : OwnBytes w base (.slice (some ⟨g, 0, none⟩) body.length c1) body) (hg : g < w.heap.size) :
    Calls Tryz.prog 108 #[.slice (some ⟨g, 0, none⟩) body.length c1] w fun e w' => ∃ v, e = .returned v ∧ OwnBytes w' w.heap.size v (recL body) ∧ Below w.heap.size w w' := by
  have HO1 : Hid (OwnBytes w base (.slice (some ⟨g, 0, none⟩) body.length c1) body) := ho
  clear ho
  go_enter Tryz.func108, Tryz.ntmps108
  go_wp2_with fail
  refine (addnum_any (.slice none 0 0) [] body.length w.heap.size _ (World.ownsRow_nil _ _ _ _) (Nat.le_refl _) (by simp) (by omega)).mono ?_
  rintro e w2 ⟨v2, rfl, o2, b2, _⟩
  have hu := uN_length (n := body.length) (by omega)
  have HO2 : Hid (OwnBytes w2 w.heap.size v2 (uN body.length)) := by simpa [Hid] using o2
  have HB2 : Hid (OwnBytes w2 base (.slice (some ⟨g, 0, none⟩) body.length c1) body) := own_kept HO1.out b2 (fun q hq => by simp [Value.ownBlock] at hq; omega)
  have hs2 := b2.size
  obtain ⟨i0, hi, hz0, hz1, hz2⟩ := info_parts Tryz.infoByte
  clear o2 HO1
  go_wp2_with (first | (at_builtin; refine wpList_append_own _ rfl _ _ 48 rfl w.heap.size 5 i0 (.int .u8 0) 1 1 Tryz.underlying48 hi hz0 hz1 hz2 rfl (by decide) _ _ _ rfl HO2.out ⟨g, 0, none⟩ body.length c1 (body.map byteV) rfl ?c1 ?c2 ?c3 ?c4 ?c5 ?c6 ?_))
  case c1 => simp
  case c2 => exact own_news HB2.out rfl
  case c3 => intro u hu; obtain ⟨x, _, rfl⟩ := List.mem_map.1 hu; rfl
  case c4 => unfold maxLen; omega
  case c5 => omega
  case c6 => omega
  intro v3 w3 o3 hg3 _
  have HO3 : Hid (OwnBytes w3 w.heap.size v3 (uN body.length ++ body)) := by
    show OwnBytes w3 w.heap.size v3 (uN body.length ++ body)
    unfold OwnBytes; rw [List.map_append, List.length_append]; exact o3
  have B3 : Below w.heap.size w w3 := b2.grown hg3 hs2 (fun k hk => row_own_ge HO2.out hk)
  have hB3 : OwnBytes w3 base (.slice (some ⟨g, 0, none⟩) body.length c1) body := row_block HB2.out (fun q hq => hg3.block q (by simp [Value.ownBlock] at hq; omega) (fun e => by have := row_own_ge HO2.out e.symm; simp [Value.ownBlock] at hq; omega))
  have hcv := conv_own hB3 hb0
  have hs3 := B3.size
  have hLl : (uN body.length ++ body).length ≤ 20000 := by simp; omega
  have HREC : Hid (recL body = uN body.length ++ body ++ le4 (sumL body)) := rfl
  generalize hL : uN body.length ++ body = L at HO3 hLl HREC
  clear hL
  obtain ⟨ob, oc, hv3⟩ := HO3.out.slice
  rw [hv3] at HO3 ⊢
  clear o3 hg3 hB3 HB2 HO2 b2 hv3
  have HSUM : Hid (∀ W, Calls Tryz.prog 133 #[.string ⟨body.toArray⟩] W fun e w' => e = .returned (.string ⟨(le4 (sumL body)).toArray⟩) ∧ Below W.heap.size W w') := fun W => by
    have := sumof4_any ⟨body.toArray⟩ W (by rw [Lib.size_eq]; simp; omega)
    rw [show (⟨body.toArray⟩ : ByteArray).data.toList = body from by simp] at this
    exact this
  have hS4 : (⟨(le4 (sumL body)).toArray⟩ : ByteArray).size = 4 := rfl
  have HS4 : Hid ((⟨(le4 (sumL body)).toArray⟩ : ByteArray).data.toList = le4 (sumL body)) := by simp [Hid]
  generalize hS : (⟨(le4 (sumL body)).toArray⟩ : ByteArray) = S at *
  clear hS
  go_wp2_with fail
  refine (HSUM.out _).mono ?_
  rintro e w4 ⟨rfl, b4⟩
  have HO4 : Hid (OwnBytes w4 w.heap.size _ L) := row_block HO3.out (fun q hq => b4.block q (row_own_lt HO3.out hq))
  have B4 : Below w.heap.size w w4 := B3.trans (b4.mono hs3)
  have hs4 := B4.size
  clear HO3 hcv b4
  go_wp2_with (first | (at_builtin; refine Lib.wpList_append_own_string _ rfl _ _ 48 9 rfl w.heap.size 5 i0 Tryz.underlying48 Tryz.underlying9 hi hz0 hz1 hz2 _ _ _ rfl HO4.out S rfl ?d1 ?d2 ?d3 ?_))
  case d1 => unfold maxLen; omega
  case d2 => omega
  case d3 => omega
  intro v5 w5 o5 hg5 _
  have R1 : Below w.heap.size w w5 := B4.grown hg5 hs4 (fun k hk => row_own_ge HO4.out hk)
  have R2 : Hid (OwnBytes w5 w.heap.size v5 (recL body)) := by
    show OwnBytes w5 w.heap.size v5 (recL body)
    rw [HREC.out, ← HS4.out]
    unfold OwnBytes; rw [List.map_append, List.length_append, ← Lib.size_eq, hS4]; exact o5
  clear o5 hg5
  go_wp2
  go_ret
  exact ⟨v5, rfl, R2.out, R1⟩

set_option maxHeartbeats 4000000 in
/-- A record's bytes, of whatever kind: by its body. -/
theorem recbytes_of (T : TypeId) (x : Value) (K : FuncId) (body : List UInt8) (w : World) (hb0 : 0 < body.length) (hbl : body.length ≤ 10000)
    (hm : ∀ W : World, (method 313 T x "coffer/record.body").run Tryz.prog W = .ok (K, x) W) (hf : ∀ W : World, (callFunc K #[x]).run Tryz.prog W = .ok (.enter K #[x]) W)
    (hc : Calls Tryz.prog K #[x] w fun e w' => ∃ v, e = .returned v ∧ OwnBytes w' w.heap.size v body ∧ Below w.heap.size w w') :
    Calls Tryz.prog 84 #[.iface T x] w fun e w' => ∃ v, e = .returned v ∧ OwnBytes w' w.heap.size v (recL body) ∧ Below w.heap.size w w' := by
  have HC : Hid (Calls Tryz.prog K #[x] w fun e w' => ∃ v, e = .returned v ∧ OwnBytes w' w.heap.size v body ∧ Below w.heap.size w w') := hc
  clear hc
  go_enter Tryz.func84, Tryz.ntmps84
  go_wp2_with fail
  refine HC.out.mono ?_
  rintro e w1 ⟨v1, rfl, o1, b1⟩
  obtain ⟨g, c1, hv1, hg, hg1⟩ := own_form o1 hb0
  subst hv1
  have HO1 : Hid (OwnBytes w1 w.heap.size (.slice (some ⟨g, 0, none⟩) body.length c1) body) := o1
  have hs1 := b1.size
  clear o1 HC
  go_wp2_with fail
  refine (wrap_any g c1 body _ _ hb0 hbl HO1.out hg1).mono ?_
  rintro e w2 ⟨v2, rfl, o2, b2⟩
  have R1 : Below w.heap.size w w2 := b1.trans (b2.mono hs1)
  have R2 : Hid (OwnBytes w2 w.heap.size v2 (recL body)) := OwnBytes.wide o2 hs1
  clear o2 b2 HO1
  go_wp2
  go_ret
  exact ⟨v2, rfl, R2.out, R1⟩

theorem bodyF_len (c : Nat) (t : ByteArray) (hc : c < 128) (ht : t.size ≤ 2000) : 0 < (bodyF c t.data.toList).length ∧ (bodyF c t.data.toList).length ≤ 2010 := by
  have := uN_length (n := c) (by omega)
  have := Lib.size_eq t
  constructor <;> simp [bodyF] <;> omega
theorem bodyP_len (c n : Nat) (hc : c < 128) (hn : n < 34359738368) : 0 < (bodyP c n).length ∧ (bodyP c n).length ≤ 20 := by
  have := uN_length (n := c) (by omega)
  have := uN_length5 hn
  constructor <;> simp [bodyP] <;> omega
theorem bodyD_len (c : Nat) (xs : List DOp) (hc : c < 128) (hD : Delta xs 2000) : 0 < (bodyD c xs).length ∧ (bodyD c xs).length ≤ 5000 := by
  have h1 := uN_length (n := c) (by omega)
  have h2 := encTo_length hD xs.length
  have e : encTo xs xs.length = encL xs := by unfold encTo encL; rw [List.take_length]
  rw [e] at h2
  constructor <;> simp [bodyD] <;> omega
theorem recL_len {b : List UInt8} (h : b.length ≤ 10000) : (recL b).length ≤ b.length + 7 ∧ 4 < (recL b).length := by
  have h1 := uN_length (n := b.length) (by omega)
  have h2 := uN_pos b.length
  rw [recL_length]; omega

theorem recbytes_full (c : Nat) (t : ByteArray) (w : World) (hc : c < 128) (ht : t.size ≤ 2000) :
    Calls Tryz.prog 84 #[.iface 155 (.agg #[.int .u8 70, .int .i64 c, .string t])] w fun e w' => ∃ v, e = .returned v ∧ OwnBytes w' w.heap.size v (recL (bodyF c t.data.toList)) ∧ Below w.heap.size w w' :=
  recbytes_of _ _ 177 _ w (bodyF_len c t hc ht).1 (by have := (bodyF_len c t hc ht).2; omega) (fun W => by kernel_rfl) (fun W => by kernel_rfl) (fbody_any c t w hc ht)
theorem recbytes_prune (c n : Nat) (w : World) (hc : c < 128) (hn : n < 34359738368) :
    Calls Tryz.prog 84 #[.iface 147 (.agg #[.int .u8 80, .int .i64 c, .int .i64 n])] w fun e w' => ∃ v, e = .returned v ∧ OwnBytes w' w.heap.size v (recL (bodyP c n)) ∧ Below w.heap.size w w' :=
  recbytes_of _ _ 174 _ w (bodyP_len c n hc hn).1 (by have := (bodyP_len c n hc hn).2; omega) (fun W => by kernel_rfl) (fun W => by kernel_rfl) (pbody_any c n w hc hn)
theorem recbytes_diff (c : Nat) (v : Value) (xs : List DOp) (w : World) (hc : c < 128) (hv : View w v xs) (hD : Delta xs 2000) :
    Calls Tryz.prog 84 #[.iface 180 (.agg #[.int .u8 68, .int .i64 c, v])] w fun e w' => ∃ v, e = .returned v ∧ OwnBytes w' w.heap.size v (recL (bodyD c xs)) ∧ Below w.heap.size w w' :=
  recbytes_of _ _ 180 _ w (bodyD_len c xs hc hD).1 (by have := (bodyD_len c xs hc hD).2; omega) (fun W => by kernel_rfl) (fun W => by kernel_rfl) (dbody_any c v xs w hc hv hD)

set_option maxHeartbeats 1000000 in
theorem recfull_any (c : Nat) (t : ByteArray) (w : World) : Calls Tryz.prog 89 #[.int .i64 c, .string t] w fun e w' => e = .returned (.iface 155 (.agg #[.int .u8 70, .int .i64 c, .string t])) ∧ w = w' := by
  go_enter Tryz.func89, Tryz.ntmps89
  go_wp2
  go_ret
  exact ⟨rfl, rfl⟩
set_option maxHeartbeats 1000000 in
theorem recprune_any (c n : Nat) (w : World) : Calls Tryz.prog 85 #[.int .i64 c, .int .i64 n] w fun e w' => e = .returned (.iface 147 (.agg #[.int .u8 80, .int .i64 c, .int .i64 n])) ∧ w = w' := by
  go_enter Tryz.func85, Tryz.ntmps85
  go_wp2
  go_ret
  exact ⟨rfl, rfl⟩
set_option maxHeartbeats 1000000 in
theorem recdiff_any (c : Nat) (v : Value) (xs : List DOp) (w : World) (hv : View w v xs) : Calls Tryz.prog 115 #[.int .i64 c, v] w fun e w' => e = .returned (.iface 180 (.agg #[.int .u8 68, .int .i64 c, v])) ∧ w = w' := by
  obtain ⟨ao, c1, hv1⟩ := hv.slice
  rw [hv1]
  clear hv hv1
  go_enter Tryz.func115, Tryz.ntmps115
  go_wp2
  go_ret
  exact ⟨rfl, rfl⟩

set_option maxHeartbeats 2000000 in
/-- The record of a text behind the one ahead. -/
theorem sdiff_any (c : Nat) (b t : ByteArray) (w : World) (hc : c < 128) (hb : b.size ≤ 2000) (ht : t.size ≤ 2000) :
    Calls Tryz.prog 91 #[.int .i64 c, .string b, .string t] w fun e w' => ∃ v, e = .returned v ∧ OwnBytes w' w.heap.size v (recL (bodyD c (diffF b t))) ∧ Below w.heap.size w w' := by
  have HD : Hid (Delta (diffF b t) 2000) := delta_of (diffF_fault hb ht)
  go_enter Tryz.func91, Tryz.ntmps91
  go_wp2_with fail
  refine (diff_ok b t _ hb ht).mono ?_
  rintro e w1 ⟨v1, rfl, o1, b1⟩
  have HV : Hid (View w1 v1 (diffF b t)) := View.of_own o1
  obtain ⟨oo, oc, hvo⟩ := o1.slice
  subst hvo
  clear o1
  have hs1 := b1.size
  go_wp2_with fail
  refine (recdiff_any c _ _ _ HV.out).mono ?_
  rintro e w2 ⟨rfl, rfl⟩
  go_wp2_with fail
  refine (recbytes_diff c _ _ _ hc HV.out HD.out).mono ?_
  rintro e w3 ⟨v3, rfl, o3, b3⟩
  have R1 : Below w.heap.size w w3 := b1.trans (b3.mono hs1)
  have R2 : Hid (OwnBytes w3 w.heap.size v3 (recL (bodyD c (diffF b t)))) := OwnBytes.wide o3 hs1
  clear o3 b3
  go_wp2
  go_ret
  exact ⟨v3, rfl, R2.out, R1⟩

set_option maxHeartbeats 1000000 in
theorem shorter_any (a1 a2 : Option Addr) (n1 c1 n2 c2 : Nat) (w : World) : Calls Tryz.prog 90 #[.slice a1 n1 c1, .slice a2 n2 c2] w fun e w' => e = .returned (if n2 < n1 then .slice a2 n2 c2 else .slice a1 n1 c1) ∧ w = w' := by
  by_cases h : n2 < n1
  · rw [if_pos h]
    go_enter Tryz.func90, Tryz.ntmps90
    go_wp2
    go_ret
    exact ⟨rfl, rfl⟩
  · rw [if_neg h]
    go_enter Tryz.func90, Tryz.ntmps90
    go_wp2
    go_ret
    exact ⟨rfl, rfl⟩
end Go.Proofs.YtabpiaaknjcnkaaGreat
