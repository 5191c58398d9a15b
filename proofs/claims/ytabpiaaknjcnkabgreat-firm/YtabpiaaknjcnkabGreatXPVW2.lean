/- The texts PV, W2, one behind the other. -/
import Derived.Test.YtabpiaaknjcnkabGreatXPDPUP4
import Derived.Test.YtabpiaaknjcnkabGreatXP3PC
import Derived.Test.YtabpiaaknjcnkabGreatXW5W6W7
import Derived.Test.YtabpiaaknjcnkabGreatXW1W3W4
import Derived.Deep.QuietTactic
import Derived.BigQuiet
import Derived.RegionTactic
import Derived.Deep.RegionWith
import Derived.LoopTactic
/-
  Plain facts: records, chains and vaults.
-/
namespace Go.Proofs.YtabpiaaknjcnkabGreat
set_option linter.unusedVariables false
set_option linter.unusedSimpArgs false

/-- Four bytes, the lowest first. -/
def le4 (v : Nat) : List UInt8 := [UInt8.ofNat v, UInt8.ofNat (v / 256), UInt8.ofNat (v / 65536), UInt8.ofNat (v / 16777216)]
def bodyF (c : Nat) (t : List UInt8) : List UInt8 := 70 :: (uN c ++ t)
def bodyD (c : Nat) (xs : List DOp) : List UInt8 := 68 :: (uN c ++ encL xs)
def bodyP (c n : Nat) : List UInt8 := 80 :: (uN c ++ uN n)
/-- A body's record. -/
def recL (b : List UInt8) : List UInt8 := uN b.length ++ b ++ le4 (sumL b)
theorem recL_length (b : List UInt8) : (recL b).length = (uN b.length).length + b.length + 4 := by simp [recL, le4]; omega

/-- A chain: how many versions have gone; the texts of those that there are. -/
structure Chn where
  gone : Nat
  texts : List ByteArray
structure Vlt where
  log : List UInt8
  ch : Nat → Chn
def Chn.last (c : Chn) : Nat := c.gone + c.texts.length
def Chn.first (c : Chn) : Nat := min (c.gone + 1) c.last
def Chn.has (c : Chn) (n : Int) : Prop := (c.gone : Int) < n ∧ n ≤ c.last

/-- What a Backup adds to the log. -/
def addedL (c : Nat) (last : Option ByteArray) (t : ByteArray) : List UInt8 :=
  match last with
  | none => recL (bodyF c t.data.toList)
  | some b => if (recL (bodyD c (diffF b t))).length < (recL (bodyF c t.data.toList)).length then recL (bodyD c (diffF b t)) else recL (bodyF c t.data.toList)
def noVault : Vlt := ⟨[], fun _ => ⟨0, []⟩⟩
def Vlt.put (s : Vlt) (c : Nat) (t : ByteArray) : Vlt :=
  ⟨s.log ++ addedL c (s.ch c).texts.getLast? t, fun i => if i = c then ⟨(s.ch c).gone, (s.ch c).texts ++ [t]⟩ else s.ch i⟩
def Vlt.drop (s : Vlt) (c n : Nat) : Vlt :=
  ⟨s.log ++ recL (bodyP c n), fun i => if i = c then ⟨n - 1, (s.ch c).texts.drop (n - (s.ch c).gone - 1)⟩ else s.ch i⟩
/-- There is no room for a text's full record, or no number for it. -/
def Vlt.full (s : Vlt) (c : Nat) (t : ByteArray) : Prop := 20000 < s.log.length + (recL (bodyF c t.data.toList)).length ∨ (s.ch c).last = 2147483647
def Vlt.noRoom (s : Vlt) (c n : Nat) : Prop := 20000 < s.log.length + (recL (bodyP c n)).length

/-- What every vault keeps to. -/
structure Vlt.Ok (s : Vlt) : Prop where
  log : s.log.length ≤ 20000
  last : ∀ i, (s.ch i).last ≤ 2147483647
  size : ∀ i, ∀ t ∈ (s.ch i).texts, t.size ≤ 2000
  none : ∀ i, (s.ch i).texts = [] → (s.ch i).gone = 0
theorem noVault_ok : noVault.Ok := ⟨by simp [noVault], fun i => by simp [noVault, Chn.last], fun i t h => by simp [noVault] at h, fun i _ => rfl⟩

theorem addedL_le (c : Nat) (l : Option ByteArray) (t : ByteArray) : (addedL c l t).length ≤ (recL (bodyF c t.data.toList)).length := by
  unfold addedL
  split
  · exact Nat.le_refl _
  · split
    · omega
    · exact Nat.le_refl _
theorem put_ok {s : Vlt} (h : s.Ok) {c : Nat} {t : ByteArray} (ht : t.size ≤ 2000) (hf : ¬ s.full c t) : (s.put c t).Ok := by
  have h1 := addedL_le c (s.ch c).texts.getLast? t
  have h2 := h.log
  have h3 := h.last c
  unfold Vlt.full at hf
  refine ⟨?_, fun i => ?_, fun i u hu => ?_, fun i hi => ?_⟩
  · simp only [Vlt.put, List.length_append]; omega
  · simp only [Vlt.put]
    split
    · unfold Chn.last at *; simp only [List.length_append, List.length_cons, List.length_nil]; omega
    · exact h.last i
  · simp only [Vlt.put] at hu
    split at hu
    · rcases List.mem_append.1 hu with hu | hu
      · exact h.size _ _ hu
      · obtain rfl : u = t := by simpa using hu
        exact ht
    · exact h.size _ _ hu
  · simp only [Vlt.put] at hi ⊢
    split at hi
    · simp at hi
    · rename_i hne; rw [if_neg hne]; exact h.none i hi
theorem drop_ok {s : Vlt} (h : s.Ok) {c n : Nat} (hh : (s.ch c).has n) (hr : ¬ s.noRoom c n) : (s.drop c n).Ok := by
  have h2 := h.log
  have h3 := h.last c
  unfold Vlt.noRoom at hr
  unfold Chn.has Chn.last at hh
  refine ⟨?_, fun i => ?_, fun i u hu => ?_, fun i hi => ?_⟩
  · simp only [Vlt.drop, List.length_append]; omega
  · simp only [Vlt.drop]
    split
    · unfold Chn.last at *; simp only [List.length_drop]; omega
    · exact h.last i
  · simp only [Vlt.drop] at hu
    split at hu
    · exact h.size _ _ (List.mem_of_mem_drop hu)
    · exact h.size _ _ hu
  · simp only [Vlt.drop] at hi ⊢
    split at hi
    · simp at hi; omega
    · rename_i hne; rw [if_neg hne]; exact h.none i hi

theorem isOpB_wide {f l b b' : Int} {t : ByteArray} (h : isOpB f l t b = true) (hb : b ≤ b') : isOpB f l t b' = true := by
  unfold isOpB at h ⊢
  split at h
  · rename_i hl
    rw [if_pos hl]
    simp only [Bool.and_eq_true, decide_eq_true_eq] at h ⊢
    exact ⟨h.1, by omega⟩
  · rename_i hl
    rw [if_neg hl]; exact h
theorem fault_wide {b b' : Int} (hb : b ≤ b') : ∀ (xs : List DOp) (p : Option DOp) (i : Nat) (m : Int), faultGo b xs p i m = i + xs.length → faultGo b' xs p i m = i + xs.length := by
  intro xs
  induction xs with
  | nil => intro p i m _; simp [faultGo]
  | cons o r ih =>
    intro p i m h
    have hle := fun p' i' m' => (faultGo_le b r p' i' m').1
    rw [faultGo] at h ⊢
    rw [List.length_cons] at h ⊢
    split at h
    · omega
    · rename_i h0
      rw [if_neg h0]
      by_cases h1 : isOpB o.fr o.len o.tx b = false
      · rw [if_pos h1] at h; omega
      · rw [if_neg h1] at h
        have h1' : isOpB o.fr o.len o.tx b = true := by simpa using h1
        rw [if_neg (by rw [isOpB_wide h1' hb]; simp)]
        split at h
        · omega
        · rename_i h2
          rw [if_neg h2]
          split at h
          · omega
          · rename_i h3
            rw [if_neg h3]
            rw [ih _ _ _ (by rw [h]; omega)]; omega
/-- What Diff makes is a delta. -/
theorem diffF_fault {b t : ByteArray} (hb : b.size ≤ 2000) (ht : t.size ≤ 2000) : faultF (diffF b t) 2000 = (diffF b t).length := by
  have key : faultF (diffF b t) b.size = (diffF b t).length := by
    unfold diffF
    split
    · by_cases h0 : t.size = 0
      · rw [addT_of_zero h0]; simp [faultF, faultGo]
      · have he : t.extract 0 t.size = t := by simp
        rw [addT_of_pos (by omega)]
        have := fault_text (base := b) (next := t) (b := (b.size : Int)) (p := none) (ts := 0) (at_ := t.size) (i := 0) (m := 0) (r := []) (.inl rfl) (by omega) (Nat.le_refl _) (by omega) (by omega)
        rw [he] at this
        unfold faultF; rw [this]; simp [faultGo]
    · rename_i hl
      have := fault_go (at_start b t) none 0 0 (.inl rfl) (by have : (descGo b t (t.size + 1) 0 0).length = (descF b t).length := rfl; omega) (by omega) (by omega)
      simpa [descF, faultF] using this
  have := fault_wide (b := b.size) (b' := 2000) (by omega) (diffF b t) none 0 0 (by unfold faultF at key; rw [key]; omega)
  unfold faultF; rw [this]; omega
end Go.Proofs.YtabpiaaknjcnkabGreat

/-
  The walks over isOp, mayFollow, stands, sameBytes.
-/
namespace Go.Proofs.YtabpiaaknjcnkabGreat
open Go.RowKit
set_option linter.unusedVariables false
set_option linter.unusedSimpArgs false
set_option maxRecDepth 100000

set_option maxHeartbeats 1000000 in
theorem isOp_any (f l : Int) (t : ByteArray) (b : Int) (w : World) (hb0 : 0 ≤ b) (hb : b ≤ 100000) (hl : l ≤ 9223372036854775807) :
    Calls Tryz.prog 70 #[.agg #[.int .i64 f, .int .i64 l, .string t], .int .i64 b] w fun e w' => e = .returned (.bool (isOpB f l t b)) ∧ Below w.heap.size w w' := by
  by_cases h : 0 < l
  · by_cases h1 : 0 ≤ f
    · cases h2 : t.toList.isEmpty
      · go_enter Tryz.func70, Tryz.ntmps70
        go_wp2
        go_ret
        exact ⟨ret_bool (by simp only [isOpB, if_pos h, h1, h2]; simp), ((Below.refl _ _).alloc (Nat.le_refl _) _).alloc (by simp) _⟩
      · go_enter Tryz.func70, Tryz.ntmps70
        go_wp2
        go_ret
        exact ⟨ret_bool (by simp only [isOpB, if_pos h, h1, h2]; simp), ((Below.refl _ _).alloc (Nat.le_refl _) _).alloc (by simp) _⟩
    · go_enter Tryz.func70, Tryz.ntmps70
      go_wp2
      go_ret
      exact ⟨ret_bool (by simp only [isOpB, if_pos h]; simp; omega), ((Below.refl _ _).alloc (Nat.le_refl _) _).alloc (by simp) _⟩
  · cases h2 : t.toList.isEmpty
    · cases h3 : f == 0
      · go_enter Tryz.func70, Tryz.ntmps70
        go_wp2
        go_ret
        exact ⟨ret_bool (by rw [isOpB, if_neg (by omega), h2, h3]; simp), ((Below.refl _ _).alloc (Nat.le_refl _) _).alloc (by simp) _⟩
      · go_enter Tryz.func70, Tryz.ntmps70
        go_wp2
        go_ret
        exact ⟨ret_bool (by rw [isOpB, if_neg (by omega), h2, h3]; simp), ((Below.refl _ _).alloc (Nat.le_refl _) _).alloc (by simp) _⟩
    · go_enter Tryz.func70, Tryz.ntmps70
      go_wp2
      go_ret
      exact ⟨ret_bool (by rw [isOpB, if_neg (by omega), h2]; simp), ((Below.refl _ _).alloc (Nat.le_refl _) _).alloc (by simp) _⟩

theorem below4 (w : World) (a b c d : Obj) : Below w.heap.size w ((((w.alloc a).alloc b).alloc c).alloc d) :=
  ((((Below.refl _ _).alloc (Nat.le_refl _) _).alloc (by simp) _).alloc (by simp; omega) _).alloc (by simp; omega) _
theorem below5 (w : World) (a b c d f : Obj) : Below w.heap.size w (((((w.alloc a).alloc b).alloc c).alloc d).alloc f) :=
  (below4 w a b c d).alloc (by simp; omega) _

set_option maxHeartbeats 4000000 in
theorem mayFollow_any (f1 l1 f2 l2 : Int) (t1 t2 : ByteArray) (w : World) (h3 : 0 < l1 → 0 ≤ f1) (h4 : 0 < l1 → f1 + l1 ≤ 9223372036854775807) :
    Calls Tryz.prog 71 #[.agg #[.int .i64 f1, .int .i64 l1, .string t1], .agg #[.int .i64 f2, .int .i64 l2, .string t2]] w fun e w' => e = .returned (.bool (followB f1 l1 f2 l2)) ∧ Below w.heap.size w w' := by
  by_cases h1 : 0 < l1
  · have g3 := h3 h1
    have g4 := h4 h1
    clear h3 h4
    by_cases h2 : 0 < l2
    · go_enter Tryz.func71, Tryz.ntmps71
      go_wp2
      go_region_with (go_in)
      all_goals (go_wp2; go_ret; exact ⟨ret_bool (by simp [followB, h1, h2]), (below5 _ _ _ _ _ _).drew⟩)
    · have e2 : decide (0 < l2) = false := by simp; omega
      go_enter Tryz.func71, Tryz.ntmps71
      go_wp2
      go_region_with (go_in)
      all_goals (go_wp2; go_ret; exact ⟨ret_bool (by simp [followB, h1, e2]), (below4 _ _ _ _ _).drew⟩)
  · have e1 : decide (0 < l1) = false := by simp; omega
    clear h3 h4
    by_cases h2 : 0 < l2
    · go_enter Tryz.func71, Tryz.ntmps71
      go_wp2
      go_region_with (go_in)
      all_goals (go_wp2; go_ret; exact ⟨ret_bool (by simp [followB, e1, h2]), (below4 _ _ _ _ _).drew⟩)
    · have e2 : decide (0 < l2) = false := by simp; omega
      go_enter Tryz.func71, Tryz.ntmps71
      go_wp2
      go_region_with (go_in)
      all_goals (go_wp2; go_ret; exact ⟨ret_bool (by simp [followB, e1, e2]), (below5 _ _ _ _ _ _).drew⟩)

end Go.Proofs.YtabpiaaknjcnkabGreat
