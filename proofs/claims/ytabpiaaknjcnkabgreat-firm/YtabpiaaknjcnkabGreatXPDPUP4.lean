/- The texts PD, PU, P4, one behind the other. -/
import Derived.Test.YtabpiaaknjcnkabGreatXP3PC
import Derived.Lib.Strings
/-
  Plain facts: what makes a stretch; two deltas in one by the document's way and by the program's are the same.
-/
namespace Go.Proofs.YtabpiaaknjcnkabGreat
set_option linter.unusedVariables false
set_option linter.unusedSimpArgs false

theorem Nice.size {o : DOp} (h : Nice o) : ((cellsOp o).length : Int) = sizeI o.len o.tx ∧ 0 < sizeI o.len o.tx := by
  unfold cellsOp sizeI
  rcases h with ⟨h1, h2, h3⟩ | ⟨h1, h2, h3⟩
  · rw [if_pos h1, tx_empty h3]; simp; omega
  · rw [if_neg (by omega), h1]; simp; omega
theorem nice_of_isOp {o : DOp} {b : Int} (h : isOpB o.fr o.len o.tx b = true) : Nice o ∧ (0 < o.len → o.fr + o.len ≤ b) := by
  unfold isOpB at h
  by_cases h1 : 0 < o.len
  · rw [if_pos h1] at h
    simp only [Bool.and_eq_true, decide_eq_true_eq, isEmpty_iff] at h
    exact ⟨.inl ⟨h1, h.1.1, h.1.2⟩, fun _ => by omega⟩
  · rw [if_neg h1] at h
    simp only [Bool.and_eq_true, beq_iff_eq, Bool.not_eq_true'] at h
    refine ⟨.inr ⟨h.2, h.1.2, ?_⟩, fun h => absurd h h1⟩
    have : ¬ o.tx.size = 0 := fun e => by have := (isEmpty_iff o.tx).2 e; rw [this] at h; simp at h
    omega
theorem cellsL_length {xs : List DOp} (h : ∀ o ∈ xs, Nice o) : ((cellsL xs).length : Int) = sumI xs := by
  induction xs with
  | nil => rfl
  | cons o r ih =>
    have h1 := (h o (by simp)).size.1
    have h2 := ih (fun q hq => h q (by simp [hq]))
    simp only [cellsL, List.flatMap_cons, List.length_append, sumI] at h2 ⊢
    omega
theorem cellsL_cons (o : DOp) (r : List DOp) : cellsL (o :: r) = cellsOp o ++ cellsL r := by simp [cellsL]
theorem cellsL_append (xs ys : List DOp) : cellsL (xs ++ ys) = cellsL xs ++ cellsL ys := by simp [cellsL]

theorem piece_cells {o : DOp} (h : Nice o) {s t : Int} (hs : 0 ≤ s) (ht : 0 < t) (hst : s + t ≤ sizeI o.len o.tx) : cellsOp (pieceP o s t) = ((cellsOp o).drop s.toNat).take t.toNat ∧ Nice (pieceP o s t) := by
  obtain ⟨f, l, x⟩ := o
  unfold sizeI at hst
  rcases h with ⟨h1, h2, h3⟩ | ⟨h1, h2, h3⟩ <;> simp only at h1 h2 h3 hst
  · rw [if_pos h1] at hst
    have hx := tx_empty h3
    subst hx
    simp only [pieceP, if_pos h1]
    refine ⟨?_, .inl ⟨ht, by simp only; omega, rfl⟩⟩
    simp only [cellsOp, List.map_nil, List.append_nil]
    apply List.ext_getElem?
    intro i
    simp only [List.getElem?_take, List.getElem?_drop, List.getElem?_map]
    by_cases hi : i < t.toNat
    · rw [if_pos hi, List.getElem?_range hi, List.getElem?_range (by omega)]
      simp; omega
    · rw [if_neg hi, List.getElem?_eq_none (by simp; omega)]; rfl
  · rw [if_neg (by omega)] at hst
    subst h1 h2
    simp only [pieceP]
    rw [if_neg (by omega)]
    have hsz : (x.extract s.toNat (s + t).toNat).size = t.toNat := by rw [size_ext _ _ _ (by omega)]; omega
    refine ⟨?_, .inr ⟨rfl, rfl, by simp only [hsz]; omega⟩⟩
    simp only [cellsOp, Int.toNat_zero, List.range_zero, List.map_nil, List.nil_append]
    rw [ByteArray.data_extract, Array.toList_extract, List.extract_eq_take_drop, ← List.map_drop, ← List.map_take, show (s + t).toNat - s.toNat = t.toNat by omega]

theorem pieces_cells {first : List DOp} (h : ∀ o ∈ first, Nice o) : ∀ (f n : Int), 0 ≤ f → 0 ≤ n → cellsL (pieceGo first f n) = ((cellsL first).drop f.toNat).take n.toNat ∧ ∀ p ∈ pieceGo first f n, Nice p := by
  induction first with
  | nil => intro f n _ _; simp [pieceGo, cellsL]
  | cons o r ih =>
    intro f n hf hn
    have ho := h o (by simp)
    obtain ⟨hsz, hpos⟩ := ho.size
    unfold pieceGo
    generalize hz : sizeI o.len o.tx = z at *
    obtain ⟨i1, i2⟩ := ih (fun q hq => h q (by simp [hq])) (f - min f z) (n - min n (z - min f z)) (by omega) (by omega)
    rw [cellsL_cons, List.drop_append, List.take_append]
    by_cases hp : 0 < min n (z - min f z)
    · obtain ⟨p1, p2⟩ := piece_cells ho (s := min f z) (t := min n (z - min f z)) (by omega) hp (by omega)
      rw [if_pos hp, cellsL_append, i1]
      constructor
      · congr 1
        · rw [show cellsL [pieceP o (min f z) (min n (z - min f z))] = cellsOp (pieceP o (min f z) (min n (z - min f z))) by simp [cellsL], p1, show (min f z).toNat = f.toNat by omega]
          by_cases hnz : n ≤ z - min f z
          · rw [show (min n (z - min f z)).toNat = n.toNat by omega]
          · rw [List.take_of_length_le (by simp; omega), List.take_of_length_le (by simp; omega)]
        · rw [show (f - min f z).toNat = f.toNat - (cellsOp o).length by omega]
          congr 1
          simp; omega
      · intro p hp'
        rcases List.mem_append.1 hp' with hp' | hp'
        · rw [List.mem_singleton.1 hp']; exact p2
        · exact i2 p hp'
    · rw [if_neg hp, List.nil_append, i1]
      refine ⟨?_, i2⟩
      have e : List.take n.toNat (List.drop f.toNat (cellsOp o)) = [] := by
        by_cases hn0 : n = 0
        · simp [hn0]
        · rw [List.drop_of_length_le (by omega)]; simp
      rw [e, List.nil_append, show (f - min f z).toNat = f.toNat - (cellsOp o).length by omega]
      congr 1
      simp; omega

/-- What the bytes of an op of the second one are made of. -/
theorem sub_op {first : List DOp} (h : ∀ o ∈ first, Nice o) {o : DOp} (ho : Nice o) (hin : 0 < o.len → o.fr + o.len ≤ (cellsL first).length) :
    ∃ ps, (cellsOp o).map (subC (cellsL first)) = cellsL ps ∧ (∀ p ∈ ps, Nice p) ∧ ∀ acc, compStep first acc o = ps.foldl joinP acc := by
  have ho' := ho
  rcases ho with ⟨h1, h2, h3⟩ | ⟨h1, h2, h3⟩
  · obtain ⟨p1, p2⟩ := pieces_cells h o.fr o.len h2 (by omega)
    refine ⟨pieceGo first o.fr o.len, ?_, p2, fun acc => by rw [compStep, if_pos h1]⟩
    rw [p1]
    have := hin h1
    obtain ⟨f, l, x⟩ := o
    simp only at *
    have hx := tx_empty h3
    subst hx
    simp only [cellsOp, List.map_nil, List.append_nil, List.map_map]
    apply List.ext_getElem?
    intro i
    simp only [List.getElem?_take, List.getElem?_drop, List.getElem?_map]
    by_cases hi : i < l.toNat
    · rw [if_pos hi, List.getElem?_range hi]
      simp only [Option.map_some, Function.comp, subC]
      rw [if_pos (by omega), show (f + (i : Int)).toNat = f.toNat + i by omega, List.getD_eq_getElem?_getD, List.getElem?_eq_getElem (by omega)]
      rfl
    · rw [if_neg hi, List.getElem?_eq_none (by simp; omega)]; rfl
  · refine ⟨[o], ?_, by simpa using ho', fun acc => by rw [compStep, if_neg (by omega)]; rfl⟩
    rw [show cellsL [o] = cellsOp o by simp [cellsL]]
    unfold cellsOp
    rw [h1]
    simp only [Int.toNat_zero, List.range_zero, List.map_nil, List.nil_append, List.map_map]
    apply List.map_congr_left
    intro c _
    simp [subC]

/-- By the document's way, byte by byte. -/
def refOps (first second : List DOp) : List DOp := ((cellsL second).map (subC (cellsL first))).foldl cellStep []

theorem comp_go {first : List DOp} (h : ∀ o ∈ first, Nice o) (second : List DOp) (hs : ∀ o ∈ second, Nice o ∧ (0 < o.len → o.fr + o.len ≤ (cellsL first).length)) (acc : List DOp) (hacc : ∀ p ∈ acc, Nice p) :
    ((cellsL second).map (subC (cellsL first))).foldl cellStep acc = second.foldl (compStep first) acc ∧ ∀ p ∈ second.foldl (compStep first) acc, Nice p := by
  induction second generalizing acc with
  | nil => exact ⟨rfl, hacc⟩
  | cons o r ih =>
    obtain ⟨ps, e1, e2, e3⟩ := sub_op h (hs o (by simp)).1 (hs o (by simp)).2
    obtain ⟨c1, c2⟩ := cells_joins ps acc hacc e2
    rw [cellsL_cons, List.map_append, List.foldl_append, e1, c1, List.foldl_cons, e3]
    exact ih (fun q hq => hs q (by simp [hq])) _ c2

theorem comp_eq {first second : List DOp} (h : ∀ o ∈ first, Nice o) (hs : ∀ o ∈ second, Nice o ∧ (0 < o.len → o.fr + o.len ≤ (cellsL first).length)) : refOps first second = compOps first second ∧ ∀ p ∈ compOps first second, Nice p :=
  comp_go h second hs [] (by simp)
end Go.Proofs.YtabpiaaknjcnkabGreat

/-
  Plain facts: a number's bytes, and a delta's code.
-/
namespace Go.Proofs.YtabpiaaknjcnkabGreat
set_option linter.unusedVariables false
set_option linter.unusedSimpArgs false

/-- A number's bytes. -/
def uGo : Nat → Nat → List UInt8
  | 0, n => [UInt8.ofNat n]
  | f + 1, n => if n < 128 then [UInt8.ofNat n] else UInt8.ofNat (n % 128 + 128) :: uGo f (n / 128)
def uN (n : Nat) : List UInt8 := uGo n n
theorem uGo_fuel : ∀ (f g n : Nat), n ≤ f → n ≤ g → uGo f n = uGo g n
  | 0, 0, n, _, _ => rfl
  | 0, g + 1, n, h, _ => by rw [uGo, uGo, if_pos (by omega)]
  | f + 1, 0, n, _, h => by rw [uGo, uGo, if_pos (by omega)]
  | f + 1, g + 1, n, h1, h2 => by
    rw [uGo, uGo]
    by_cases h : n < 128
    · rw [if_pos h, if_pos h]
    · rw [if_neg h, if_neg h, uGo_fuel f g (n / 128) (by omega) (by omega)]
theorem uN_lt {n : Nat} (h : n < 128) : uN n = [UInt8.ofNat n] := by
  unfold uN
  cases n with
  | zero => rfl
  | succ n => rw [uGo, if_pos h]
theorem uN_ge {n : Nat} (h : ¬ n < 128) : uN n = UInt8.ofNat (n % 128 + 128) :: uN (n / 128) := by
  unfold uN
  cases n with
  | zero => omega
  | succ n => rw [uGo, if_neg h, uGo_fuel n ((n + 1) / 128) ((n + 1) / 128) (by omega) (by omega)]
theorem byte_toNat {n : Nat} (h : n < 256) : (UInt8.ofNat n).toNat = n := by
  rw [UInt8.toNat_ofNat_of_lt' (by simpa using h)]
theorem uN_length {n : Nat} (h : n < 2097152) : (uN n).length ≤ 3 := by
  by_cases h1 : n < 128
  · rw [uN_lt h1]; simp
  · rw [uN_ge h1]
    by_cases h2 : n / 128 < 128
    · rw [uN_lt h2]; simp
    · rw [uN_ge h2, uN_lt (by omega)]; simp

theorem uN_length5 {n : Nat} (h : n < 34359738368) : (uN n).length ≤ 5 := by
  by_cases h1 : n < 128
  · rw [uN_lt h1]; simp
  · rw [uN_ge h1, List.length_cons]
    by_cases h2 : n / 128 < 128
    · rw [uN_lt h2]; simp
    · rw [uN_ge h2, List.length_cons]
      have := uN_length (n := n / 128 / 128) (by omega)
      omega
theorem uN_pos (n : Nat) : 0 < (uN n).length := by
  by_cases h1 : n < 128
  · rw [uN_lt h1]; simp
  · rw [uN_ge h1]; simp

/-- An op's code; a delta's. -/
def encOp (o : DOp) : List UInt8 := if 0 < o.len then uN (2 * o.len + 1).toNat ++ uN o.fr.toNat else uN (2 * o.tx.size) ++ o.tx.data.toList
def encL (xs : List DOp) : List UInt8 := uN xs.length ++ xs.flatMap encOp
end Go.Proofs.YtabpiaaknjcnkabGreat

/-
  Plain facts on the sum: a move is one to one; a byte that is another one makes another sum.
-/
namespace Go.Proofs.YtabpiaaknjcnkabGreat
set_option linter.unusedVariables false
set_option linter.unusedSimpArgs false

/-- One move to the right. -/
def mv (x : Nat) : Nat := if x % 2 = 1 then (x / 2) ^^^ 3988292384 else x / 2
def mvs : Nat → Nat → Nat
  | 0, x => x
  | k + 1, x => mv (mvs k x)

theorem mv_lt {x : Nat} (h : x < 4294967296) : mv x < 4294967296 := by
  unfold mv
  split
  · exact Nat.xor_lt_two_pow (n := 32) (by omega) (by decide)
  · omega
theorem mvs_lt {x : Nat} (h : x < 4294967296) (k : Nat) : mvs k x < 4294967296 := by
  induction k with
  | zero => exact h
  | succ k ih => exact mv_lt ih

theorem xor_mod2 (x y : Nat) : (x ^^^ y) % 2 = (x % 2 + y % 2) % 2 := by
  have h : (x ^^^ y).testBit 0 = (x.testBit 0 ^^ y.testBit 0) := Nat.testBit_xor ..
  simp only [Nat.testBit_zero] at h
  have hx : x % 2 = 0 ∨ x % 2 = 1 := by omega
  have hy : y % 2 = 0 ∨ y % 2 = 1 := by omega
  have hz : (x ^^^ y) % 2 = 0 ∨ (x ^^^ y) % 2 = 1 := by omega
  rcases hx with hx | hx <;> rcases hy with hy | hy <;> rcases hz with hz | hz <;> simp_all
theorem xor_div2 (x y : Nat) : (x ^^^ y) / 2 = (x / 2) ^^^ (y / 2) := by
  have := Nat.shiftRight_xor_distrib (a := x) (b := y) (i := 1)
  simpa [Nat.shiftRight_succ] using this
theorem xor_cancel {a b p : Nat} (h : a ^^^ p = b ^^^ p) : a = b := by
  have := congrArg (· ^^^ p) h
  simpa [Nat.xor_assoc] using this

/-- With the polynomial the highest bit is set. -/
theorem high {a : Nat} (h : a < 2147483648) : 2147483648 ≤ a ^^^ 3988292384 := by
  have hb : (a ^^^ 3988292384).testBit 31 = true := by
    rw [Nat.testBit_xor, Nat.testBit_lt_two_pow (by simpa using h)]
    decide
  exact Nat.ge_two_pow_of_testBit hb

theorem mv_inj {x y : Nat} (hx : x < 4294967296) (hy : y < 4294967296) (h : mv x = mv y) : x = y := by
  unfold mv at h
  have h1 : x / 2 < 2147483648 := by omega
  have h2 : y / 2 < 2147483648 := by omega
  have g1 := high h1
  have g2 := high h2
  split at h <;> split at h
  · have := xor_cancel h; omega
  · omega
  · omega
  · omega
theorem mvs_inj {x y : Nat} (hx : x < 4294967296) (hy : y < 4294967296) (k : Nat) (h : mvs k x = mvs k y) : x = y := by
  induction k with
  | zero => exact h
  | succ k ih => exact ih (mv_inj (mvs_lt hx k) (mvs_lt hy k) h)

/-- A byte. -/
def upd (v c : Nat) : Nat := mvs 8 (v ^^^ c)
theorem xor_lt {v c : Nat} (hv : v < 4294967296) (hc : c < 256) : v ^^^ c < 4294967296 := Nat.xor_lt_two_pow (n := 32) hv (by omega)
theorem upd_lt {v c : Nat} (hv : v < 4294967296) (hc : c < 256) : upd v c < 4294967296 := mvs_lt (xor_lt hv hc) 8
theorem upd_inj_v {v w c : Nat} (hv : v < 4294967296) (hw : w < 4294967296) (hc : c < 256) (h : upd v c = upd w c) : v = w :=
  xor_cancel (mvs_inj (xor_lt hv hc) (xor_lt hw hc) 8 h)
theorem upd_inj_c {v c d : Nat} (hv : v < 4294967296) (hc : c < 256) (hd : d < 256) (h : upd v c = upd v d) : c = d := by
  have := mvs_inj (xor_lt hv hc) (xor_lt hv hd) 8 h
  rw [Nat.xor_comm v c, Nat.xor_comm v d] at this
  exact xor_cancel this

def run (v : Nat) (l : List UInt8) : Nat := l.foldl (fun v c => upd v c.toNat) v
theorem run_lt {v : Nat} (hv : v < 4294967296) (l : List UInt8) : run v l < 4294967296 := by
  induction l generalizing v with
  | nil => exact hv
  | cons c r ih => exact ih (upd_lt hv c.toNat_lt)
theorem run_snoc (v : Nat) (l : List UInt8) (c : UInt8) : run v (l ++ [c]) = upd (run v l) c.toNat := by simp [run]
theorem run_append (v : Nat) (l m : List UInt8) : run v (l ++ m) = run (run v l) m := by simp [run]
theorem run_inj {v w : Nat} (hv : v < 4294967296) (hw : w < 4294967296) (l : List UInt8) (h : run v l = run w l) : v = w := by
  induction l generalizing v w with
  | nil => exact h
  | cons c r ih => exact upd_inj_v hv hw c.toNat_lt (ih (upd_lt hv c.toNat_lt) (upd_lt hw c.toNat_lt) h)

def sumL (l : List UInt8) : Nat := 4294967295 - run 4294967295 l
theorem sumL_lt (l : List UInt8) : sumL l < 4294967296 := by unfold sumL; omega

/-- One byte that is another one makes another sum. -/
theorem sumL_other (a b : List UInt8) (c d : UInt8) (h : c ≠ d) : sumL (a ++ c :: b) ≠ sumL (a ++ d :: b) := by
  intro e
  have hv : run 4294967295 a < 4294967296 := run_lt (by decide) a
  have h1 := run_lt (by decide : (4294967295 : Nat) < 4294967296) (a ++ c :: b)
  have h2 := run_lt (by decide : (4294967295 : Nat) < 4294967296) (a ++ d :: b)
  have e2 : run 4294967295 (a ++ c :: b) = run 4294967295 (a ++ d :: b) := by unfold sumL at e; omega
  rw [run_append, run_append] at e2
  have e3 : upd (run 4294967295 a) c.toNat = upd (run 4294967295 a) d.toNat :=
    run_inj (upd_lt hv c.toNat_lt) (upd_lt hv d.toNat_lt) b e2
  exact h (UInt8.toNat_inj.1 (upd_inj_c hv c.toNat_lt d.toNat_lt e3))

/-! Three ways to the same byte step. -/
theorem mv_xor_even (x y : Nat) : mv (x ^^^ 2 * y) = mv x ^^^ y := by
  have hm : (x ^^^ 2 * y) % 2 = x % 2 := by rw [xor_mod2]; omega
  have hd : (x ^^^ 2 * y) / 2 = x / 2 ^^^ y := by rw [xor_div2, Nat.mul_div_cancel_left _ (by decide)]
  unfold mv
  rw [hm, hd]
  split
  · rw [Nat.xor_assoc, Nat.xor_assoc, Nat.xor_comm y]
  · rfl
theorem mvs_xor (k x y : Nat) : mvs k (x ^^^ 2 ^ k * y) = mvs k x ^^^ y := by
  induction k generalizing y with
  | zero => simp [mvs]
  | succ k ih =>
    show mv (mvs k (x ^^^ 2 ^ (k + 1) * y)) = mv (mvs k x) ^^^ y
    rw [show 2 ^ (k + 1) * y = 2 ^ k * (2 * y) from by rw [Nat.pow_succ, Nat.mul_assoc], ih, mv_xor_even]

/-- By the lowest byte, and what is moved. -/
theorem upd_low {v c : Nat} (hc : c < 256) : upd v c = mvs 8 ((v % 256) ^^^ c) ^^^ (v / 256) := by
  have e : v ^^^ c = ((v % 256) ^^^ c) ^^^ 2 ^ 8 * (v / 256) := by
    have hv : v = (v % 256) ^^^ (2 ^ 8 * (v / 256)) := by
      apply Nat.eq_of_testBit_eq
      intro i
      rw [Nat.testBit_xor, show (256 : Nat) = 2 ^ 8 from rfl, Nat.testBit_mod_two_pow, Nat.testBit_two_pow_mul, Nat.testBit_div_two_pow]
      by_cases hi : i < 8
      · have : ¬ 8 ≤ i := by omega
        simp [hi, this]
      · have : 8 ≤ i := by omega
        simp [hi, this]
    have h1 : v ^^^ c = ((v % 256) ^^^ (2 ^ 8 * (v / 256))) ^^^ c := by rw [← hv]
    rw [h1, Nat.xor_assoc, Nat.xor_comm (2 ^ 8 * (v / 256)), Nat.xor_assoc]
  rw [upd, e, mvs_xor]

/-- Bit by bit, against the byte's own bits. -/
def bitStep (v b : Nat) : Nat := if v % 2 ≠ b then (v / 2) ^^^ 3988292384 else v / 2
def bitRun (c : Nat) : Nat → Nat → Nat
  | 0, v => v
  | k + 1, v => bitStep (bitRun c k v) (c / 2 ^ k % 2)
theorem bitRun_eq (v c k : Nat) : bitRun c k v = mvs k (v ^^^ c) ^^^ (c / 2 ^ k) := by
  induction k with
  | zero => simp [bitRun, mvs, Nat.xor_assoc]
  | succ k ih =>
    show bitStep (bitRun c k v) (c / 2 ^ k % 2) = mv (mvs k (v ^^^ c)) ^^^ (c / 2 ^ (k + 1))
    rw [ih]
    generalize mvs k (v ^^^ c) = u
    have hm : (u ^^^ c / 2 ^ k) % 2 = (u % 2 + c / 2 ^ k % 2) % 2 := xor_mod2 _ _
    have hd : (u ^^^ c / 2 ^ k) / 2 = u / 2 ^^^ c / 2 ^ (k + 1) := by rw [xor_div2, Nat.div_div_eq_div_mul, ← Nat.pow_succ]
    unfold bitStep mv
    rw [hd]
    by_cases hu : u % 2 = 1
    · rw [if_pos (by omega), if_pos hu, Nat.xor_assoc, Nat.xor_assoc, Nat.xor_comm (c / 2 ^ (k + 1))]
    · rw [if_neg (by omega), if_neg hu]
theorem bitRun_upd (v c : Nat) (hc : c < 256) : bitRun c 8 v = upd v c := by
  rw [bitRun_eq, show c / 2 ^ 8 = 0 from by omega, Nat.xor_zero, upd]
theorem xor_ones {v : Nat} (h : v < 4294967296) : 4294967295 ^^^ v = 4294967295 - v := by
  apply Nat.eq_of_testBit_eq
  intro i
  have h1 := Nat.testBit_two_pow_sub_succ (x := v) (n := 32) h i
  rw [show 2 ^ 32 - (v + 1) = 4294967295 - v from by omega] at h1
  rw [h1, Nat.testBit_xor, show (4294967295 : Nat) = 2 ^ 32 - 1 from rfl, Nat.testBit_two_pow_sub_one]
  by_cases hi : i < 32
  · simp [hi]
  · have : v.testBit i = false := Nat.testBit_lt_two_pow (Nat.lt_of_lt_of_le h (by
      have : (2 : Nat) ^ 32 ≤ 2 ^ i := Nat.pow_le_pow_right (by decide) (by omega)
      simpa using this))
    simp [hi, this]
theorem bitRun_lt {v c : Nat} (hv : v < 4294967296) (hc : c < 256) (k : Nat) : bitRun c k v < 4294967296 := by
  rw [bitRun_eq]
  refine Nat.xor_lt_two_pow (n := 32) (mvs_lt (xor_lt hv hc) k) ?_
  have : c / 2 ^ k ≤ c := Nat.div_le_self _ _
  omega
end Go.Proofs.YtabpiaaknjcnkabGreat
