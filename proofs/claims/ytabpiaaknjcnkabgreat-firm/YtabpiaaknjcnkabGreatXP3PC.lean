/- The texts P3, PC, one behind the other. -/
import Derived.Test.YtabpiaaknjcnkabGreatXP1P2
/-
  Plain facts on rows that are deltas: each op is one, and all together make at most 2000 bytes.
-/
namespace Go.Proofs.YtabpiaaknjcnkabGreat
set_option linter.unusedVariables false
set_option linter.unusedSimpArgs false

theorem faultGo_le (b : Int) (xs : List DOp) (p : Option DOp) (i : Nat) (m : Int) : i ≤ faultGo b xs p i m ∧ faultGo b xs p i m ≤ i + xs.length := by
  induction xs generalizing p i m with
  | nil => simp [faultGo]
  | cons o r ih =>
    have := ih (some o) (i + 1) (m + sizeI o.len o.tx)
    rw [faultGo]
    simp only [List.length_cons]
    repeat' split
    all_goals omega
theorem faultF_le (xs : List DOp) (b : Int) : faultF xs b ≤ xs.length := by have := faultGo_le b xs none 0 0; unfold faultF; omega

def sumI : List DOp → Int
  | [] => 0
  | o :: r => sizeI o.len o.tx + sumI r

theorem fault_all {b : Int} {xs : List DOp} {p : Option DOp} {i : Nat} {m : Int} (h : faultGo b xs p i m = i + xs.length) (hm : m ≤ 2000) :
    (∀ o ∈ xs, isOpB o.fr o.len o.tx b = true) ∧ m + sumI xs ≤ 2000 := by
  induction xs generalizing p i m with
  | nil => simp [sumI]; exact hm
  | cons o r ih =>
    rw [faultGo] at h
    simp only [List.length_cons] at h
    by_cases h1 : i = 200
    · rw [if_pos h1] at h; omega
    · rw [if_neg h1] at h
      by_cases h2 : isOpB o.fr o.len o.tx b = false
      · rw [if_pos h2] at h; omega
      · rw [if_neg h2] at h
        by_cases h3 : behind p o = false
        · rw [if_pos h3] at h; omega
        · rw [if_neg h3] at h
          by_cases h4 : 2000 - m < sizeI o.len o.tx
          · rw [if_pos h4] at h; omega
          · rw [if_neg h4] at h
            obtain ⟨g1, g2⟩ := ih (p := some o) (i := i + 1) (m := m + sizeI o.len o.tx) (by omega) (by omega)
            refine ⟨fun q hq => ?_, by simp only [sumI]; omega⟩
            rcases List.mem_cons.1 hq with rfl | hq
            · simpa using h2
            · exact g1 q hq

theorem opBytes_length {B : List UInt8} {o : DOp} (h : isOpB o.fr o.len o.tx B.length = true) : ((opBytes B o).length : Int) = sizeI o.len o.tx := by
  by_cases hl : 0 < o.len
  · rw [opBytes, if_pos hl, sizeI, if_pos hl]
    rw [isOpB, if_pos hl] at h
    simp at h
    simp; omega
  · rw [opBytes, if_neg hl, sizeI, if_neg hl, Lib.size_eq]

theorem madeL_length {B : List UInt8} {xs : List DOp} (h : ∀ o ∈ xs, isOpB o.fr o.len o.tx B.length = true) : ((madeL B xs).length : Int) = sumI xs := by
  induction xs with
  | nil => rfl
  | cons o r ih =>
    have h1 := opBytes_length (h o (by simp))
    have h2 := ih (fun q hq => h q (by simp [hq]))
    simp only [madeL, List.flatMap_cons, List.length_append, sumI] at h2 ⊢
    omega

theorem madeL_take_succ (B : List UInt8) (xs : List DOp) (k : Nat) (o : DOp) (h : xs[k]? = some o) : madeL B (xs.take (k + 1)) = madeL B (xs.take k) ++ opBytes B o := by
  rw [List.take_add_one, h]; simp [madeL]

theorem madeL_take_le (B : List UInt8) (xs : List DOp) (k : Nat) : (madeL B (xs.take k)).length ≤ (madeL B xs).length := by
  conv => rhs; rw [← List.take_append_drop k xs]
  simp only [madeL, List.flatMap_append, List.length_append]
  omega
end Go.Proofs.YtabpiaaknjcnkabGreat

/-
  Plain facts: two deltas in one, op by op and byte by byte.
-/
namespace Go.Proofs.YtabpiaaknjcnkabGreat
set_option linter.unusedVariables false
set_option linter.unusedSimpArgs false

/-- An op as a delta has them, whatever the base. -/
def Nice (o : DOp) : Prop := (0 < o.len ∧ 0 ≤ o.fr ∧ o.tx.size = 0) ∨ (o.len = 0 ∧ o.fr = 0 ∧ 0 < o.tx.size)

/-- An op more behind a row; it and the last become one where they may not stand side by side. -/
def joinP (xs : List DOp) (o : DOp) : List DOp :=
  match xs.getLast? with
  | none => xs ++ [o]
  | some l => if followB l.fr l.len o.fr o.len = true then xs ++ [o] else xs.dropLast ++ [⟨l.fr, l.len + o.len, l.tx ++ o.tx⟩]
theorem joinP_nil (o : DOp) : joinP [] o = [o] := rfl
theorem joinP_snoc (xs : List DOp) (l o : DOp) : joinP (xs ++ [l]) o = if followB l.fr l.len o.fr o.len = true then xs ++ [l] ++ [o] else xs ++ [⟨l.fr, l.len + o.len, l.tx ++ o.tx⟩] := by
  unfold joinP; simp

def pieceP (o : DOp) (s t : Int) : DOp := if 0 < o.len then ⟨o.fr + s, t, ⟨#[]⟩⟩ else ⟨0, 0, o.tx.extract s.toNat (s + t).toNat⟩
/-- What makes n bytes of a row of ops, from the byte f on. -/
def pieceGo : List DOp → Int → Int → List DOp
  | [], _, _ => []
  | o :: r, f, n => (if 0 < min n (sizeI o.len o.tx - min f (sizeI o.len o.tx)) then [pieceP o (min f (sizeI o.len o.tx)) (min n (sizeI o.len o.tx - min f (sizeI o.len o.tx)))] else []) ++
      pieceGo r (f - min f (sizeI o.len o.tx)) (n - min n (sizeI o.len o.tx - min f (sizeI o.len o.tx)))
def compStep (first : List DOp) (acc : List DOp) (o : DOp) : List DOp := if 0 < o.len then (pieceGo first o.fr o.len).foldl joinP acc else joinP acc o
def compOps (first second : List DOp) : List DOp := second.foldl (compStep first) []

/-! Byte by byte. -/
abbrev Cl := Int × UInt8
def cellsOp (o : DOp) : List Cl := (List.range o.len.toNat).map (fun k : Nat => ((o.fr + (k : Int), (0 : UInt8)) : Cl)) ++ o.tx.data.toList.map fun c => (((-1 : Int), c) : Cl)
def cellsL (xs : List DOp) : List Cl := xs.flatMap cellsOp
def cellStep (out : List DOp) (x : Cl) : List DOp :=
  match out.getLast? with
  | none => if x.1 < 0 then out ++ [⟨0, 0, ⟨#[x.2]⟩⟩] else out ++ [⟨x.1, 1, ⟨#[]⟩⟩]
  | some l =>
    if x.1 < 0 then (if l.len = 0 then out.dropLast ++ [⟨l.fr, l.len, l.tx ++ ⟨#[x.2]⟩⟩] else out ++ [⟨0, 0, ⟨#[x.2]⟩⟩])
    else if 0 < l.len ∧ l.fr + l.len = x.1 then out.dropLast ++ [⟨l.fr, l.len + 1, l.tx⟩] else out ++ [⟨x.1, 1, ⟨#[]⟩⟩]
theorem cellStep_nil (x : Cl) : cellStep [] x = if x.1 < 0 then [⟨0, 0, ⟨#[x.2]⟩⟩] else [⟨x.1, 1, ⟨#[]⟩⟩] := rfl
theorem cellStep_snoc (xs : List DOp) (l : DOp) (x : Cl) : cellStep (xs ++ [l]) x =
    if x.1 < 0 then (if l.len = 0 then xs ++ [⟨l.fr, l.len, l.tx ++ ⟨#[x.2]⟩⟩] else xs ++ [l] ++ [⟨0, 0, ⟨#[x.2]⟩⟩])
    else if 0 < l.len ∧ l.fr + l.len = x.1 then xs ++ [⟨l.fr, l.len + 1, l.tx⟩] else xs ++ [l] ++ [⟨x.1, 1, ⟨#[]⟩⟩] := by
  unfold cellStep; simp
/-- What a byte of the second is made of. -/
def subC (a : List Cl) (x : Cl) : Cl := if 0 ≤ x.1 then a.getD x.1.toNat (0, 0) else x

theorem tx_empty {t : ByteArray} (h : t.size = 0) : t = ⟨#[]⟩ := by
  cases t with
  | mk d => congr; exact Array.eq_empty_of_size_eq_zero h
theorem app_bytes (a b : ByteArray) : (a ++ b).data.toList = a.data.toList ++ b.data.toList := by
  simp [ByteArray.toList_data_append]
theorem bytes_ext {a b : ByteArray} (h : a.data.toList = b.data.toList) : a = b := by
  cases a; cases b; congr; exact Array.toList_inj.1 h

theorem not_false_b {b : Bool} (h : ¬ b = false) : b = true := by cases b <;> simp_all

/-- A copy goes on. -/
theorem grow_copy (xs : List DOp) (f l : Int) (t : ByteArray) (hf : 0 ≤ f) (hl : 0 < l) (n : Nat) :
    ((List.range n).map (fun k : Nat => ((f + l + (k : Int), (0 : UInt8)) : Cl))).foldl cellStep (xs ++ [⟨f, l, t⟩]) = xs ++ [⟨f, l + n, t⟩] := by
  induction n with
  | zero => simp
  | succ n ih =>
    rw [List.range_succ, List.map_append, List.foldl_append, ih]
    simp only [List.map_cons, List.map_nil, List.foldl_cons, List.foldl_nil]
    rw [cellStep_snoc]
    simp only
    rw [if_neg (by omega), if_pos ⟨by omega, by omega⟩, show l + (n : Int) + 1 = l + ((n + 1 : Nat) : Int) by omega]
/-- A text goes on. -/
theorem grow_text (xs : List DOp) (f : Int) (t : ByteArray) (bs : List UInt8) :
    (bs.map fun c => (((-1 : Int), c) : Cl)).foldl cellStep (xs ++ [⟨f, 0, t⟩]) = xs ++ [⟨f, 0, t ++ ⟨bs.toArray⟩⟩] := by
  induction bs generalizing t with
  | nil => simp [show t ++ (⟨#[]⟩ : ByteArray) = t from bytes_ext (by rw [app_bytes]; simp)]
  | cons c r ih =>
    simp only [List.map_cons, List.foldl_cons]
    rw [cellStep_snoc]
    simp only [show ((-1 : Int) < 0) from by omega, if_true]
    rw [ih, show t ++ (⟨#[c]⟩ : ByteArray) ++ ⟨r.toArray⟩ = t ++ ⟨(c :: r).toArray⟩ from bytes_ext (by simp [app_bytes])]

theorem nice_follow {l o : DOp} (hl : Nice l) (ho : Nice o) : (0 < o.len → (followB l.fr l.len o.fr o.len = false ↔ 0 < l.len ∧ l.fr + l.len = o.fr)) ∧ (o.len = 0 → (followB l.fr l.len o.fr o.len = false ↔ l.len = 0)) := by
  unfold followB
  constructor
  · intro h
    have h1 : decide (0 < o.len) = true := by simpa using h
    by_cases h2 : 0 < l.len
    · simp [h1, h2]; omega
    · simp [h1, h2]
  · intro h
    rcases hl with ⟨h1, _⟩ | ⟨h1, _⟩
    · simp [h, h1]; omega
    · simp [h, h1]

/-- Byte by byte is op by op. -/
theorem cells_join (out : List DOp) (o : DOp) (hout : ∀ p ∈ out, Nice p) (ho : Nice o) : (cellsOp o).foldl cellStep out = joinP out o := by
  rcases List.eq_nil_or_concat out with rfl | ⟨xs, l, rfl⟩
  · rw [joinP_nil]
    rcases ho with ⟨h1, h2, h3⟩ | ⟨h1, h2, h3⟩
    · obtain ⟨f, n, t⟩ := o
      simp only at h1 h2 h3
      obtain ⟨m, rfl⟩ : ∃ m : Nat, n = ((m + 1 : Nat) : Int) := ⟨(n - 1).toNat, by omega⟩
      have ht := tx_empty h3
      subst ht
      have e : cellsOp ⟨f, ((m + 1 : Nat) : Int), ⟨#[]⟩⟩ = (f, 0) :: (List.range m).map (fun k : Nat => ((f + 1 + (k : Int), (0 : UInt8)) : Cl)) := by
        unfold cellsOp
        simp only [Int.toNat_natCast, List.map_nil, List.append_nil, List.range_succ_eq_map, List.map_cons, List.map_map]
        congr 1
        · simp
        · apply List.map_congr_left; intro k _; simp; omega
      rw [e, List.foldl_cons, cellStep_nil, if_neg (by simp only; omega)]
      have := grow_copy [] f 1 ⟨#[]⟩ h2 (by omega) m
      simp only [List.nil_append] at this
      rw [this, show (1 : Int) + (m : Int) = ((m + 1 : Nat) : Int) by omega]
    · obtain ⟨f, n, t⟩ := o
      simp only at h1 h2 h3
      subst h1 h2
      obtain ⟨⟨bs⟩⟩ := t
      have hb : 0 < bs.length := h3
      match bs, hb with
      | c :: r, _ =>
        have e : cellsOp ⟨0, 0, ⟨⟨c :: r⟩⟩⟩ = (-1, c) :: r.map fun c => (((-1 : Int), c) : Cl) := by simp [cellsOp]
        rw [e, List.foldl_cons, cellStep_nil, if_pos (by simp)]
        have := grow_text [] 0 ⟨#[c]⟩ r
        simp only [List.nil_append] at this
        rw [this, show (⟨#[c]⟩ : ByteArray) ++ ⟨r.toArray⟩ = ⟨⟨c :: r⟩⟩ from bytes_ext (by simp [app_bytes])]
  · have hl : Nice l := hout l (by simp)
    rw [List.concat_eq_append] at *
    rw [joinP_snoc]
    have hfo := nice_follow hl ho
    rcases ho with ⟨h1, h2, h3⟩ | ⟨h1, h2, h3⟩
    · obtain ⟨f, n, t⟩ := o
      simp only at h1 h2 h3 hfo ⊢
      obtain ⟨m, rfl⟩ : ∃ m : Nat, n = ((m + 1 : Nat) : Int) := ⟨(n - 1).toNat, by omega⟩
      have ht := tx_empty h3
      subst ht
      have e : cellsOp ⟨f, ((m + 1 : Nat) : Int), ⟨#[]⟩⟩ = (f, 0) :: (List.range m).map (fun k : Nat => ((f + 1 + (k : Int), (0 : UInt8)) : Cl)) := by
        unfold cellsOp
        simp only [Int.toNat_natCast, List.map_nil, List.append_nil, List.range_succ_eq_map, List.map_cons, List.map_map]
        congr 1
        · simp
        · apply List.map_congr_left; intro k _; simp; omega
      rw [e, List.foldl_cons, cellStep_snoc, if_neg (by simp only; omega)]
      by_cases hc : 0 < l.len ∧ l.fr + l.len = f
      · rw [if_pos hc, if_neg (by rw [(hfo.1 h1).2 hc]; simp)]
        obtain ⟨lf, ll, lt⟩ := l
        simp only at hc hl ⊢
        have hlf : 0 ≤ lf := by rcases hl with ⟨_, h, _⟩ | ⟨h, _, _⟩ <;> simp only at h <;> omega
        have := grow_copy xs lf (ll + 1) lt hlf (by omega) m
        rw [show f + 1 = lf + (ll + 1) by omega, this, show (ll + 1 + (m : Int)) = ll + ((m + 1 : Nat) : Int) by omega, show lt ++ (⟨#[]⟩ : ByteArray) = lt from bytes_ext (by rw [app_bytes]; simp)]
      · rw [if_neg hc, if_pos (not_false_b fun hb => hc ((hfo.1 h1).1 hb))]
        have := grow_copy (xs ++ [l]) f 1 ⟨#[]⟩ h2 (by omega) m
        rw [this, show (1 : Int) + (m : Int) = ((m + 1 : Nat) : Int) by omega]
    · obtain ⟨f, n, t⟩ := o
      simp only at h1 h2 h3 hfo ⊢
      subst h1 h2
      obtain ⟨⟨bs⟩⟩ := t
      have hb : 0 < bs.length := h3
      match bs, hb with
      | c :: r, _ =>
        have e : cellsOp ⟨0, 0, ⟨⟨c :: r⟩⟩⟩ = (-1, c) :: r.map fun c => (((-1 : Int), c) : Cl) := by simp [cellsOp]
        rw [e, List.foldl_cons, cellStep_snoc, if_pos (by simp)]
        by_cases hc : l.len = 0
        · rw [if_pos hc, if_neg (by rw [(hfo.2 rfl).2 hc]; simp)]
          obtain ⟨lf, ll, lt⟩ := l
          simp only at hc ⊢
          subst hc
          rw [grow_text, show (lt ++ (⟨#[c]⟩ : ByteArray)) ++ ⟨r.toArray⟩ = lt ++ ⟨⟨c :: r⟩⟩ from bytes_ext (by simp [app_bytes])]
          simp
        · rw [if_neg hc, if_pos (not_false_b fun hb => hc ((hfo.2 rfl).1 hb))]
          rw [grow_text, show (⟨#[c]⟩ : ByteArray) ++ ⟨r.toArray⟩ = ⟨⟨c :: r⟩⟩ from bytes_ext (by simp [app_bytes])]

theorem joinP_nice (out : List DOp) (o : DOp) (hout : ∀ p ∈ out, Nice p) (ho : Nice o) : ∀ p ∈ joinP out o, Nice p := by
  rcases List.eq_nil_or_concat out with rfl | ⟨xs, l, rfl⟩
  · rw [joinP_nil]; simpa using ho
  · have hl : Nice l := hout l (by simp)
    rw [List.concat_eq_append] at *
    rw [joinP_snoc]
    have hfo := nice_follow hl ho
    intro p hp
    split at hp
    · simp only [List.mem_append, List.mem_singleton] at hp
      rcases hp with (hp | rfl) | rfl
      · exact hout p (by simp [hp])
      · exact hl
      · exact ho
    · rename_i hfb
      have hfb : followB l.fr l.len o.fr o.len = false := by simpa using hfb
      simp only [List.mem_append, List.mem_singleton] at hp
      rcases hp with hp | rfl
      · exact hout p (by simp [hp])
      · rcases ho with ⟨h1, h2, h3⟩ | ⟨h1, h2, h3⟩
        · have := (hfo.1 h1).1 hfb
          rcases hl with ⟨g1, g2, g3⟩ | ⟨g1, g2, g3⟩
          · exact .inl ⟨by simp only; omega, g2, by simp [ByteArray.size_append, g3, h3]⟩
          · omega
        · have := (hfo.2 h1).1 hfb
          rcases hl with ⟨g1, g2, g3⟩ | ⟨g1, g2, g3⟩
          · omega
          · exact .inr ⟨by simp only; omega, g2, by simp only [ByteArray.size_append]; omega⟩

theorem cells_joins (ops out : List DOp) (hout : ∀ p ∈ out, Nice p) (ho : ∀ o ∈ ops, Nice o) : (cellsL ops).foldl cellStep out = ops.foldl joinP out ∧ ∀ p ∈ ops.foldl joinP out, Nice p := by
  induction ops generalizing out with
  | nil => exact ⟨rfl, hout⟩
  | cons o r ih =>
    have h1 := cells_join out o hout (ho o (by simp))
    have h2 := joinP_nice out o hout (ho o (by simp))
    have := ih (joinP out o) h2 (fun p hp => ho p (by simp [hp]))
    simp only [cellsL, List.flatMap_cons, List.foldl_append, List.foldl_cons] at this ⊢
    rw [h1]
    exact this
end Go.Proofs.YtabpiaaknjcnkabGreat
