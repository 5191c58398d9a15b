/- The texts PC, PD, PU, one behind the other. -/
import Derived.Test.YtabpiaaknjcnkaaGreatXP3WAWCL1L2
/-
  Plain facts: two deltas in one, op by op and byte by byte.
-/
namespace Go.Proofs.YtabpiaaknjcnkaaGreat
set_option linter.unusedVariables false
set_option linter.unusedSimpArgs false

/-- An op as a delta has them, whatever the base. -/
def Nice (o : DOp) : Prop := (0 < o.len ∧ 0 ≤ o.fr ∧ o.tx.size = 0) ∨ (o.len = 0 ∧ o.fr = 0 ∧ 0 < o.tx.size)

/-- An op more behind a row; it and the last become one where they may not stand side by side. -/
def joinP (xs : List DOp) (o : DOp) : List DOp :=
  match xs.getLast? with
  | none => xs ++ [o]
  | some l => if followB l.fr l.len o.fr o.len = true then xs ++ [o] else xs.dropLast ++ [⟨l.fr, l.len + o.len, l.tx ++ o.tx⟩]
theorem joinP_nil (o : DOp) : joinP [] o = [o] := rfl
theorem joinP_snoc (xs : List DOp) (l o : DOp) : joinP (xs ++ [l]) o = if followB l.fr l.len o.fr o.len = true then xs ++ [l] ++ [o] else xs ++ [⟨l.fr, l.len + o.len, l.tx ++ o.tx⟩] := by
  unfold joinP; simp

def pieceP (o : DOp) (s t : Int) : DOp := if 0 < o.len then ⟨o.fr + s, t, ⟨#[]⟩⟩ else ⟨0, 0, o.tx.extract s.toNat (s + t).toNat⟩
/-- What makes n bytes of a row of ops, from the byte f on. -/
def pieceGo : List DOp → Int → Int → List DOp
  | [], _, _ => []
  | o :: r, f, n => (if 0 < min n (sizeI o.len o.tx - min f (sizeI o.len o.tx)) then [pieceP o (min f (sizeI o.len o.tx)) (min n (sizeI o.len o.tx - min f (sizeI o.len o.tx)))] else []) ++
      pieceGo r (f - min f (sizeI o.len o.tx)) (n - min n (sizeI o.len o.tx - min f (sizeI o.len o.tx)))
def compStep (first : List DOp) (acc : List DOp) (o : DOp) : List DOp := if 0 < o.len then (pieceGo first o.fr o.len).foldl joinP acc else joinP acc o
def compOps (first second : List DOp) : List DOp := second.foldl (compStep first) []

/-! Byte by byte. -/
abbrev Cl := Int × UInt8
def cellsOp (o : DOp) : List Cl := (List.range o.len.toNat).map (fun k : Nat => ((o.fr + (k : Int), (0 : UInt8)) : Cl)) ++ o.tx.data.toList.map fun c => (((-1 : Int), c) : Cl)
def cellsL (xs : List DOp) : List Cl := xs.flatMap cellsOp
def cellStep (out : List DOp) (x : Cl) : List DOp :=
  match out.getLast? with
  | none => if x.1 < 0 then out ++ [⟨0, 0, ⟨#[x.2]⟩⟩] else out ++ [⟨x.1, 1, ⟨#[]⟩⟩]
  | some l =>
    if x.1 < 0 then (if l.len = 0 then out.dropLast ++ [⟨l.fr, l.len, l.tx ++ ⟨#[x.2]⟩⟩] else out ++ [⟨0, 0, ⟨#[x.2]⟩⟩])
    else if 0 < l.len ∧ l.fr + l.len = x.1 then out.dropLast ++ [⟨l.fr, l.len + 1, l.tx⟩] else out ++ [⟨x.1, 1, ⟨#[]⟩⟩]
theorem cellStep_nil (x : Cl) : cellStep [] x = if x.1 < 0 then [⟨0, 0, ⟨#[x.2]⟩⟩] else [⟨x.1, 1, ⟨#[]⟩⟩] := rfl
theorem cellStep_snoc (xs : List DOp) (l : DOp) (x : Cl) : cellStep (xs ++ [l]) x =
    if x.1 < 0 then (if l.len = 0 then xs ++ [⟨l.fr, l.len, l.tx ++ ⟨#[x.2]⟩⟩] else xs ++ [l] ++ [⟨0, 0, ⟨#[x.2]⟩⟩])
    else if 0 < l.len ∧ l.fr + l.len = x.1 then xs ++ [⟨l.fr, l.len + 1, l.tx⟩] else xs ++ [l] ++ [⟨x.1, 1, ⟨#[]⟩⟩] := by
  unfold cellStep; simp
/-- What a byte of the second is made of. -/
def subC (a : List Cl) (x : Cl) : Cl := if 0 ≤ x.1 then a.getD x.1.toNat (0, 0) else x

theorem tx_empty {t : ByteArray} (h : t.size = 0) : t = ⟨#[]⟩ := by
  cases t with
  | mk d => congr; exact Array.eq_empty_of_size_eq_zero h
theorem app_bytes (a b : ByteArray) : (a ++ b).data.toList = a.data.toList ++ b.data.toList := by
  simp [ByteArray.toList_data_append]

theorem not_false_b {b : Bool} (h : ¬ b = false) : b = true := by cases b <;> simp_all

/-- A copy goes on. -/
theorem grow_copy (xs : List DOp) (f l : Int) (t : ByteArray) (hf : 0 ≤ f) (hl : 0 < l) (n : Nat) :
    ((List.range n).map (fun k : Nat => ((f + l + (k : Int), (0 : UInt8)) : Cl))).foldl cellStep (xs ++ [⟨f, l, t⟩]) = xs ++ [⟨f, l + n, t⟩] := by
  induction n with
  | zero => simp
  | succ n ih =>
    rw [List.range_succ, List.map_append, List.foldl_append, ih]
    simp only [List.map_cons, List.map_nil, List.foldl_cons, List.foldl_nil]
    rw [cellStep_snoc]
    simp only
    rw [if_neg (by omega), if_pos ⟨by omega, by omega⟩, show l + (n : Int) + 1 = l + ((n + 1 : Nat) : Int) by omega]
/-- A text goes on. -/
theorem grow_text (xs : List DOp) (f : Int) (t : ByteArray) (bs : List UInt8) :
    (bs.map fun c => (((-1 : Int), c) : Cl)).foldl cellStep (xs ++ [⟨f, 0, t⟩]) = xs ++ [⟨f, 0, t ++ ⟨bs.toArray⟩⟩] := by
  induction bs generalizing t with
  | nil => simp [show t ++ (⟨#[]⟩ : ByteArray) = t from bytes_ext (by rw [app_bytes]; simp)]
  | cons c r ih =>
    simp only [List.map_cons, List.foldl_cons]
    rw [cellStep_snoc]
    simp only [show ((-1 : Int) < 0) from by omega, if_true]
    rw [ih, show t ++ (⟨#[c]⟩ : ByteArray) ++ ⟨r.toArray⟩ = t ++ ⟨(c :: r).toArray⟩ from bytes_ext (by simp [app_bytes])]

theorem nice_follow {l o : DOp} (hl : Nice l) (ho : Nice o) : (0 < o.len → (followB l.fr l.len o.fr o.len = false ↔ 0 < l.len ∧ l.fr + l.len = o.fr)) ∧ (o.len = 0 → (followB l.fr l.len o.fr o.len = false ↔ l.len = 0)) := by
  unfold followB
  constructor
  · intro h
    have h1 : decide (0 < o.len) = true := by simpa using h
    by_cases h2 : 0 < l.len
    · simp [h1, h2]; omega
    · simp [h1, h2]
  · intro h
    rcases hl with ⟨h1, _⟩ | ⟨h1, _⟩
    · simp [h, h1]; omega
    · simp [h, h1]

/-- Byte by byte is op by op. -/
theorem cells_join (out : List DOp) (o : DOp) (hout : ∀ p ∈ out, Nice p) (ho : Nice o) : (cellsOp o).foldl cellStep out = joinP out o := by
  rcases List.eq_nil_or_concat out with rfl | ⟨xs, l, rfl⟩
  · rw [joinP_nil]
    rcases ho with ⟨h1, h2, h3⟩ | ⟨h1, h2, h3⟩
    · obtain ⟨f, n, t⟩ := o
      simp only at h1 h2 h3
      obtain ⟨m, rfl⟩ : ∃ m : Nat, n = ((m + 1 : Nat) : Int) := ⟨(n - 1).toNat, by omega⟩
      have ht := tx_empty h3
      subst ht
      have e : cellsOp ⟨f, ((m + 1 : Nat) : Int), ⟨#[]⟩⟩ = (f, 0) :: (List.range m).map (fun k : Nat => ((f + 1 + (k : Int), (0 : UInt8)) : Cl)) := by
        unfold cellsOp
        simp only [Int.toNat_natCast, List.map_nil, List.append_nil, List.range_succ_eq_map, List.map_cons, List.map_map]
        congr 1
        · simp
        · apply List.map_congr_left; intro k _; simp; omega
      rw [e, List.foldl_cons, cellStep_nil, if_neg (by simp only; omega)]
      have := grow_copy [] f 1 ⟨#[]⟩ h2 (by omega) m
      simp only [List.nil_append] at this
      rw [this, show (1 : Int) + (m : Int) = ((m + 1 : Nat) : Int) by omega]
    · obtain ⟨f, n, t⟩ := o
      simp only at h1 h2 h3
      subst h1 h2
      obtain ⟨⟨bs⟩⟩ := t
      have hb : 0 < bs.length := h3
      match bs, hb with
      | c :: r, _ =>
        have e : cellsOp ⟨0, 0, ⟨⟨c :: r⟩⟩⟩ = (-1, c) :: r.map fun c => (((-1 : Int), c) : Cl) := by simp [cellsOp]
        rw [e, List.foldl_cons, cellStep_nil, if_pos (by simp)]
        have := grow_text [] 0 ⟨#[c]⟩ r
        simp only [List.nil_append] at this
        rw [this, show (⟨#[c]⟩ : ByteArray) ++ ⟨r.toArray⟩ = ⟨⟨c :: r⟩⟩ from bytes_ext (by simp [app_bytes])]
  · have hl : Nice l := hout l (by simp)
    rw [List.concat_eq_append] at *
    rw [joinP_snoc]
    have hfo := nice_follow hl ho
    rcases ho with ⟨h1, h2, h3⟩ | ⟨h1, h2, h3⟩
    · obtain ⟨f, n, t⟩ := o
      simp only at h1 h2 h3 hfo ⊢
      obtain ⟨m, rfl⟩ : ∃ m : Nat, n = ((m + 1 : Nat) : Int) := ⟨(n - 1).toNat, by omega⟩
      have ht := tx_empty h3
      subst ht
      have e : cellsOp ⟨f, ((m + 1 : Nat) : Int), ⟨#[]⟩⟩ = (f, 0) :: (List.range m).map (fun k : Nat => ((f + 1 + (k : Int), (0 : UInt8)) : Cl)) := by
        unfold cellsOp
        simp only [Int.toNat_natCast, List.map_nil, List.append_nil, List.range_succ_eq_map, List.map_cons, List.map_map]
        congr 1
        · simp
        · apply List.map_congr_left; intro k _; simp; omega
      rw [e, List.foldl_cons, cellStep_snoc, if_neg (by simp only; omega)]
      by_cases hc : 0 < l.len ∧ l.fr + l.len = f
      · rw [if_pos hc, if_neg (by rw [(hfo.1 h1).2 hc]; simp)]
        obtain ⟨lf, ll, lt⟩ := l
        simp only at hc hl ⊢
        have hlf : 0 ≤ lf := by rcases hl with ⟨_, h, _⟩ | ⟨h, _, _⟩ <;> simp only at h <;> omega
        have := grow_copy xs lf (ll + 1) lt hlf (by omega) m
        rw [show f + 1 = lf + (ll + 1) by omega, this, show (ll + 1 + (m : Int)) = ll + ((m + 1 : Nat) : Int) by omega, show lt ++ (⟨#[]⟩ : ByteArray) = lt from bytes_ext (by rw [app_bytes]; simp)]
      · rw [if_neg hc, if_pos (not_false_b fun hb => hc ((hfo.1 h1).1 hb))]
        have := grow_copy (xs ++ [l]) f 1 ⟨#[]⟩ h2 (by omega) m
        rw [this, show (1 : Int) + (m : Int) = ((m + 1 : Nat) : Int) by omega]
    · obtain ⟨f, n, t⟩ := o
      simp only at h1 h2 h3 hfo ⊢
      subst h1 h2
      obtain ⟨⟨bs⟩⟩ := t
      have hb : 0 < bs.length := h3
      match bs, hb with
      | c :: r, _ =>
        have e : cellsOp ⟨0, 0, ⟨⟨c :: r⟩⟩⟩ = (-1, c) :: r.map fun c => (((-1 : Int), c) : Cl) := by simp [cellsOp]
        rw [e, List.foldl_cons, cellStep_snoc, if_pos (by simp)]
        by_cases hc : l.len = 0
        · rw [if_pos hc, if_neg (by rw [(hfo.2 rfl).2 hc]; simp)]
          obtain ⟨lf, ll, lt⟩ := l
          simp only at hc ⊢
          subst hc
          rw [grow_text, show (lt ++ (⟨#[c]⟩ : ByteArray)) ++ ⟨r.toArray⟩ = lt ++ ⟨⟨c :: r⟩⟩ from bytes_ext (by simp [app_bytes])]
          simp
        · rw [if_neg hc, if_pos (not_false_b fun hb => hc ((hfo.2 rfl).1 hb))]
          rw [grow_text, show (⟨#[c]⟩ : ByteArray) ++ ⟨r.toArray⟩ = ⟨⟨c :: r⟩⟩ from bytes_ext (by simp [app_bytes])]

theorem joinP_nice (out : List DOp) (o : DOp) (hout : ∀ p ∈ out, Nice p) (ho : Nice o) : ∀ p ∈ joinP out o, Nice p := by
  rcases List.eq_nil_or_concat out with rfl | ⟨xs, l, rfl⟩
  · rw [joinP_nil]; simpa using ho
  · have hl : Nice l := hout l (by simp)
    rw [List.concat_eq_append] at *
    rw [joinP_snoc]
    have hfo := nice_follow hl ho
    intro p hp
    split at hp
    · simp only [List.mem_append, List.mem_singleton] at hp
      rcases hp with (hp | rfl) | rfl
      · exact hout p (by simp [hp])
      · exact hl
      · exact ho
    · rename_i hfb
      have hfb : followB l.fr l.len o.fr o.len = false := by simpa using hfb
      simp only [List.mem_append, List.mem_singleton] at hp
      rcases hp with hp | rfl
      · exact hout p (by simp [hp])
      · rcases ho with ⟨h1, h2, h3⟩ | ⟨h1, h2, h3⟩
        · have := (hfo.1 h1).1 hfb
          rcases hl with ⟨g1, g2, g3⟩ | ⟨g1, g2, g3⟩
          · exact .inl ⟨by simp only; omega, g2, by simp [ByteArray.size_append, g3, h3]⟩
          · omega
        · have := (hfo.2 h1).1 hfb
          rcases hl with ⟨g1, g2, g3⟩ | ⟨g1, g2, g3⟩
          · omega
          · exact .inr ⟨by simp only; omega, g2, by simp only [ByteArray.size_append]; omega⟩

theorem cells_joins (ops out : List DOp) (hout : ∀ p ∈ out, Nice p) (ho : ∀ o ∈ ops, Nice o) : (cellsL ops).foldl cellStep out = ops.foldl joinP out ∧ ∀ p ∈ ops.foldl joinP out, Nice p := by
  induction ops generalizing out with
  | nil => exact ⟨rfl, hout⟩
  | cons o r ih =>
    have h1 := cells_join out o hout (ho o (by simp))
    have h2 := joinP_nice out o hout (ho o (by simp))
    have := ih (joinP out o) h2 (fun p hp => ho p (by simp [hp]))
    simp only [cellsL, List.flatMap_cons, List.foldl_append, List.foldl_cons] at this ⊢
    rw [h1]
    exact this
end Go.Proofs.YtabpiaaknjcnkaaGreat

/-
  Plain facts: what makes a stretch; two deltas in one by the document's way and by the program's are the same.
-/
namespace Go.Proofs.YtabpiaaknjcnkaaGreat
set_option linter.unusedVariables false
set_option linter.unusedSimpArgs false

theorem Nice.size {o : DOp} (h : Nice o) : ((cellsOp o).length : Int) = sizeI o.len o.tx ∧ 0 < sizeI o.len o.tx := by
  unfold cellsOp sizeI
  rcases h with ⟨h1, h2, h3⟩ | ⟨h1, h2, h3⟩
  · rw [if_pos h1, tx_empty h3]; simp; omega
  · rw [if_neg (by omega), h1]; simp; omega
theorem nice_of_isOp {o : DOp} {b : Int} (h : isOpB o.fr o.len o.tx b = true) : Nice o ∧ (0 < o.len → o.fr + o.len ≤ b) := by
  unfold isOpB at h
  by_cases h1 : 0 < o.len
  · rw [if_pos h1] at h
    simp only [Bool.and_eq_true, decide_eq_true_eq, isEmpty_iff] at h
    exact ⟨.inl ⟨h1, h.1.1, h.1.2⟩, fun _ => by omega⟩
  · rw [if_neg h1] at h
    simp only [Bool.and_eq_true, beq_iff_eq, Bool.not_eq_true'] at h
    refine ⟨.inr ⟨h.2, h.1.2, ?_⟩, fun h => absurd h h1⟩
    have : ¬ o.tx.size = 0 := fun e => by have := (isEmpty_iff o.tx).2 e; rw [this] at h; simp at h
    omega
theorem cellsL_length {xs : List DOp} (h : ∀ o ∈ xs, Nice o) : ((cellsL xs).length : Int) = sumI xs := by
  induction xs with
  | nil => rfl
  | cons o r ih =>
    have h1 := (h o (by simp)).size.1
    have h2 := ih (fun q hq => h q (by simp [hq]))
    simp only [cellsL, List.flatMap_cons, List.length_append, sumI] at h2 ⊢
    omega
theorem cellsL_cons (o : DOp) (r : List DOp) : cellsL (o :: r) = cellsOp o ++ cellsL r := by simp [cellsL]
theorem cellsL_append (xs ys : List DOp) : cellsL (xs ++ ys) = cellsL xs ++ cellsL ys := by simp [cellsL]

theorem piece_cells {o : DOp} (h : Nice o) {s t : Int} (hs : 0 ≤ s) (ht : 0 < t) (hst : s + t ≤ sizeI o.len o.tx) : cellsOp (pieceP o s t) = ((cellsOp o).drop s.toNat).take t.toNat ∧ Nice (pieceP o s t) := by
  obtain ⟨f, l, x⟩ := o
  unfold sizeI at hst
  rcases h with ⟨h1, h2, h3⟩ | ⟨h1, h2, h3⟩ <;> simp only at h1 h2 h3 hst
  · rw [if_pos h1] at hst
    have hx := tx_empty h3
    subst hx
    simp only [pieceP, if_pos h1]
    refine ⟨?_, .inl ⟨ht, by simp only; omega, rfl⟩⟩
    simp only [cellsOp, List.map_nil, List.append_nil]
    apply List.ext_getElem?
    intro i
    simp only [List.getElem?_take, List.getElem?_drop, List.getElem?_map]
    by_cases hi : i < t.toNat
    · rw [if_pos hi, List.getElem?_range hi, List.getElem?_range (by omega)]
      simp; omega
    · rw [if_neg hi, List.getElem?_eq_none (by simp; omega)]; rfl
  · rw [if_neg (by omega)] at hst
    subst h1 h2
    simp only [pieceP]
    rw [if_neg (by omega)]
    have hsz : (x.extract s.toNat (s + t).toNat).size = t.toNat := by rw [size_ext _ _ _ (by omega)]; omega
    refine ⟨?_, .inr ⟨rfl, rfl, by simp only [hsz]; omega⟩⟩
    simp only [cellsOp, Int.toNat_zero, List.range_zero, List.map_nil, List.nil_append]
    rw [ByteArray.data_extract, Array.toList_extract, List.extract_eq_take_drop, ← List.map_drop, ← List.map_take, show (s + t).toNat - s.toNat = t.toNat by omega]

theorem pieces_cells {first : List DOp} (h : ∀ o ∈ first, Nice o) : ∀ (f n : Int), 0 ≤ f → 0 ≤ n → cellsL (pieceGo first f n) = ((cellsL first).drop f.toNat).take n.toNat ∧ ∀ p ∈ pieceGo first f n, Nice p := by
  induction first with
  | nil => intro f n _ _; simp [pieceGo, cellsL]
  | cons o r ih =>
    intro f n hf hn
    have ho := h o (by simp)
    obtain ⟨hsz, hpos⟩ := ho.size
    unfold pieceGo
    generalize hz : sizeI o.len o.tx = z at *
    obtain ⟨i1, i2⟩ := ih (fun q hq => h q (by simp [hq])) (f - min f z) (n - min n (z - min f z)) (by omega) (by omega)
    rw [cellsL_cons, List.drop_append, List.take_append]
    by_cases hp : 0 < min n (z - min f z)
    · obtain ⟨p1, p2⟩ := piece_cells ho (s := min f z) (t := min n (z - min f z)) (by omega) hp (by omega)
      rw [if_pos hp, cellsL_append, i1]
      constructor
      · congr 1
        · rw [show cellsL [pieceP o (min f z) (min n (z - min f z))] = cellsOp (pieceP o (min f z) (min n (z - min f z))) by simp [cellsL], p1, show (min f z).toNat = f.toNat by omega]
          by_cases hnz : n ≤ z - min f z
          · rw [show (min n (z - min f z)).toNat = n.toNat by omega]
          · rw [List.take_of_length_le (by simp; omega), List.take_of_length_le (by simp; omega)]
        · rw [show (f - min f z).toNat = f.toNat - (cellsOp o).length by omega]
          congr 1
          simp; omega
      · intro p hp'
        rcases List.mem_append.1 hp' with hp' | hp'
        · rw [List.mem_singleton.1 hp']; exact p2
        · exact i2 p hp'
    · rw [if_neg hp, List.nil_append, i1]
      refine ⟨?_, i2⟩
      have e : List.take n.toNat (List.drop f.toNat (cellsOp o)) = [] := by
        by_cases hn0 : n = 0
        · simp [hn0]
        · rw [List.drop_of_length_le (by omega)]; simp
      rw [e, List.nil_append, show (f - min f z).toNat = f.toNat - (cellsOp o).length by omega]
      congr 1
      simp; omega

/-- What the bytes of an op of the second one are made of. -/
theorem sub_op {first : List DOp} (h : ∀ o ∈ first, Nice o) {o : DOp} (ho : Nice o) (hin : 0 < o.len → o.fr + o.len ≤ (cellsL first).length) :
    ∃ ps, (cellsOp o).map (subC (cellsL first)) = cellsL ps ∧ (∀ p ∈ ps, Nice p) ∧ ∀ acc, compStep first acc o = ps.foldl joinP acc := by
  have ho' := ho
  rcases ho with ⟨h1, h2, h3⟩ | ⟨h1, h2, h3⟩
  · obtain ⟨p1, p2⟩ := pieces_cells h o.fr o.len h2 (by omega)
    refine ⟨pieceGo first o.fr o.len, ?_, p2, fun acc => by rw [compStep, if_pos h1]⟩
    rw [p1]
    have := hin h1
    obtain ⟨f, l, x⟩ := o
    simp only at *
    have hx := tx_empty h3
    subst hx
    simp only [cellsOp, List.map_nil, List.append_nil, List.map_map]
    apply List.ext_getElem?
    intro i
    simp only [List.getElem?_take, List.getElem?_drop, List.getElem?_map]
    by_cases hi : i < l.toNat
    · rw [if_pos hi, List.getElem?_range hi]
      simp only [Option.map_some, Function.comp, subC]
      rw [if_pos (by omega), show (f + (i : Int)).toNat = f.toNat + i by omega, List.getD_eq_getElem?_getD, List.getElem?_eq_getElem (by omega)]
      rfl
    · rw [if_neg hi, List.getElem?_eq_none (by simp; omega)]; rfl
  · refine ⟨[o], ?_, by simpa using ho', fun acc => by rw [compStep, if_neg (by omega)]; rfl⟩
    rw [show cellsL [o] = cellsOp o by simp [cellsL]]
    unfold cellsOp
    rw [h1]
    simp only [Int.toNat_zero, List.range_zero, List.map_nil, List.nil_append, List.map_map]
    apply List.map_congr_left
    intro c _
    simp [subC]

/-- By the document's way, byte by byte. -/
def refOps (first second : List DOp) : List DOp := ((cellsL second).map (subC (cellsL first))).foldl cellStep []

theorem comp_go {first : List DOp} (h : ∀ o ∈ first, Nice o) (second : List DOp) (hs : ∀ o ∈ second, Nice o ∧ (0 < o.len → o.fr + o.len ≤ (cellsL first).length)) (acc : List DOp) (hacc : ∀ p ∈ acc, Nice p) :
    ((cellsL second).map (subC (cellsL first))).foldl cellStep acc = second.foldl (compStep first) acc ∧ ∀ p ∈ second.foldl (compStep first) acc, Nice p := by
  induction second generalizing acc with
  | nil => exact ⟨rfl, hacc⟩
  | cons o r ih =>
    obtain ⟨ps, e1, e2, e3⟩ := sub_op h (hs o (by simp)).1 (hs o (by simp)).2
    obtain ⟨c1, c2⟩ := cells_joins ps acc hacc e2
    rw [cellsL_cons, List.map_append, List.foldl_append, e1, c1, List.foldl_cons, e3]
    exact ih (fun q hq => hs q (by simp [hq])) _ c2

theorem comp_eq {first second : List DOp} (h : ∀ o ∈ first, Nice o) (hs : ∀ o ∈ second, Nice o ∧ (0 < o.len → o.fr + o.len ≤ (cellsL first).length)) : refOps first second = compOps first second ∧ ∀ p ∈ compOps first second, Nice p :=
  comp_go h second hs [] (by simp)
end Go.Proofs.YtabpiaaknjcnkaaGreat

/-
  Plain facts: a number's bytes, and a delta's code.
-/
namespace Go.Proofs.YtabpiaaknjcnkaaGreat
set_option linter.unusedVariables false
set_option linter.unusedSimpArgs false

/-- A number's bytes. -/
def uGo : Nat → Nat → List UInt8
  | 0, n => [UInt8.ofNat n]
  | f + 1, n => if n < 128 then [UInt8.ofNat n] else UInt8.ofNat (n % 128 + 128) :: uGo f (n / 128)
def uN (n : Nat) : List UInt8 := uGo n n
theorem uGo_fuel : ∀ (f g n : Nat), n ≤ f → n ≤ g → uGo f n = uGo g n
  | 0, 0, n, _, _ => rfl
  | 0, g + 1, n, h, _ => by rw [uGo, uGo, if_pos (by omega)]
  | f + 1, 0, n, _, h => by rw [uGo, uGo, if_pos (by omega)]
  | f + 1, g + 1, n, h1, h2 => by
    rw [uGo, uGo]
    by_cases h : n < 128
    · rw [if_pos h, if_pos h]
    · rw [if_neg h, if_neg h, uGo_fuel f g (n / 128) (by omega) (by omega)]
theorem uN_lt {n : Nat} (h : n < 128) : uN n = [UInt8.ofNat n] := by
  unfold uN
  cases n with
  | zero => rfl
  | succ n => rw [uGo, if_pos h]
theorem uN_ge {n : Nat} (h : ¬ n < 128) : uN n = UInt8.ofNat (n % 128 + 128) :: uN (n / 128) := by
  unfold uN
  cases n with
  | zero => omega
  | succ n => rw [uGo, if_neg h, uGo_fuel n ((n + 1) / 128) ((n + 1) / 128) (by omega) (by omega)]
theorem byte_toNat {n : Nat} (h : n < 256) : (UInt8.ofNat n).toNat = n := by
  rw [UInt8.toNat_ofNat_of_lt' (by simpa using h)]
theorem uN_length {n : Nat} (h : n < 2097152) : (uN n).length ≤ 3 := by
  by_cases h1 : n < 128
  · rw [uN_lt h1]; simp
  · rw [uN_ge h1]
    by_cases h2 : n / 128 < 128
    · rw [uN_lt h2]; simp
    · rw [uN_ge h2, uN_lt (by omega)]; simp

theorem uN_length5 {n : Nat} (h : n < 34359738368) : (uN n).length ≤ 5 := by
  by_cases h1 : n < 128
  · rw [uN_lt h1]; simp
  · rw [uN_ge h1, List.length_cons]
    by_cases h2 : n / 128 < 128
    · rw [uN_lt h2]; simp
    · rw [uN_ge h2, List.length_cons]
      have := uN_length (n := n / 128 / 128) (by omega)
      omega
theorem uN_pos (n : Nat) : 0 < (uN n).length := by
  by_cases h1 : n < 128
  · rw [uN_lt h1]; simp
  · rw [uN_ge h1]; simp

/-- An op's code; a delta's. -/
def encOp (o : DOp) : List UInt8 := if 0 < o.len then uN (2 * o.len + 1).toNat ++ uN o.fr.toNat else uN (2 * o.tx.size) ++ o.tx.data.toList
def encL (xs : List DOp) : List UInt8 := uN xs.length ++ xs.flatMap encOp
end Go.Proofs.YtabpiaaknjcnkaaGreat
