/- The texts P1, W1, W3, W4, one behind the other. -/
import Derived.Lib.Strings
import Derived.Test.YtabpiaaknjcnkaaGreatRows
import Derived.WalkKit
import Derived.WalkSpells
import Derived.WalkLawsBesides
import Derived.Deep.QuietTactic
import Derived.BigQuiet
import Derived.RegionTactic
import Derived.LoopTactic
import Derived.Maps.Own
import Derived.Maps.OwnSet
/-
  Plain facts: ops, the length of a common prefix, the first place of a stretch, what describe finds.
-/
namespace Go.Proofs.YtabpiaaknjcnkaaGreat
set_option linter.unusedVariables false
set_option linter.unusedSimpArgs false

/-- An op, as its three cells tell it. -/
structure DOp where
  fr : Int
  len : Int
  tx : ByteArray

def sizeI (l : Int) (t : ByteArray) : Int := if 0 < l then l else t.size
def isOpB (f l : Int) (t : ByteArray) (b : Int) : Bool :=
  if 0 < l then decide (0 ≤ f) && t.toList.isEmpty && decide (f ≤ b - l) else (!t.toList.isEmpty) && f == 0 && l == 0
def followB (f1 l1 f2 l2 : Int) : Bool := (decide (0 < l1) != decide (0 < l2)) || (decide (0 < l2) && f2 != f1 + l1)

/-- May the op stand behind the one ahead? -/
def behind : Option DOp → DOp → Bool
  | none, _ => true
  | some p, o => followB p.fr p.len o.fr o.len

/-- The number of the first op with which a row is no delta; how many there are, if it is one. -/
def faultGo (b : Int) : List DOp → Option DOp → Nat → Int → Nat
  | [], _, i, _ => i
  | o :: r, p, i, m =>
    if i = 200 then i else
    if isOpB o.fr o.len o.tx b = false then i else
    if behind p o = false then i else
    if 2000 - m < sizeI o.len o.tx then i else faultGo b r (some o) (i + 1) (m + sizeI o.len o.tx)
def faultF (xs : List DOp) (b : Int) : Nat := faultGo b xs none 0 0

def cpl : List UInt8 → List UInt8 → Nat
  | a :: s, b :: t => if a = b then cpl s t + 1 else 0
  | _, _ => 0

theorem cpl_of (a b : List UInt8) (k : Nat) (h1 : k ≤ a.length) (h2 : k ≤ b.length) (he : ∀ j, j < k → a[j]? = b[j]?)
    (hs : k = a.length ∨ k = b.length ∨ a[k]? ≠ b[k]?) : cpl a b = k := by
  induction a generalizing b k with
  | nil => simp at h1; subst h1; cases b <;> rfl
  | cons x s ih =>
    cases b with
    | nil => simp at h2; subst h2; rfl
    | cons y t =>
      cases k with
      | zero =>
        rcases hs with h | h | h
        · simp at h
        · simp at h
        · have : x ≠ y := by simpa using h
          simp [cpl, this]
      | succ k =>
        have h0 := he 0 (by omega)
        simp at h0
        subst h0
        have := ih t k (by simpa using h1) (by simpa using h2) (fun j hj => by simpa using he (j + 1) (by omega)) (by simpa using hs)
        simp [cpl, this]

theorem cpl_le (a b : List UInt8) : cpl a b ≤ a.length ∧ cpl a b ≤ b.length := by
  induction a generalizing b with
  | nil => cases b <;> simp [cpl]
  | cons x s ih =>
    cases b with
    | nil => simp [cpl]
    | cons y t =>
      by_cases h : x = y
      · have := ih t; simp [cpl, h]; omega
      · simp [cpl, h]

theorem cpl_ge (a b : List UInt8) (n : Nat) (h1 : n ≤ a.length) (h2 : n ≤ b.length) (h : a.take n = b.take n) : n ≤ cpl a b := by
  induction a generalizing b n with
  | nil => simp at h1; omega
  | cons x s ih =>
    cases b with
    | nil => simp at h2; omega
    | cons y t =>
      cases n with
      | zero => omega
      | succ n =>
        simp at h
        obtain ⟨rfl, h⟩ := h
        have := ih t n (by simpa using h1) (by simpa using h2) h
        simp [cpl]; omega

/-- Where it ends: one of the two is at its end, or the next bytes differ. -/
theorem cpl_stop (a b : List UInt8) : cpl a b = a.length ∨ cpl a b = b.length ∨ a[cpl a b]? ≠ b[cpl a b]? := by
  induction a generalizing b with
  | nil => cases b <;> simp [cpl]
  | cons x s ih =>
    cases b with
    | nil => simp [cpl]
    | cons y t =>
      by_cases h : x = y
      · subst h; have := ih t; simpa [cpl] using this
      · simp [cpl, h]

/-- Eight bytes stand at a place. -/
def occ (base key : List UInt8) (j : Nat) : Prop := j + 8 ≤ base.length ∧ (base.drop j).take 8 = key
def occDec (base key : List UInt8) (j : Nat) : Decidable (occ base key j) := inferInstanceAs (Decidable (_ ∧ _))

/-- The first place from m on. -/
def IsFirst (base : List UInt8) (m : Nat) (key : List UInt8) (j : Nat) : Prop := m ≤ j ∧ occ base key j ∧ ∀ i, m ≤ i → i < j → ¬ occ base key i

theorem IsFirst.uniq {base key : List UInt8} {m i j : Nat} (h : IsFirst base m key i) (h' : IsFirst base m key j) : i = j := by
  rcases Nat.lt_trichotomy i j with h1 | h1 | h1
  · exact absurd h.2.1 (h'.2.2 i h.1 h1)
  · exact h1
  · exact absurd h'.2.1 (h.2.2 j h'.1 h1)

def findFrom (base key : List UInt8) : Nat → Nat → Option Nat
  | 0, _ => none
  | f + 1, m => @ite _ (occ base key m) (occDec base key m) (some m) (findFrom base key f (m + 1))

theorem findFrom_some {base key : List UInt8} {f m j : Nat} (h : findFrom base key f m = some j) : IsFirst base m key j := by
  induction f generalizing m with
  | zero => simp [findFrom] at h
  | succ f ih =>
    by_cases ho : occ base key m
    · simp [findFrom, ho] at h; subst h; exact ⟨Nat.le_refl _, ho, fun i h1 h2 => by omega⟩
    · simp [findFrom, ho] at h
      obtain ⟨a, b, c⟩ := ih h
      exact ⟨by omega, b, fun i h1 h2 => by
        by_cases e : i = m
        · subst e; exact ho
        · exact c i (by omega) h2⟩

theorem findFrom_none {base key : List UInt8} {f m : Nat} (hf : base.length ≤ f + m) (h : findFrom base key f m = none) : ∀ j, m ≤ j → ¬ occ base key j := by
  induction f generalizing m with
  | zero => intro j hj ho; have := ho.1; omega
  | succ f ih =>
    by_cases ho : occ base key m
    · simp [findFrom, ho] at h
    · simp [findFrom, ho] at h
      intro j hj
      by_cases e : j = m
      · subst e; exact ho
      · exact ih (by omega) h j (by omega)

def findFirst (base key : List UInt8) : Option Nat := findFrom base key base.length 0
theorem findFirst_some {base key : List UInt8} {j : Nat} (h : findFirst base key = some j) : IsFirst base 0 key j := findFrom_some h
theorem findFirst_none {base key : List UInt8} (h : findFirst base key = none) : ∀ j, ¬ occ base key j := fun j => findFrom_none (by omega) h j (by omega)
theorem findFirst_of {base key : List UInt8} {j : Nat} (h : IsFirst base 0 key j) : findFirst base key = some j := by
  cases hf : findFirst base key with
  | none => exact absurd h.2.1 (findFirst_none hf j)
  | some i => rw [(findFirst_some hf).uniq h]
theorem findFirst_of_none {base key : List UInt8} (h : ∀ j, ¬ occ base key j) : findFirst base key = none := by
  cases hf : findFirst base key with
  | none => rfl
  | some i => exact absurd (findFirst_some hf).2.1 (h i)

def same (a b : ByteArray) : Nat := cpl a.data.toList b.data.toList

def addT (t : ByteArray) : List DOp := if t.toList.isEmpty then [] else [⟨0, 0, t⟩]

/-- What describe finds, from a place on. -/
def descGo (base next : ByteArray) : Nat → Nat → Nat → List DOp
  | 0, ts, _ => addT (next.extract ts next.size)
  | f + 1, ts, at_ =>
    if at_ + 8 ≤ next.size then
      match findFirst base.data.toList (next.extract at_ (at_ + 8)).data.toList with
      | none => descGo base next f ts (at_ + 1)
      | some j =>
        let n := same (base.extract j base.size) (next.extract at_ next.size)
        addT (next.extract ts at_) ++ ⟨j, n, ByteArray.empty⟩ :: descGo base next f (at_ + n) (at_ + n)
    else addT (next.extract ts next.size)

def descF (base next : ByteArray) : List DOp := descGo base next (next.size + 1) 0 0

end Go.Proofs.YtabpiaaknjcnkaaGreat

/-
  The walks over the small functions: short, pick, isCopy, size, stands.
-/
namespace Go.Proofs.YtabpiaaknjcnkaaGreat
open Go.RowKit
set_option linter.unusedVariables false
set_option linter.unusedSimpArgs false
set_option maxRecDepth 100000

theorem ret_int {k : IntKind} {a b : Int} (h : a = b) : Ending.returned (.int k a) = .returned (.int k b) := by rw [h]
theorem ret_bool {a b : Bool} (h : a = b) : Ending.returned (.bool a) = .returned (.bool b) := by rw [h]
theorem ret_str {a b : ByteArray} (h : a = b) : Ending.returned (.string a) = .returned (.string b) := by rw [h]

def pickN (c : Int) (n : Nat) : Nat := (if c < 0 then -(c + 1) else c).toNat % n
theorem pickN_lt (c : Int) (n : Nat) (h : 0 < n) : pickN c n < n := Nat.mod_lt _ h

set_option maxHeartbeats 400000 in
theorem isCopy_any (f l : Int) (t : ByteArray) (w : World) :
    Calls Tryz.prog 119 #[.agg #[.int .i64 f, .int .i64 l, .string t]] w fun e w' => e = .returned (.bool (decide (0 < l))) ∧ Below w.heap.size w w' := by
  go_enter Tryz.func119, Tryz.ntmps119
  go_wp2
  go_ret
  exact ⟨rfl, (Below.refl _ _).alloc (Nat.le_refl _) _⟩

set_option maxHeartbeats 400000 in
theorem size_any (f l : Int) (t : ByteArray) (w : World) :
    Calls Tryz.prog 141 #[.agg #[.int .i64 f, .int .i64 l, .string t]] w fun e w' => e = .returned (.int .i64 (sizeI l t)) ∧ Below w.heap.size w w' := by
  by_cases h : 0 < l
  · go_enter Tryz.func141, Tryz.ntmps141
    go_wp2
    go_ret
    exact ⟨ret_int (by rw [sizeI, if_pos h]), ((Below.refl _ _).alloc (Nat.le_refl _) _).alloc (by simp) _⟩
  · go_enter Tryz.func141, Tryz.ntmps141
    go_wp2
    go_ret
    exact ⟨ret_int (by rw [sizeI, if_neg (by omega)]), ((Below.refl _ _).alloc (Nat.le_refl _) _).alloc (by simp) _⟩

end Go.Proofs.YtabpiaaknjcnkaaGreat

/-
  The walks over stands and sameBytes.
-/
namespace Go.Proofs.YtabpiaaknjcnkaaGreat
open Go.RowKit
set_option linter.unusedVariables false
set_option linter.unusedSimpArgs false
set_option maxRecDepth 100000

theorem bytes_ext {a b : ByteArray} (h : a.data.toList = b.data.toList) : a = b := by
  rw [← Lib.mk_data a, ← Lib.mk_data b, h]
theorem eq_of_beq_toList {a b : ByteArray} (h : (a.toList == b.toList) = true) : a = b :=
  bytes_ext (by rw [← Lib.toList_data, ← Lib.toList_data]; exact beq_iff_eq.1 h)

theorem byte_get (a : ByteArray) (k : Nat) (h : k < a.size) : a.data.toList[k]? = some a[k] := by
  rw [List.getElem?_eq_getElem (by simpa using h)]; rfl

theorem byte_eq {x y : UInt8} (h : ((x.toNat : Int) == (y.toNat : Int)) = true) : x = y := by
  have : (x.toNat : Int) = y.toNat := by simpa using h
  exact UInt8.toNat_inj.1 (by omega)
theorem byte_ne {x y : UInt8} (h : ((x.toNat : Int) == (y.toNat : Int)) = false) : x ≠ y := by
  intro e; subst e; simp at h

set_option maxHeartbeats 1000000 in
theorem sameBytes_any (a b : ByteArray) (w : World) (hs : a.size ≤ 100000) (ht : b.size ≤ 100000) :
    Calls Tryz.prog 138 #[.string a, .string b] w fun e w' => e = .returned (.int .i64 (same a b)) ∧ ∃ n, w' = w.drewN n := by
  have HA : Hid (∀ k, (h : k < a.size) → a.data.toList[k]? = some a[k]) := fun k h => byte_get a k h
  have HB : Hid (∀ k, (h : k < b.size) → b.data.toList[k]? = some b[k]) := fun k h => byte_get b k h
  go_enter Tryz.func138, Tryz.ntmps138
  go_wp2
  go_loopw [5] (fun i wr => ∃ k : Nat, k ≤ a.size ∧ k ≤ b.size ∧ i = .int .i64 k ∧ (∀ j, j < k → a.data.toList[j]? = b.data.toList[j]?) ∧ ∃ n, wr = w.drewN n) (fun i _ => a.size + 1 - (intOf i).toNat)
  case atStart => exact ⟨0, by omega, by omega, rfl, fun j hj => by omega, 0, rfl⟩
  case round =>
    obtain ⟨k, hk, hk2, rfl, he, n, hn⟩ := hrel
    have HE : Hid (∀ j, j < k → a.data.toList[j]? = b.data.toList[j]?) := he
    have HN : Hid (∃ n, wr = w.drewN n) := ⟨n, hn⟩
    clear he hn
    by_cases hlt : k < a.size
    · have hd : decide ((k : Int) < (a.size : Int)) = true := by simp; omega
      by_cases hlt2 : k < b.size
      · have hd2 : decide ((k : Int) < (b.size : Int)) = true := by simp; omega
        go_wp2
        go_quiet (fail)
        go_wp2
        · go_roundw
          case rel =>
            refine ⟨k + 1, by omega, by omega, by go_num, ?_, ?_⟩
            · intro j hj
              by_cases e : j = k
              · subst e; have e2 := byte_eq (x := a[j]) (y := b[j]) (by assumption); rw [HA.out j hlt, HB.out j hlt2, e2]
              · exact HE.out j (by omega)
            · obtain ⟨n, hn⟩ := HN.out; exact ⟨n + nq, by rw [hn, World.drewN_drewN]⟩
          case measure => simp [intOf]; omega
        · go_ret
          refine ⟨ret_int ?_, ?_⟩
          · rw [same, cpl_of _ _ k (by rw [← Lib.size_eq]; omega) (by rw [← Lib.size_eq]; omega) HE.out (.inr (.inr ?_))]
            rw [HA.out k hlt, HB.out k hlt2]
            intro e
            exact byte_ne (x := a[k]) (y := b[k]) (by assumption) (by simpa using e)
          · obtain ⟨n, hn⟩ := HN.out; exact ⟨n + nq, by rw [hn, World.drewN_drewN]⟩
      · have hd2 : decide ((k : Int) < (b.size : Int)) = false := by simp; omega
        go_wp2
        go_quiet (fail)
        go_wp2
        go_ret
        refine ⟨ret_int ?_, ?_⟩
        · rw [same, cpl_of _ _ k (by rw [← Lib.size_eq]; omega) (by rw [← Lib.size_eq]; omega) HE.out (.inr (.inl ?_))]
          rw [← Lib.size_eq]; omega
        · obtain ⟨n, hn⟩ := HN.out; exact ⟨n + nq, by rw [hn, World.drewN_drewN]⟩
    · have hd : decide ((k : Int) < (a.size : Int)) = false := by simp; omega
      go_wp2
      go_quiet (fail)
      go_wp2
      go_ret
      refine ⟨ret_int ?_, ?_⟩
      · rw [same, cpl_of _ _ k (by rw [← Lib.size_eq]; omega) (by rw [← Lib.size_eq]; omega) HE.out (.inl ?_)]
        rw [← Lib.size_eq]; omega
      · obtain ⟨n, hn⟩ := HN.out; exact ⟨n + nq, by rw [hn, World.drewN_drewN]⟩
end Go.Proofs.YtabpiaaknjcnkaaGreat

/-
  The walk over firstPlaces: the map holds, for each stretch of eight bytes, where it stands first.
-/
namespace Go.Proofs.YtabpiaaknjcnkaaGreat
open Go.RowKit Go.Maps Go.WideMaps
set_option linter.unusedVariables false
set_option linter.unusedSimpArgs false
set_option maxRecDepth 100000

theorem Tryz.keyLaw : Keyed Tryz.prog 9 := string_keyed Tryz.underlying9
theorem Tryz.zeroInt (w : World) : (zeroValue 3).run Tryz.prog w = .ok (.int .i64 0) w := by kernel_rfl

/-- The map tells of the stretches from m on. -/
def Tells (base : List UInt8) (m : Nat) (D : DataW Unit) : Prop :=
  IsMap D ∧ (∀ key j, IsFirst base m key j → Maps.has D (.string key) = true ∧ D.atKey (.string key) (.lit (.int .i64 0)) = .lit (.int .i64 j)) ∧
    (∀ key, (∀ j, m ≤ j → ¬ occ base key j) → Maps.has D (.string key) = false)

theorem tells_start (base : List UInt8) (m : Nat) (h : base.length < m + 8) : Tells base m (.map []) := by
  refine ⟨isMap_empty, fun key j hf => ?_, fun key _ => rfl⟩
  have := hf.2.1.1; have := hf.1; omega

theorem tells_step {base : List UInt8} {m : Nat} {D : DataW Unit} (h : Tells base (m + 1) D) (hm : m + 8 ≤ base.length) :
    Tells base m (D.put (.string ((base.drop m).take 8)) (.lit (.int .i64 m))) := by
  obtain ⟨h1, h2, h3⟩ := h
  refine ⟨h1.put _ _, fun key j hf => ?_, fun key hn => ?_⟩
  · by_cases e : key = (base.drop m).take 8
    · subst e
      have : j = m := by
        rcases Nat.lt_or_ge m j with hlt | hge
        · exact absurd ⟨hm, rfl⟩ (hf.2.2 m (Nat.le_refl _) hlt)
        · have := hf.1; omega
      subst this
      exact ⟨has_put_same h1 (show WideAt.IsKeyLit (.string _) from trivial) _, atKey_put_same h1 (show WideAt.IsKeyLit (.string _) from trivial) _ _⟩
    · have hne : (Lit.string key) ≠ .string ((base.drop m).take 8) := fun h => e (by simpa using h)
      have hj : m ≠ j := by
        rintro rfl
        exact e hf.2.1.2.symm
      have hf' : IsFirst base (m + 1) key j := ⟨by have := hf.1; omega, hf.2.1, fun i hi hij => hf.2.2 i (by omega) hij⟩
      have := h2 key j hf'
      exact ⟨(has_put_other hne _).trans this.1, (atKey_put_other hne _ _).trans this.2⟩
  · have e : key ≠ (base.drop m).take 8 := by
      rintro rfl
      exact hn m (Nat.le_refl _) ⟨hm, rfl⟩
    have hne : (Lit.string key) ≠ .string ((base.drop m).take 8) := fun h => e (by simpa using h)
    exact (has_put_other hne _).trans (h3 key fun j hj => hn j (by omega))

set_option maxHeartbeats 1000000 in
theorem firstPlaces_any (base : ByteArray) (w : World) (hs : base.size ≤ 100000) :
    Calls Tryz.prog 137 #[.string base] w fun e w' => e = .returned (.map (some w.heap.size)) ∧
      (∃ n D, w'.ownsMap Tryz.prog 9 (plainElem Tryz.prog 3) w.heap.size n D ∧ Tells base.data.toList 0 D) ∧ Below w.heap.size w w' := by
  have hmm := @run_makeMap Tryz.prog
  go_enter Tryz.func137, Tryz.ntmps137
  go_wp2
  go_loopw [4] (fun i wr => ∃ (x : Int) (n : Nat) (D : DataW Unit), i = .int .i64 x ∧ -8 ≤ x ∧ x + 8 ≤ base.size ∧ (n : Int) + (x + 1).toNat ≤ base.size + 1 ∧ wr.ownsMap Tryz.prog 9 (plainElem Tryz.prog 3) w.heap.size n D ∧ Tells base.data.toList (x + 1).toNat D ∧ Below w.heap.size w wr)
    (fun i _ => (intOf i + 1).toNat)
  case atStart =>
    exact ⟨_, 0, .map [], rfl, by omega, by omega, by omega, World.ownsMap_made _ _ _ _, tells_start _ _ (by rw [← Lib.size_eq]; omega), (Below.refl _ _).alloc (Nat.le_refl _) _⟩
  case round =>
    obtain ⟨x, n, D, rfl, hx, hx8, hn, hown, ht, hb⟩ := hrel
    by_cases hlt : 0 ≤ x
    · obtain ⟨m, rfl⟩ : ∃ m : Nat, x = (m : Int) := ⟨x.toNat, by omega⟩
      have HT : Hid (Tells base.data.toList ((m : Int) + 1).toNat D) := ht
      clear ht
      go_wp2_with (first | (at_mapUpdate; refine wpList_mapUpdate_own _ rfl _ _ _ 181 rfl 9 3 Tryz.keyLaw Tryz.underlying181 _ w.heap.size n _ rfl hown (by unfold maxLen; omega) _ _ _ rfl rfl (keyOf_string_mk Tryz.underlying9 ?hkey) _ [] (plainElem_int Tryz.underlying3 (WalkArith.wf_i64 (by omega))) ?_) | go_in)
      case hkey => simp [maxLen]; omega
      intro w1 hown1 hgrow1
      have HR : Hid (Tells base.data.toList m (D.put (.string (List.take 8 (List.drop m base.data.toList))) (.lit (.int .i64 m)))) := by
        have h := HT.out
        rw [show ((m : Int) + 1).toNat = m + 1 from by omega] at h
        exact tells_step h (by rw [← Lib.size_eq]; omega)
      go_wp2
      go_roundw
      case rel =>
        refine ⟨(m : Int) - 1, n + 1, _, by go_num, by omega, by omega, by omega, hown1, ?_, hb.grown hgrow1 hb.size (fun j hj => by cases hj; exact Nat.le_refl _)⟩
        rw [show ((m : Int) - 1 + 1).toNat = m from by omega]
        exact HR.out
      case measure => simp [intOf]
    · go_wp2
      go_ret
      exact ⟨rfl, ⟨n, D, hown, by rw [show (x + 1).toNat = 0 from by omega] at ht; exact ht⟩, hb⟩
end Go.Proofs.YtabpiaaknjcnkaaGreat
