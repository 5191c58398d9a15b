/-
  The walks over the program's Compose.
-/
import Derived.Test.YtabpiaaknjcnkaaGreatC2
namespace Go.Proofs.YtabpiaaknjcnkaaGreat
open Go.RowKit
set_option linter.unusedVariables false
set_option linter.unusedSimpArgs false
set_option maxRecDepth 100000

theorem View.slice {w : World} {v : Value} {xs : List DOp} (h : View w v xs) : ∃ ao cap, v = .slice ao xs.length cap := by
  rcases h with ⟨rfl, ao, cap, rfl⟩ | ⟨b, off, cap, rfl, _⟩
  · exact ⟨ao, cap, rfl⟩
  · exact ⟨_, _, rfl⟩
/-- The ops are such as an int holds. -/
def Ints (xs : List DOp) : Prop := xs.length ≤ 5000000000000 ∧ (∀ o ∈ xs, o.len ≤ 9223372036854775807) ∧ ∀ o ∈ xs, o.tx.size ≤ 9223372036854770000

theorem fault_view {v : Value} {xs : List DOp} {w : World} (hv : View w v xs) (hi : Ints xs) (bs : Int) (h0 : 0 ≤ bs) (h1 : bs ≤ 2000) :
    Calls Tryz.prog 118 #[v, .int .i64 bs] w fun e w' => e = .returned (.int .i64 (faultF xs bs)) ∧ Below w.heap.size w w' := by
  rcases hv with ⟨rfl, ao, cap, rfl⟩ | ⟨b, off, cap, rfl, hb, hr⟩
  · refine (firstFault_nil ao cap bs w).mono ?_
    rintro e w' ⟨rfl, rfl⟩
    exact ⟨rfl, Below.refl _ _⟩
  · exact firstFault_any b off cap xs bs w h0 h1 hi.1 hr hi.2.1 hb
theorem sizes_view {v : Value} {xs : List DOp} {w : World} (hv : View w v xs) (hi : Ints xs) (hs : sumI xs ≤ 1000000000) :
    Calls Tryz.prog 123 #[v] w fun e w' => e = .returned (.int .i64 (sumI xs)) ∧ Below w.heap.size w w' := by
  rcases hv with ⟨rfl, ao, cap, rfl⟩ | ⟨b, off, cap, rfl, hb, hr⟩
  · exact sizes_nil ao cap w
  · exact sizes_any b off cap xs w hi.1 hr hs hb

theorem fault_len {xs : List DOp} {b : Int} (h : faultF xs b = xs.length) : xs.length ≤ 200 := by
  have key : ∀ (xs : List DOp) (p : Option DOp) (i : Nat) (m : Int), i ≤ 200 → faultGo b xs p i m = i + xs.length → i + xs.length ≤ 200 := by
    intro xs
    induction xs with
    | nil => intro p i m hi _; simpa using hi
    | cons o r ih =>
      intro p i m hi h
      rw [faultGo] at h
      simp only [List.length_cons] at h ⊢
      by_cases h1 : i = 200
      · rw [if_pos h1] at h; omega
      · rw [if_neg h1] at h
        split at h
        · omega
        · split at h
          · omega
          · split at h
            · omega
            · have := ih _ (i + 1) _ (by omega) (by rw [h]; omega); omega
  have := key xs none 0 0 (by omega) (by unfold faultF at h; simpa using h)
  omega
/-- What a delta is. -/
structure Delta (xs : List DOp) (b : Int) : Prop where
  each : ∀ o ∈ xs, Nice o ∧ (0 < o.len → o.fr + o.len ≤ b)
  sum : sumI xs ≤ 2000
  len : xs.length ≤ 200
theorem delta_of {xs : List DOp} {b : Int} (h : faultF xs b = xs.length) : Delta xs b := by
  obtain ⟨h1, h2⟩ := fault_all (b := b) (xs := xs) (p := none) (i := 0) (m := 0) (by unfold faultF at h; simpa using h) (by omega)
  exact ⟨fun o ho => nice_of_isOp (h1 o ho), by omega, fault_len h⟩
theorem Delta.parts {xs : List DOp} {b : Int} (h : Delta xs b) (hb : b ≤ 2000) : ∀ o ∈ xs, Nice o ∧ o.fr ≤ 2000 ∧ o.len ≤ 2000 ∧ o.tx.size ≤ 2000 := by
  intro o ho
  obtain ⟨h1, h2⟩ := h.each o ho
  have h3 := sumI_mem ho
  have h4 := h.sum
  refine ⟨h1, ?_⟩
  unfold sizeI at h3
  rcases h1 with ⟨a, b', c⟩ | ⟨a, b', c⟩
  · have := h2 a; rw [if_pos a] at h3; omega
  · rw [if_neg (by omega)] at h3; omega

def cmpF (xs ys : List DOp) : Nat := if faultF xs 2000 < xs.length then faultF xs 2000 else if faultF ys (sumI xs) < ys.length then xs.length + faultF ys (sumI xs) else xs.length + ys.length
def cmpOk (xs ys : List DOp) : Prop := ¬ faultF xs 2000 < xs.length ∧ ¬ faultF ys (sumI xs) < ys.length ∧ ¬ 200 < (compOps xs ys).length
def cmpDec (xs ys : List DOp) : Decidable (cmpOk xs ys) := inferInstanceAs (Decidable (_ ∧ _ ∧ _))
def cmpL (xs ys : List DOp) : List DOp := @ite _ (cmpOk xs ys) (cmpDec xs ys) (compOps xs ys) []
def cmpE (xs ys : List DOp) : Int := @ite _ (cmpOk xs ys) (cmpDec xs ys) 0 2
def cmpP (xs ys : List DOp) : Int := @ite _ (cmpOk xs ys) (cmpDec xs ys) 0 (cmpF xs ys)

theorem ret_three {v : Value} {a b c d : Int} (h1 : a = c) (h2 : b = d) : Ending.returned (.tuple #[v, .int .i64 a, .int .i64 b]) = .returned (.tuple #[v, .int .i64 c, .int .i64 d]) := by rw [h1, h2]

set_option maxHeartbeats 1000000 in
theorem comp_fault1 {v1 v2 : Value} {xs ys : List DOp} {w : World} (h1 : View w v1 xs) (h2 : View w v2 ys) (i1 : Ints xs) (i2 : Ints ys) (hf : faultF xs 2000 < xs.length) :
    Calls Tryz.prog 99 #[v1, v2] w fun e w' => e = .returned (.tuple #[.slice none 0 0, .int .i64 2, .int .i64 (faultF xs 2000)]) ∧ Below w.heap.size w w' := by
  obtain ⟨ao, c1, hv1⟩ := h1.slice
  obtain ⟨bo, c2, hv2⟩ := h2.slice
  rw [hv1] at h1 ⊢
  rw [hv2] at h2 ⊢
  have HC : Hid (∀ bs : Int, 0 ≤ bs → bs ≤ 2000 → Calls Tryz.prog 118 #[.slice ao xs.length c1, .int .i64 bs] w fun e w' => e = .returned (.int .i64 (faultF xs bs)) ∧ Below w.heap.size w w') := fun bs p q => fault_view h1 i1 bs p q
  clear h1 h2 hv1 hv2
  go_enter Tryz.func99, Tryz.ntmps99
  go_wp2_with fail
  refine (HC.out 2000 (by omega) (by omega)).mono ?_
  rintro e w1 ⟨rfl, hb⟩
  generalize hff : faultF xs 2000 = q at *
  have HQ : Hid (faultF xs 2000 = q) := hff
  clear hff HC
  go_wp2
  go_ret3
  exact ⟨ret_three rfl (by rw [HQ.out]), hb⟩

set_option maxHeartbeats 1000000 in
theorem comp_fault2 {v1 v2 : Value} {xs ys : List DOp} {w : World} (h1 : View w v1 xs) (h2 : View w v2 ys) (i1 : Ints xs) (i2 : Ints ys) (hf : ¬ faultF xs 2000 < xs.length) (hf2 : faultF ys (sumI xs) < ys.length) :
    Calls Tryz.prog 99 #[v1, v2] w fun e w' => e = .returned (.tuple #[.slice none 0 0, .int .i64 2, .int .i64 (xs.length + faultF ys (sumI xs) : Nat)]) ∧ Below w.heap.size w w' := by
  obtain ⟨ao, c1, hv1⟩ := h1.slice
  obtain ⟨bo, c2, hv2⟩ := h2.slice
  have hD := delta_of (b := 2000) (xs := xs) (by have := faultF_le xs 2000; omega)
  rw [hv1] at h1 ⊢
  rw [hv2] at h2 ⊢
  have H1 : Hid (View w (.slice ao xs.length c1) xs) := h1
  have H2 : Hid (View w (.slice bo ys.length c2) ys) := h2
  clear h1 h2 hv1 hv2
  have hy := i2.1
  have hx := hD.len
  go_enter Tryz.func99, Tryz.ntmps99
  go_wp2_with fail
  refine (fault_view H1.out i1 2000 (by omega) (by omega)).mono ?_
  rintro e w1 ⟨rfl, hb⟩
  generalize hff : faultF xs 2000 = q at *
  clear hff
  go_wp2_with fail
  refine (sizes_view (H1.out.kept hb) i1 (by have := hD.sum; omega)).mono ?_
  rintro e w2 ⟨rfl, hb2⟩
  have hb2' : Below w.heap.size w w2 := hb.trans (hb2.mono hb.size)
  clear hb hb2
  have h0 := sumI_nonneg xs
  have h3 := hD.sum
  generalize hss : sumI xs = s at *
  go_wp2_with fail
  refine (fault_view (H2.out.kept hb2') i2 s h0 h3).mono ?_
  rintro e w3 ⟨rfl, hb3⟩
  have hb3' : Below w.heap.size w w3 := hb2'.trans (hb3.mono hb2'.size)
  clear hb3 hb2'
  generalize hfg : faultF ys s = r at *
  have HQ : Hid (faultF ys (sumI xs) = r) := by show _ = r; rw [hss, hfg]
  clear hfg hss
  go_wp2
  go_ret3
  exact ⟨ret_three rfl (by rw [HQ.out]; omega), hb3'⟩

set_option maxHeartbeats 4000000 in
theorem comp_ok {v1 v2 : Value} {xs ys : List DOp} {w : World} (h1 : View w v1 xs) (h2 : View w v2 ys) (i1 : Ints xs) (i2 : Ints ys) (hf : ¬ faultF xs 2000 < xs.length) (hf2 : ¬ faultF ys (sumI xs) < ys.length) :
    Calls Tryz.prog 99 #[v1, v2] w fun e w' => (∃ v', e = .returned (.tuple #[v', .int .i64 (cmpE xs ys), .int .i64 (cmpP xs ys)]) ∧ OwnOps w' w.heap.size v' (cmpL xs ys)) ∧ Below w.heap.size w w' := by
  obtain ⟨ao, c1, hv1⟩ := h1.slice
  obtain ⟨bo, c2, hv2⟩ := h2.slice
  have hD := delta_of (b := 2000) (xs := xs) (by have := faultF_le xs 2000; omega)
  have hE := delta_of (b := sumI xs) (xs := ys) (by have := faultF_le ys (sumI xs); omega)
  rw [hv1] at h1 ⊢
  rw [hv2] at h2 ⊢
  have H1 : Hid (View w (.slice ao xs.length c1) xs) := h1
  have H2 : Hid (View w (.slice bo ys.length c2) ys) := h2
  clear h1 h2 hv1 hv2
  have hy := hE.len
  have hx := hD.len
  have HD : Hid (Delta xs 2000) := hD
  have HE : Hid (Delta ys (sumI xs)) := hE
  have h0 := sumI_nonneg xs
  have h3 := hD.sum
  clear hE hD
  go_enter Tryz.func99, Tryz.ntmps99
  go_wp2_with fail
  refine (fault_view H1.out i1 2000 (by omega) (by omega)).mono ?_
  rintro e w1 ⟨rfl, hb⟩
  have HQ1 : Hid (faultF xs 2000 = xs.length) := by show _ = _; have := faultF_le xs 2000; omega
  rw [HQ1.out]
  clear hf
  go_wp2_with fail
  refine (sizes_view (H1.out.kept hb) i1 (by omega)).mono ?_
  rintro e w2 ⟨rfl, hb2⟩
  have hb2' : Below w.heap.size w w2 := hb.trans (hb2.mono hb.size)
  clear hb hb2
  go_wp2_with fail
  refine (fault_view (H2.out.kept hb2') i2 (sumI xs) h0 h3).mono ?_
  rintro e w3 ⟨rfl, hb3⟩
  have hb3' : Below w.heap.size w w3 := hb2'.trans (hb3.mono hb2'.size)
  have HQ2 : Hid (faultF ys (sumI xs) = ys.length) := by show _ = _; have := faultF_le ys (sumI xs); omega
  rw [HQ2.out]
  clear hb3 hb2' hf2
  go_wp2
  go_loopw [9, 33] (fun v' c wr => ∃ k : Nat, k ≤ ys.length ∧ c = .int .i64 k ∧ Hid (OwnOps wr w.heap.size v' ((ys.take k).foldl (compStep xs) [])) ∧ Hid (Fit (sumI (ys.take k)) ((ys.take k).foldl (compStep xs) [])) ∧ Below w.heap.size w wr) (fun _ c _ => ys.length + 1 - (intOf c).toNat)
  case atStart => exact ⟨0, by omega, rfl, OwnOps.nil _ _, ⟨by simp, by simp [sumI]⟩, hb3'⟩
  case round =>
    obtain ⟨k, hk, rfl, HO, HF, hb⟩ := hrel
    have hsz := hb.size
    by_cases hlt : k < ys.length
    · obtain ⟨⟨f, l, t⟩, ho⟩ : ∃ o, ys[k]? = some o := ⟨ys[k], by simp [hlt]⟩
      obtain ⟨b, off, hbo, hbw, hr⟩ : ∃ b off, bo = some ⟨b, off, none⟩ ∧ b < w.heap.size ∧ ReadsAt w b off ys := by
        rcases H2.out with ⟨h, _⟩ | ⟨b, off, cap, hv, hlt', hr⟩
        · rw [h] at hlt; simp at hlt
        · injection hv with h1 h2 h3; exact ⟨b, off, h1, hlt', hr⟩
      subst hbo
      obtain ⟨r0, r1, r2⟩ := hr k _ ho
      have c0 : wr.cell? ⟨b, off + k * 3, none⟩ = some (.int .i64 f) := (hb.cell (p := ⟨b, _, none⟩) hbw).trans r0
      have c1' : wr.cell? ⟨b, off + k * 3 + 1, none⟩ = some (.int .i64 l) := (hb.cell (p := ⟨b, _, none⟩) hbw).trans r1
      have c2' : wr.cell? ⟨b, off + k * 3 + 2, none⟩ = some (.string t) := (hb.cell (p := ⟨b, _, none⟩) hbw).trans r2
      have HS : Hid ((ys.take (k + 1)).foldl (compStep xs) [] = compStep xs ((ys.take k).foldl (compStep xs) []) ⟨f, l, t⟩) := by
        show _ = _
        rw [List.take_add_one, ho, List.foldl_append]; rfl
      have hsum := sumI_take_succ ho
      have hle := sumI_take_le ys (k + 1)
      have hE2 := HE.out.sum
      have hs0 := sumI_nonneg (ys.take k)
      obtain ⟨hn, hin⟩ := HE.out.each _ (List.mem_of_getElem? ho)
      have hpart := HE.out.parts h3 _ (List.mem_of_getElem? ho)
      simp only at hsum hin hpart
      obtain ⟨_, g1, g2, g3⟩ := hpart
      have HN : Hid (Nice ⟨f, l, t⟩) := hn
      have HSum : Hid (sumI (ys.take (k + 1)) = sumI (ys.take k) + sizeI l t) := hsum
      have HMM : Hid (sumI (ys.take k) + sizeI l t ≤ 2000 ∧ 0 ≤ sumI (ys.take k)) := ⟨by omega, hs0⟩
      clear r0 r1 r2 ho hr hsum hle hE2 hs0 hn
      by_cases hl : 0 < l
      · have hf0 : 0 ≤ f := by rcases HN.out with ⟨_, h, _⟩ | ⟨h, _, _⟩ <;> simp only at h <;> omega
        have hfl := hin hl
        obtain ⟨b', off', hao, hbw', hr'⟩ : ∃ b off, ao = some ⟨b, off, none⟩ ∧ b < w.heap.size ∧ ReadsAt w b off xs := by
          rcases H1.out with ⟨h, _⟩ | ⟨b, off, cap, hv, hlt', hr⟩
          · rw [h] at hfl; simp only [sumI] at hfl; omega
          · injection hv with h1 h2 h3; exact ⟨b, off, h1, hlt', hr⟩
        subst hao
        have hR : Hid (∀ W, Below w.heap.size w W → ReadsAt W b' off' xs) := fun W hW i o ho => by
          obtain ⟨q0, q1, q2⟩ := hr' i o ho
          exact ⟨(hW.cell (p := ⟨b', _, none⟩) hbw').trans q0, (hW.cell (p := ⟨b', _, none⟩) hbw').trans q1, (hW.cell (p := ⟨b', _, none⟩) hbw').trans q2⟩
        have hd : decide (0 < l) = true := by simpa using hl
        clear hr' hin
        go_wp2_with fail
        refine (isCopy_any f l t _).mono ?_
        rintro e w4 ⟨rfl, hb4⟩
        rw [hd]
        have R1 : Below w.heap.size w w4 := (hb.alloc (by omega) _).trans (hb4.mono (by simp; omega))
        have hs4 : wr.heap.size < w4.heap.size := by have := hb4.size; simp at this; omega
        have k0 : w4.cell? ⟨wr.heap.size, 0, none⟩ = some (.int .i64 f) := (hb4.cell (p := ⟨wr.heap.size, 0, none⟩) (by simp)).trans (by simp)
        have k1 : w4.cell? ⟨wr.heap.size, 1, none⟩ = some (.int .i64 l) := (hb4.cell (p := ⟨wr.heap.size, 1, none⟩) (by simp)).trans (by simp)
        have k2 : w4.cell? ⟨wr.heap.size, 2, none⟩ = some (.string t) := (hb4.cell (p := ⟨wr.heap.size, 2, none⟩) (by simp)).trans (by simp)
        have HO4 : Hid (OwnOps w4 w.heap.size _ ((ys.take k).foldl (compStep xs) [])) := OwnOps.kept (HO.out.alloc _) hb4
        clear hb4 HO c0 c1' c2' hd
        go_wp2_with fail
        refine (joins_any _ ((ys.take k).foldl (compStep xs) []) b' off' c1 xs f l (sumI (ys.take k)) w.heap.size _ HO4.out R1.size (by omega) (hR.out _ R1) hbw' hf0 (by omega) (by omega) (by omega) (HD.out.parts (by omega)) HF.out (by have := HMM.out.1; rw [sizeI, if_pos hl] at this; omega) HMM.out.2).mono ?_
        rintro e w5 ⟨v5, rfl, ho5, hf5, hb5⟩
        have R2 : Below w.heap.size w w5 := R1.trans hb5
        have HO5 : Hid (OwnOps w5 w.heap.size v5 ((ys.take (k + 1)).foldl (compStep xs) [])) := by
          show OwnOps w5 w.heap.size v5 ((ys.take (k + 1)).foldl (compStep xs) [])
          rw [HS.out, compStep, if_pos hl]; exact ho5
        have HF5 : Hid (Fit (sumI (ys.take (k + 1))) ((ys.take (k + 1)).foldl (compStep xs) [])) := by
          show Fit (sumI (ys.take (k + 1))) ((ys.take (k + 1)).foldl (compStep xs) [])
          rw [HS.out, compStep, if_pos hl, HSum.out, sizeI, if_pos hl]; exact hf5
        clear ho5 hf5 hb5 HO4 R1 HS HF k0 k1 k2
        go_wp2
        go_roundw
        case rel => exact ⟨k + 1, by omega, by go_num, HO5, HF5, R2⟩
        case measure => simp [intOf]; omega
      · have hd : decide (0 < l) = false := by simpa using hl
        have hl0 : 0 ≤ l := by rcases HN.out with ⟨h, _, _⟩ | ⟨h, _, _⟩ <;> simp only at h <;> omega
        have HF5 : Hid (Fit (sumI (ys.take (k + 1))) ((ys.take (k + 1)).foldl (compStep xs) [])) := by
          show Fit (sumI (ys.take (k + 1))) ((ys.take (k + 1)).foldl (compStep xs) [])
          rw [HS.out, compStep, if_neg hl, HSum.out]
          exact HF.out.join HN.out (by simp only; omega)
        obtain ⟨m1, m2⟩ := HF.out.small (by have := HMM.out; have := sizeI_nonneg l t; omega)
        have HM1 : Hid (∀ p ∈ ((ys.take k).foldl (compStep xs) []), 0 ≤ p.fr ∧ p.fr ≤ 100000000 ∧ 0 ≤ p.len ∧ p.len ≤ 100000000 ∧ p.tx.size ≤ 100000000) := m2
        have HM0 : Hid (((ys.take k).foldl (compStep xs) []).length ≤ 100000) := m1
        clear hin m1 m2
        go_wp2_with fail
        refine (isCopy_any f l t _).mono ?_
        rintro e w4 ⟨rfl, hb4⟩
        rw [hd]
        have R1 : Below w.heap.size w w4 := (hb.alloc (by omega) _).trans (hb4.mono (by simp; omega))
        have hs4 : wr.heap.size < w4.heap.size := by have := hb4.size; simp at this; omega
        have k0 : w4.cell? ⟨wr.heap.size, 0, none⟩ = some (.int .i64 f) := (hb4.cell (p := ⟨wr.heap.size, 0, none⟩) (by simp)).trans (by simp)
        have k1 : w4.cell? ⟨wr.heap.size, 1, none⟩ = some (.int .i64 l) := (hb4.cell (p := ⟨wr.heap.size, 1, none⟩) (by simp)).trans (by simp)
        have k2 : w4.cell? ⟨wr.heap.size, 2, none⟩ = some (.string t) := (hb4.cell (p := ⟨wr.heap.size, 2, none⟩) (by simp)).trans (by simp)
        have HO4 : Hid (OwnOps w4 w.heap.size _ ((ys.take k).foldl (compStep xs) [])) := OwnOps.kept (HO.out.alloc _) hb4
        clear hb4 HO c0 c1' c2' hd
        go_wp2_with fail
        refine (join_any _ ((ys.take k).foldl (compStep xs) []) f l t w.heap.size _ HO4.out R1.size HM0.out (by omega) (by omega) (by omega) HM1.out).mono ?_
        rintro e w5 ⟨v5, rfl, ho5, hb5⟩
        have R2 : Below w.heap.size w w5 := R1.trans hb5
        have HO5 : Hid (OwnOps w5 w.heap.size v5 ((ys.take (k + 1)).foldl (compStep xs) [])) := by
          show OwnOps w5 w.heap.size v5 ((ys.take (k + 1)).foldl (compStep xs) [])
          rw [HS.out, compStep, if_neg (by simp only; omega)]; exact ho5
        clear ho5 hb5 HO4 R1 HS HF k0 k1 k2
        go_wp2
        go_roundw
        case rel => exact ⟨k + 1, by omega, by go_num, HO5, HF5, R2⟩
        case measure => simp [intOf]; omega
    · obtain rfl : k = ys.length := by omega
      have e : (ys.take ys.length).foldl (compStep xs) [] = compOps xs ys := by rw [List.take_length]; rfl
      rw [e] at HO HF
      clear e
      obtain ⟨oo, oc, hvo⟩ := HO.out.slice
      subst hvo
      have hml : (compOps xs ys).length ≤ 100000 := by have := HF.out.length; have := HE.out.sum; rw [List.take_length] at *; omega
      have hok : cmpOk xs ys ↔ ¬ 200 < (compOps xs ys).length := ⟨fun h => h.2.2, fun h => ⟨by rw [HQ1.out]; omega, by rw [HQ2.out]; omega, h⟩⟩
      by_cases h200 : 200 < (compOps xs ys).length
      · have HC : Hid (¬ cmpOk xs ys) := fun h => hok.1 h h200
        clear hok HF
        go_wp2
        go_ret3
        have e1 : cmpL xs ys = [] := if_neg HC.out
        have e2 : cmpE xs ys = 2 := if_neg HC.out
        have e3 : cmpP xs ys = (xs.length : Int) + ys.length := by
          rw [cmpP, if_neg HC.out, cmpF, if_neg (by rw [HQ1.out]; omega), if_neg (by rw [HQ2.out]; omega)]; omega
        rw [e1, e2, e3]
        exact ⟨⟨_, rfl, OwnOps.nil _ _⟩, hb⟩
      · have HC : Hid (cmpOk xs ys) := hok.2 h200
        clear hok HF
        go_wp2
        go_ret3
        have e1 : cmpL xs ys = compOps xs ys := if_pos HC.out
        have e2 : cmpE xs ys = 0 := if_pos HC.out
        have e3 : cmpP xs ys = 0 := if_pos HC.out
        rw [e1, e2, e3]
        exact ⟨⟨_, rfl, HO.out⟩, hb⟩

theorem comp_any {v1 v2 : Value} {xs ys : List DOp} {w : World} (h1 : View w v1 xs) (h2 : View w v2 ys) (i1 : Ints xs) (i2 : Ints ys) :
    Calls Tryz.prog 99 #[v1, v2] w fun e w' => (∃ v', e = .returned (.tuple #[v', .int .i64 (cmpE xs ys), .int .i64 (cmpP xs ys)]) ∧ OwnOps w' w.heap.size v' (cmpL xs ys)) ∧ Below w.heap.size w w' := by
  by_cases hf : faultF xs 2000 < xs.length
  · have HC : ¬ cmpOk xs ys := fun h => h.1 hf
    rw [show cmpL xs ys = [] from if_neg HC, show cmpE xs ys = 2 from if_neg HC, show cmpP xs ys = (faultF xs 2000 : Int) from by rw [cmpP, if_neg HC, cmpF, if_pos hf]]
    refine (comp_fault1 h1 h2 i1 i2 hf).mono ?_
    rintro e w' ⟨rfl, hb⟩
    exact ⟨⟨_, rfl, OwnOps.nil _ _⟩, hb⟩
  · by_cases hf2 : faultF ys (sumI xs) < ys.length
    · have HC : ¬ cmpOk xs ys := fun h => h.2.1 hf2
      rw [show cmpL xs ys = [] from if_neg HC, show cmpE xs ys = 2 from if_neg HC, show cmpP xs ys = ((xs.length + faultF ys (sumI xs) : Nat) : Int) from by rw [cmpP, if_neg HC, cmpF, if_neg hf, if_pos hf2]]
      refine (comp_fault2 h1 h2 i1 i2 hf hf2).mono ?_
      rintro e w' ⟨rfl, hb⟩
      exact ⟨⟨_, rfl, OwnOps.nil _ _⟩, hb⟩
    · exact comp_ok h1 h2 i1 i2 hf hf2

set_option maxHeartbeats 1000000 in
theorem ccomp_any {v1 v2 : Value} {xs ys : List DOp} {w : World} (h1 : View w v1 xs) (h2 : View w v2 ys) (i1 : Ints xs) (i2 : Ints ys) :
    Calls Tryz.prog 64 #[v1, v2] w fun e w' => (∃ v', e = .returned (.tuple #[v', .int .i64 (cmpE xs ys), .int .i64 (cmpP xs ys)]) ∧ OwnOps w' w.heap.size v' (cmpL xs ys)) ∧ Below w.heap.size w w' := by
  have HC : Hid (Calls Tryz.prog 99 #[v1, v2] w fun e w' => (∃ v', e = .returned (.tuple #[v', .int .i64 (cmpE xs ys), .int .i64 (cmpP xs ys)]) ∧ OwnOps w' w.heap.size v' (cmpL xs ys)) ∧ Below w.heap.size w w') := comp_any h1 h2 i1 i2
  clear h1 h2
  go_enter Tryz.func64, Tryz.ntmps64
  go_wp2_with fail
  refine HC.out.mono ?_
  rintro e w' ⟨⟨v', rfl, ho⟩, hb⟩
  have HO : Hid (OwnOps w' w.heap.size v' (cmpL xs ys)) := ho
  clear ho
  go_wp2
  go_ret3
  exact ⟨⟨_, rfl, HO.out⟩, hb⟩
end Go.Proofs.YtabpiaaknjcnkaaGreat
