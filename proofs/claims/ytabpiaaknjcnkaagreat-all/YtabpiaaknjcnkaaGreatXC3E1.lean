/- The texts C3, E1, one behind the other. -/
import Derived.Test.YtabpiaaknjcnkaaGreatXC1C2
import Derived.Test.YtabpiaaknjcnkaaGreatXPCPDPU
import Derived.LoopTactic
import Derived.Laws.BitsAllLaws
/-
  The walks over the program's Compose.
-/
namespace Go.Proofs.YtabpiaaknjcnkaaGreat
open Go.RowKit
set_option linter.unusedVariables false
set_option linter.unusedSimpArgs false
set_option maxRecDepth 100000

theorem View.slice {w : World} {v : Value} {xs : List DOp} (h : View w v xs) : ∃ ao cap, v = .slice ao xs.length cap := by
  rcases h with ⟨rfl, ao, cap, rfl⟩ | ⟨b, off, cap, rfl, _⟩
  · exact ⟨ao, cap, rfl⟩
  · exact ⟨_, _, rfl⟩
/-- The ops are such as an int holds. -/
def Ints (xs : List DOp) : Prop := xs.length ≤ 5000000000000 ∧ (∀ o ∈ xs, o.len ≤ 9223372036854775807) ∧ ∀ o ∈ xs, o.tx.size ≤ 9223372036854770000

theorem fault_view {v : Value} {xs : List DOp} {w : World} (hv : View w v xs) (hi : Ints xs) (bs : Int) (h0 : 0 ≤ bs) (h1 : bs ≤ 2000) :
    Calls Tryz.prog 118 #[v, .int .i64 bs] w fun e w' => e = .returned (.int .i64 (faultF xs bs)) ∧ Below w.heap.size w w' := by
  rcases hv with ⟨rfl, ao, cap, rfl⟩ | ⟨b, off, cap, rfl, hb, hr⟩
  · refine (firstFault_nil ao cap bs w).mono ?_
    rintro e w' ⟨rfl, rfl⟩
    exact ⟨rfl, Below.refl _ _⟩
  · exact firstFault_any b off cap xs bs w h0 h1 hi.1 hr hi.2.1 hb
theorem sizes_view {v : Value} {xs : List DOp} {w : World} (hv : View w v xs) (hi : Ints xs) (hs : sumI xs ≤ 1000000000) :
    Calls Tryz.prog 123 #[v] w fun e w' => e = .returned (.int .i64 (sumI xs)) ∧ Below w.heap.size w w' := by
  rcases hv with ⟨rfl, ao, cap, rfl⟩ | ⟨b, off, cap, rfl, hb, hr⟩
  · exact sizes_nil ao cap w
  · exact sizes_any b off cap xs w hi.1 hr hs hb

theorem fault_len {xs : List DOp} {b : Int} (h : faultF xs b = xs.length) : xs.length ≤ 200 := by
  have key : ∀ (xs : List DOp) (p : Option DOp) (i : Nat) (m : Int), i ≤ 200 → faultGo b xs p i m = i + xs.length → i + xs.length ≤ 200 := by
    intro xs
    induction xs with
    | nil => intro p i m hi _; simpa using hi
    | cons o r ih =>
      intro p i m hi h
      rw [faultGo] at h
      simp only [List.length_cons] at h ⊢
      by_cases h1 : i = 200
      · rw [if_pos h1] at h; omega
      · rw [if_neg h1] at h
        split at h
        · omega
        · split at h
          · omega
          · split at h
            · omega
            · have := ih _ (i + 1) _ (by omega) (by rw [h]; omega); omega
  have := key xs none 0 0 (by omega) (by unfold faultF at h; simpa using h)
  omega
/-- What a delta is. -/
structure Delta (xs : List DOp) (b : Int) : Prop where
  each : ∀ o ∈ xs, Nice o ∧ (0 < o.len → o.fr + o.len ≤ b)
  sum : sumI xs ≤ 2000
  len : xs.length ≤ 200
theorem delta_of {xs : List DOp} {b : Int} (h : faultF xs b = xs.length) : Delta xs b := by
  obtain ⟨h1, h2⟩ := fault_all (b := b) (xs := xs) (p := none) (i := 0) (m := 0) (by unfold faultF at h; simpa using h) (by omega)
  exact ⟨fun o ho => nice_of_isOp (h1 o ho), by omega, fault_len h⟩
theorem Delta.parts {xs : List DOp} {b : Int} (h : Delta xs b) (hb : b ≤ 2000) : ∀ o ∈ xs, Nice o ∧ o.fr ≤ 2000 ∧ o.len ≤ 2000 ∧ o.tx.size ≤ 2000 := by
  intro o ho
  obtain ⟨h1, h2⟩ := h.each o ho
  have h3 := sumI_mem ho
  have h4 := h.sum
  refine ⟨h1, ?_⟩
  unfold sizeI at h3
  rcases h1 with ⟨a, b', c⟩ | ⟨a, b', c⟩
  · have := h2 a; rw [if_pos a] at h3; omega
  · rw [if_neg (by omega)] at h3; omega

def cmpF (xs ys : List DOp) : Nat := if faultF xs 2000 < xs.length then faultF xs 2000 else if faultF ys (sumI xs) < ys.length then xs.length + faultF ys (sumI xs) else xs.length + ys.length
def cmpOk (xs ys : List DOp) : Prop := ¬ faultF xs 2000 < xs.length ∧ ¬ faultF ys (sumI xs) < ys.length ∧ ¬ 200 < (compOps xs ys).length
def cmpDec (xs ys : List DOp) : Decidable (cmpOk xs ys) := inferInstanceAs (Decidable (_ ∧ _ ∧ _))
def cmpL (xs ys : List DOp) : List DOp := @ite _ (cmpOk xs ys) (cmpDec xs ys) (compOps xs ys) []
def cmpE (xs ys : List DOp) : Int := @ite _ (cmpOk xs ys) (cmpDec xs ys) 0 2
def cmpP (xs ys : List DOp) : Int := @ite _ (cmpOk xs ys) (cmpDec xs ys) 0 (cmpF xs ys)

theorem ret_three {v : Value} {a b c d : Int} (h1 : a = c) (h2 : b = d) : Ending.returned (.tuple #[v, .int .i64 a, .int .i64 b]) = .returned (.tuple #[v, .int .i64 c, .int .i64 d]) := by rw [h1, h2]

set_option maxHeartbeats 1000000 in
theorem comp_fault1 {v1 v2 : Value} {xs ys : List DOp} {w : World} (h1 : View w v1 xs) (h2 : View w v2 ys) (i1 : Ints xs) (i2 : Ints ys) (hf : faultF xs 2000 < xs.length) :
    Calls Tryz.prog 99 #[v1, v2] w fun e w' => e = .returned (.tuple #[.slice none 0 0, .int .i64 2, .int .i64 (faultF xs 2000)]) ∧ Below w.heap.size w w' := by
  obtain ⟨ao, c1, hv1⟩ := h1.slice
  obtain ⟨bo, c2, hv2⟩ := h2.slice
  rw [hv1] at h1 ⊢
  rw [hv2] at h2 ⊢
  have HC : Hid (∀ bs : Int, 0 ≤ bs → bs ≤ 2000 → Calls Tryz.prog 118 #[.slice ao xs.length c1, .int .i64 bs] w fun e w' => e = .returned (.int .i64 (faultF xs bs)) ∧ Below w.heap.size w w') := fun bs p q => fault_view h1 i1 bs p q
  clear h1 h2 hv1 hv2
  go_enter Tryz.func99, Tryz.ntmps99
  go_wp2_with fail
  refine (HC.out 2000 (by omega) (by omega)).mono ?_
  rintro e w1 ⟨rfl, hb⟩
  generalize hff : faultF xs 2000 = q at *
  have HQ : Hid (faultF xs 2000 = q) := hff
  clear hff HC
  go_wp2
  go_ret3
  exact ⟨ret_three rfl (by rw [HQ.out]), hb⟩

set_option maxHeartbeats 1000000 in
theorem comp_fault2 {v1 v2 : Value} {xs ys : List DOp} {w : World} (h1 : View w v1 xs) (h2 : View w v2 ys) (i1 : Ints xs) (i2 : Ints ys) (hf : ¬ faultF xs 2000 < xs.length) (hf2 : faultF ys (sumI xs) < ys.length) :
    Calls Tryz.prog 99 #[v1, v2] w fun e w' => e = .returned (.tuple #[.slice none 0 0, .int .i64 2, .int .i64 (xs.length + faultF ys (sumI xs) : Nat)]) ∧ Below w.heap.size w w' := by
  obtain ⟨ao, c1, hv1⟩ := h1.slice
  obtain ⟨bo, c2, hv2⟩ := h2.slice
  have hD := delta_of (b := 2000) (xs := xs) (by have := faultF_le xs 2000; omega)
  rw [hv1] at h1 ⊢
  rw [hv2] at h2 ⊢
  have H1 : Hid (View w (.slice ao xs.length c1) xs) := h1
  have H2 : Hid (View w (.slice bo ys.length c2) ys) := h2
  clear h1 h2 hv1 hv2
  have hy := i2.1
  have hx := hD.len
  go_enter Tryz.func99, Tryz.ntmps99
  go_wp2_with fail
  refine (fault_view H1.out i1 2000 (by omega) (by omega)).mono ?_
  rintro e w1 ⟨rfl, hb⟩
  generalize hff : faultF xs 2000 = q at *
  clear hff
  go_wp2_with fail
  refine (sizes_view (H1.out.kept hb) i1 (by have := hD.sum; omega)).mono ?_
  rintro e w2 ⟨rfl, hb2⟩
  have hb2' : Below w.heap.size w w2 := hb.trans (hb2.mono hb.size)
  clear hb hb2
  have h0 := sumI_nonneg xs
  have h3 := hD.sum
  generalize hss : sumI xs = s at *
  go_wp2_with fail
  refine (fault_view (H2.out.kept hb2') i2 s h0 h3).mono ?_
  rintro e w3 ⟨rfl, hb3⟩
  have hb3' : Below w.heap.size w w3 := hb2'.trans (hb3.mono hb2'.size)
  clear hb3 hb2'
  generalize hfg : faultF ys s = r at *
  have HQ : Hid (faultF ys (sumI xs) = r) := by show _ = r; rw [hss, hfg]
  clear hfg hss
  go_wp2
  go_ret3
  exact ⟨ret_three rfl (by rw [HQ.out]; omega), hb3'⟩

set_option maxHeartbeats 4000000 in
theorem comp_ok {v1 v2 : Value} {xs ys : List DOp} {w : World} (h1 : View w v1 xs) (h2 : View w v2 ys) (i1 : Ints xs) (i2 : Ints ys) (hf : ¬ faultF xs 2000 < xs.length) (hf2 : ¬ faultF ys (sumI xs) < ys.length) :
    Calls Tryz.prog 99 #[v1, v2] w fun e w' => (∃ v', e = .returned (.tuple #[v', .int .i64 (cmpE xs ys), .int .i64 (cmpP xs ys)]) ∧ OwnOps w' w.heap.size v' (cmpL xs ys)) ∧ Below w.heap.size w w' := by
  obtain ⟨ao, c1, hv1⟩ := h1.slice
  obtain ⟨bo, c2, hv2⟩ := h2.slice
  have hD := delta_of (b := 2000) (xs := xs) (by have := faultF_le xs 2000; omega)
  have hE := delta_of (b := sumI xs) (xs := ys) (by have := faultF_le ys (sumI xs); omega)
  rw [hv1] at h1 ⊢
  rw [hv2] at h2 ⊢
  have H1 : Hid (View w (.slice ao xs.length c1) xs) := h1
  have H2 : Hid (View w (.slice bo ys.length c2) ys) := h2
  clear h1 h2 hv1 hv2
  have hy := hE.len
  have hx := hD.len
  have HD : Hid (Delta xs 2000) := hD
  have HE : Hid (Delta ys (sumI xs)) := hE
  have h0 := sumI_nonneg xs
  have h3 := hD.sum
  clear hE hD
  go_enter Tryz.func99, Tryz.ntmps99
  go_wp2_with fail
  refine (fault_view H1.out i1 2000 (by omega) (by omega)).mono ?_
  rintro e w1 ⟨rfl, hb⟩
  have HQ1 : Hid (faultF xs 2000 = xs.length) := by show _ = _; have := faultF_le xs 2000; omega
  rw [HQ1.out]
  clear hf
  go_wp2_with fail
  refine (sizes_view (H1.out.kept hb) i1 (by omega)).mono ?_
  rintro e w2 ⟨rfl, hb2⟩
  have hb2' : Below w.heap.size w w2 := hb.trans (hb2.mono hb.size)
  clear hb hb2
  go_wp2_with fail
  refine (fault_view (H2.out.kept hb2') i2 (sumI xs) h0 h3).mono ?_
  rintro e w3 ⟨rfl, hb3⟩
  have hb3' : Below w.heap.size w w3 := hb2'.trans (hb3.mono hb2'.size)
  have HQ2 : Hid (faultF ys (sumI xs) = ys.length) := by show _ = _; have := faultF_le ys (sumI xs); omega
  rw [HQ2.out]
  clear hb3 hb2' hf2
  go_wp2
  go_loopw [9, 33] (fun v' c wr => ∃ k : Nat, k ≤ ys.length ∧ c = .int .i64 k ∧ Hid (OwnOps wr w.heap.size v' ((ys.take k).foldl (compStep xs) [])) ∧ Hid (Fit (sumI (ys.take k)) ((ys.take k).foldl (compStep xs) [])) ∧ Below w.heap.size w wr) (fun _ c _ => ys.length + 1 - (intOf c).toNat)
  case atStart => exact ⟨0, by omega, rfl, OwnOps.nil _ _, ⟨by simp, by simp [sumI]⟩, hb3'⟩
  case round =>
    obtain ⟨k, hk, rfl, HO, HF, hb⟩ := hrel
    have hsz := hb.size
    by_cases hlt : k < ys.length
    · obtain ⟨⟨f, l, t⟩, ho⟩ : ∃ o, ys[k]? = some o := ⟨ys[k], by simp [hlt]⟩
      obtain ⟨b, off, hbo, hbw, hr⟩ : ∃ b off, bo = some ⟨b, off, none⟩ ∧ b < w.heap.size ∧ ReadsAt w b off ys := by
        rcases H2.out with ⟨h, _⟩ | ⟨b, off, cap, hv, hlt', hr⟩
        · rw [h] at hlt; simp at hlt
        · injection hv with h1 h2 h3; exact ⟨b, off, h1, hlt', hr⟩
      subst hbo
      obtain ⟨r0, r1, r2⟩ := hr k _ ho
      have c0 : wr.cell? ⟨b, off + k * 3, none⟩ = some (.int .i64 f) := (hb.cell (p := ⟨b, _, none⟩) hbw).trans r0
      have c1' : wr.cell? ⟨b, off + k * 3 + 1, none⟩ = some (.int .i64 l) := (hb.cell (p := ⟨b, _, none⟩) hbw).trans r1
      have c2' : wr.cell? ⟨b, off + k * 3 + 2, none⟩ = some (.string t) := (hb.cell (p := ⟨b, _, none⟩) hbw).trans r2
      have HS : Hid ((ys.take (k + 1)).foldl (compStep xs) [] = compStep xs ((ys.take k).foldl (compStep xs) []) ⟨f, l, t⟩) := by
        show _ = _
        rw [List.take_add_one, ho, List.foldl_append]; rfl
      have hsum := sumI_take_succ ho
      have hle := sumI_take_le ys (k + 1)
      have hE2 := HE.out.sum
      have hs0 := sumI_nonneg (ys.take k)
      obtain ⟨hn, hin⟩ := HE.out.each _ (List.mem_of_getElem? ho)
      have hpart := HE.out.parts h3 _ (List.mem_of_getElem? ho)
      simp only at hsum hin hpart
      obtain ⟨_, g1, g2, g3⟩ := hpart
      have HN : Hid (Nice ⟨f, l, t⟩) := hn
      have HSum : Hid (sumI (ys.take (k + 1)) = sumI (ys.take k) + sizeI l t) := hsum
      have HMM : Hid (sumI (ys.take k) + sizeI l t ≤ 2000 ∧ 0 ≤ sumI (ys.take k)) := ⟨by omega, hs0⟩
      clear r0 r1 r2 ho hr hsum hle hE2 hs0 hn
      by_cases hl : 0 < l
      · have hf0 : 0 ≤ f := by rcases HN.out with ⟨_, h, _⟩ | ⟨h, _, _⟩ <;> simp only at h <;> omega
        have hfl := hin hl
        obtain ⟨b', off', hao, hbw', hr'⟩ : ∃ b off, ao = some ⟨b, off, none⟩ ∧ b < w.heap.size ∧ ReadsAt w b off xs := by
          rcases H1.out with ⟨h, _⟩ | ⟨b, off, cap, hv, hlt', hr⟩
          · rw [h] at hfl; simp only [sumI] at hfl; omega
          · injection hv with h1 h2 h3; exact ⟨b, off, h1, hlt', hr⟩
        subst hao
        have hR : Hid (∀ W, Below w.heap.size w W → ReadsAt W b' off' xs) := fun W hW i o ho => by
          obtain ⟨q0, q1, q2⟩ := hr' i o ho
          exact ⟨(hW.cell (p := ⟨b', _, none⟩) hbw').trans q0, (hW.cell (p := ⟨b', _, none⟩) hbw').trans q1, (hW.cell (p := ⟨b', _, none⟩) hbw').trans q2⟩
        have hd : decide (0 < l) = true := by simpa using hl
        clear hr' hin
        go_wp2_with fail
        refine (isCopy_any f l t _).mono ?_
        rintro e w4 ⟨rfl, hb4⟩
        rw [hd]
        have R1 : Below w.heap.size w w4 := (hb.alloc (by omega) _).trans (hb4.mono (by simp; omega))
        have hs4 : wr.heap.size < w4.heap.size := by have := hb4.size; simp at this; omega
        have k0 : w4.cell? ⟨wr.heap.size, 0, none⟩ = some (.int .i64 f) := (hb4.cell (p := ⟨wr.heap.size, 0, none⟩) (by simp)).trans (by simp)
        have k1 : w4.cell? ⟨wr.heap.size, 1, none⟩ = some (.int .i64 l) := (hb4.cell (p := ⟨wr.heap.size, 1, none⟩) (by simp)).trans (by simp)
        have k2 : w4.cell? ⟨wr.heap.size, 2, none⟩ = some (.string t) := (hb4.cell (p := ⟨wr.heap.size, 2, none⟩) (by simp)).trans (by simp)
        have HO4 : Hid (OwnOps w4 w.heap.size _ ((ys.take k).foldl (compStep xs) [])) := OwnOps.kept (HO.out.alloc _) hb4
        clear hb4 HO c0 c1' c2' hd
        go_wp2_with fail
        refine (joins_any _ ((ys.take k).foldl (compStep xs) []) b' off' c1 xs f l (sumI (ys.take k)) w.heap.size _ HO4.out R1.size (by omega) (hR.out _ R1) hbw' hf0 (by omega) (by omega) (by omega) (HD.out.parts (by omega)) HF.out (by have := HMM.out.1; rw [sizeI, if_pos hl] at this; omega) HMM.out.2).mono ?_
        rintro e w5 ⟨v5, rfl, ho5, hf5, hb5⟩
        have R2 : Below w.heap.size w w5 := R1.trans hb5
        have HO5 : Hid (OwnOps w5 w.heap.size v5 ((ys.take (k + 1)).foldl (compStep xs) [])) := by
          show OwnOps w5 w.heap.size v5 ((ys.take (k + 1)).foldl (compStep xs) [])
          rw [HS.out, compStep, if_pos hl]; exact ho5
        have HF5 : Hid (Fit (sumI (ys.take (k + 1))) ((ys.take (k + 1)).foldl (compStep xs) [])) := by
          show Fit (sumI (ys.take (k + 1))) ((ys.take (k + 1)).foldl (compStep xs) [])
          rw [HS.out, compStep, if_pos hl, HSum.out, sizeI, if_pos hl]; exact hf5
        clear ho5 hf5 hb5 HO4 R1 HS HF k0 k1 k2
        go_wp2
        go_roundw
        case rel => exact ⟨k + 1, by omega, by go_num, HO5, HF5, R2⟩
        case measure => simp [intOf]; omega
      · have hd : decide (0 < l) = false := by simpa using hl
        have hl0 : 0 ≤ l := by rcases HN.out with ⟨h, _, _⟩ | ⟨h, _, _⟩ <;> simp only at h <;> omega
        have HF5 : Hid (Fit (sumI (ys.take (k + 1))) ((ys.take (k + 1)).foldl (compStep xs) [])) := by
          show Fit (sumI (ys.take (k + 1))) ((ys.take (k + 1)).foldl (compStep xs) [])
          rw [HS.out, compStep, if_neg hl, HSum.out]
          exact HF.out.join HN.out (by simp only; omega)
        obtain ⟨m1, m2⟩ := HF.out.small (by have := HMM.out; have := sizeI_nonneg l t; omega)
        have HM1 : Hid (∀ p ∈ ((ys.take k).foldl (compStep xs) []), 0 ≤ p.fr ∧ p.fr ≤ 100000000 ∧ 0 ≤ p.len ∧ p.len ≤ 100000000 ∧ p.tx.size ≤ 100000000) := m2
        have HM0 : Hid (((ys.take k).foldl (compStep xs) []).length ≤ 100000) := m1
        clear hin m1 m2
        go_wp2_with fail
        refine (isCopy_any f l t _).mono ?_
        rintro e w4 ⟨rfl, hb4⟩
        rw [hd]
        have R1 : Below w.heap.size w w4 := (hb.alloc (by omega) _).trans (hb4.mono (by simp; omega))
        have hs4 : wr.heap.size < w4.heap.size := by have := hb4.size; simp at this; omega
        have k0 : w4.cell? ⟨wr.heap.size, 0, none⟩ = some (.int .i64 f) := (hb4.cell (p := ⟨wr.heap.size, 0, none⟩) (by simp)).trans (by simp)
        have k1 : w4.cell? ⟨wr.heap.size, 1, none⟩ = some (.int .i64 l) := (hb4.cell (p := ⟨wr.heap.size, 1, none⟩) (by simp)).trans (by simp)
        have k2 : w4.cell? ⟨wr.heap.size, 2, none⟩ = some (.string t) := (hb4.cell (p := ⟨wr.heap.size, 2, none⟩) (by simp)).trans (by simp)
        have HO4 : Hid (OwnOps w4 w.heap.size _ ((ys.take k).foldl (compStep xs) [])) := OwnOps.kept (HO.out.alloc _) hb4
        clear hb4 HO c0 c1' c2' hd
        go_wp2_with fail
        refine (join_any _ ((ys.take k).foldl (compStep xs) []) f l t w.heap.size _ HO4.out R1.size HM0.out (by omega) (by omega) (by omega) HM1.out).mono ?_
        rintro e w5 ⟨v5, rfl, ho5, hb5⟩
        have R2 : Below w.heap.size w w5 := R1.trans hb5
        have HO5 : Hid (OwnOps w5 w.heap.size v5 ((ys.take (k + 1)).foldl (compStep xs) [])) := by
          show OwnOps w5 w.heap.size v5 ((ys.take (k + 1)).foldl (compStep xs) [])
          rw [HS.out, compStep, if_neg (by simp only; omega)]; exact ho5
        clear ho5 hb5 HO4 R1 HS HF k0 k1 k2
        go_wp2
        go_roundw
        case rel => exact ⟨k + 1, by omega, by go_num, HO5, HF5, R2⟩
        case measure => simp [intOf]; omega
    · obtain rfl : k = ys.length := by omega
      have e : (ys.take ys.length).foldl (compStep xs) [] = compOps xs ys := by rw [List.take_length]; rfl
      rw [e] at HO HF
      clear e
      obtain ⟨oo, oc, hvo⟩ := HO.out.slice
      subst hvo
      have hml : (compOps xs ys).length ≤ 100000 := by have := HF.out.length; have := HE.out.sum; rw [List.take_length] at *; omega
      have hok : cmpOk xs ys ↔ ¬ 200 < (compOps xs ys).length := ⟨fun h => h.2.2, fun h => ⟨by rw [HQ1.out]; omega, by rw [HQ2.out]; omega, h⟩⟩
      by_cases h200 : 200 < (compOps xs ys).length
      · have HC : Hid (¬ cmpOk xs ys) := fun h => hok.1 h h200
        clear hok HF
        go_wp2
        go_ret3
        have e1 : cmpL xs ys = [] := if_neg HC.out
        have e2 : cmpE xs ys = 2 := if_neg HC.out
        have e3 : cmpP xs ys = (xs.length : Int) + ys.length := by
          rw [cmpP, if_neg HC.out, cmpF, if_neg (by rw [HQ1.out]; omega), if_neg (by rw [HQ2.out]; omega)]; omega
        rw [e1, e2, e3]
        exact ⟨⟨_, rfl, OwnOps.nil _ _⟩, hb⟩
      · have HC : Hid (cmpOk xs ys) := hok.2 h200
        clear hok HF
        go_wp2
        go_ret3
        have e1 : cmpL xs ys = compOps xs ys := if_pos HC.out
        have e2 : cmpE xs ys = 0 := if_pos HC.out
        have e3 : cmpP xs ys = 0 := if_pos HC.out
        rw [e1, e2, e3]
        exact ⟨⟨_, rfl, HO.out⟩, hb⟩

theorem comp_any {v1 v2 : Value} {xs ys : List DOp} {w : World} (h1 : View w v1 xs) (h2 : View w v2 ys) (i1 : Ints xs) (i2 : Ints ys) :
    Calls Tryz.prog 99 #[v1, v2] w fun e w' => (∃ v', e = .returned (.tuple #[v', .int .i64 (cmpE xs ys), .int .i64 (cmpP xs ys)]) ∧ OwnOps w' w.heap.size v' (cmpL xs ys)) ∧ Below w.heap.size w w' := by
  by_cases hf : faultF xs 2000 < xs.length
  · have HC : ¬ cmpOk xs ys := fun h => h.1 hf
    rw [show cmpL xs ys = [] from if_neg HC, show cmpE xs ys = 2 from if_neg HC, show cmpP xs ys = (faultF xs 2000 : Int) from by rw [cmpP, if_neg HC, cmpF, if_pos hf]]
    refine (comp_fault1 h1 h2 i1 i2 hf).mono ?_
    rintro e w' ⟨rfl, hb⟩
    exact ⟨⟨_, rfl, OwnOps.nil _ _⟩, hb⟩
  · by_cases hf2 : faultF ys (sumI xs) < ys.length
    · have HC : ¬ cmpOk xs ys := fun h => h.2.1 hf2
      rw [show cmpL xs ys = [] from if_neg HC, show cmpE xs ys = 2 from if_neg HC, show cmpP xs ys = ((xs.length + faultF ys (sumI xs) : Nat) : Int) from by rw [cmpP, if_neg HC, cmpF, if_neg hf, if_pos hf2]]
      refine (comp_fault2 h1 h2 i1 i2 hf hf2).mono ?_
      rintro e w' ⟨rfl, hb⟩
      exact ⟨⟨_, rfl, OwnOps.nil _ _⟩, hb⟩
    · exact comp_ok h1 h2 i1 i2 hf hf2

set_option maxHeartbeats 1000000 in
theorem ccomp_any {v1 v2 : Value} {xs ys : List DOp} {w : World} (h1 : View w v1 xs) (h2 : View w v2 ys) (i1 : Ints xs) (i2 : Ints ys) :
    Calls Tryz.prog 64 #[v1, v2] w fun e w' => (∃ v', e = .returned (.tuple #[v', .int .i64 (cmpE xs ys), .int .i64 (cmpP xs ys)]) ∧ OwnOps w' w.heap.size v' (cmpL xs ys)) ∧ Below w.heap.size w w' := by
  have HC : Hid (Calls Tryz.prog 99 #[v1, v2] w fun e w' => (∃ v', e = .returned (.tuple #[v', .int .i64 (cmpE xs ys), .int .i64 (cmpP xs ys)]) ∧ OwnOps w' w.heap.size v' (cmpL xs ys)) ∧ Below w.heap.size w w') := comp_any h1 h2 i1 i2
  clear h1 h2
  go_enter Tryz.func64, Tryz.ntmps64
  go_wp2_with fail
  refine HC.out.mono ?_
  rintro e w' ⟨⟨v', rfl, ho⟩, hb⟩
  have HO : Hid (OwnOps w' w.heap.size v' (cmpL xs ys)) := ho
  clear ho
  go_wp2
  go_ret3
  exact ⟨⟨_, rfl, HO.out⟩, hb⟩
end Go.Proofs.YtabpiaaknjcnkaaGreat

/-
  The walks over AddNumber and addOp.
-/
namespace Go.Proofs.YtabpiaaknjcnkaaGreat
open Go.RowKit
set_option linter.unusedVariables false
set_option linter.unusedSimpArgs false
set_option maxRecDepth 100000

def byteV (c : UInt8) : Value := .int .u8 c.toNat
/-- A row of bytes of the call's own. -/
def OwnBytes (w : World) (base : Nat) (v : Value) (bs : List UInt8) : Prop := w.ownsRow base 5 1 v bs.length (bs.map byteV)
theorem OwnBytes.kept {w w1 : World} {base : Nat} {v : Value} {bs : List UInt8} (h : OwnBytes w base v bs) (hb : Below w.heap.size w w1) : OwnBytes w1 base v bs := row_kept h hb
theorem OwnBytes.slice {w : World} {b : Nat} {v : Value} {bs : List UInt8} (h : OwnBytes w b v bs) : ∃ ao cap, v = .slice ao bs.length cap := by
  rcases h.2 with ⟨h, h0⟩ | ⟨g', cap', cur, h, _⟩
  · exact ⟨none, 0, by rw [h, h0]⟩
  · exact ⟨_, _, h⟩
theorem byte_cells (w : World) (z : Int) (c : UInt8) (h : z = c.toNat) : ∀ j u, [byteV c][j]? = some u → (w.alloc (.cells #[.int .u8 z] 5)).cell? ((⟨w.heap.size, 0, none⟩ : Addr).add j) = some u := by
  intro j u hu
  match j, hu with
  | 0, hu => simp [byteV] at hu; subst hu; simp [Addr.add, h]
  | j + 1, hu => simp at hu
theorem byte_one (c : UInt8) : ∀ u ∈ [byteV c], u.oneCell' = true := by
  intro u hu; simp at hu; subst hu; rfl

theorem or128 : ∀ a : Fin 256, (a.val ||| 128) = a.val % 128 + 128 := by decide
theorem u8_more (m : Nat) : bits BinOp.or IntKind.u8 ((m : Int) % 256) 128 = ((UInt8.ofNat (m % 128 + 128)).toNat : Int) := by
  have h1 := u8_or_nat (m % 256) 128 (by omega) (by omega)
  have h2 := or128 ⟨m % 256, by omega⟩
  simp only at h2
  rw [h2] at h1
  rw [byte_toNat (by omega)]
  have h3 : ((m % 256 : Nat) : Int) = (m : Int) % 256 := by omega
  rw [h3] at h1
  rw [show ((128 : Nat) : Int) = 128 from rfl] at h1
  rw [h1]; congr 2; omega
theorem own_byte {w w' : World} {base : Nat} {v' : Value} {bs : List UInt8} {c : UInt8} (h : w'.ownsRow base 5 1 v' (bs.length + 1) (bs.map byteV ++ [byteV c])) : OwnBytes w' base v' (bs ++ [c]) := by
  unfold OwnBytes; rw [List.map_append, List.length_append]; exact h

/-- Blocks that hold no bytes stay. -/
def Spares (w w' : World) : Prop := ∀ (q : Nat) (cs : Array Value) (T : TypeId) (fr : Nat × Nat), w.heap[q]? = some (.cells cs T fr) → T ≠ 5 → w'.heap[q]? = some (.cells cs T fr)
theorem Spares.refl (w : World) : Spares w w := fun _ _ _ _ h _ => h
theorem Spares.trans {a b c : World} (h1 : Spares a b) (h2 : Spares b c) : Spares a c := fun q cs T fr h hT => h2 q cs T fr (h1 q cs T fr h hT) hT
theorem lt_of_block {w : World} {q : Nat} {o : Obj} (h : w.heap[q]? = some o) : q < w.heap.size := by
  rcases Nat.lt_or_ge q w.heap.size with h' | h'
  · exact h'
  · simp [Array.getElem?_eq_none h'] at h
theorem Spares.of_below {w w' : World} (h : Below w.heap.size w w') : Spares w w' := fun q cs T fr hq _ => (h.block q (lt_of_block hq)).trans hq
theorem Spares.grown {w w' : World} {base : Nat} {v : Value} {bs : List UInt8} (h : OwnBytes w base v bs) (hg : w.grownBy w' v.ownBlock) : Spares w w' := by
  intro q cs T fr hq hT
  refine (hg.block q (lt_of_block hq) (fun e => ?_)).trans hq
  rcases h.2 with ⟨hv, _⟩ | ⟨g, cap, cur, hv, _, hb, _⟩
  · rw [hv] at e; cases e
  · rw [hv] at e; cases e
    rw [hb] at hq
    cases hq
    exact hT rfl

set_option maxHeartbeats 2000000 in
theorem addnum_any (v : Value) (bs : List UInt8) (n base : Nat) (w : World) (hown : OwnBytes w base v bs) (hbase : base ≤ w.heap.size) (hl : bs.length ≤ 100000) (hn : n < 34359738368) :
    Calls Tryz.prog 132 #[v, .int .i64 n] w fun e w' => ∃ v', e = .returned v' ∧ OwnBytes w' base v' (bs ++ uN n) ∧ Below base w w' ∧ Spares w w' := by
  obtain ⟨i0, hi, hz0, hz1, hz2⟩ := info_parts Tryz.infoByte
  go_enter Tryz.func132, Tryz.ntmps132
  go_wp2
  go_loopw [0, 1] (fun v' c wr => ∃ (m : Nat) (pre : List UInt8), c = .int .i64 m ∧ m ≤ n ∧ Hid (uN n = pre ++ uN m) ∧ Hid (OwnBytes wr base v' (bs ++ pre)) ∧ Below base w wr ∧ Hid (Spares w wr)) (fun _ c _ => (intOf c).toNat)
  case atStart => exact ⟨n, [], rfl, by omega, rfl, by simpa [Hid] using hown, Below.refl _ _, Spares.refl _⟩
  case round =>
    obtain ⟨m, pre, rfl, hm, HU, HO, hb, HS⟩ := hrel
    have hsz := hb.size
    have hlen : (bs ++ pre).length ≤ 3000000 := by
      have h1 := uN_length5 hn
      rw [HU.out] at h1
      simp at h1 ⊢; omega
    generalize hL : bs ++ pre = L at *
    have HL : Hid (bs ++ pre = L) := hL
    clear hL
    by_cases hge : 128 ≤ m
    · obtain ⟨c, hc⟩ : ∃ c, c = UInt8.ofNat (m % 128 + 128) := ⟨_, rfl⟩
      have HC : Hid (c = UInt8.ofNat (m % 128 + 128)) := hc
      clear hc
      go_wp2_with (first | (at_builtin; refine wpList_append_own _ rfl _ _ 48 rfl base 5 i0 (.int .u8 0) 1 1 Tryz.underlying48 hi hz0 hz1 hz2 rfl (by decide) _ _ _ rfl (HO.out.alloc _) ⟨wr.heap.size, 0, none⟩ 1 1 [byteV c] rfl rfl ?c2 (byte_one _) ?c3 ?c4 ?c5 ?_))
      case c2 => exact byte_cells wr _ _ (by rw [HC.out]; exact u8_more m)
      case c3 => unfold maxLen; omega
      case c4 => omega
      case c5 => simp; omega
      intro v' w2 ho2 hgrow _
      have HO2 : Hid (OwnBytes w2 base v' (bs ++ (pre ++ [UInt8.ofNat (m % 128 + 128)]))) := by
        show OwnBytes w2 base v' (bs ++ (pre ++ [UInt8.ofNat (m % 128 + 128)]))
        rw [← List.append_assoc, HL.out, ← HC.out]; exact own_byte (w := w) ho2
      have R2 : Below base w w2 := ((hb.alloc (by omega) _).grown hgrow (by simp; omega) (fun k hk => row_own_ge HO.out hk))
      have HU2 : Hid (uN n = (pre ++ [UInt8.ofNat (m % 128 + 128)]) ++ uN (m / 128)) := by
        show uN n = _
        rw [HU.out, uN_ge (by omega)]; simp
      have HS2 : Hid (Spares w w2) := (HS.out.trans (Spares.of_below ((Below.refl _ _).alloc (Nat.le_refl _) _))).trans (Spares.grown (HO.out.alloc _) hgrow)
      clear ho2 hgrow
      go_wp2
      go_roundw
      case rel => exact ⟨m / 128, pre ++ [UInt8.ofNat (m % 128 + 128)], by go_num, by omega, HU2, HO2, R2, HS2⟩
      case measure => simp [intOf]; omega
    · obtain ⟨c, hc⟩ : ∃ c, c = UInt8.ofNat m := ⟨_, rfl⟩
      have HC : Hid (c = UInt8.ofNat m) := hc
      clear hc
      go_wp2_with (first | (at_builtin; refine wpList_append_own _ rfl _ _ 48 rfl base 5 i0 (.int .u8 0) 1 1 Tryz.underlying48 hi hz0 hz1 hz2 rfl (by decide) _ _ _ rfl (HO.out.alloc _) ⟨wr.heap.size, 0, none⟩ 1 1 [byteV c] rfl rfl ?c2 (byte_one _) ?c3 ?c4 ?c5 ?_))
      case c2 => exact byte_cells wr _ _ (by rw [HC.out, byte_toNat (by omega)])
      case c3 => unfold maxLen; omega
      case c4 => omega
      case c5 => simp; omega
      intro v' w2 ho2 hgrow _
      have HO2 : Hid (OwnBytes w2 base v' (bs ++ uN n)) := by
        show OwnBytes w2 base v' (bs ++ uN n)
        rw [HU.out, uN_lt (by omega), ← List.append_assoc, HL.out, ← HC.out]; exact own_byte (w := w) ho2
      have R2 : Below base w w2 := ((hb.alloc (by omega) _).grown hgrow (by simp; omega) (fun k hk => row_own_ge HO.out hk))
      have HS2 : Hid (Spares w w2) := (HS.out.trans (Spares.of_below ((Below.refl _ _).alloc (Nat.le_refl _) _))).trans (Spares.grown (HO.out.alloc _) hgrow)
      clear ho2 hgrow
      go_wp2
      go_ret
      exact ⟨v', rfl, HO2.out, R2, HS2.out⟩

theorem addnum_int (v : Value) (bs : List UInt8) (z : Int) (base : Nat) (w : World) (hown : OwnBytes w base v bs) (hbase : base ≤ w.heap.size) (hl : bs.length ≤ 100000) (h0 : 0 ≤ z) (hn : z < 34359738368) :
    Calls Tryz.prog 132 #[v, .int .i64 z] w fun e w' => ∃ v', e = .returned v' ∧ OwnBytes w' base v' (bs ++ uN z.toNat) ∧ Below base w w' ∧ Spares w w' := by
  obtain ⟨n, rfl⟩ : ∃ n : Nat, z = n := ⟨z.toNat, by omega⟩
  exact addnum_any v bs n base w hown hbase hl (by omega)

set_option maxHeartbeats 2000000 in
theorem addop_any (v : Value) (bs : List UInt8) (f l : Int) (t : ByteArray) (base : Nat) (w : World) (hown : OwnBytes w base v bs) (hbase : base ≤ w.heap.size) (hl : bs.length ≤ 90000) (hn : Nice ⟨f, l, t⟩) (hf : f ≤ 2000) (hl2 : l ≤ 2000) (ht : t.size ≤ 2000) :
    Calls Tryz.prog 144 #[v, .agg #[.int .i64 f, .int .i64 l, .string t]] w fun e w' => ∃ v', e = .returned v' ∧ OwnBytes w' base v' (bs ++ encOp ⟨f, l, t⟩) ∧ Below base w w' ∧ Spares w w' := by
  obtain ⟨i0, hi, hz0, hz1, hz2⟩ := info_parts Tryz.infoByte
  have h0 : 0 ≤ f ∧ 0 ≤ l := by rcases hn with ⟨a, b, _⟩ | ⟨a, b, _⟩ <;> simp only at a b <;> omega
  obtain ⟨hf0, hl0⟩ := h0
  have HO : Hid (OwnBytes w base v bs) := hown
  clear hn hown
  by_cases h : 0 < l
  · have HE : Hid (encOp ⟨f, l, t⟩ = uN (2 * l + 1).toNat ++ uN f.toNat) := by show _ = _; rw [encOp, if_pos h]
    have hd : decide (0 < l) = true := by simpa using h
    go_enter Tryz.func144, Tryz.ntmps144
    go_wp2_with fail
    refine (isCopy_any f l t _).mono ?_
    rintro e w4 ⟨rfl, hb4⟩
    rw [hd]
    have R1 : Below base w w4 := ((Below.refl base w).alloc hbase _).trans (hb4.mono (by simp; omega))
    have ob4 : w4.heap[w.heap.size]? = some (.cells #[.int .i64 f, .int .i64 l, .string t] 63 (0, 0)) := (hb4.block _ (by simp)).trans (heap_alloc_new _ _)
    have k0 : w4.cell? ⟨w.heap.size, 0, none⟩ = some (.int .i64 f) := by rw [Lib.cell_of_heap ob4]; rfl
    have k1 : w4.cell? ⟨w.heap.size, 1, none⟩ = some (.int .i64 l) := by rw [Lib.cell_of_heap ob4]; rfl
    have HP4 : Hid (Spares w w4) := (Spares.of_below ((Below.refl _ _).alloc (Nat.le_refl _) _)).trans (Spares.of_below hb4)
    have hs4 : w.heap.size < w4.heap.size := by have := hb4.size; simp at this; omega
    have HO4 : Hid (OwnBytes w4 base v bs) := OwnBytes.kept (HO.out.alloc _) hb4
    clear hb4 HO hd
    go_wp2_with fail
    refine (addnum_int v bs (2 * l + 1) base _ HO4.out (by omega) (by omega) (by omega) (by omega)).mono ?_
    rintro e w5 ⟨v5, rfl, ho5, hb5, hp5⟩
    have ob : w5.heap[w.heap.size]? = some (.cells #[.int .i64 f, .int .i64 l, .string t] 63 (0, 0)) := hp5 _ _ _ _ ob4 (by decide)
    have j0 : w5.cell? ⟨w.heap.size, 0, none⟩ = some (.int .i64 f) := by rw [Lib.cell_of_heap ob]; rfl
    have HO5 : Hid (OwnBytes w5 base v5 (bs ++ uN (2 * l + 1).toNat)) := ho5
    have R2 : Below base w w5 := R1.trans hb5
    have HP : Hid (Spares w w5) := HP4.out.trans hp5
    have hul : (bs ++ uN (2 * l + 1).toNat).length ≤ 100000 := by have := uN_length (n := (2 * l + 1).toNat) (by omega); simp; omega
    have hs5 := R2.size
    clear ob ob4 ho5 hb5 hp5 HO4 HP4 R1 k0 k1
    go_wp2_with fail
    refine (addnum_int v5 _ f base _ HO5.out (by omega) hul (by omega) (by omega)).mono ?_
    rintro e w6 ⟨v6, rfl, ho6, hb6, hp6⟩
    have HO6 : Hid (OwnBytes w6 base v6 (bs ++ encOp ⟨f, l, t⟩)) := by
      show OwnBytes w6 base v6 (bs ++ encOp ⟨f, l, t⟩)
      rw [HE.out, ← List.append_assoc]; exact ho6
    have R3 : Below base w w6 := R2.trans hb6
    have HP6 : Hid (Spares w w6) := HP.out.trans hp6
    clear ho6 hb6 hp6 HO5
    go_wp2
    go_ret
    exact ⟨v6, rfl, HO6.out, R3, HP6.out⟩
  · have HE : Hid (encOp ⟨f, l, t⟩ = uN (2 * t.size) ++ t.data.toList) := by show _ = _; rw [encOp, if_neg h]
    have hd : decide (0 < l) = false := by simpa using h
    go_enter Tryz.func144, Tryz.ntmps144
    go_wp2_with fail
    refine (isCopy_any f l t _).mono ?_
    rintro e w4 ⟨rfl, hb4⟩
    rw [hd]
    have R1 : Below base w w4 := ((Below.refl base w).alloc hbase _).trans (hb4.mono (by simp; omega))
    have ob4 : w4.heap[w.heap.size]? = some (.cells #[.int .i64 f, .int .i64 l, .string t] 63 (0, 0)) := (hb4.block _ (by simp)).trans (heap_alloc_new _ _)
    have k2 : w4.cell? ⟨w.heap.size, 2, none⟩ = some (.string t) := by rw [Lib.cell_of_heap ob4]; rfl
    have hs4 : w.heap.size < w4.heap.size := by have := hb4.size; simp at this; omega
    have HO4 : Hid (OwnBytes w4 base v bs) := OwnBytes.kept (HO.out.alloc _) hb4
    have HP4 : Hid (Spares w w4) := (Spares.of_below ((Below.refl _ _).alloc (Nat.le_refl _) _)).trans (Spares.of_below hb4)
    clear hb4 HO hd
    go_wp2_with fail
    refine (addnum_any v bs (2 * t.size) base _ HO4.out (by omega) (by omega) (by omega)).mono ?_
    rintro e w5 ⟨v5, rfl, ho5, hb5, hp5⟩
    have ob : w5.heap[w.heap.size]? = some (.cells #[.int .i64 f, .int .i64 l, .string t] 63 (0, 0)) := hp5 _ _ _ _ ob4 (by decide)
    have j2 : w5.cell? ⟨w.heap.size, 2, none⟩ = some (.string t) := by rw [Lib.cell_of_heap ob]; rfl
    have R2 : Below base w w5 := R1.trans hb5
    have HP : Hid (Spares w w5) := HP4.out.trans hp5
    have hul : (bs ++ uN (2 * t.size)).length ≤ 100000 := by have := uN_length (n := 2 * t.size) (by omega); simp; omega
    generalize hL : bs ++ uN (2 * t.size) = L at *
    have HL : Hid (bs ++ uN (2 * t.size) = L) := hL
    have HO5 : Hid (OwnBytes w5 base v5 L) := ho5
    have hs5 := R2.size
    clear ob ob4 ho5 hb5 hp5 HO4 HP4 R1 k2 hL
    go_wp2_with (first | (at_builtin; refine Lib.wpList_append_own_string _ rfl _ _ 48 9 rfl base 5 i0 Tryz.underlying48 Tryz.underlying9 hi hz0 hz1 hz2 _ _ _ rfl HO5.out t rfl ?c3 ?c4 ?c5 ?_))
    case c3 => unfold maxLen; omega
    case c4 => omega
    case c5 => omega
    intro v6 w6 ho6 hg6 _
    have HO6 : Hid (OwnBytes w6 base v6 (bs ++ encOp ⟨f, l, t⟩)) := by
      show OwnBytes w6 base v6 (bs ++ encOp ⟨f, l, t⟩)
      rw [HE.out, ← List.append_assoc, HL.out]
      unfold OwnBytes
      rw [List.map_append, List.length_append, ← Lib.size_eq]
      exact ho6
    have R3 : Below base w w6 := R2.grown hg6 (by omega) (fun k hk => row_own_ge HO5.out hk)
    have HP6 : Hid (Spares w w6) := HP.out.trans (Spares.grown HO5.out hg6)
    clear ho6 hg6 HO5
    go_wp2
    go_ret
    exact ⟨v6, rfl, HO6.out, R3, HP6.out⟩
end Go.Proofs.YtabpiaaknjcnkaaGreat
