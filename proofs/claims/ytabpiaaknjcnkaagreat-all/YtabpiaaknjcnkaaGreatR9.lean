/-
  The walk over the document's Compose.
-/
import Derived.Test.YtabpiaaknjcnkaaGreatXLCPER5
import Derived.Test.YtabpiaaknjcnkaaGreatXE2W9R6
namespace Go.Proofs.YtabpiaaknjcnkaaGreat
open Go.RowKit
set_option linter.unusedVariables false
set_option linter.unusedSimpArgs false
set_option maxRecDepth 100000

set_option maxHeartbeats 1000000 in
theorem rcomp_fault1 {v1 v2 : Value} {xs ys : List DOp} {w : World} (h1 : View w v1 xs) (i1 : Ints xs) (hf : faultF xs 2000 < xs.length) :
    Calls Tryz.prog 65 #[v1, v2] w fun e w' => e = .returned (.tuple #[.slice none 0 0, .int .i64 2, .int .i64 (faultF xs 2000)]) ∧ Below w.heap.size w w' := by
  have HV : Hid (View w v1 xs) := h1
  clear h1
  go_enter Tryz.func65, Tryz.ntmps65
  go_wp2_with fail
  refine (wrong_view HV.out i1 2000 (by omega) (by omega)).mono ?_
  rintro e w1 ⟨rfl, hb⟩
  rw [wrongI_bad hf]
  generalize hff : faultF xs 2000 = q at *
  have HQ : Hid (faultF xs 2000 = q) := hff
  clear hff HV
  go_wp2
  go_ret3
  exact ⟨ret_three rfl (by rw [HQ.out]), hb⟩

set_option maxHeartbeats 1000000 in
theorem rcomp_fault2 {v1 v2 : Value} {xs ys : List DOp} {w : World} (h1 : View w v1 xs) (h2 : View w v2 ys) (i1 : Ints xs) (i2 : Ints ys) (hf : ¬ faultF xs 2000 < xs.length) (hf2 : faultF ys (sumI xs) < ys.length) :
    Calls Tryz.prog 65 #[v1, v2] w fun e w' => e = .returned (.tuple #[.slice none 0 0, .int .i64 2, .int .i64 (xs.length + faultF ys (sumI xs) : Nat)]) ∧ Below w.heap.size w w' := by
  have hD := delta_of (b := 2000) (xs := xs) (by have := faultF_le xs 2000; omega)
  obtain ⟨ao, c1, hv1⟩ := h1.slice
  rw [hv1] at h1 ⊢
  have H1 : Hid (View w (.slice ao xs.length c1) xs) := h1
  have H2 : Hid (View w v2 ys) := h2
  have HD : Hid (Delta xs 2000) := hD
  have HCL : Hid (((cellsL xs).length : Int) = sumI xs) := cellsL_length (fun o ho => (hD.each o ho).1)
  have hx := hD.len
  have h0 := sumI_nonneg xs
  have h3 := hD.sum
  have hy := i2.1
  clear h1 h2 hD hv1
  go_enter Tryz.func65, Tryz.ntmps65
  go_wp2_with fail
  refine (wrong_view H1.out i1 2000 (by omega) (by omega)).mono ?_
  rintro e w1 ⟨rfl, hb⟩
  rw [wrongI_ok hf]
  clear hf
  go_wp2_with fail
  refine (rcells_view (H1.out.kept hb) HD.out (by omega)).mono ?_
  rintro e w2 ⟨⟨va, rfl, oa⟩, hb2⟩
  obtain ⟨ca, cc, hva⟩ := oa.slice
  subst hva
  have B2 : Below w.heap.size w w2 := hb.trans (hb2.mono hb.size)
  clear hb hb2 oa
  go_wp2_with fail
  have HW := wrong_view (H2.out.kept B2) i2 (sumI xs) h0 h3
  rw [← HCL.out] at HW
  refine HW.mono ?_
  rintro e w3 ⟨rfl, hb3⟩
  rw [HCL.out, wrongI_bad hf2]
  have B3 : Below w.heap.size w w3 := B2.trans (hb3.mono B2.size)
  clear hb3 B2
  generalize hff : faultF ys (sumI xs) = r at *
  have HQ : Hid (faultF ys (sumI xs) = r) := hff
  clear hff
  go_wp2
  go_ret3
  exact ⟨ret_three rfl (by rw [HQ.out]; omega), B3⟩

/-- The op of a byte. -/
def opOf (x : Cl) : DOp := if x.1 < 0 then ⟨0, 0, ⟨#[x.2]⟩⟩ else ⟨x.1, 1, ⟨#[]⟩⟩
theorem opOf_cells {x : Cl} (h : x.1 < 0 → x.1 = -1) (h0 : 0 ≤ x.1 → x.2 = 0) : cellsOp (opOf x) = [x] ∧ Nice (opOf x) := by
  obtain ⟨a, c⟩ := x
  simp only at h h0
  by_cases ha : a < 0
  · have := h ha; subst this
    simp [opOf, cellsOp, Nice, ByteArray.size]
  · have hc := h0 (by omega); subst hc
    have e : opOf (a, 0) = ⟨a, 1, ⟨#[]⟩⟩ := by simp [opOf, ha]
    rw [e]
    refine ⟨by simp [cellsOp], .inl ⟨by simp, by simp only; omega, rfl⟩⟩
/-- What is made of so many bytes. -/
def refTo (xs ys : List DOp) (k : Nat) : List DOp := (((cellsL ys).take k).map (subC (cellsL xs))).foldl cellStep []
theorem zero_of {xs : List DOp} (h : ∀ o ∈ xs, Nice o) : ∀ c ∈ cellsL xs, (c.1 < 0 → c.1 = -1) ∧ (0 ≤ c.1 → c.2 = 0) := by
  intro c hc
  obtain ⟨o, ho, hc'⟩ := List.mem_flatMap.1 hc
  have hn := h o ho
  unfold cellsOp at hc'
  rcases List.mem_append.1 hc' with hc' | hc'
  · obtain ⟨k, hk, rfl⟩ := List.mem_map.1 hc'
    have hf : 0 ≤ o.fr := by rcases hn with ⟨_, h, _⟩ | ⟨_, h, _⟩ <;> omega
    exact ⟨fun h => by simp only at h; omega, fun _ => rfl⟩
  · obtain ⟨k, _, rfl⟩ := List.mem_map.1 hc'
    exact ⟨fun _ => rfl, fun h => by simp at h⟩
theorem sub_zero {xs ys : List DOp} (hx : ∀ o ∈ xs, Nice o) (hy : ∀ o ∈ ys, Nice o) (hr : ∀ c ∈ cellsL ys, c.1 < (cellsL xs).length ∨ c.1 = -1) : ∀ c ∈ cellsL ys, ((subC (cellsL xs) c).1 < 0 → (subC (cellsL xs) c).1 = -1) ∧ (0 ≤ (subC (cellsL xs) c).1 → (subC (cellsL xs) c).2 = 0) := by
  intro c hc
  by_cases h : 0 ≤ c.1
  · have hlt : c.1.toNat < (cellsL xs).length := by rcases hr c hc with h' | h' <;> omega
    rw [subC_at h hlt]
    exact zero_of hx _ (List.getElem_mem _)
  · rw [subC_tx h]
    exact zero_of hy c hc
theorem refTo_succ {xs ys : List DOp} (hx : ∀ o ∈ xs, Nice o ∧ o.fr + o.len ≤ 2000 ∧ o.fr ≤ 2000) (hy : ∀ o ∈ ys, Nice o) (hr : ∀ c ∈ cellsL ys, c.1 < (cellsL xs).length ∨ c.1 = -1) (hb : ∀ c ∈ cellsL xs, c.1 < 2000 ∨ c.1 = -1) {k : Nat} {c : Cl} (hc : (cellsL ys)[k]? = some c) (hf : Fit k (refTo xs ys k)) :
    refTo xs ys (k + 1) = cellStep (refTo xs ys k) (subC (cellsL xs) c) ∧ Fit ((k + 1 : Nat) : Int) (refTo xs ys (k + 1)) := by
  have hm := List.mem_of_getElem? hc
  obtain ⟨z1, z2⟩ := sub_zero (fun o ho => (hx o ho).1) hy hr c hm
  obtain ⟨o1, o2⟩ := opOf_cells z1 z2
  have e : refTo xs ys (k + 1) = cellStep (refTo xs ys k) (subC (cellsL xs) c) := by
    unfold refTo
    rw [List.take_add_one, hc, List.map_append, List.foldl_append]; rfl
  refine ⟨e, ?_⟩
  have hj := cells_join (refTo xs ys k) (opOf (subC (cellsL xs) c)) (fun p hp => (hf.nice p hp).1) o2
  rw [o1] at hj
  simp only [List.foldl_cons, List.foldl_nil] at hj
  rw [e, hj]
  have hfr : (opOf (subC (cellsL xs) c)).fr ≤ 4000 := by
    unfold opOf
    split
    · simp
    · simp only
      by_cases h : 0 ≤ c.1
      · have hlt : c.1.toNat < (cellsL xs).length := by rcases hr c hm with h' | h' <;> omega
        rw [subC_at h hlt]
        rcases hb _ (List.getElem_mem (h := hlt)) with h' | h' <;> omega
      · rw [subC_tx h]; omega
  have hsz : sizeI (opOf (subC (cellsL xs) c)).len (opOf (subC (cellsL xs) c)).tx = 1 := by
    have := o2.size.1
    rw [o1] at this
    simpa using this.symm
  have := hf.join o2 hfr
  rw [hsz] at this
  exact this.mono (by omega)

theorem cl_ne {W : World} {b B q : Nat} {v u : Value} {xs : List Cl} {R : List DOp} (h : OwnCl W b v xs) (ho : OwnOps W B u R) (h1 : v.ownBlock = some q) (h2 : u.ownBlock = some q) : False := by
  rcases h.2 with ⟨hv, _⟩ | ⟨g, cap, cur, hv, _, hb, _⟩
  · rw [hv] at h1; cases h1
  · rw [hv] at h1; cases h1
    rcases ho.2 with ⟨hu, _⟩ | ⟨g', cap', cur', hu, _, hb', _⟩
    · rw [hu] at h2; cases h2
    · rw [hu] at h2; cases h2
      have := hb.symm.trans hb'
      simp at this
theorem cl_grown {W W' : World} {b B : Nat} {v u : Value} {xs : List Cl} {R : List DOp} (h : OwnCl W b v xs) (ho : OwnOps W B u R) (hg : W.grownBy W' u.ownBlock) : OwnCl W' b v xs :=
  row_block h (fun g hg' => hg.block g (row_own_lt h hg') (fun e => cl_ne h ho hg' e.symm))
theorem cl_far {W : World} {b g a : Nat} {v x : Value} {xs : List Cl} (h : OwnCl W b v xs) (hg : ∀ q, v.ownBlock = some q → ¬ q = g) : OwnCl (W.setCell ⟨g, a, none⟩ x) b v xs := row_block h (fun k hk => far1 (hg k hk))
theorem conv_byte_drew (w : World) (c : UInt8) : (convert 48 9 (.slice (some ⟨w.heap.size, 0, none⟩) 1 1)).run Tryz.prog (w.alloc (.cells #[.int .u8 c.toNat] 5)).drew = .ok (.string ⟨#[c]⟩) (w.alloc (.cells #[.int .u8 c.toNat] 5)).drew := by
  have := run_convert_bytes_back (P := Tryz.prog) (w.alloc (.cells #[.int .u8 c.toNat] 5)).drew 48 9 5 ⟨w.heap.size, 0, none⟩ 1 [c] Tryz.underlying48 Tryz.underlying5 Tryz.underlying9 (fun j hj => by
    have : j = 0 := by simpa using hj
    subst this
    show (w.alloc (.cells #[.int .u8 c.toNat] 5)).cell? _ = _
    simp [Addr.add])
  exact this
theorem own_tx {w : World} {base g cap n : Nat} {A : List DOp} {o : DOp} (hn : n = A.length + 1) (h : OwnOps w base (.slice (some ⟨g, 0, none⟩) n cap) (A ++ [o])) (t : ByteArray) :
    OwnOps (w.setCell ⟨g, A.length * 3 + 2, none⟩ (.string t)) base (.slice (some ⟨g, 0, none⟩) n cap) (A ++ [⟨o.fr, o.len, t⟩]) := by
  have hl1 : (A ++ [o]).length = A.length + 1 := by simp
  subst hn
  rw [← hl1] at h
  have h1 := own_setCell h (j := A.length * 3 + 2) (by omega) (by simp) (set_tx A o t)
  rwa [hl1] at h1
theorem own_ln {w : World} {base g cap n : Nat} {A : List DOp} {o : DOp} (hn : n = A.length + 1) (h : OwnOps w base (.slice (some ⟨g, 0, none⟩) n cap) (A ++ [o])) (l : Int) :
    OwnOps (w.setCell ⟨g, A.length * 3 + 1, none⟩ (.int .i64 l)) base (.slice (some ⟨g, 0, none⟩) n cap) (A ++ [⟨o.fr, l, o.tx⟩]) := by
  have hl1 : (A ++ [o]).length = A.length + 1 := by simp
  subst hn
  rw [← hl1] at h
  have h1 := own_setCell h (j := A.length * 3 + 1) (by omega) (by simp) (set_len A o l)
  rwa [hl1] at h1
theorem byte_same (c : UInt8) : UInt8.ofNat c.toNat = c := by simp

set_option maxHeartbeats 4000000 in
theorem rcomp_ok {v1 v2 : Value} {xs ys : List DOp} {w : World} (h1 : View w v1 xs) (h2 : View w v2 ys) (i1 : Ints xs) (i2 : Ints ys) (hf : ¬ faultF xs 2000 < xs.length) (hf2 : ¬ faultF ys (sumI xs) < ys.length) :
    Calls Tryz.prog 65 #[v1, v2] w fun e w' => (∃ v', e = .returned (.tuple #[v', .int .i64 (cmpE xs ys), .int .i64 (cmpP xs ys)]) ∧ OwnOps w' w.heap.size v' (cmpL xs ys)) ∧ Below w.heap.size w w' := by
  obtain ⟨j0, hj, hy0, hy1, hy2⟩ := info_parts Tryz.infoOp
  have hD := delta_of (b := 2000) (xs := xs) (by have := faultF_le xs 2000; omega)
  have hE := delta_of (b := sumI xs) (xs := ys) (by have := faultF_le ys (sumI xs); omega)
  obtain ⟨ao, c1, hv1⟩ := h1.slice
  obtain ⟨bo, c2, hv2⟩ := h2.slice
  rw [hv1] at h1 ⊢
  rw [hv2] at h2 ⊢
  have H1 : Hid (View w (.slice ao xs.length c1) xs) := h1
  have H2 : Hid (View w (.slice bo ys.length c2) ys) := h2
  have HD : Hid (Delta xs 2000) := hD
  have HE : Hid (Delta ys (sumI xs)) := hE
  have HQ1 : Hid (faultF xs 2000 = xs.length) := by show _ = _; have := faultF_le xs 2000; omega
  have HQ2 : Hid (faultF ys (sumI xs) = ys.length) := by show _ = _; have := faultF_le ys (sumI xs); omega
  have HCL : Hid (((cellsL xs).length : Int) = sumI xs) := cellsL_length (fun o ho => (hD.each o ho).1)
  have HCM : Hid (((cellsL ys).length : Int) = sumI ys) := cellsL_length (fun o ho => (hE.each o ho).1)
  have HEQ : Hid (refOps xs ys = compOps xs ys ∧ ∀ p ∈ compOps xs ys, Nice p) := comp_eq (fun o ho => (hD.each o ho).1) (fun o ho => ⟨(hE.each o ho).1, fun hl => by rw [HCL.out]; exact (hE.each o ho).2 hl⟩)
  have HRg : Hid (∀ c ∈ cellsL ys, c.1 < (cellsL xs).length ∨ c.1 = -1) := by
    have := cells_range hE.each
    rw [← HCL.out] at this
    exact this
  have HRx : Hid (∀ c ∈ cellsL xs, c.1 < 2000 ∨ c.1 = -1) := cells_range hD.each
  have hx := hD.len
  have hy := hE.len
  have h0 := sumI_nonneg xs
  have h3 := hD.sum
  have h4 := hE.sum
  have hcx : (cellsL xs).length ≤ 2000 := by have := HCL.out; omega
  have hcy : (cellsL ys).length ≤ 2000 := by have := HCM.out; omega
  clear h1 h2 hD hE hv1 hv2
  go_enter Tryz.func65, Tryz.ntmps65
  go_wp2_with fail
  refine (wrong_view H1.out i1 2000 (by omega) (by omega)).mono ?_
  rintro e w1 ⟨rfl, hb⟩
  rw [wrongI_ok hf]
  clear hf
  go_wp2_with fail
  refine (rcells_view (H1.out.kept hb) HD.out (by omega)).mono ?_
  rintro e w2 ⟨⟨va, rfl, oa⟩, hb2⟩
  obtain ⟨ca, cc, hva⟩ := oa.slice
  subst hva
  have B2 : Below w.heap.size w w2 := hb.trans (hb2.mono hb.size)
  have HA2 : Hid (OwnCl w2 w1.heap.size (.slice ca (cellsL xs).length cc) (cellsL xs)) := oa
  have hs1 := hb.size
  clear hb hb2 oa
  go_wp2_with fail
  have HW := wrong_view (H2.out.kept B2) i2 (sumI xs) h0 h3
  rw [← HCL.out] at HW
  refine HW.mono ?_
  rintro e w3 ⟨rfl, hb3⟩
  rw [HCL.out, wrongI_ok hf2]
  have B3 : Below w.heap.size w w3 := B2.trans (hb3.mono B2.size)
  have HA3 : Hid (OwnCl w3 w1.heap.size (.slice ca (cellsL xs).length cc) (cellsL xs)) := OwnCl.kept HA2.out hb3
  clear hb3 B2 HW HA2 hf2
  go_wp2_with fail
  refine (rcells_view (H2.out.kept B3) HE.out h3).mono ?_
  rintro e w4 ⟨⟨vb, rfl, ob⟩, hb4⟩
  obtain ⟨cb, cd, hvb⟩ := ob.slice
  subst hvb
  have B4 : Below w.heap.size w w4 := B3.trans (hb4.mono B3.size)
  have HA4 : Hid (OwnCl w4 w1.heap.size (.slice ca (cellsL xs).length cc) (cellsL xs)) := OwnCl.kept HA3.out hb4
  have HB4 : Hid (OwnCl w4 w3.heap.size (.slice cb (cellsL ys).length cd) (cellsL ys)) := ob
  have hs4 := B4.size
  clear hb4 B3 HA3 ob
  go_wp2
  go_loopw [10, 11] (fun v c wr => ∃ k : Nat, k ≤ (cellsL ys).length ∧ c = .int .i64 k ∧ Hid (OwnOps wr w.heap.size v (refTo xs ys k)) ∧ Hid (Fit k (refTo xs ys k)) ∧ Hid (OwnCl wr w1.heap.size (.slice ca (cellsL xs).length cc) (cellsL xs)) ∧ Hid (OwnCl wr w3.heap.size (.slice cb (cellsL ys).length cd) (cellsL ys)) ∧ Below w.heap.size w wr) (fun _ c _ => (cellsL ys).length + 1 - (intOf c).toNat)
  case atStart => exact ⟨0, by omega, rfl, OwnOps.nil _ _, ⟨by simp [refTo], by simp [refTo, sumI]⟩, HA4, HB4, B4⟩
  case round =>
    obtain ⟨k, hk, rfl, HO, HF, HA, HB, hb⟩ := hrel
    have hsz := hb.size
    by_cases hlt : k < (cellsL ys).length
    · obtain ⟨⟨za, zc⟩, hc⟩ : ∃ c, (cellsL ys)[k]? = some c := ⟨(cellsL ys)[k], by simp [hlt]⟩
      obtain ⟨gb, cb', hvb, hgb, b0, b1⟩ := cl_cells HB.out hc
      injection hvb with e1 e2 e3
      subst e1
      subst e3
      clear e2
      have HS := refTo_succ (fun o ho => ⟨(HD.out.each o ho).1, by have := HD.out.parts (by omega) o ho; by_cases h : 0 < o.len; exact (HD.out.each o ho).2 h; omega, (HD.out.parts (by omega) o ho).2.1⟩) (fun o ho => (HE.out.each o ho).1) HRg.out HRx.out hc HF.out
      obtain ⟨z1, z2⟩ := sub_zero (fun o ho => (HD.out.each o ho).1) (fun o ho => (HE.out.each o ho).1) HRg.out _ (List.mem_of_getElem? hc)
      obtain ⟨m1, m2⟩ := HF.out.small (by omega)
      have hne : ∀ q, u10.ownBlock = some q → ¬ q = wr.heap.size := fun q hq => by have := row_own_lt HO.out hq; omega
      have hrgc := HRg.out _ (List.mem_of_getElem? hc)
      simp only at hrgc
      have q1 : (k : Int) < ((cellsL ys).length : Int) := by omega
      have q2 : (0 : Int) ≤ (k : Int) := by omega
      by_cases hza : 0 ≤ za
      · have hzl : za.toNat < (cellsL xs).length := by omega
        obtain ⟨ga, ca', hvaa, hga, a0, a1⟩ := cl_cells HA.out (i := za.toNat) (c := (cellsL xs)[za.toNat]) (by simp [hzl])
        injection hvaa with e4 e5 e6
        subst e4
        subst e6
        clear e5
        rw [subC_at hza hzl] at HS z1 z2
        have hsaB := HRx.out _ (List.getElem_mem (h := hzl))
        generalize (cellsL xs)[za.toNat] = X at *
        obtain ⟨sa, sc⟩ := X
        simp only at a0 a1 z1 z2 hsaB
        replace hsaB : sa < 2000 := by omega
        have OW : Hid (OwnOps (wr.alloc (.cells #[.int .i64 sa, .int .u8 sc.toNat] 138)) w.heap.size u10 (refTo xs ys k)) := (HO.out.alloc _)
        obtain ⟨hX, hF2⟩ := HS
        have HF2 : Hid (Fit ((k + 1 : Nat) : Int) (refTo xs ys (k + 1))) := hF2
        have HX0 : Hid (refTo xs ys (k + 1) = cellStep (refTo xs ys k) (sa, sc)) := hX
        have hsb : sa < 2000 := by exact hsaB
        clear hX hF2 HF hc z1 z2
        generalize refTo xs ys k = R at *
        rcases List.eq_nil_or_concat R with rfl | ⟨A, o, rfl⟩
        · obtain ⟨ao', cap', hv⟩ := HO.out.slice
          subst hv
          by_cases hsa : sa < 0
          · have HX : Hid (refTo xs ys (k + 1) = [] ++ [⟨0, 0, ⟨#[sc]⟩⟩]) := HX0.out.trans (by rw [cellStep_nil, if_pos hsa]; rfl)
            have hcv := conv_byte (wr.alloc (.cells #[.int .i64 sa, .int .u8 sc.toNat] 138)) (sc.toNat : Int) sc.toNat rfl sc.toNat_lt
            rw [byte_same, show (wr.alloc (.cells #[.int .i64 sa, .int .u8 sc.toNat] 138)).heap.size = wr.heap.size + 1 from by simp] at hcv
            have OWP : Hid (OwnOps (((wr.alloc (.cells #[.int .i64 sa, .int .u8 sc.toNat] 138)).alloc (.cells #[.int .u8 sc.toNat] 5)).alloc (.cells #[.int .i64 0, .int .i64 0, .string ⟨#[sc]⟩] 63)) w.heap.size _ []) := ((OW.out.alloc _).alloc _)
            go_wp2_with (first | (at_builtin; refine wpList_append_own _ rfl _ _ 59 rfl w.heap.size 63 j0 (.agg #[.int .i64 0, .int .i64 0, .string ⟨#[]⟩]) 3 32 Tryz.underlying59 hj hy0 hy1 hy2 rfl (by decide) _ _ _ rfl OWP.out ⟨wr.heap.size + 1 + 1, 0, none⟩ 1 1 (opCells [⟨0, 0, ⟨#[sc]⟩⟩]) rfl rfl (by first | (simpa using cells_op_new ((wr.alloc (.cells #[.int .i64 sa, .int .u8 sc.toNat] 138)).alloc (.cells #[.int .u8 sc.toNat] 5)) 0 0 ⟨#[sc]⟩ 63) | (intro j u hu; simpa [opCells] using hu)) (opCells_oneCell _ _ _) (by (try simp only [List.length_nil, List.length_append, List.length_cons]); unfold maxLen; omega) (by (try simp only [List.length_nil, List.length_append, List.length_cons]); omega) (by first | (simp; done) | (simp; omega) | omega) ?_))
            intro v6 w6 ho6 hg6 _
            have HO6 : Hid (OwnOps w6 w.heap.size v6 (refTo xs ys (k + 1))) := by
              show OwnOps w6 w.heap.size v6 (refTo xs ys (k + 1))
              rw [HX.out]
              unfold OwnOps
              rw [opCells_append, List.length_append]
              simpa [opCells_nil] using ho6
            have HA6 : Hid (OwnCl w6 w1.heap.size _ (cellsL xs)) := cl_grown (((HA.out.alloc _).alloc _).alloc _) OWP.out hg6
            have HB6 : Hid (OwnCl w6 w3.heap.size _ (cellsL ys)) := cl_grown (((HB.out.alloc _).alloc _).alloc _) OWP.out hg6
            have B6 : Below w.heap.size w w6 := (((hb.alloc (by omega) _).alloc (by simp; omega) _).alloc (by simp; omega) _).grown hg6 (by simp; omega) (fun q hq => row_own_ge OWP.out hq)
            clear ho6 hg6 OWP
            go_wp2
            go_roundw
            case rel => exact ⟨k + 1, by omega, by go_num, HO6, HF2, HA6, HB6, B6⟩
            case measure => simp [intOf]; omega
          · have HX : Hid (refTo xs ys (k + 1) = [] ++ [⟨sa, 1, ⟨#[]⟩⟩]) := HX0.out.trans (by rw [cellStep_nil, if_neg hsa]; rfl)
            go_wp2
            go_quiet (fail)
            have OWP : Hid (OwnOps (((wr.alloc (.cells #[.int .i64 sa, .int .u8 sc.toNat] 138)).drewN nq).alloc (.cells #[.int .i64 sa, .int .i64 1, .string ⟨#[]⟩] 63)) w.heap.size _ []) := ((show OwnOps ((wr.alloc (.cells #[.int .i64 sa, .int .u8 sc.toNat] 138)).drewN nq) w.heap.size _ [] from OW.out).alloc _)
            go_wp2_with (first | (at_builtin; refine wpList_append_own _ rfl _ _ 59 rfl w.heap.size 63 j0 (.agg #[.int .i64 0, .int .i64 0, .string ⟨#[]⟩]) 3 32 Tryz.underlying59 hj hy0 hy1 hy2 rfl (by decide) _ _ _ rfl OWP.out ⟨wr.heap.size + 1, 0, none⟩ 1 1 (opCells [⟨sa, 1, ⟨#[]⟩⟩]) rfl rfl (by first | (simpa using cells_op_new ((wr.alloc (.cells #[.int .i64 sa, .int .u8 sc.toNat] 138)).drewN nq) sa 1 ⟨#[]⟩ 63) | (intro j u hu; simpa [opCells] using hu)) (opCells_oneCell _ _ _) (by (try simp only [List.length_nil, List.length_append, List.length_cons]); unfold maxLen; omega) (by (try simp only [List.length_nil, List.length_append, List.length_cons]); omega) (by first | (simp; done) | (simp; omega) | omega) ?_))
            intro v6 w6 ho6 hg6 _
            have HO6 : Hid (OwnOps w6 w.heap.size v6 (refTo xs ys (k + 1))) := by
              show OwnOps w6 w.heap.size v6 (refTo xs ys (k + 1))
              rw [HX.out]
              unfold OwnOps
              rw [opCells_append, List.length_append]
              simpa [opCells_nil] using ho6
            have HA6 : Hid (OwnCl w6 w1.heap.size _ (cellsL xs)) := cl_grown ((show OwnCl ((wr.alloc (.cells #[.int .i64 sa, .int .u8 sc.toNat] 138)).drewN nq) _ _ _ from (HA.out.alloc _)).alloc _) OWP.out hg6
            have HB6 : Hid (OwnCl w6 w3.heap.size _ (cellsL ys)) := cl_grown ((show OwnCl ((wr.alloc (.cells #[.int .i64 sa, .int .u8 sc.toNat] 138)).drewN nq) _ _ _ from (HB.out.alloc _)).alloc _) OWP.out hg6
            have B6 : Below w.heap.size w w6 := (((hb.alloc (by omega) _).trans (below_drewN0 _ _ nq)).alloc (by simp; omega) _).grown hg6 (by simp; omega) (fun q hq => row_own_ge OWP.out hq)
            clear ho6 hg6 OWP
            go_wp2
            go_roundw
            case rel => exact ⟨k + 1, by omega, by go_num, HO6, HF2, HA6, HB6, B6⟩
            case measure => simp [intOf]; omega
        · rw [List.concat_eq_append] at *
          obtain ⟨g, cap', hv, hgs, hgw⟩ : ∃ g cap', u10 = .slice (some ⟨g, 0, none⟩) (A.length + 1) cap' ∧ g < wr.heap.size ∧ w.heap.size ≤ g := by
            rcases HO.out.2 with ⟨_, h⟩ | ⟨g, cap', cur, h, hgg, _⟩
            · simp at h
            · exact ⟨g, cap', by rw [h]; simp, row_own_lt HO.out (by rw [h]; rfl), hgg⟩
          subst hv
          obtain ⟨c0, c1', c2', c3'⟩ := own_cells (B := []) OW.out
          obtain ⟨s1, s2, s3, s4, s5⟩ := m2 o (by simp)
          obtain ⟨of, ol, ot⟩ := o
          simp only at c0 c1' c2' s1 s2 s3 s4 s5
          have hAl : A.length + 1 ≤ 100000 := by simpa using m1
          have q3 : (A.length : Int) < (A.length : Int) + 1 := by omega
          have q4 : (0 : Int) ≤ (A.length : Int) := by omega
          have q5 : A.length < A.length + 1 := by omega
          have q6 : IntKind.i64.wrap (A.length : Int) = (A.length : Int) := by rw [IntKind.wrap_i64]; omega
          have hgX : ¬ g = wr.heap.size := by omega
          have hgY : ¬ wr.heap.size = g := by omega
          clear m1 m2
          by_cases hsa : sa < 0
          · by_cases hol : ol = 0
            · have HX : Hid (refTo xs ys (k + 1) = A ++ [⟨of, ol, ot ++ ⟨#[sc]⟩⟩]) := HX0.out.trans (by rw [cellStep_snoc, if_pos hsa, if_pos hol])
              have hcv := conv_byte_drew (wr.alloc (.cells #[.int .i64 sa, .int .u8 sc.toNat] 138)) sc
              rw [show (wr.alloc (.cells #[.int .i64 sa, .int .u8 sc.toNat] 138)).heap.size = wr.heap.size + 1 from by simp] at hcv
              have zA : ¬ 9223372036854775807 < ot.size + 1 := by omega
              have zB : (⟨#[sc]⟩ : ByteArray).size = 1 := rfl
              subst hol
              have Hta : ∀ q, (Value.slice (some ⟨ga, 0, none⟩) (cellsL xs).length cc).ownBlock = some q → ¬ q = g := fun q hq e => cl_ne HA.out HO.out hq (by rw [e]; rfl)
              have Htb : ∀ q, (Value.slice (some ⟨gb, 0, none⟩) (cellsL ys).length cd).ownBlock = some q → ¬ q = g := fun q hq e => cl_ne HB.out HO.out hq (by rw [e]; rfl)
              have o7 := own_tx rfl HO.out (ot ++ ⟨#[sc]⟩)
              have a7 := cl_far (a := A.length * 3 + 2) (x := .string (ot ++ ⟨#[sc]⟩)) HA.out Hta
              have b7 := cl_far (a := A.length * 3 + 2) (x := .string (ot ++ ⟨#[sc]⟩)) HB.out Htb
              have B7 := hb.setCell (p := ⟨g, A.length * 3 + 2, none⟩) hgw (.string (ot ++ ⟨#[sc]⟩))
              have HO7 : Hid (OwnOps (wr.setCell ⟨g, A.length * 3 + 2, none⟩ (.string (ot ++ ⟨#[sc]⟩))) w.heap.size (.slice (some ⟨g, 0, none⟩) (A.length + 1) cap') (refTo xs ys (k + 1))) := by
                show OwnOps _ _ _ (refTo xs ys (k + 1))
                rw [HX.out]; exact o7
              have HA7 : Hid (OwnCl (wr.setCell ⟨g, A.length * 3 + 2, none⟩ (.string (ot ++ ⟨#[sc]⟩))) w1.heap.size _ (cellsL xs)) := a7
              have HB7 : Hid (OwnCl (wr.setCell ⟨g, A.length * 3 + 2, none⟩ (.string (ot ++ ⟨#[sc]⟩))) w3.heap.size _ (cellsL ys)) := b7
              clear o7 a7 b7
              go_wp2
              go_region
              go_wp2
              go_roundw
              case rel => exact ⟨k + 1, by omega, by go_num, ((HO7.out.alloc _).alloc _), HF2, ((HA7.out.alloc _).alloc _), ((HB7.out.alloc _).alloc _), ((B7.alloc (by simp; omega) _).alloc (by simp; omega) _).drew⟩
              case measure => simp [intOf]; omega
            · have HX : Hid (refTo xs ys (k + 1) = (A ++ [(⟨of, ol, ot⟩ : DOp)]) ++ [⟨0, 0, ⟨#[sc]⟩⟩]) := HX0.out.trans (by rw [cellStep_snoc, if_pos hsa, if_neg hol])
              have hol' : (ol == 0) = false := by simpa using hol
              have hcv := conv_byte (wr.alloc (.cells #[.int .i64 sa, .int .u8 sc.toNat] 138)) (sc.toNat : Int) sc.toNat rfl sc.toNat_lt
              rw [byte_same, show (wr.alloc (.cells #[.int .i64 sa, .int .u8 sc.toNat] 138)).heap.size = wr.heap.size + 1 from by simp] at hcv
              have OWP : Hid (OwnOps (((wr.alloc (.cells #[.int .i64 sa, .int .u8 sc.toNat] 138)).alloc (.cells #[.int .u8 sc.toNat] 5)).alloc (.cells #[.int .i64 0, .int .i64 0, .string ⟨#[sc]⟩] 63)) w.heap.size _ (A ++ [(⟨of, ol, ot⟩ : DOp)])) := ((OW.out.alloc _).alloc _)
              go_wp2_with (first | (at_builtin; refine wpList_append_own _ rfl _ _ 59 rfl w.heap.size 63 j0 (.agg #[.int .i64 0, .int .i64 0, .string ⟨#[]⟩]) 3 32 Tryz.underlying59 hj hy0 hy1 hy2 rfl (by decide) _ _ _ rfl OWP.out ⟨wr.heap.size + 1 + 1, 0, none⟩ 1 1 (opCells [⟨0, 0, ⟨#[sc]⟩⟩]) rfl rfl (by first | (simpa using cells_op_new ((wr.alloc (.cells #[.int .i64 sa, .int .u8 sc.toNat] 138)).alloc (.cells #[.int .u8 sc.toNat] 5)) 0 0 ⟨#[sc]⟩ 63) | (intro j u hu; simpa [opCells] using hu)) (opCells_oneCell _ _ _) (by (try simp only [List.length_nil, List.length_append, List.length_cons]); unfold maxLen; omega) (by (try simp only [List.length_nil, List.length_append, List.length_cons]); omega) (by first | (simp; done) | (simp; omega) | omega) ?_))
              intro v6 w6 ho6 hg6 _
              have HO6 : Hid (OwnOps w6 w.heap.size v6 (refTo xs ys (k + 1))) := by
                show OwnOps w6 w.heap.size v6 (refTo xs ys (k + 1))
                rw [HX.out]
                unfold OwnOps
                rw [opCells_append, List.length_append]
                simpa [opCells_nil] using ho6
              have HA6 : Hid (OwnCl w6 w1.heap.size _ (cellsL xs)) := cl_grown (((HA.out.alloc _).alloc _).alloc _) OWP.out hg6
              have HB6 : Hid (OwnCl w6 w3.heap.size _ (cellsL ys)) := cl_grown (((HB.out.alloc _).alloc _).alloc _) OWP.out hg6
              have B6 : Below w.heap.size w w6 := (((hb.alloc (by omega) _).alloc (by simp; omega) _).alloc (by simp; omega) _).grown hg6 (by simp; omega) (fun q hq => row_own_ge OWP.out hq)
              clear ho6 hg6 OWP
              go_wp2
              go_roundw
              case rel => exact ⟨k + 1, by omega, by go_num, HO6, HF2, HA6, HB6, B6⟩
              case measure => simp [intOf]; omega
          · have hsa' : ¬ sa < 0 := hsa
            by_cases hon : 0 < ol ∧ of + ol = sa
            · have HX : Hid (refTo xs ys (k + 1) = A ++ [⟨of, ol + 1, ot⟩]) := HX0.out.trans (by rw [cellStep_snoc, if_neg hsa, if_pos hon])
              obtain ⟨hon1, hon2⟩ := hon
              have hon3 : IntKind.i64.wrap (of + ol) = of + ol := by rw [IntKind.wrap_i64]; omega
              have Hta : ∀ q, (Value.slice (some ⟨ga, 0, none⟩) (cellsL xs).length cc).ownBlock = some q → ¬ q = g := fun q hq e => cl_ne HA.out HO.out hq (by rw [e]; rfl)
              have Htb : ∀ q, (Value.slice (some ⟨gb, 0, none⟩) (cellsL ys).length cd).ownBlock = some q → ¬ q = g := fun q hq e => cl_ne HB.out HO.out hq (by rw [e]; rfl)
              have o7 := own_ln rfl OW.out (ol + 1)
              have a7 := cl_far (a := A.length * 3 + 1) (x := .int .i64 (ol + 1)) (HA.out.alloc (.cells #[.int .i64 sa, .int .u8 sc.toNat] 138)) Hta
              have b7 := cl_far (a := A.length * 3 + 1) (x := .int .i64 (ol + 1)) (HB.out.alloc (.cells #[.int .i64 sa, .int .u8 sc.toNat] 138)) Htb
              have B7 := hb.alloc (by omega) (.cells #[.int .i64 sa, .int .u8 sc.toNat] 138)
              have HO7 : Hid (OwnOps ((wr.alloc (.cells #[.int .i64 sa, .int .u8 sc.toNat] 138)).setCell ⟨g, A.length * 3 + 1, none⟩ (.int .i64 (ol + 1))) w.heap.size (.slice (some ⟨g, 0, none⟩) (A.length + 1) cap') (refTo xs ys (k + 1))) := by
                show OwnOps _ _ _ (refTo xs ys (k + 1))
                rw [HX.out]; exact o7
              have HA7 : Hid (OwnCl ((wr.alloc (.cells #[.int .i64 sa, .int .u8 sc.toNat] 138)).setCell ⟨g, A.length * 3 + 1, none⟩ (.int .i64 (ol + 1))) w1.heap.size _ (cellsL xs)) := a7
              have HB7 : Hid (OwnCl ((wr.alloc (.cells #[.int .i64 sa, .int .u8 sc.toNat] 138)).setCell ⟨g, A.length * 3 + 1, none⟩ (.int .i64 (ol + 1))) w3.heap.size _ (cellsL ys)) := b7
              clear o7 a7 b7
              go_wp2
              go_quiet (fail)
              go_wp2
              go_roundw
              case rel => exact ⟨k + 1, by omega, by go_num, HO7.out, HF2, HA7.out, HB7.out, (B7.trans (below_drewN0 _ _ nq)).setCell (p := ⟨g, A.length * 3 + 1, none⟩) hgw _⟩
              case measure => simp [intOf]; omega
            · have HX : Hid (refTo xs ys (k + 1) = (A ++ [(⟨of, ol, ot⟩ : DOp)]) ++ [⟨sa, 1, ⟨#[]⟩⟩]) := HX0.out.trans (by rw [cellStep_snoc, if_neg hsa, if_neg hon])
              have hon3 : IntKind.i64.wrap (of + ol) = of + ol := by rw [IntKind.wrap_i64]; omega
              by_cases hop : 0 < ol
              · have hon1 : ¬ of + ol = sa := fun e => hon ⟨hop, e⟩
                have hon2 : ((of + ol) == sa) = false := by simpa using hon1
                clear hon
                go_wp2
                go_quiet (fail)
                have OWP : Hid (OwnOps (((wr.alloc (.cells #[.int .i64 sa, .int .u8 sc.toNat] 138)).drewN nq).alloc (.cells #[.int .i64 sa, .int .i64 1, .string ⟨#[]⟩] 63)) w.heap.size _ (A ++ [(⟨of, ol, ot⟩ : DOp)])) := ((show OwnOps ((wr.alloc (.cells #[.int .i64 sa, .int .u8 sc.toNat] 138)).drewN nq) w.heap.size _ (A ++ [(⟨of, ol, ot⟩ : DOp)]) from OW.out).alloc _)
                go_wp2_with (first | (at_builtin; refine wpList_append_own _ rfl _ _ 59 rfl w.heap.size 63 j0 (.agg #[.int .i64 0, .int .i64 0, .string ⟨#[]⟩]) 3 32 Tryz.underlying59 hj hy0 hy1 hy2 rfl (by decide) _ _ _ rfl OWP.out ⟨wr.heap.size + 1, 0, none⟩ 1 1 (opCells [⟨sa, 1, ⟨#[]⟩⟩]) rfl rfl (by first | (simpa using cells_op_new ((wr.alloc (.cells #[.int .i64 sa, .int .u8 sc.toNat] 138)).drewN nq) sa 1 ⟨#[]⟩ 63) | (intro j u hu; simpa [opCells] using hu)) (opCells_oneCell _ _ _) (by (try simp only [List.length_nil, List.length_append, List.length_cons]); unfold maxLen; omega) (by (try simp only [List.length_nil, List.length_append, List.length_cons]); omega) (by first | (simp; done) | (simp; omega) | omega) ?_))
                intro v6 w6 ho6 hg6 _
                have HO6 : Hid (OwnOps w6 w.heap.size v6 (refTo xs ys (k + 1))) := by
                  show OwnOps w6 w.heap.size v6 (refTo xs ys (k + 1))
                  rw [HX.out]
                  unfold OwnOps
                  rw [opCells_append, List.length_append]
                  simpa [opCells_nil] using ho6
                have HA6 : Hid (OwnCl w6 w1.heap.size _ (cellsL xs)) := cl_grown ((show OwnCl ((wr.alloc (.cells #[.int .i64 sa, .int .u8 sc.toNat] 138)).drewN nq) _ _ _ from (HA.out.alloc _)).alloc _) OWP.out hg6
                have HB6 : Hid (OwnCl w6 w3.heap.size _ (cellsL ys)) := cl_grown ((show OwnCl ((wr.alloc (.cells #[.int .i64 sa, .int .u8 sc.toNat] 138)).drewN nq) _ _ _ from (HB.out.alloc _)).alloc _) OWP.out hg6
                have B6 : Below w.heap.size w w6 := (((hb.alloc (by omega) _).trans (below_drewN0 _ _ nq)).alloc (by simp; omega) _).grown hg6 (by simp; omega) (fun q hq => row_own_ge OWP.out hq)
                clear ho6 hg6 OWP
                go_wp2
                go_roundw
                case rel => exact ⟨k + 1, by omega, by go_num, HO6, HF2, HA6, HB6, B6⟩
                case measure => simp [intOf]; omega
              · have hop' : ol = 0 := by omega
                clear hon
                subst hop'
                go_wp2
                go_quiet (fail)
                have OWP : Hid (OwnOps (((wr.alloc (.cells #[.int .i64 sa, .int .u8 sc.toNat] 138)).drewN nq).alloc (.cells #[.int .i64 sa, .int .i64 1, .string ⟨#[]⟩] 63)) w.heap.size _ (A ++ [(⟨of, 0, ot⟩ : DOp)])) := ((show OwnOps ((wr.alloc (.cells #[.int .i64 sa, .int .u8 sc.toNat] 138)).drewN nq) w.heap.size _ (A ++ [(⟨of, 0, ot⟩ : DOp)]) from OW.out).alloc _)
                go_wp2_with (first | (at_builtin; refine wpList_append_own _ rfl _ _ 59 rfl w.heap.size 63 j0 (.agg #[.int .i64 0, .int .i64 0, .string ⟨#[]⟩]) 3 32 Tryz.underlying59 hj hy0 hy1 hy2 rfl (by decide) _ _ _ rfl OWP.out ⟨wr.heap.size + 1, 0, none⟩ 1 1 (opCells [⟨sa, 1, ⟨#[]⟩⟩]) rfl rfl (by first | (simpa using cells_op_new ((wr.alloc (.cells #[.int .i64 sa, .int .u8 sc.toNat] 138)).drewN nq) sa 1 ⟨#[]⟩ 63) | (intro j u hu; simpa [opCells] using hu)) (opCells_oneCell _ _ _) (by (try simp only [List.length_nil, List.length_append, List.length_cons]); unfold maxLen; omega) (by (try simp only [List.length_nil, List.length_append, List.length_cons]); omega) (by first | (simp; done) | (simp; omega) | omega) ?_))
                intro v6 w6 ho6 hg6 _
                have HO6 : Hid (OwnOps w6 w.heap.size v6 (refTo xs ys (k + 1))) := by
                  show OwnOps w6 w.heap.size v6 (refTo xs ys (k + 1))
                  rw [HX.out]
                  unfold OwnOps
                  rw [opCells_append, List.length_append]
                  simpa [opCells_nil] using ho6
                have HA6 : Hid (OwnCl w6 w1.heap.size _ (cellsL xs)) := cl_grown ((show OwnCl ((wr.alloc (.cells #[.int .i64 sa, .int .u8 sc.toNat] 138)).drewN nq) _ _ _ from (HA.out.alloc _)).alloc _) OWP.out hg6
                have HB6 : Hid (OwnCl w6 w3.heap.size _ (cellsL ys)) := cl_grown ((show OwnCl ((wr.alloc (.cells #[.int .i64 sa, .int .u8 sc.toNat] 138)).drewN nq) _ _ _ from (HB.out.alloc _)).alloc _) OWP.out hg6
                have B6 : Below w.heap.size w w6 := (((hb.alloc (by omega) _).trans (below_drewN0 _ _ nq)).alloc (by simp; omega) _).grown hg6 (by simp; omega) (fun q hq => row_own_ge OWP.out hq)
                clear ho6 hg6 OWP
                go_wp2
                go_roundw
                case rel => exact ⟨k + 1, by omega, by go_num, HO6, HF2, HA6, HB6, B6⟩
                case measure => simp [intOf]; omega
      · rw [subC_tx hza] at HS z1 z2
        simp only at z1 z2
        obtain ⟨sa, rfl⟩ : ∃ sa, sa = za := ⟨za, rfl⟩
        obtain ⟨sc, rfl⟩ : ∃ sc, sc = zc := ⟨zc, rfl⟩
        have OW : Hid (OwnOps (wr.alloc (.cells #[.int .i64 sa, .int .u8 sc.toNat] 138)) w.heap.size u10 (refTo xs ys k)) := (HO.out.alloc _)
        obtain ⟨hX, hF2⟩ := HS
        have HF2 : Hid (Fit ((k + 1 : Nat) : Int) (refTo xs ys (k + 1))) := hF2
        have HX0 : Hid (refTo xs ys (k + 1) = cellStep (refTo xs ys k) (sa, sc)) := hX
        have hsb : sa < 2000 := by omega
        clear hX hF2 HF hc z1 z2
        generalize refTo xs ys k = R at *
        rcases List.eq_nil_or_concat R with rfl | ⟨A, o, rfl⟩
        · obtain ⟨ao', cap', hv⟩ := HO.out.slice
          subst hv
          by_cases hsa : sa < 0
          · have HX : Hid (refTo xs ys (k + 1) = [] ++ [⟨0, 0, ⟨#[sc]⟩⟩]) := HX0.out.trans (by rw [cellStep_nil, if_pos hsa]; rfl)
            have hcv := conv_byte (wr.alloc (.cells #[.int .i64 sa, .int .u8 sc.toNat] 138)) (sc.toNat : Int) sc.toNat rfl sc.toNat_lt
            rw [byte_same, show (wr.alloc (.cells #[.int .i64 sa, .int .u8 sc.toNat] 138)).heap.size = wr.heap.size + 1 from by simp] at hcv
            have OWP : Hid (OwnOps (((wr.alloc (.cells #[.int .i64 sa, .int .u8 sc.toNat] 138)).alloc (.cells #[.int .u8 sc.toNat] 5)).alloc (.cells #[.int .i64 0, .int .i64 0, .string ⟨#[sc]⟩] 63)) w.heap.size _ []) := ((OW.out.alloc _).alloc _)
            go_wp2_with (first | (at_builtin; refine wpList_append_own _ rfl _ _ 59 rfl w.heap.size 63 j0 (.agg #[.int .i64 0, .int .i64 0, .string ⟨#[]⟩]) 3 32 Tryz.underlying59 hj hy0 hy1 hy2 rfl (by decide) _ _ _ rfl OWP.out ⟨wr.heap.size + 1 + 1, 0, none⟩ 1 1 (opCells [⟨0, 0, ⟨#[sc]⟩⟩]) rfl rfl (by first | (simpa using cells_op_new ((wr.alloc (.cells #[.int .i64 sa, .int .u8 sc.toNat] 138)).alloc (.cells #[.int .u8 sc.toNat] 5)) 0 0 ⟨#[sc]⟩ 63) | (intro j u hu; simpa [opCells] using hu)) (opCells_oneCell _ _ _) (by (try simp only [List.length_nil, List.length_append, List.length_cons]); unfold maxLen; omega) (by (try simp only [List.length_nil, List.length_append, List.length_cons]); omega) (by first | (simp; done) | (simp; omega) | omega) ?_))
            intro v6 w6 ho6 hg6 _
            have HO6 : Hid (OwnOps w6 w.heap.size v6 (refTo xs ys (k + 1))) := by
              show OwnOps w6 w.heap.size v6 (refTo xs ys (k + 1))
              rw [HX.out]
              unfold OwnOps
              rw [opCells_append, List.length_append]
              simpa [opCells_nil] using ho6
            have HA6 : Hid (OwnCl w6 w1.heap.size _ (cellsL xs)) := cl_grown (((HA.out.alloc _).alloc _).alloc _) OWP.out hg6
            have HB6 : Hid (OwnCl w6 w3.heap.size _ (cellsL ys)) := cl_grown (((HB.out.alloc _).alloc _).alloc _) OWP.out hg6
            have B6 : Below w.heap.size w w6 := (((hb.alloc (by omega) _).alloc (by simp; omega) _).alloc (by simp; omega) _).grown hg6 (by simp; omega) (fun q hq => row_own_ge OWP.out hq)
            clear ho6 hg6 OWP
            go_wp2
            go_roundw
            case rel => exact ⟨k + 1, by omega, by go_num, HO6, HF2, HA6, HB6, B6⟩
            case measure => simp [intOf]; omega
          · have HX : Hid (refTo xs ys (k + 1) = [] ++ [⟨sa, 1, ⟨#[]⟩⟩]) := HX0.out.trans (by rw [cellStep_nil, if_neg hsa]; rfl)
            exact absurd hsa (by omega)
        · rw [List.concat_eq_append] at *
          obtain ⟨g, cap', hv, hgs, hgw⟩ : ∃ g cap', u10 = .slice (some ⟨g, 0, none⟩) (A.length + 1) cap' ∧ g < wr.heap.size ∧ w.heap.size ≤ g := by
            rcases HO.out.2 with ⟨_, h⟩ | ⟨g, cap', cur, h, hgg, _⟩
            · simp at h
            · exact ⟨g, cap', by rw [h]; simp, row_own_lt HO.out (by rw [h]; rfl), hgg⟩
          subst hv
          obtain ⟨c0, c1', c2', c3'⟩ := own_cells (B := []) OW.out
          obtain ⟨s1, s2, s3, s4, s5⟩ := m2 o (by simp)
          obtain ⟨of, ol, ot⟩ := o
          simp only at c0 c1' c2' s1 s2 s3 s4 s5
          have hAl : A.length + 1 ≤ 100000 := by simpa using m1
          have q3 : (A.length : Int) < (A.length : Int) + 1 := by omega
          have q4 : (0 : Int) ≤ (A.length : Int) := by omega
          have q5 : A.length < A.length + 1 := by omega
          have q6 : IntKind.i64.wrap (A.length : Int) = (A.length : Int) := by rw [IntKind.wrap_i64]; omega
          have hgX : ¬ g = wr.heap.size := by omega
          have hgY : ¬ wr.heap.size = g := by omega
          clear m1 m2
          by_cases hsa : sa < 0
          · by_cases hol : ol = 0
            · have HX : Hid (refTo xs ys (k + 1) = A ++ [⟨of, ol, ot ++ ⟨#[sc]⟩⟩]) := HX0.out.trans (by rw [cellStep_snoc, if_pos hsa, if_pos hol])
              have hcv := conv_byte_drew (wr.alloc (.cells #[.int .i64 sa, .int .u8 sc.toNat] 138)) sc
              rw [show (wr.alloc (.cells #[.int .i64 sa, .int .u8 sc.toNat] 138)).heap.size = wr.heap.size + 1 from by simp] at hcv
              have zA : ¬ 9223372036854775807 < ot.size + 1 := by omega
              have zB : (⟨#[sc]⟩ : ByteArray).size = 1 := rfl
              subst hol
              have Hta : ∀ q, (Value.slice ca (cellsL xs).length cc).ownBlock = some q → ¬ q = g := fun q hq e => cl_ne HA.out HO.out hq (by rw [e]; rfl)
              have Htb : ∀ q, (Value.slice (some ⟨gb, 0, none⟩) (cellsL ys).length cd).ownBlock = some q → ¬ q = g := fun q hq e => cl_ne HB.out HO.out hq (by rw [e]; rfl)
              have o7 := own_tx rfl HO.out (ot ++ ⟨#[sc]⟩)
              have a7 := cl_far (a := A.length * 3 + 2) (x := .string (ot ++ ⟨#[sc]⟩)) HA.out Hta
              have b7 := cl_far (a := A.length * 3 + 2) (x := .string (ot ++ ⟨#[sc]⟩)) HB.out Htb
              have B7 := hb.setCell (p := ⟨g, A.length * 3 + 2, none⟩) hgw (.string (ot ++ ⟨#[sc]⟩))
              have HO7 : Hid (OwnOps (wr.setCell ⟨g, A.length * 3 + 2, none⟩ (.string (ot ++ ⟨#[sc]⟩))) w.heap.size (.slice (some ⟨g, 0, none⟩) (A.length + 1) cap') (refTo xs ys (k + 1))) := by
                show OwnOps _ _ _ (refTo xs ys (k + 1))
                rw [HX.out]; exact o7
              have HA7 : Hid (OwnCl (wr.setCell ⟨g, A.length * 3 + 2, none⟩ (.string (ot ++ ⟨#[sc]⟩))) w1.heap.size _ (cellsL xs)) := a7
              have HB7 : Hid (OwnCl (wr.setCell ⟨g, A.length * 3 + 2, none⟩ (.string (ot ++ ⟨#[sc]⟩))) w3.heap.size _ (cellsL ys)) := b7
              clear o7 a7 b7
              go_wp2
              go_region
              go_wp2
              go_roundw
              case rel => exact ⟨k + 1, by omega, by go_num, ((HO7.out.alloc _).alloc _), HF2, ((HA7.out.alloc _).alloc _), ((HB7.out.alloc _).alloc _), ((B7.alloc (by simp; omega) _).alloc (by simp; omega) _).drew⟩
              case measure => simp [intOf]; omega
            · have HX : Hid (refTo xs ys (k + 1) = (A ++ [(⟨of, ol, ot⟩ : DOp)]) ++ [⟨0, 0, ⟨#[sc]⟩⟩]) := HX0.out.trans (by rw [cellStep_snoc, if_pos hsa, if_neg hol])
              have hol' : (ol == 0) = false := by simpa using hol
              have hcv := conv_byte (wr.alloc (.cells #[.int .i64 sa, .int .u8 sc.toNat] 138)) (sc.toNat : Int) sc.toNat rfl sc.toNat_lt
              rw [byte_same, show (wr.alloc (.cells #[.int .i64 sa, .int .u8 sc.toNat] 138)).heap.size = wr.heap.size + 1 from by simp] at hcv
              have OWP : Hid (OwnOps (((wr.alloc (.cells #[.int .i64 sa, .int .u8 sc.toNat] 138)).alloc (.cells #[.int .u8 sc.toNat] 5)).alloc (.cells #[.int .i64 0, .int .i64 0, .string ⟨#[sc]⟩] 63)) w.heap.size _ (A ++ [(⟨of, ol, ot⟩ : DOp)])) := ((OW.out.alloc _).alloc _)
              go_wp2_with (first | (at_builtin; refine wpList_append_own _ rfl _ _ 59 rfl w.heap.size 63 j0 (.agg #[.int .i64 0, .int .i64 0, .string ⟨#[]⟩]) 3 32 Tryz.underlying59 hj hy0 hy1 hy2 rfl (by decide) _ _ _ rfl OWP.out ⟨wr.heap.size + 1 + 1, 0, none⟩ 1 1 (opCells [⟨0, 0, ⟨#[sc]⟩⟩]) rfl rfl (by first | (simpa using cells_op_new ((wr.alloc (.cells #[.int .i64 sa, .int .u8 sc.toNat] 138)).alloc (.cells #[.int .u8 sc.toNat] 5)) 0 0 ⟨#[sc]⟩ 63) | (intro j u hu; simpa [opCells] using hu)) (opCells_oneCell _ _ _) (by (try simp only [List.length_nil, List.length_append, List.length_cons]); unfold maxLen; omega) (by (try simp only [List.length_nil, List.length_append, List.length_cons]); omega) (by first | (simp; done) | (simp; omega) | omega) ?_))
              intro v6 w6 ho6 hg6 _
              have HO6 : Hid (OwnOps w6 w.heap.size v6 (refTo xs ys (k + 1))) := by
                show OwnOps w6 w.heap.size v6 (refTo xs ys (k + 1))
                rw [HX.out]
                unfold OwnOps
                rw [opCells_append, List.length_append]
                simpa [opCells_nil] using ho6
              have HA6 : Hid (OwnCl w6 w1.heap.size _ (cellsL xs)) := cl_grown (((HA.out.alloc _).alloc _).alloc _) OWP.out hg6
              have HB6 : Hid (OwnCl w6 w3.heap.size _ (cellsL ys)) := cl_grown (((HB.out.alloc _).alloc _).alloc _) OWP.out hg6
              have B6 : Below w.heap.size w w6 := (((hb.alloc (by omega) _).alloc (by simp; omega) _).alloc (by simp; omega) _).grown hg6 (by simp; omega) (fun q hq => row_own_ge OWP.out hq)
              clear ho6 hg6 OWP
              go_wp2
              go_roundw
              case rel => exact ⟨k + 1, by omega, by go_num, HO6, HF2, HA6, HB6, B6⟩
              case measure => simp [intOf]; omega
          · exact absurd hsa (by omega)
    · obtain rfl : k = (cellsL ys).length := by omega
      have e : refTo xs ys (cellsL ys).length = compOps xs ys := by
        rw [← HEQ.out.1]; unfold refTo refOps; rw [List.take_length]
      rw [e] at HO HF
      clear e
      obtain ⟨oo, oc, hvo⟩ := HO.out.slice
      subst hvo
      have hml : (compOps xs ys).length ≤ 100000 := by have := HF.out.length; omega
      have hok : cmpOk xs ys ↔ ¬ 200 < (compOps xs ys).length := ⟨fun h => h.2.2, fun h => ⟨by rw [HQ1.out]; omega, by rw [HQ2.out]; omega, h⟩⟩
      by_cases hbig : 200 < (compOps xs ys).length
      · have HC : Hid (¬ cmpOk xs ys) := fun h => hok.1 h hbig
        clear hok HF
        go_wp2
        go_ret3
        have e1 : cmpL xs ys = [] := if_neg HC.out
        have e2 : cmpE xs ys = 2 := if_neg HC.out
        have e3 : cmpP xs ys = (xs.length : Int) + ys.length := by
          rw [cmpP, if_neg HC.out, cmpF, if_neg (by rw [HQ1.out]; omega), if_neg (by rw [HQ2.out]; omega)]; omega
        rw [e1, e2, e3]
        exact ⟨⟨_, rfl, OwnOps.nil _ _⟩, hb⟩
      · have HC : Hid (cmpOk xs ys) := hok.2 hbig
        clear hok HF
        go_wp2
        go_ret3
        have e1 : cmpL xs ys = compOps xs ys := if_pos HC.out
        have e2 : cmpE xs ys = 0 := if_pos HC.out
        have e3 : cmpP xs ys = 0 := if_pos HC.out
        rw [e1, e2, e3]
        exact ⟨⟨_, rfl, HO.out⟩, hb⟩
end Go.Proofs.YtabpiaaknjcnkaaGreat
