/- The texts W8, WB, P2, one behind the other. -/
import Derived.Test.YtabpiaaknjcnkaaGreatXW5W6W7W2
import Derived.Deep.QuietTactic
import Derived.BigQuiet
import Derived.RegionTactic
import Derived.Deep.RegionHeld3
import Derived.LoopTactic
import Derived.Test.YtabpiaaknjcnkaaGreatXP1W1W3W4
import Derived.Test.YtabpiaaknjcnkaaGreatShelf
/-
  The walk over firstFault.
-/
namespace Go.Proofs.YtabpiaaknjcnkaaGreat
open Go.RowKit
set_option linter.unusedVariables false
set_option linter.unusedSimpArgs false
set_option maxRecDepth 100000

/-- The ops that lie at an address. -/
def ReadsAt (w : World) (b off : Nat) (xs : List DOp) : Prop :=
  ∀ (i : Nat) (o : DOp), xs[i]? = some o → w.cell? ⟨b, off + i * 3, none⟩ = some (.int .i64 o.fr) ∧ w.cell? ⟨b, off + i * 3 + 1, none⟩ = some (.int .i64 o.len) ∧ w.cell? ⟨b, off + i * 3 + 2, none⟩ = some (.string o.tx)

theorem below_drewN0 (B : Nat) (w : World) (n : Nat) : Below B w (w.drewN n) := ⟨rfl, rfl, rfl, Nat.le_refl _, fun _ _ => rfl⟩
theorem drop_cons {α : Type} {xs : List α} {k : Nat} {o : α} (h : xs[k]? = some o) : xs.drop k = o :: xs.drop (k + 1) := by
  obtain ⟨hk, rfl⟩ := List.getElem?_eq_some_iff.1 h
  rw [List.drop_eq_getElem_cons hk]

theorem isOpB_copy {f l : Int} {t : ByteArray} {b : Int} (h : isOpB f l t b = true) (hl : 0 < l) : 0 ≤ f ∧ f + l ≤ b := by
  rw [isOpB, if_pos hl] at h
  simp at h
  omega
theorem sizeI_nonneg (l : Int) (t : ByteArray) : 0 ≤ sizeI l t := by unfold sizeI; split <;> omega
theorem faultGo_200 {b : Int} {o : DOp} {r : List DOp} {p : Option DOp} {k : Nat} {m : Int} (h : k = 200) : faultGo b (o :: r) p k m = k := by rw [faultGo, if_pos h]
theorem faultGo_op {b : Int} {o : DOp} {r : List DOp} {p : Option DOp} {k : Nat} {m : Int} (h1 : ¬ k = 200) (h2 : isOpB o.fr o.len o.tx b = false) : faultGo b (o :: r) p k m = k := by rw [faultGo, if_neg h1, if_pos h2]
theorem faultGo_behind {b : Int} {o : DOp} {r : List DOp} {p : Option DOp} {k : Nat} {m : Int} (h1 : ¬ k = 200) (h2 : isOpB o.fr o.len o.tx b = true) (h3 : behind p o = false) : faultGo b (o :: r) p k m = k := by
  rw [faultGo, if_neg h1, if_neg (by rw [h2]; simp), if_pos h3]
theorem faultGo_size {b : Int} {o : DOp} {r : List DOp} {p : Option DOp} {k : Nat} {m : Int} (h1 : ¬ k = 200) (h2 : isOpB o.fr o.len o.tx b = true) (h3 : behind p o = true) (h4 : 2000 - m < sizeI o.len o.tx) : faultGo b (o :: r) p k m = k := by
  rw [faultGo, if_neg h1, if_neg (by rw [h2]; simp), if_neg (by rw [h3]; simp), if_pos h4]
theorem faultGo_step {b : Int} {o : DOp} {r : List DOp} {p : Option DOp} {k : Nat} {m : Int} (h1 : ¬ k = 200) (h2 : isOpB o.fr o.len o.tx b = true) (h3 : behind p o = true) (h4 : ¬ 2000 - m < sizeI o.len o.tx) : faultGo b (o :: r) p k m = faultGo b r (some o) (k + 1) (m + sizeI o.len o.tx) := by
  rw [faultGo, if_neg h1, if_neg (by rw [h2]; simp), if_neg (by rw [h3]; simp), if_neg h4]

set_option maxHeartbeats 4000000 in
theorem firstFault_any (b off cap : Nat) (xs : List DOp) (bs : Int) (w : World) (hbs : 0 ≤ bs) (hbs2 : bs ≤ 2000) (hx : xs.length ≤ 5000000000000) (hr : ReadsAt w b off xs) (hl : ∀ o ∈ xs, o.len ≤ 9223372036854775807) (hbw : b < w.heap.size) :
    Calls Tryz.prog 118 #[.slice (some ⟨b, off, none⟩) xs.length cap, .int .i64 bs] w fun e w' => e = .returned (.int .i64 (faultF xs bs)) ∧ Below w.heap.size w w' := by
  have HR : Hid (ReadsAt w b off xs) := hr
  clear hr
  go_enter Tryz.func118, Tryz.ntmps118
  go_wp2
  go_loopw [5, 10] (fun m c wr => ∃ (k : Nat) (made : Int) (p : Option DOp), k ≤ xs.length ∧ c = .int .i64 k ∧ m = .int .i64 made ∧ 0 ≤ made ∧ made ≤ 2000 ∧ Below w.heap.size w wr ∧ Hid (faultGo bs (xs.drop k) p k made = faultF xs bs) ∧
      Hid (k = 0 → p = none) ∧ Hid (0 < k → ∃ o, xs[k - 1]? = some o ∧ p = some o ∧ isOpB o.fr o.len o.tx bs = true))
    (fun _ c _ => xs.length + 1 - (intOf c).toNat)
  case atStart => exact ⟨0, 0, none, by omega, rfl, rfl, by omega, by omega, Below.refl _ _, rfl, fun _ => rfl, fun h => by omega⟩
  case round =>
    obtain ⟨k, made, p, hk, rfl, rfl, hm0, hm2, hb, HF, HP0, HP⟩ := hrel
    by_cases hlt : k < xs.length
    · obtain ⟨⟨f, l, t⟩, ho⟩ : ∃ o, xs[k]? = some o := ⟨xs[k], by simp [hlt]⟩
      obtain ⟨r0, r1, r2⟩ := HR.out k _ ho
      have hll : l ≤ 9223372036854775807 := hl _ (List.mem_of_getElem? ho)
      have c0 : wr.cell? ⟨b, off + k * 3, none⟩ = some (.int .i64 f) := (hb.cell (p := ⟨b, _, none⟩) hbw).trans r0
      have c1 : wr.cell? ⟨b, off + k * 3 + 1, none⟩ = some (.int .i64 l) := (hb.cell (p := ⟨b, _, none⟩) hbw).trans r1
      have c2 : wr.cell? ⟨b, off + k * 3 + 2, none⟩ = some (.string t) := (hb.cell (p := ⟨b, _, none⟩) hbw).trans r2
      have HO : Hid (xs[k]? = some ⟨f, l, t⟩) := ho
      have HF2 : Hid (faultGo bs (⟨f, l, t⟩ :: xs.drop (k + 1)) p k made = faultF xs bs) := by
        have := HF.out
        rwa [drop_cons ho] at this
      have hsz0 := hb.size
      clear ho r0 r1 r2 HF
      by_cases hk200 : k = 200
      · have hk2 : ((k : Int) == 200) = true := by simp; omega
        have HK : Hid (k = 200) := hk200
        clear hk200
        go_wp2
        go_ret
        refine ⟨ret_int ?_, hb.alloc (by omega) _⟩
        rw [← HF2.out, faultGo_200 HK.out]
      · have hk2 : ((k : Int) == 200) = false := by simp; omega
        go_wp2_with fail
        refine (isOp_any f l t bs _ hbs (by omega) hll).mono ?_
        rintro e w2 ⟨rfl, hb2⟩
        have hb2' : Below w.heap.size w w2 := (hb.alloc (by omega) _).trans (hb2.mono (by simp; omega))
        have hsz2 : wr.heap.size < w2.heap.size := by have := hb2.size; simp at this; omega
        have k0 : w2.cell? ⟨wr.heap.size, 0, none⟩ = some (.int .i64 f) := (hb2.cell (p := ⟨wr.heap.size, 0, none⟩) (by simp)).trans (by simp)
        have k1 : w2.cell? ⟨wr.heap.size, 1, none⟩ = some (.int .i64 l) := (hb2.cell (p := ⟨wr.heap.size, 1, none⟩) (by simp)).trans (by simp)
        have k2 : w2.cell? ⟨wr.heap.size, 2, none⟩ = some (.string t) := (hb2.cell (p := ⟨wr.heap.size, 2, none⟩) (by simp)).trans (by simp)
        clear hb2 c0 c1 c2
        cases hop : isOpB f l t bs
        · go_wp2
          go_ret
          refine ⟨ret_int ?_, hb2'⟩
          rw [← HF2.out, faultGo_op hk200 hop]
        · have HOP : Hid (isOpB f l t bs = true) := hop
          clear hop
          by_cases hk0 : k = 0
          · have hd : decide (0 < k) = false := by simp; omega
            have HB : Hid (behind p ⟨f, l, t⟩ = true) := by show behind p _ = true; rw [HP0.out hk0]; rfl
            have HK : Hid (k = 0) := hk0
            clear hk0
            go_wp2
            go_quiet (fail)
            have hs0 := sizeI_nonneg l t
            by_cases hsz4 : 2000 - made < sizeI l t
            · have HE : Hid (faultF xs bs = k) := by
                show faultF xs bs = _
                rw [← HF2.out]; exact faultGo_size hk200 HOP.out HB.out hsz4
              generalize hz : sizeI l t = z at *
              have HZ : Hid (sizeI l t = z) := hz
              clear hz
              go_wp2_with fail
              refine (size_any f l t _).mono ?_
              rintro e w4 ⟨rfl, hb4⟩
              rw [HZ.out]
              have R2 : Below w.heap.size w w4 := (hb2'.trans (below_drewN0 _ w2 nq)).trans (hb4.mono (by simp; omega))
              clear hb4
              go_wp2
              go_ret
              refine ⟨ret_int ?_, R2⟩
              rw [HE.out]
            · have HE : Hid (faultGo bs (xs.drop (k + 1)) (some ⟨f, l, t⟩) (k + 1) (made + sizeI l t) = faultF xs bs) := by
                show _ = faultF xs bs
                rw [← HF2.out]; exact (faultGo_step hk200 HOP.out HB.out hsz4).symm
              generalize hz : sizeI l t = z at *
              have HZ : Hid (sizeI l t = z) := hz
              clear hz
              go_wp2_with fail
              refine (size_any f l t _).mono ?_
              rintro e w4 ⟨rfl, hb4⟩
              rw [HZ.out]
              have R2 : Below w.heap.size w w4 := (hb2'.trans (below_drewN0 _ w2 nq)).trans (hb4.mono (by simp; omega))
              have g3 : w4.cell? ⟨wr.heap.size, 0, none⟩ = some (.int .i64 f) := (hb4.cell (p := ⟨wr.heap.size, 0, none⟩) hsz2).trans k0
              have g4 : w4.cell? ⟨wr.heap.size, 1, none⟩ = some (.int .i64 l) := (hb4.cell (p := ⟨wr.heap.size, 1, none⟩) hsz2).trans k1
              have g5 : w4.cell? ⟨wr.heap.size, 2, none⟩ = some (.string t) := (hb4.cell (p := ⟨wr.heap.size, 2, none⟩) hsz2).trans k2
              have hz4 : w.heap.size ≤ w4.heap.size := R2.size
              clear hb4
              go_wp2_with fail
              refine (size_any f l t _).mono ?_
              rintro e w5 ⟨rfl, hb5⟩
              rw [HZ.out]
              have R3 : Below w.heap.size w w5 := R2.trans (hb5.mono hz4)
              clear hb5
              go_wp2
              go_roundw
              case rel => exact ⟨k + 1, made + z, some ⟨f, l, t⟩, by omega, by go_num, rfl, by omega, by omega, R3, HE, fun h => by omega, fun _ => ⟨_, HO.out, rfl, HOP.out⟩⟩
              case measure => simp [intOf]; omega
          · have hd : decide ((0 : Int) < (k : Int)) = true := by simp; omega
            obtain ⟨⟨pf, pl, pt⟩, ho, hp, hop⟩ := HP.out (by omega)
            obtain ⟨r0, r1, r2⟩ := HR.out (k - 1) _ ho
            have d0 : w2.cell? ⟨b, off + (k - 1) * 3, none⟩ = some (.int .i64 pf) := (hb2'.cell (p := ⟨b, _, none⟩) hbw).trans r0
            have d1 : w2.cell? ⟨b, off + (k - 1) * 3 + 1, none⟩ = some (.int .i64 pl) := (hb2'.cell (p := ⟨b, _, none⟩) hbw).trans r1
            have d2 : w2.cell? ⟨b, off + (k - 1) * 3 + 2, none⟩ = some (.string pt) := (hb2'.cell (p := ⟨b, _, none⟩) hbw).trans r2
            have g1 : 0 < pl → 0 ≤ pf := fun h => (isOpB_copy hop h).1
            have g2 : 0 < pl → pf + pl ≤ 9223372036854775807 := fun h => by have := (isOpB_copy hop h).2; simp only at this; omega
            have HPP : Hid (p = some ⟨pf, pl, pt⟩) := hp
            obtain ⟨k', rfl⟩ : ∃ k', k = k' + 1 := ⟨k - 1, by omega⟩
            simp only [Nat.add_sub_cancel] at d0 d1 d2
            clear ho hp hop r0 r1 r2
            have HM : Hid (∀ W, Calls Tryz.prog 140 #[.agg #[.int .i64 pf, .int .i64 pl, .string pt], .agg #[.int .i64 f, .int .i64 l, .string t]] W fun e w' => e = .returned (.bool (followB pf pl f l)) ∧ Below W.heap.size W w') := fun W => mayFollow_any pf pl f l pt t W g1 g2
            clear g1 g2
            have q1 : (k' : Int) < (xs.length : Int) := by omega
            have q2 : k' < xs.length := by omega
            have q3 : (0 : Int) ≤ (k' : Int) := by omega
            have q5 : IntKind.i64.wrap (k' : Int) = (k' : Int) := by rw [IntKind.wrap_i64]; omega
            have q4 : b < w2.heap.size := by have := hb2'.size; omega
            cases hfo : followB pf pl f l
            · rw [hfo] at HM
              go_wp2
              go_region_held3 (fun w' => w'.cell? ⟨b, off + k' * 3, none⟩ = some (.int .i64 pf) ∧ w'.cell? ⟨b, off + k' * 3 + 1, none⟩ = some (.int .i64 pl) ∧ w'.cell? ⟨b, off + k' * 3 + 2, none⟩ = some (.string pt) ∧ w'.cell? ⟨wr.heap.size, 0, none⟩ = some (.int .i64 f) ∧ w'.cell? ⟨wr.heap.size, 1, none⟩ = some (.int .i64 l) ∧ w'.cell? ⟨wr.heap.size, 2, none⟩ = some (.string t)) (go_keep)
                (first | (go_at_call 140; refine (HM.out _).mono ?_; rintro e w3 ⟨rfl, hb3⟩; have e0 := (hb3.cell (p := ⟨b, off + k' * 3, none⟩) q4).trans d0; have e1 := (hb3.cell (p := ⟨b, off + k' * 3 + 1, none⟩) q4).trans d1; have e2 := (hb3.cell (p := ⟨b, off + k' * 3 + 2, none⟩) q4).trans d2; have e3 := (hb3.cell (p := ⟨wr.heap.size, 0, none⟩) hsz2).trans k0; have e4 := (hb3.cell (p := ⟨wr.heap.size, 1, none⟩) hsz2).trans k1; have e5 := (hb3.cell (p := ⟨wr.heap.size, 2, none⟩) hsz2).trans k2))
              have HB : Hid (behind p ⟨f, l, t⟩ = false) := by show behind p _ = false; rw [HPP.out]; exact hfo
              have R2 : Below w.heap.size w w3 := (hb2'.drew).trans (hb3.mono (by have := hb2'.size; simpa using this))
              clear hb3
              go_wp2
              go_ret
              refine ⟨ret_int ?_, R2⟩
              rw [← HF2.out, faultGo_behind hk200 HOP.out HB.out]; simp
            · rw [hfo] at HM
              go_wp2
              go_region_held3 (fun w' => w'.cell? ⟨b, off + k' * 3, none⟩ = some (.int .i64 pf) ∧ w'.cell? ⟨b, off + k' * 3 + 1, none⟩ = some (.int .i64 pl) ∧ w'.cell? ⟨b, off + k' * 3 + 2, none⟩ = some (.string pt) ∧ w'.cell? ⟨wr.heap.size, 0, none⟩ = some (.int .i64 f) ∧ w'.cell? ⟨wr.heap.size, 1, none⟩ = some (.int .i64 l) ∧ w'.cell? ⟨wr.heap.size, 2, none⟩ = some (.string t)) (go_keep)
                (first | (go_at_call 140; refine (HM.out _).mono ?_; rintro e w3 ⟨rfl, hb3⟩; have e0 := (hb3.cell (p := ⟨b, off + k' * 3, none⟩) q4).trans d0; have e1 := (hb3.cell (p := ⟨b, off + k' * 3 + 1, none⟩) q4).trans d1; have e2 := (hb3.cell (p := ⟨b, off + k' * 3 + 2, none⟩) q4).trans d2; have e3 := (hb3.cell (p := ⟨wr.heap.size, 0, none⟩) hsz2).trans k0; have e4 := (hb3.cell (p := ⟨wr.heap.size, 1, none⟩) hsz2).trans k1; have e5 := (hb3.cell (p := ⟨wr.heap.size, 2, none⟩) hsz2).trans k2))
              have HB : Hid (behind p ⟨f, l, t⟩ = true) := by show behind p _ = true; rw [HPP.out]; exact hfo
              have R1 : Below w.heap.size w w3 := (hb2'.drew).trans (hb3.mono (by have := hb2'.size; simpa using this))
              have hsz3 : wr.heap.size < w3.heap.size := by have := hb3.size; simp at this; omega
              clear hb3
              have hs0 := sizeI_nonneg l t
              by_cases hsz4 : 2000 - made < sizeI l t
              · have HE : Hid (faultF xs bs = (k' + 1)) := by
                  show faultF xs bs = _
                  rw [← HF2.out]; exact faultGo_size hk200 HOP.out HB.out hsz4
                generalize hz : sizeI l t = z at *
                have HZ : Hid (sizeI l t = z) := hz
                clear hz
                go_wp2_with fail
                refine (size_any f l t _).mono ?_
                rintro e w4 ⟨rfl, hb4⟩
                rw [HZ.out]
                have R2 : Below w.heap.size w w4 := R1.trans (hb4.mono (by omega))
                clear hb4
                go_wp2
                go_ret
                refine ⟨ret_int ?_, R2⟩
                rw [HE.out]; simp
              · have HE : Hid (faultGo bs (xs.drop ((k' + 1) + 1)) (some ⟨f, l, t⟩) ((k' + 1) + 1) (made + sizeI l t) = faultF xs bs) := by
                  show _ = faultF xs bs
                  rw [← HF2.out]; exact (faultGo_step hk200 HOP.out HB.out hsz4).symm
                generalize hz : sizeI l t = z at *
                have HZ : Hid (sizeI l t = z) := hz
                clear hz
                go_wp2_with fail
                refine (size_any f l t _).mono ?_
                rintro e w4 ⟨rfl, hb4⟩
                rw [HZ.out]
                have R2 : Below w.heap.size w w4 := R1.trans (hb4.mono (by omega))
                have g3 : w4.cell? ⟨wr.heap.size, 0, none⟩ = some (.int .i64 f) := (hb4.cell (p := ⟨wr.heap.size, 0, none⟩) hsz3).trans e3
                have g4 : w4.cell? ⟨wr.heap.size, 1, none⟩ = some (.int .i64 l) := (hb4.cell (p := ⟨wr.heap.size, 1, none⟩) hsz3).trans e4
                have g5 : w4.cell? ⟨wr.heap.size, 2, none⟩ = some (.string t) := (hb4.cell (p := ⟨wr.heap.size, 2, none⟩) hsz3).trans e5
                have hz4 : w.heap.size ≤ w4.heap.size := R2.size
                clear hb4
                go_wp2_with fail
                refine (size_any f l t _).mono ?_
                rintro e w5 ⟨rfl, hb5⟩
                rw [HZ.out]
                have R3 : Below w.heap.size w w5 := R2.trans (hb5.mono hz4)
                clear hb5
                go_wp2
                go_roundw
                case rel => exact ⟨(k' + 1) + 1, made + z, some ⟨f, l, t⟩, by omega, by go_num, rfl, by omega, by omega, R3, HE, fun h => by omega, fun _ => ⟨_, HO.out, rfl, HOP.out⟩⟩
                case measure => simp [intOf]; omega
    · go_wp2
      go_ret
      refine ⟨ret_int ?_, hb⟩
      have hke : k = xs.length := by omega
      have := HF.out
      rw [hke, List.drop_length, faultGo] at this
      rw [this]
end Go.Proofs.YtabpiaaknjcnkaaGreat

/-
  The walks over the Builder's copyCheck and WriteString.
-/
namespace Go.Proofs.YtabpiaaknjcnkaaGreat
open Go.RowKit
set_option linter.unusedVariables false
set_option linter.unusedSimpArgs false
set_option maxRecDepth 100000

theorem Tryz.infoByte : (Tryz.prog.info? 5).map (fun i => (i.zero, i.size, i.bytes)) = some (some (.int .u8 0), 1, 1) := by kernel_rfl
theorem Tryz.sizeBuilder : (Tryz.prog.info? 162).map (·.size) = some 2 := by kernel_rfl
theorem Tryz.liesBuilder : liesAt Tryz.prog Tryz.prog.depth 162 (2 / Tryz.prog.cellsOf 162) 0 162 1 = true := by kernel_rfl

set_option maxHeartbeats 1000000 in
theorem copyCheck_used (b : Nat) (w : World) (h0 : w.cell? ⟨b, 0, none⟩ = some (.pointer (some ⟨b, 0, none⟩))) :
    Calls Tryz.prog 142 #[.pointer (some ⟨b, 0, none⟩)] w fun e w' => e = .returned (.tuple #[]) ∧ w' = w := by
  obtain ⟨j, hj, _⟩ := Option.map_eq_some_iff.1 Tryz.sizeBuilder
  go_enter Tryz.func142, Tryz.ntmps142
  go_wp2
  rw [Lib.run_neq_ptr_same w _ Tryz.underlying160 hj]
  go_wp2
  go_end0
  exact ⟨rfl, rfl⟩

set_option maxHeartbeats 1000000 in
theorem copyCheck_fresh (b : Nat) (w : World) (h0 : w.cell? ⟨b, 0, none⟩ = some (.pointer none)) (hsh : w.shape? b = some (162, 2)) (hfz : w.frozen? ⟨b, 0, none⟩ = false) :
    Calls Tryz.prog 142 #[.pointer (some ⟨b, 0, none⟩)] w fun e w' => e = .returned (.tuple #[]) ∧ w' = w.setCell ⟨b, 0, none⟩ (.pointer (some ⟨b, 0, none⟩)) := by
  obtain ⟨j, hj, hjs⟩ := Option.map_eq_some_iff.1 Tryz.sizeBuilder
  go_enter Tryz.func142, Tryz.ntmps142
  go_wp2
  rw [Lib.run_to_unsafe w ⟨b, 0, none⟩ Tryz.underlying160 Tryz.underlying197 hj (by rw [hjs]; decide) hsh (Nat.zero_lt_succ 1)]
  simp only [Result.andThen]
  rw [Oper.upon_value]
  go_wp2
  rw [run_callFunc_extern Tryz.func153 (by kernel_rfl) (by kernel_rfl) (by kernel_rfl) (e := Extern.AbiNoEscape.same) (by kernel_rfl)]
  rw [Lib.run_noEscape]
  simp only [Result.andThen]
  rw [Oper.upon_value]
  go_wp2
  rw [Lib.run_from_unsafe w ⟨b, 0, none⟩ Tryz.underlying197 Tryz.underlying160 hj hsh Tryz.liesBuilder]
  simp only [Result.andThen]
  rw [Oper.upon_value]
  go_wp2
  go_end0
  exact ⟨rfl, rfl⟩

theorem copyCheck_any (B b : Nat) (bs : List Value) (w : World) (h : Lib.IsBuilder 162 5 B b bs w) :
    Calls Tryz.prog 142 #[.pointer (some ⟨b, 0, none⟩)] w fun e w' => e = .returned (.tuple #[]) ∧ (Lib.BuilderAt 162 5 B b (.pointer (some ⟨b, 0, none⟩)) bs w' ∧ Below B w w') := by
  rcases h with h | h
  · refine (copyCheck_fresh b w h.cell0 h.shape h.frozen0).mono ?_
    rintro e w' ⟨rfl, rfl⟩
    exact ⟨rfl, h.used _, (Below.refl B w).setCell (p := ⟨b, 0, none⟩) h.1 _⟩
  · refine (copyCheck_used b w h.cell0).mono ?_
    rintro e w' ⟨rfl, rfl⟩
    exact ⟨rfl, h, Below.refl B _⟩

set_option maxHeartbeats 2000000 in
theorem writeString_any (B b : Nat) (bs : List Value) (s : ByteArray) (w : World) (h : Lib.IsBuilder 162 5 B b bs w) (hlen : bs.length + s.size ≤ 140737488355328) (hBw : B ≤ w.heap.size) :
    Calls Tryz.prog 120 #[.pointer (some ⟨b, 0, none⟩), .string s] w fun e w' => e = .returned (.tuple #[.int .i64 s.size, .nilIface]) ∧ (Lib.BuilderAt 162 5 B b (.pointer (some ⟨b, 0, none⟩)) (bs ++ Lib.strCells s) w' ∧ Below B w w') := by
  obtain ⟨i0, hi, hz0, hz1, hz2⟩ := info_parts Tryz.infoByte
  go_enter Tryz.func120, Tryz.ntmps120
  go_wp2_with (go_at_call 142; refine (copyCheck_any B b bs _ h).mono ?_)
  rintro e w1 ⟨rfl, h1, hb1⟩
  obtain ⟨hB, v, hbk, hown, hne⟩ := h1
  have c0 : w1.cell? ⟨b, 0, none⟩ = some (.pointer (some ⟨b, 0, none⟩)) := by rw [Lib.cell_of_heap hbk]; rfl
  have c1 : w1.cell? ⟨b, 1, none⟩ = some v := by rw [Lib.cell_of_heap hbk]; rfl
  go_wp2_with (at_builtin; refine Lib.wpList_append_own_string _ rfl _ _ 48 9 rfl B 5 i0 Tryz.underlying48 Tryz.underlying9 hi hz0 hz1 hz2 _ _ _ rfl hown s rfl ?c3 ?c4 ?c5 ?_)
  case c3 => unfold maxLen; omega
  case c4 => omega
  case c5 => have := hb1.size; omega
  intro v' w2 hown' hgrow _
  have hlt : b < w1.heap.size := by
    rcases Nat.lt_or_ge b w1.heap.size with h' | h'
    · exact h'
    · simp [Array.getElem?_eq_none h'] at hbk
  have hb2 : w2.heap[b]? = some (.cells #[.pointer (some ⟨b, 0, none⟩), v] 162 (0, 0)) := by
    rw [hgrow.block b hlt (fun e => hne e.symm)]
    exact hbk
  have d0 : w2.cell? ⟨b, 0, none⟩ = some (.pointer (some ⟨b, 0, none⟩)) := by rw [Lib.cell_of_heap hb2]; rfl
  have d1 : w2.cell? ⟨b, 1, none⟩ = some v := by rw [Lib.cell_of_heap hb2]; rfl
  have f1 : w2.frozen? ⟨b, 1, none⟩ = false := Lib.frozen_of_heap hb2 1
  obtain ⟨ao, n', cap, rfl⟩ : ∃ ao n' cap, v' = .slice ao n' cap := by
    rcases hown'.2 with ⟨hv, _⟩ | ⟨g, cap, cur, hv, _⟩
    · exact ⟨_, _, _, hv⟩
    · exact ⟨_, _, _, hv⟩
  go_wp2
  go_ret2
  refine ⟨rfl, ?_, ?_⟩
  · exact Lib.BuilderAt.put (T := 162) (e := 5) hB hb2 (bs' := bs ++ Lib.strCells s) (by rw [List.length_append, Lib.strCells_length]; exact hown') (by decide)
  · exact (hb1.grown hgrow (by have := hb1.size; omega) (fun k hk => (hown.lt k hk).1)).setCell (p := ⟨b, 1, none⟩) hB _
end Go.Proofs.YtabpiaaknjcnkaaGreat

/-
  Plain facts on what describe finds: it is a delta, it makes the text again, its copies have eight bytes or more, no stretch of its texts stands in the base.
-/
namespace Go.Proofs.YtabpiaaknjcnkaaGreat
set_option linter.unusedVariables false
set_option linter.unusedSimpArgs false

/-- The bytes that ops make of a base. -/
def opBytes (B : List UInt8) (o : DOp) : List UInt8 := if 0 < o.len then (B.drop o.fr.toNat).take o.len.toNat else o.tx.data.toList
def madeL (B : List UInt8) (xs : List DOp) : List UInt8 := xs.flatMap (opBytes B)

theorem toEnd_data (s : ByteArray) (a : Nat) : (s.extract a s.size).data.toList = s.data.toList.drop a := by
  rw [Lib.extract_data, List.take_of_length_le (by rw [List.length_drop, ← Lib.size_eq]; omega)]
theorem same_toEnd (base next : ByteArray) (j at_ : Nat) : same (base.extract j base.size) (next.extract at_ next.size) = cpl (base.data.toList.drop j) (next.data.toList.drop at_) := by
  rw [same, toEnd_data, toEnd_data]
theorem isEmpty_iff (t : ByteArray) : t.toList.isEmpty = true ↔ t.size = 0 := by
  rw [Lib.toList_data, List.isEmpty_iff]
  exact ⟨fun h => by rw [Lib.size_eq, h]; rfl, fun h => List.eq_nil_of_length_eq_zero (by rw [← Lib.size_eq]; exact h)⟩
theorem addT_of_pos {t : ByteArray} (h : 0 < t.size) : addT t = [⟨0, 0, t⟩] := by
  have : t.toList.isEmpty = false := by
    cases e : t.toList.isEmpty
    · rfl
    · rw [isEmpty_iff] at e; omega
  simp [addT, this]
theorem addT_of_zero {t : ByteArray} (h : t.size = 0) : addT t = [] := by
  have := (isEmpty_iff t).2 h
  simp [addT, this]
theorem size_ext (s : ByteArray) (a b : Nat) (h : b ≤ s.size) : (s.extract a b).size = b - a := by
  rw [ByteArray.size_extract, Nat.min_eq_left h]

/-- What is known of a place of the walk: the places ahead of it, back to the text's start, have no stretch of the base. -/
structure At (base next : ByteArray) (f ts at_ : Nat) : Prop where
  h1 : ts ≤ at_
  h2 : at_ ≤ next.size
  h3 : next.size - at_ < f
  clean : ∀ p, ts ≤ p → p < at_ → p + 8 ≤ next.size → ∀ i, ¬ occ base.data.toList ((next.data.toList.drop p).take 8) i

theorem key_data (next : ByteArray) (at_ : Nat) : (next.extract at_ (at_ + 8)).data.toList = (next.data.toList.drop at_).take 8 := by
  rw [Lib.extract_data, show at_ + 8 - at_ = 8 from by omega]

/-- One step of the walk, with all that is known: a miss, a hit, the end. -/
theorem step {base next : ByteArray} {f ts at_ : Nat} (h : At base next f ts at_) :
    (descGo base next f ts at_ = addT (next.extract ts next.size) ∧ ¬ at_ + 8 ≤ next.size) ∨
    (∃ g, f = g + 1 ∧ descGo base next f ts at_ = descGo base next g ts (at_ + 1) ∧ At base next g ts (at_ + 1)) ∨
    (∃ g j n, f = g + 1 ∧ at_ + 8 ≤ next.size ∧ occ base.data.toList ((next.data.toList.drop at_).take 8) j ∧ n = cpl (base.data.toList.drop j) (next.data.toList.drop at_) ∧ 8 ≤ n ∧ j + n ≤ base.size ∧ at_ + n ≤ next.size ∧
      descGo base next f ts at_ = addT (next.extract ts at_) ++ ⟨j, n, ByteArray.empty⟩ :: descGo base next g (at_ + n) (at_ + n) ∧ At base next g (at_ + n) (at_ + n)) := by
  obtain ⟨h1, h2, h3, h4⟩ := h
  obtain ⟨g, rfl⟩ : ∃ g, f = g + 1 := ⟨f - 1, by omega⟩
  by_cases hlt : at_ + 8 ≤ next.size
  · cases hf : findFirst base.data.toList (next.extract at_ (at_ + 8)).data.toList with
    | none =>
      refine .inr (.inl ⟨g, rfl, ?_, by omega, by omega, by omega, ?_⟩)
      · rw [descGo, if_pos hlt, hf]
      · intro p hp hpa hp8
        by_cases e : p = at_
        · subst e
          have := findFirst_none hf
          rwa [key_data] at this
        · exact h4 p hp (by omega) hp8
    | some j =>
      have ho := (findFirst_some hf).2.1
      rw [key_data] at ho
      have hb := Lib.size_eq base
      have hn := Lib.size_eq next
      have hle := cpl_le (base.data.toList.drop j) (next.data.toList.drop at_)
      rw [List.length_drop, List.length_drop, ← hb, ← hn] at hle
      have hge : 8 ≤ cpl (base.data.toList.drop j) (next.data.toList.drop at_) :=
        cpl_ge _ _ 8 (by rw [List.length_drop]; have := ho.1; omega) (by rw [List.length_drop]; omega) ho.2
      refine .inr (.inr ⟨g, j, _, rfl, hlt, ho, rfl, hge, by have := ho.1; omega, by omega, ?_, by omega, by omega, by omega, fun p hp hpa => by omega⟩)
      rw [descGo, if_pos hlt, hf]
      simp only [same_toEnd]
  · refine .inl ⟨?_, hlt⟩
    rw [descGo, if_neg hlt]

/-- A property of every op, by the walk. -/
theorem every {base next : ByteArray} (Q : DOp → Prop) (hQt : ∀ ts at_, ts < at_ → at_ ≤ next.size → (∀ p, ts ≤ p → p + 8 ≤ at_ → ∀ i, ¬ occ base.data.toList ((next.data.toList.drop p).take 8) i) → Q ⟨0, 0, next.extract ts at_⟩)
    (hQc : ∀ j n : Nat, 8 ≤ n → j + n ≤ base.size → n ≤ next.size → Q ⟨j, n, ByteArray.empty⟩) {f ts at_ : Nat} (h : At base next f ts at_) : ∀ o ∈ descGo base next f ts at_, Q o := by
  induction f generalizing ts at_ with
  | zero => have := h.h3; omega
  | succ f ih =>
    rcases step h with ⟨e, hend⟩ | ⟨g, hg, e, h'⟩ | ⟨g, j, n, hg, h8, ho, hn, hn8, hjb, hnn, e, h'⟩
    · rw [e]
      intro o ho
      by_cases hp : 0 < (next.extract ts next.size).size
      · rw [addT_of_pos hp] at ho
        simp at ho; subst ho
        rw [size_ext _ _ _ (Nat.le_refl _)] at hp
        exact hQt ts next.size (by omega) (Nat.le_refl _) (fun p hp1 hp2 => h.clean p hp1 (by omega) hp2)
      · rw [addT_of_zero (by omega)] at ho; simp at ho
    · obtain rfl : f = g := by omega
      rw [e]; exact ih h'
    · obtain rfl : f = g := by omega
      rw [e]
      intro o ho'
      have h2 := h.h2
      rcases List.mem_append.1 ho' with ho' | ho'
      · by_cases hp : 0 < (next.extract ts at_).size
        · rw [addT_of_pos hp] at ho'
          simp at ho'; subst ho'
          rw [size_ext _ _ _ (by omega)] at hp
          exact hQt ts at_ (by omega) (by omega) (fun p hp1 hp2 => h.clean p hp1 (by omega) (by omega))
        · rw [addT_of_zero (by omega)] at ho'; simp at ho'
      · rcases List.mem_cons.1 ho' with rfl | ho'
        · exact hQc j n hn8 hjb (by omega)
        · exact ih h' o ho'

theorem length_go {base next : ByteArray} {f ts at_ : Nat} (h : At base next f ts at_) : 4 * (descGo base next f ts at_).length ≤ next.size - at_ + 4 := by
  induction f generalizing ts at_ with
  | zero => have := h.h3; omega
  | succ f ih =>
    have ha : ∀ t, (addT t).length ≤ 1 := fun t => by unfold addT; split <;> simp
    rcases step h with ⟨e, hend⟩ | ⟨g, hg, e, h'⟩ | ⟨g, j, n, hg, h8, ho, hn, hn8, hjb, hnn, e, h'⟩
    · rw [e]; have := ha (next.extract ts next.size); omega
    · obtain rfl : f = g := by omega
      rw [e]; have := ih h'; omega
    · obtain rfl : f = g := by omega
      rw [e, List.length_append, List.length_cons]
      have := ha (next.extract ts at_); have := ih h'; omega

/-- A copy that does not go on. -/
def Stops (base next : ByteArray) (p : Option DOp) (ts : Nat) : Prop :=
  p = none ∨ ∃ j n : Nat, p = some ⟨j, n, ByteArray.empty⟩ ∧ 0 < n ∧ (j + n = base.size ∨ ts = next.size ∨ base.data.toList[j + n]? ≠ next.data.toList[ts]?)

theorem behind_text {base next : ByteArray} {p : Option DOp} {ts : Nat} (h : Stops base next p ts) (t : ByteArray) : behind p ⟨0, 0, t⟩ = true := by
  rcases h with rfl | ⟨j, n, rfl, hn, _⟩
  · rfl
  · have : decide ((0 : Int) < (n : Int)) = true := by simp; omega
    simp [behind, followB, this]; omega

theorem fault_text {base next : ByteArray} {b : Int} {p : Option DOp} {ts at_ i : Nat} {m : Int} {r : List DOp} (hp : Stops base next p ts) (hlt : ts < at_) (ha : at_ ≤ next.size) (hi : i < 200) (hm : m + (at_ - ts) ≤ 2000) :
    faultGo b (⟨0, 0, next.extract ts at_⟩ :: r) p i m = faultGo b r (some ⟨0, 0, next.extract ts at_⟩) (i + 1) (m + (at_ - ts : Nat)) := by
  have hs := size_ext next ts at_ ha
  have he : (next.extract ts at_).toList.isEmpty = false := by
    cases e : (next.extract ts at_).toList.isEmpty
    · rfl
    · rw [isEmpty_iff] at e; omega
  have hop : isOpB 0 0 (next.extract ts at_) b = true := by simp [isOpB, he]
  have hsz : sizeI 0 (next.extract ts at_) = (at_ - ts : Nat) := by simp [sizeI, hs]
  rw [faultGo, if_neg (by omega)]
  dsimp only
  rw [hop, if_neg (by simp), behind_text hp, if_neg (by simp), hsz, if_neg (by omega)]

theorem fault_copy {b : Nat} {p : Option DOp} {j n i : Nat} {m : Int} {r : List DOp} (hp : behind p ⟨j, n, ByteArray.empty⟩ = true) (hn : 0 < n) (hjb : j + n ≤ b) (hi : i < 200) (hm : m + n ≤ 2000) :
    faultGo b (⟨j, n, ByteArray.empty⟩ :: r) p i m = faultGo b r (some ⟨j, n, ByteArray.empty⟩) (i + 1) (m + n) := by
  have hop : isOpB j n ByteArray.empty b = true := by
    have : (ByteArray.empty).toList.isEmpty = true := (isEmpty_iff _).2 rfl
    rw [isOpB, if_pos (by omega), this]; simp; omega
  have hsz : sizeI n ByteArray.empty = n := by rw [sizeI, if_pos (by omega)]
  rw [faultGo, if_neg (by omega)]
  dsimp only
  rw [hop, if_neg (by simp), hp, if_neg (by simp), hsz, if_neg (by omega)]

theorem fault_go {base next : ByteArray} {f ts at_ : Nat} (h : At base next f ts at_) (p : Option DOp) (i : Nat) (m : Int) (hp : Stops base next p ts)
    (hi : i + (descGo base next f ts at_).length ≤ 200) (hm0 : 0 ≤ m) (hm : m + (next.size - ts : Nat) ≤ 2000) : faultGo base.size (descGo base next f ts at_) p i m = i + (descGo base next f ts at_).length := by
  induction f generalizing ts at_ p i m with
  | zero => have := h.h3; omega
  | succ f ih =>
    have h1 := h.h1
    have h2 := h.h2
    rcases step h with ⟨e, hend⟩ | ⟨g, hg, e, h'⟩ | ⟨g, j, n, hg, h8, ho, hn, hn8, hjb, hnn, e, h'⟩
    · rw [e] at hi ⊢
      by_cases hlt : ts < next.size
      · rw [addT_of_pos (by rw [size_ext _ _ _ (Nat.le_refl _)]; omega)] at hi ⊢
        simp at hi
        rw [fault_text hp hlt (Nat.le_refl _) (by omega) (by omega)]
        simp [faultGo]
      · rw [addT_of_zero (by rw [size_ext _ _ _ (Nat.le_refl _)]; omega)] at hi ⊢
        simp [faultGo]
    · obtain rfl : f = g := by omega
      rw [e] at hi ⊢; exact ih h' p i m hp hi hm0 hm
    · obtain rfl : f = g := by omega
      have hst : Stops base next (some ⟨j, n, ByteArray.empty⟩) (at_ + n) := by
        refine .inr ⟨j, n, rfl, by omega, ?_⟩
        have hb := Lib.size_eq base
        have hnx := Lib.size_eq next
        have hoc := ho.1
        rcases cpl_stop (base.data.toList.drop j) (next.data.toList.drop at_) with hq | hq | hq
        · rw [← hn, List.length_drop] at hq; exact .inl (by omega)
        · rw [← hn, List.length_drop] at hq; exact .inr (.inl (by omega))
        · rw [← hn, List.getElem?_drop, List.getElem?_drop] at hq; exact .inr (.inr hq)
      rw [e] at hi ⊢
      rw [List.length_append, List.length_cons] at hi
      by_cases hlt : ts < at_
      · have ha : addT (next.extract ts at_) = [⟨0, 0, next.extract ts at_⟩] := addT_of_pos (by rw [size_ext _ _ _ (by omega)]; omega)
        rw [ha] at hi ⊢
        simp at hi
        have hbh : behind (some ⟨0, 0, next.extract ts at_⟩) ⟨j, n, ByteArray.empty⟩ = true := by
          have : decide ((0 : Int) < (n : Int)) = true := by simp; omega
          simp [behind, followB, this]; omega
        rw [List.singleton_append, fault_text hp hlt (by omega) (by omega) (by omega), fault_copy hbh (by omega) hjb (by omega) (by omega),
          ih h' (some ⟨j, n, ByteArray.empty⟩) (i + 1 + 1) _ hst (by omega) (by omega) (by omega)]
        simp; omega
      · obtain rfl : ts = at_ := by omega
        have ha : addT (next.extract ts ts) = [] := addT_of_zero (by rw [size_ext _ _ _ (by omega)]; omega)
        rw [ha] at hi ⊢
        simp at hi
        have hbh : behind p ⟨j, n, ByteArray.empty⟩ = true := by
          rcases hp with rfl | ⟨j0, n0, rfl, hn0, hq⟩
          · rfl
          · have d1 : decide ((0 : Int) < (n0 : Int)) = true := by simp; omega
            have d2 : decide ((0 : Int) < (n : Int)) = true := by simp; omega
            have hne : j ≠ j0 + n0 := by
              rintro rfl
              rcases hq with hq | hq | hq
              · omega
              · omega
              · apply hq
                have h0 : ((base.data.toList.drop (j0 + n0)).take 8)[0]? = ((next.data.toList.drop ts).take 8)[0]? := by rw [ho.2]
                simpa using h0
            have : ((j : Int) != (j0 : Int) + (n0 : Int)) = true := by
              rw [bne_iff_ne]; omega
            simp [behind, followB, d1, d2, this]; omega
        rw [List.nil_append, fault_copy hbh (by omega) hjb (by omega) (by omega), ih h' (some ⟨j, n, ByteArray.empty⟩) (i + 1) _ hst (by omega) (by omega) (by omega)]
        simp; omega

theorem at_start (base next : ByteArray) : At base next (next.size + 1) 0 0 := ⟨by omega, by omega, by omega, fun p _ h => by omega⟩

theorem descF_length {base next : ByteArray} : 4 * (descF base next).length ≤ next.size + 4 := by
  have := length_go (at_start base next); simpa [descF] using this
end Go.Proofs.YtabpiaaknjcnkaaGreat
