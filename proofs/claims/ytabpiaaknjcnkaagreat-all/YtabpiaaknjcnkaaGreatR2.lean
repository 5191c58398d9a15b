/-
  The document's answer: Wrong, Apply.
-/
import Derived.Test.YtabpiaaknjcnkaaGreatXL6R1
import Derived.LoopTactic
namespace Go.Proofs.YtabpiaaknjcnkaaGreat
open Go.RowKit
set_option linter.unusedVariables false
set_option linter.unusedSimpArgs false
set_option maxRecDepth 100000

/-- What the document's answer says of a row of ops. -/
def wrongI (xs : List DOp) (b : Int) : Int := if faultF xs b < xs.length then (faultF xs b : Int) else -1

set_option maxHeartbeats 8000000 in
theorem wrong_two (b off cap : Nat) (xs : List DOp) (bs : Int) (w : World) (hbs : 0 ≤ bs) (hbs2 : bs ≤ 2000) (hx : xs.length ≤ 5000000000000) (hr : ReadsAt w b off xs) (hl : ∀ o ∈ xs, o.len ≤ 9223372036854775807) (hts : ∀ o ∈ xs, o.tx.size ≤ 9223372036854770000) (hbw : b < w.heap.size) :
    Calls Tryz.prog 96 #[.slice (some ⟨b, off, none⟩) xs.length cap, .int .i64 bs] w fun e w' => e = .returned (.int .i64 (wrongI xs bs)) ∧ Below w.heap.size w w' := by
  have HR : Hid (ReadsAt w b off xs) := hr
  have HL : Hid (∀ o ∈ xs, o.len ≤ 9223372036854775807) := hl
  have HT : Hid (∀ o ∈ xs, o.tx.size ≤ 9223372036854770000) := hts
  clear hr hl hts
  go_enter Tryz.func96, Tryz.ntmps96
  go_wp2
  go_loopw [5, 6] (fun m c wr => ∃ (k : Nat) (made : Int) (p : Option DOp), k ≤ xs.length ∧ c = .int .i64 k ∧ m = .int .i64 made ∧ 0 ≤ made ∧ made ≤ 2000 ∧ Below w.heap.size w wr ∧ Hid (faultGo bs (xs.drop k) p k made = faultF xs bs) ∧
      Hid (k = 0 → p = none) ∧ Hid (0 < k → ∃ o, xs[k - 1]? = some o ∧ p = some o ∧ isOpB o.fr o.len o.tx bs = true) ∧ k ≤ 200)
    (fun _ c _ => xs.length + 1 - (intOf c).toNat)
  case atStart => exact ⟨0, 0, none, by omega, rfl, rfl, by omega, by omega, Below.refl _ _, rfl, fun _ => rfl, fun h => by omega, by omega⟩
  case round =>
    obtain ⟨k, made, p, hk, rfl, rfl, hm0, hm2, hb, HF, HP0, HP, hk200⟩ := hrel
    by_cases hlt : k < xs.length
    · obtain ⟨⟨f, l, t⟩, ho⟩ : ∃ o, xs[k]? = some o := ⟨xs[k], by simp [hlt]⟩
      obtain ⟨r0, r1, r2⟩ := HR.out k _ ho
      have hll : l ≤ 9223372036854775807 := HL.out _ (List.mem_of_getElem? ho)
      have htt : t.size ≤ 9223372036854770000 := HT.out _ (List.mem_of_getElem? ho)
      have c0 : wr.cell? ⟨b, off + k * 3, none⟩ = some (.int .i64 f) := (hb.cell (p := ⟨b, _, none⟩) hbw).trans r0
      have c1 : wr.cell? ⟨b, off + k * 3 + 1, none⟩ = some (.int .i64 l) := (hb.cell (p := ⟨b, _, none⟩) hbw).trans r1
      have c2 : wr.cell? ⟨b, off + k * 3 + 2, none⟩ = some (.string t) := (hb.cell (p := ⟨b, _, none⟩) hbw).trans r2
      have HO : Hid (xs[k]? = some ⟨f, l, t⟩) := ho
      have HF2 : Hid (faultGo bs (⟨f, l, t⟩ :: xs.drop (k + 1)) p k made = faultF xs bs) := by
        have := HF.out
        rwa [drop_cons ho] at this
      have hsz0 := hb.size
      have hbr : b < wr.heap.size := by omega
      have HLT : Hid (k < xs.length) := hlt
      clear ho r0 r1 r2 HF
      by_cases hk2 : k = 200
      · have hd : decide ((200 : Int) ≤ (k : Int)) = true := by simp; omega
        have HW : Hid (wrongI xs bs = (k : Int)) := by
          show wrongI xs bs = _
          have e : faultF xs bs = k := by rw [← HF2.out, faultGo_200 hk2]
          rw [wrongI, e, if_pos hlt]
        have HK : Hid (k = 200) := hk2
        have hk3 : 200 ≤ k := by omega
        clear hk2
        go_wp2
        all_goals (go_ret; exact ⟨ret_int (by have h := HW.out; omega), (by first | exact hb.alloc (by omega) _ | exact (hb.alloc (by omega) _).alloc (by simp; omega) _)⟩)
      · have hk3 : k < 200 := by omega
        rcases Int.lt_trichotomy l 0 with hl | hl | hl
        · skip
          have hl0 : (l == 0) = false := by simp; omega
          have hop : isOpB f l t bs = false := by rw [isOpB, if_neg (by omega), hl0]; simp
          have HW : Hid (wrongI xs bs = ((k : Nat) : Int)) := by
            show wrongI xs bs = _
            have e : faultF xs bs = k := by rw [← HF2.out]; exact faultGo_op hk2 hop
            rw [wrongI, e, if_pos HLT.out]
          go_wp2
          all_goals (go_ret; exact ⟨ret_int (by have h := HW.out; omega), (by first | exact hb.alloc (by omega) _ | exact (hb.alloc (by omega) _).alloc (by simp; omega) _)⟩)
        · subst hl
          cases hf : f == 0
          · skip
            have hop : isOpB f 0 t bs = false := by rw [isOpB, if_neg (by omega), hf]; simp
            have HW : Hid (wrongI xs bs = ((k : Nat) : Int)) := by
              show wrongI xs bs = _
              have e : faultF xs bs = k := by rw [← HF2.out]; exact faultGo_op hk2 hop
              rw [wrongI, e, if_pos HLT.out]
            go_wp2
            all_goals (go_ret; exact ⟨ret_int (by have h := HW.out; omega), (by first | exact hb.alloc (by omega) _ | exact (hb.alloc (by omega) _).alloc (by simp; omega) _)⟩)
          · skip
            obtain rfl : f = 0 := by simpa using hf
            clear hf
            cases ht : t.toList.isEmpty
            · skip
              have HOP : Hid (isOpB 0 0 t bs = true) := by show isOpB 0 0 t bs = true; rw [isOpB, if_neg (by omega), ht]; simp
              have HZ : Hid (sizeI 0 t = (t.size : Int)) := by show sizeI 0 t = _; rw [sizeI, if_neg (by omega)]
              by_cases hk0 : k = 0
              · have hd : ¬ (0 : Int) < (k : Int) := by omega
                have HB : Hid (behind p ⟨0, 0, t⟩ = true) := by show behind p _ = true; rw [HP0.out hk0]; rfl
                have HK : Hid (k = 0) := hk0
                clear hk0
                by_cases hsz : 2000 - made < (t.size : Int)
                · skip
                  have hsz2 : (2000 : Int) < made + (t.size : Int) := by omega
                  by_cases hn2 : 2000 < (t.size : Int)
                  · skip
                    have HW : Hid (wrongI xs bs = ((k : Nat) : Int)) := by
                      show wrongI xs bs = _
                      have e : faultF xs bs = k := by rw [← HF2.out]; exact faultGo_size hk2 HOP.out HB.out (by show 2000 - made < sizeI 0 t; rw [HZ.out]; exact hsz)
                      rw [wrongI, e, if_pos HLT.out]
                    go_wp2
                    all_goals (go_ret; exact ⟨ret_int (by have h := HW.out; omega), (by first | exact hb.alloc (by omega) _ | exact (hb.alloc (by omega) _).alloc (by simp; omega) _)⟩)
                  · skip
                    have HW : Hid (wrongI xs bs = ((k : Nat) : Int)) := by
                      show wrongI xs bs = _
                      have e : faultF xs bs = k := by rw [← HF2.out]; exact faultGo_size hk2 HOP.out HB.out (by show 2000 - made < sizeI 0 t; rw [HZ.out]; exact hsz)
                      rw [wrongI, e, if_pos HLT.out]
                    go_wp2
                    all_goals (go_ret; exact ⟨ret_int (by have h := HW.out; omega), (by first | exact hb.alloc (by omega) _ | exact (hb.alloc (by omega) _).alloc (by simp; omega) _)⟩)
                · skip
                  have HE : Hid (faultGo bs (xs.drop (k + 1)) (some ⟨0, 0, t⟩) (k + 1) (made + sizeI 0 t) = faultF xs bs) := by
                    show _ = faultF xs bs
                    rw [← HF2.out]; exact (faultGo_step hk2 HOP.out HB.out (by rw [HZ.out]; omega)).symm
                  rw [HZ.out] at HE
                  go_wp2
                  go_roundw
                  case rel => exact ⟨k + 1, made + (t.size : Int), some ⟨0, 0, t⟩, by omega, by go_num, by go_num, by omega, by omega, (by first | exact hb.alloc (by omega) _ | exact (hb.alloc (by omega) _).alloc (by simp; omega) _), HE, fun h => by omega, fun _ => ⟨_, HO.out, rfl, HOP.out⟩, by omega⟩
                  case measure => simp [intOf]; omega
              · skip
                obtain ⟨⟨pf, pl, pt⟩, hpo, hpp, hpv⟩ := HP.out (by omega)
                obtain ⟨k', rfl⟩ : ∃ k', k = k' + 1 := ⟨k - 1, by omega⟩
                simp only [Nat.add_sub_cancel] at hpo
                obtain ⟨r0, r1, r2⟩ := HR.out k' _ hpo
                have d0 : wr.cell? ⟨b, off + k' * 3, none⟩ = some (.int .i64 pf) := (hb.cell (p := ⟨b, _, none⟩) hbw).trans r0
                have d1 : wr.cell? ⟨b, off + k' * 3 + 1, none⟩ = some (.int .i64 pl) := (hb.cell (p := ⟨b, _, none⟩) hbw).trans r1
                have d2 : wr.cell? ⟨b, off + k' * 3 + 2, none⟩ = some (.string pt) := (hb.cell (p := ⟨b, _, none⟩) hbw).trans r2
                have HPP : Hid (p = some ⟨pf, pl, pt⟩) := hpp
                clear hpo hpp r0 r1 r2
                by_cases hpl : 0 < pl
                · have hpl0 : (pl == 0) = false := by simp; omega
                  have HB : Hid (behind p ⟨0, 0, t⟩ = true) := by show behind p _ = true; rw [HPP.out]; simp [behind, followB, hpl]
                  clear hpv
                  by_cases hsz : 2000 - made < (t.size : Int)
                  · skip
                    have hsz2 : (2000 : Int) < made + (t.size : Int) := by omega
                    by_cases hn2 : 2000 < (t.size : Int)
                    · skip
                      have HW : Hid (wrongI xs bs = (((k' + 1) : Nat) : Int)) := by
                        show wrongI xs bs = _
                        have e : faultF xs bs = (k' + 1) := by rw [← HF2.out]; exact faultGo_size hk2 HOP.out HB.out (by show 2000 - made < sizeI 0 t; rw [HZ.out]; exact hsz)
                        rw [wrongI, e, if_pos HLT.out]
                      go_wp2
                      all_goals (go_ret; exact ⟨ret_int (by have h := HW.out; omega), (by first | exact hb.alloc (by omega) _ | exact (hb.alloc (by omega) _).alloc (by simp; omega) _)⟩)
                    · skip
                      have HW : Hid (wrongI xs bs = (((k' + 1) : Nat) : Int)) := by
                        show wrongI xs bs = _
                        have e : faultF xs bs = (k' + 1) := by rw [← HF2.out]; exact faultGo_size hk2 HOP.out HB.out (by show 2000 - made < sizeI 0 t; rw [HZ.out]; exact hsz)
                        rw [wrongI, e, if_pos HLT.out]
                      go_wp2
                      all_goals (go_ret; exact ⟨ret_int (by have h := HW.out; omega), (by first | exact hb.alloc (by omega) _ | exact (hb.alloc (by omega) _).alloc (by simp; omega) _)⟩)
                  · skip
                    have HE : Hid (faultGo bs (xs.drop ((k' + 1) + 1)) (some ⟨0, 0, t⟩) ((k' + 1) + 1) (made + sizeI 0 t) = faultF xs bs) := by
                      show _ = faultF xs bs
                      rw [← HF2.out]; exact (faultGo_step hk2 HOP.out HB.out (by rw [HZ.out]; omega)).symm
                    rw [HZ.out] at HE
                    go_wp2
                    go_roundw
                    case rel => exact ⟨(k' + 1) + 1, made + (t.size : Int), some ⟨0, 0, t⟩, by omega, by go_num, by go_num, by omega, by omega, (by first | exact hb.alloc (by omega) _ | exact (hb.alloc (by omega) _).alloc (by simp; omega) _), HE, fun h => by omega, fun _ => ⟨_, HO.out, rfl, HOP.out⟩, by omega⟩
                    case measure => simp [intOf]; omega
                · have hpl0 : pl = 0 := by
                    rw [isOpB, if_neg hpl] at hpv
                    simp at hpv
                    omega
                  subst hpl0
                  have hnb : behind p ⟨0, 0, t⟩ = false := by rw [HPP.out]; simp [behind, followB]
                  clear hpv hpl
                  have HW : Hid (wrongI xs bs = (((k' + 1) : Nat) : Int)) := by
                    show wrongI xs bs = _
                    have e : faultF xs bs = (k' + 1) := by rw [← HF2.out]; exact faultGo_behind hk2 HOP.out hnb
                    rw [wrongI, e, if_pos HLT.out]
                  go_wp2
                  all_goals (go_ret; exact ⟨ret_int (by have h := HW.out; omega), (by first | exact hb.alloc (by omega) _ | exact (hb.alloc (by omega) _).alloc (by simp; omega) _)⟩)
            · skip
              have hop : isOpB 0 0 t bs = false := by rw [isOpB, if_neg (by omega), ht]; simp
              have HW : Hid (wrongI xs bs = ((k : Nat) : Int)) := by
                show wrongI xs bs = _
                have e : faultF xs bs = k := by rw [← HF2.out]; exact faultGo_op hk2 hop
                rw [wrongI, e, if_pos HLT.out]
              go_wp2
              all_goals (go_ret; exact ⟨ret_int (by have h := HW.out; omega), (by first | exact hb.alloc (by omega) _ | exact (hb.alloc (by omega) _).alloc (by simp; omega) _)⟩)
        · skip
          have hl0 : (l == 0) = false := by simp; omega
          by_cases hf0 : 0 ≤ f
          · cases ht : t.toList.isEmpty
            · skip
              have hop : isOpB f l t bs = false := by rw [isOpB, if_pos hl, ht]; simp
              have HW : Hid (wrongI xs bs = ((k : Nat) : Int)) := by
                show wrongI xs bs = _
                have e : faultF xs bs = k := by rw [← HF2.out]; exact faultGo_op hk2 hop
                rw [wrongI, e, if_pos HLT.out]
              go_wp2
              all_goals (go_ret; exact ⟨ret_int (by have h := HW.out; omega), (by first | exact hb.alloc (by omega) _ | exact (hb.alloc (by omega) _).alloc (by simp; omega) _)⟩)
            · by_cases hfb : f ≤ bs
              · by_cases hlb : l ≤ bs - f
                · have HOP : Hid (isOpB f l t bs = true) := by show isOpB f l t bs = true; rw [isOpB, if_pos hl, ht]; simp; omega
                  have HZ : Hid (sizeI l t = l) := by show sizeI l t = _; rw [sizeI, if_pos hl]
                  by_cases hk0 : k = 0
                  · have hd : ¬ (0 : Int) < (k : Int) := by omega
                    have HB : Hid (behind p ⟨f, l, t⟩ = true) := by show behind p _ = true; rw [HP0.out hk0]; rfl
                    have HK : Hid (k = 0) := hk0
                    clear hk0
                    by_cases hsz : 2000 - made < l
                    · skip
                      have HW : Hid (wrongI xs bs = ((k : Nat) : Int)) := by
                        show wrongI xs bs = _
                        have e : faultF xs bs = k := by rw [← HF2.out]; exact faultGo_size hk2 HOP.out HB.out (by show 2000 - made < sizeI l t; rw [HZ.out]; exact hsz)
                        rw [wrongI, e, if_pos HLT.out]
                      go_wp2
                      all_goals (go_ret; exact ⟨ret_int (by have h := HW.out; omega), (by first | exact hb.alloc (by omega) _ | exact (hb.alloc (by omega) _).alloc (by simp; omega) _)⟩)
                    · skip
                      have HE : Hid (faultGo bs (xs.drop (k + 1)) (some ⟨f, l, t⟩) (k + 1) (made + sizeI l t) = faultF xs bs) := by
                        show _ = faultF xs bs
                        rw [← HF2.out]; exact (faultGo_step hk2 HOP.out HB.out (by rw [HZ.out]; omega)).symm
                      rw [HZ.out] at HE
                      go_wp2
                      go_roundw
                      case rel => exact ⟨k + 1, made + l, some ⟨f, l, t⟩, by omega, by go_num, by go_num, by omega, by omega, (by first | exact hb.alloc (by omega) _ | exact (hb.alloc (by omega) _).alloc (by simp; omega) _), HE, fun h => by omega, fun _ => ⟨_, HO.out, rfl, HOP.out⟩, by omega⟩
                      case measure => simp [intOf]; omega
                  · skip
                    obtain ⟨⟨pf, pl, pt⟩, hpo, hpp, hpv⟩ := HP.out (by omega)
                    obtain ⟨k', rfl⟩ : ∃ k', k = k' + 1 := ⟨k - 1, by omega⟩
                    simp only [Nat.add_sub_cancel] at hpo
                    obtain ⟨r0, r1, r2⟩ := HR.out k' _ hpo
                    have d0 : wr.cell? ⟨b, off + k' * 3, none⟩ = some (.int .i64 pf) := (hb.cell (p := ⟨b, _, none⟩) hbw).trans r0
                    have d1 : wr.cell? ⟨b, off + k' * 3 + 1, none⟩ = some (.int .i64 pl) := (hb.cell (p := ⟨b, _, none⟩) hbw).trans r1
                    have d2 : wr.cell? ⟨b, off + k' * 3 + 2, none⟩ = some (.string pt) := (hb.cell (p := ⟨b, _, none⟩) hbw).trans r2
                    have HPP : Hid (p = some ⟨pf, pl, pt⟩) := hpp
                    clear hpo hpp r0 r1 r2
                    by_cases hpl : 0 < pl
                    · obtain ⟨hpf0, hpfl⟩ := isOpB_copy hpv hpl
                      simp only at hpf0 hpfl
                      clear hpv
                      cases hgo : (pf + pl == f)
                      · have HB : Hid (behind p ⟨f, l, t⟩ = true) := by
                          show behind p _ = true
                          have hne : (f != pf + pl) = true := by
                            rw [bne_iff_ne]
                            have : ¬ pf + pl = f := by simpa using hgo
                            omega
                          rw [HPP.out]; simp [behind, followB, hpl, hl, hne]
                        by_cases hsz : 2000 - made < l
                        · skip
                          have HW : Hid (wrongI xs bs = (((k' + 1) : Nat) : Int)) := by
                            show wrongI xs bs = _
                            have e : faultF xs bs = (k' + 1) := by rw [← HF2.out]; exact faultGo_size hk2 HOP.out HB.out (by show 2000 - made < sizeI l t; rw [HZ.out]; exact hsz)
                            rw [wrongI, e, if_pos HLT.out]
                          go_wp2
                          all_goals (go_ret; exact ⟨ret_int (by have h := HW.out; omega), (by first | exact hb.alloc (by omega) _ | exact (hb.alloc (by omega) _).alloc (by simp; omega) _)⟩)
                        · skip
                          have HE : Hid (faultGo bs (xs.drop ((k' + 1) + 1)) (some ⟨f, l, t⟩) ((k' + 1) + 1) (made + sizeI l t) = faultF xs bs) := by
                            show _ = faultF xs bs
                            rw [← HF2.out]; exact (faultGo_step hk2 HOP.out HB.out (by rw [HZ.out]; omega)).symm
                          rw [HZ.out] at HE
                          go_wp2
                          go_roundw
                          case rel => exact ⟨(k' + 1) + 1, made + l, some ⟨f, l, t⟩, by omega, by go_num, by go_num, by omega, by omega, (by first | exact hb.alloc (by omega) _ | exact (hb.alloc (by omega) _).alloc (by simp; omega) _), HE, fun h => by omega, fun _ => ⟨_, HO.out, rfl, HOP.out⟩, by omega⟩
                          case measure => simp [intOf]; omega
                      · have hnb : behind p ⟨f, l, t⟩ = false := by
                          have he : (f != pf + pl) = false := by
                            have : pf + pl = f := by simpa using hgo
                            simp; omega
                          rw [HPP.out]; simp [behind, followB, hpl, hl, he]
                        have HW : Hid (wrongI xs bs = (((k' + 1) : Nat) : Int)) := by
                          show wrongI xs bs = _
                          have e : faultF xs bs = (k' + 1) := by rw [← HF2.out]; exact faultGo_behind hk2 HOP.out hnb
                          rw [wrongI, e, if_pos HLT.out]
                        go_wp2
                        all_goals (go_ret; exact ⟨ret_int (by have h := HW.out; omega), (by first | exact hb.alloc (by omega) _ | exact (hb.alloc (by omega) _).alloc (by simp; omega) _)⟩)
                    · have HB : Hid (behind p ⟨f, l, t⟩ = true) := by
                        show behind p _ = true
                        have d1' : decide (0 < pl) = false := by simp; omega
                        rw [HPP.out]; simp [behind, followB, d1', hl] <;> omega
                      clear hpv
                      by_cases hsz : 2000 - made < l
                      · skip
                        have HW : Hid (wrongI xs bs = (((k' + 1) : Nat) : Int)) := by
                          show wrongI xs bs = _
                          have e : faultF xs bs = (k' + 1) := by rw [← HF2.out]; exact faultGo_size hk2 HOP.out HB.out (by show 2000 - made < sizeI l t; rw [HZ.out]; exact hsz)
                          rw [wrongI, e, if_pos HLT.out]
                        go_wp2
                        all_goals (go_ret; exact ⟨ret_int (by have h := HW.out; omega), (by first | exact hb.alloc (by omega) _ | exact (hb.alloc (by omega) _).alloc (by simp; omega) _)⟩)
                      · skip
                        have HE : Hid (faultGo bs (xs.drop ((k' + 1) + 1)) (some ⟨f, l, t⟩) ((k' + 1) + 1) (made + sizeI l t) = faultF xs bs) := by
                          show _ = faultF xs bs
                          rw [← HF2.out]; exact (faultGo_step hk2 HOP.out HB.out (by rw [HZ.out]; omega)).symm
                        rw [HZ.out] at HE
                        go_wp2
                        go_roundw
                        case rel => exact ⟨(k' + 1) + 1, made + l, some ⟨f, l, t⟩, by omega, by go_num, by go_num, by omega, by omega, (by first | exact hb.alloc (by omega) _ | exact (hb.alloc (by omega) _).alloc (by simp; omega) _), HE, fun h => by omega, fun _ => ⟨_, HO.out, rfl, HOP.out⟩, by omega⟩
                        case measure => simp [intOf]; omega
                · skip
                  have hop : isOpB f l t bs = false := by rw [isOpB, if_pos hl, ht]; simp; omega
                  have HW : Hid (wrongI xs bs = ((k : Nat) : Int)) := by
                    show wrongI xs bs = _
                    have e : faultF xs bs = k := by rw [← HF2.out]; exact faultGo_op hk2 hop
                    rw [wrongI, e, if_pos HLT.out]
                  go_wp2
                  all_goals (go_ret; exact ⟨ret_int (by have h := HW.out; omega), (by first | exact hb.alloc (by omega) _ | exact (hb.alloc (by omega) _).alloc (by simp; omega) _)⟩)
              · skip
                have hop : isOpB f l t bs = false := by rw [isOpB, if_pos hl, ht]; simp; omega
                have HW : Hid (wrongI xs bs = ((k : Nat) : Int)) := by
                  show wrongI xs bs = _
                  have e : faultF xs bs = k := by rw [← HF2.out]; exact faultGo_op hk2 hop
                  rw [wrongI, e, if_pos HLT.out]
                go_wp2
                all_goals (go_ret; exact ⟨ret_int (by have h := HW.out; omega), (by first | exact hb.alloc (by omega) _ | exact (hb.alloc (by omega) _).alloc (by simp; omega) _)⟩)
          · skip
            have hop : isOpB f l t bs = false := by rw [isOpB, if_pos hl]; simp; omega
            have HW : Hid (wrongI xs bs = ((k : Nat) : Int)) := by
              show wrongI xs bs = _
              have e : faultF xs bs = k := by rw [← HF2.out]; exact faultGo_op hk2 hop
              rw [wrongI, e, if_pos HLT.out]
            go_wp2
            all_goals (go_ret; exact ⟨ret_int (by have h := HW.out; omega), (by first | exact hb.alloc (by omega) _ | exact (hb.alloc (by omega) _).alloc (by simp; omega) _)⟩)
    · have HW : Hid (wrongI xs bs = -1) := by
        show wrongI xs bs = -1
        have := HF.out
        rw [show k = xs.length from by omega, List.drop_length, faultGo] at this
        rw [wrongI, ← this, if_neg (by omega)]
      go_wp2
      go_ret
      exact ⟨ret_int (by rw [HW.out]), hb⟩
end Go.Proofs.YtabpiaaknjcnkaaGreat
