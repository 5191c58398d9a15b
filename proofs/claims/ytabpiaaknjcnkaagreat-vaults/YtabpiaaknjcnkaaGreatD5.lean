/-
  The walk over readOp.
-/
import Derived.Test.YtabpiaaknjcnkaaGreatD4
namespace Go.Proofs.YtabpiaaknjcnkaaGreat
open Go.RowKit
set_option linter.unusedVariables false
set_option linter.unusedSimpArgs false
set_option maxRecDepth 100000

/-- What readOp does. -/
def ReadPost (rb : Nat) (s : ByteArray) (out : List DOp) (total at_ : Nat) (w : World) (e : Ending) (w' : World) : Prop :=
  ((∃ p, readF s out total at_ = .inl p ∧ e = gaveUp p) ∨ ∃ o nx, readF s out total at_ = .inr (o, nx) ∧ e = .returned (.agg #[.int .i64 o.fr, .int .i64 o.len, .string o.tx]) ∧ RAt w' rb s nx) ∧ Moved rb w w'

theorem readF_num {s : ByteArray} {out : List DOp} {total at_ p : Nat} (h : numF s at_ = .inl p) : readF s out total at_ = .inl p := by unfold readF; rw [h]
theorem readF_len {s : ByteArray} {out : List DOp} {total at_ n nx : Nat} (h : numF s at_ = .inr (n, nx)) (hb : n / 2 = 0 ∨ 2000 < total + n / 2) : readF s out total at_ = .inl at_ := by
  unfold readF; rw [h]; simp only [if_pos hb]
theorem readF_text {s : ByteArray} {out : List DOp} {total at_ n nx : Nat} (h : numF s at_ = .inr (n, nx)) (hb : ¬ (n / 2 = 0 ∨ 2000 < total + n / 2)) (h2 : n % 2 = 0) :
    readF s out total at_ = if lastText out = true then .inl at_ else if s.size < nx + n / 2 then .inl s.size else .inr (⟨0, 0, s.extract nx (nx + n / 2)⟩, nx + n / 2) := by
  unfold readF; rw [h]; simp only [if_neg hb, if_pos h2]
theorem readF_copy_num {s : ByteArray} {out : List DOp} {total at_ n nx p : Nat} (h : numF s at_ = .inr (n, nx)) (hb : ¬ (n / 2 = 0 ∨ 2000 < total + n / 2)) (h2 : ¬ n % 2 = 0) (h3 : numF s nx = .inl p) : readF s out total at_ = .inl p := by
  unfold readF; rw [h]; simp only [if_neg hb, if_neg h2, h3]
theorem readF_copy_bad {s : ByteArray} {out : List DOp} {total at_ n nx f b : Nat} (h : numF s at_ = .inr (n, nx)) (hb : ¬ (n / 2 = 0 ∨ 2000 < total + n / 2)) (h2 : ¬ n % 2 = 0) (h3 : numF s nx = .inr (f, b))
    (h4 : 2000 < f + n / 2 ∨ goesOn out f (n / 2 : Nat) = true) : readF s out total at_ = .inl nx := by
  unfold readF; rw [h]; simp only [if_neg hb, if_neg h2, h3, if_pos h4]
theorem readF_copy_ok {s : ByteArray} {out : List DOp} {total at_ n nx f b : Nat} (h : numF s at_ = .inr (n, nx)) (hb : ¬ (n / 2 = 0 ∨ 2000 < total + n / 2)) (h2 : ¬ n % 2 = 0) (h3 : numF s nx = .inr (f, b))
    (h4 : ¬ (2000 < f + n / 2 ∨ goesOn out f (n / 2 : Nat) = true)) : readF s out total at_ = .inr (⟨f, (n / 2 : Nat), ⟨#[]⟩⟩, b) := by
  unfold readF; rw [h]; simp only [if_neg hb, if_neg h2, h3, if_neg h4]

set_option maxHeartbeats 4000000 in
theorem readOp_any (rb : Nat) (s : ByteArray) (out : List DOp) (va : Value) (base total at_ : Nat) (w : World) (h : RAt w rb s at_) (ho : OwnOps w base va out) (hl : out.length ≤ 1000) (hsm : ∀ p ∈ out, 0 ≤ p.fr ∧ p.fr ≤ 100000000 ∧ 0 ≤ p.len ∧ p.len ≤ 100000000)
    (hst : at_ ≤ s.size) (hs : s.size ≤ 9223372036854775000) (ht : total ≤ 2000) :
    Calls Tryz.prog 145 #[.pointer (some ⟨rb, 0, none⟩), va, .int .i64 (2000 - total)] w (ReadPost rb s out total at_ w) := by
  have HR : Hid (RAt w rb s at_) := h
  have HO : Hid (OwnOps w base va out) := ho
  obtain ⟨ao, cap, hva⟩ := ho.slice
  subst hva
  have hrb : rb < w.heap.size := lt_of_block h
  clear h ho
  go_enter Tryz.func145, Tryz.ntmps145
  have B0 : Below w.heap.size w (w.alloc (.cells #[.int .i64 0, .int .i64 0, .string ⟨#[]⟩] 63)) := (Below.refl _ _).alloc (Nat.le_refl _) _
  have HR0 : Hid (RAt (w.alloc (.cells #[.int .i64 0, .int .i64 0, .string ⟨#[]⟩] 63)) rb s at_) := HR.out.kept B0
  have HO0 : Hid (OwnOps (w.alloc (.cells #[.int .i64 0, .int .i64 0, .string ⟨#[]⟩] 63)) base (.slice ao out.length cap) out) := HO.out.alloc _
  have HRes : Hid ((w.alloc (.cells #[.int .i64 0, .int .i64 0, .string ⟨#[]⟩] 63)).heap[w.heap.size]? = some (.cells #[.int .i64 0, .int .i64 0, .string ⟨#[]⟩] 63 (0, 0))) := heap_alloc_new _ _
  have HM0 : Hid (Moved rb w (w.alloc (.cells #[.int .i64 0, .int .i64 0, .string ⟨#[]⟩] 63))) := .of_below B0
  clear HR HO B0
  go_wp2_with fail
  refine (at_any rb s at_ _ HR0.out).mono ?_
  rintro e w1 ⟨rfl, rfl⟩
  go_wp2_with fail
  refine (number_any rb s at_ _ HR0.out hst hs).mono ?_
  rintro e w2 ⟨hcase, hm2⟩
  have HM2 : Hid (Moved rb w w2) := HM0.out.trans hm2
  have HO2 : Hid (OwnOps w2 base (.slice ao out.length cap) out) := HO0.out.moved HR0.out hm2
  have HRes2 : Hid (w2.heap[w.heap.size]? = some (.cells #[.int .i64 0, .int .i64 0, .string ⟨#[]⟩] 63 (0, 0))) := (hm2.block _ (by simp) (by omega)).trans HRes.out
  have hsz2 : w.heap.size + 1 ≤ w2.heap.size := by simpa using hm2.size
  clear hm2 HM0 HO0 HR0 HRes
  rcases hcase with ⟨p, hp, rfl⟩ | ⟨n, nx, hp, rfl, hr2⟩
  · have HP : Hid (readF s out total at_ = .inl p) := readF_num hp
    clear hp
    go_wp2
    exact ⟨rfl, .inl ⟨p, HP.out, rfl⟩, HM2.out⟩
  · have HP : Hid (numF s at_ = .inr (n, nx)) := hp
    obtain ⟨hn, _, hnx⟩ := numF_ok hst hp
    have HR2 : Hid (RAt w2 rb s nx) := hr2
    clear hp hr2
    by_cases hbad : n / 2 = 0 ∨ 2000 < total + n / 2
    · have HB : Hid (readF s out total at_ = .inl at_) := readF_len HP.out hbad
      obtain ⟨m, hm⟩ : ∃ m : Nat, (n : Int) / 2 = m := ⟨n / 2, by omega⟩
      by_cases h0 : m = 0
      · have h0' : (n : Int) / 2 = 0 := by omega
        clear hm
        go_wp2_with fail
        refine (giveup_any at_ _).mono ?_
        rintro e w6 ⟨rfl, rfl⟩
        go_wp2
        exact ⟨rfl, .inl ⟨at_, HB.out, rfl⟩, HM2.out⟩
      · have h1 : (2000 : Int) - total < m := by omega
        have h2 : ((m : Int) == 0) = false := by simp; omega
        go_wp2_with fail
        refine (giveup_any at_ _).mono ?_
        rintro e w6 ⟨rfl, rfl⟩
        go_wp2
        exact ⟨rfl, .inl ⟨at_, HB.out, rfl⟩, HM2.out⟩
    · have HB : Hid (¬ (n / 2 = 0 ∨ 2000 < total + n / 2)) := hbad
      obtain ⟨m, hm⟩ : ∃ m : Nat, (n : Int) / 2 = m := ⟨n / 2, by omega⟩
      have hmn : n / 2 = m := by omega
      have HMN : Hid (n / 2 = m) := hmn
      have h1 : ¬ (2000 : Int) - total < m := by omega
      have h2 : ((m : Int) == 0) = false := by simp; omega
      have hm0 : 0 < m := by omega
      have hm2 : total + m ≤ 2000 := by omega
      clear hbad hmn
      by_cases hodd : n % 2 = 0
      · have HE : Hid (n % 2 = 0) := hodd
        have hr : (n : Int) % 2 = 0 := by omega
        clear hodd
        by_cases hlt : lastText out = true
        · have HF : Hid (readF s out total at_ = .inl at_) := by show _ = _; rw [readF_text HP.out HB.out HE.out, if_pos hlt]
          rcases List.eq_nil_or_concat out with rfl | ⟨A, o, rfl⟩
          · simp [lastText] at hlt
          · rw [List.concat_eq_append] at *
            have hlen : (A ++ [o]).length = A.length + 1 := by simp
            rw [hlen] at HO2 hl ⊢
            obtain ⟨g, hao, hg⟩ : ∃ g, ao = some ⟨g, 0, none⟩ ∧ g < w2.heap.size := by
              rcases HO2.out.2 with ⟨_, h⟩ | ⟨g, cap', cur, h, _⟩
              · simp at h
              · injection h with h1 h2 h3
                exact ⟨g, h1, row_own_lt HO2.out (by rw [h1]; rfl)⟩
            subst hao
            obtain ⟨c0, c1, c2, _⟩ := own_cells (B := []) HO2.out
            obtain ⟨of, ol, ot⟩ := o
            simp only at c0 c1 c2
            have q2 : A.length < A.length + 1 := by omega
            have q9 : (A.length : Int) < (A.length : Int) + 1 := by omega
            have q3 : (0 : Int) ≤ (A.length : Int) := by omega
            have hd : decide (0 < ol) = false := by simpa [lastText] using hlt
            clear hlt hsm hlen
            go_wp2_with fail
            refine (isCopy_any of ol ot _).mono ?_
            rintro e w4 ⟨rfl, hb4⟩
            rw [hd]
            have HM4 : Hid (Moved rb w w4) := HM2.out.trans (.of_below hb4)
            clear hb4
            go_wp2_with fail
            refine (giveup_any at_ _).mono ?_
            rintro e w6 ⟨rfl, rfl⟩
            go_wp2
            exact ⟨rfl, .inl ⟨at_, HF.out, rfl⟩, HM4.out⟩
        · rcases List.eq_nil_or_concat out with rfl | ⟨A, o, rfl⟩
          · clear hsm
            by_cases hend : s.size < nx + m
            · have HF : Hid (readF s [] total at_ = .inl s.size) := by show _ = _; rw [readF_text HP.out HB.out HE.out, if_neg hlt, HMN.out, if_pos hend]
              go_wp2_with fail
              refine (text_end rb s nx m _ HR2.out hnx hend hs (by omega)).mono ?_
              rintro e w6 ⟨rfl, hm6⟩
              have HM6 : Hid (Moved rb w w6) := HM2.out.trans hm6
              clear hm6
              go_wp2
              exact ⟨rfl, .inl ⟨s.size, HF.out, rfl⟩, HM6.out⟩
            · have HF : Hid (readF s [] total at_ = .inr (⟨0, 0, s.extract nx (nx + m)⟩, nx + m)) := by show _ = _; rw [readF_text HP.out HB.out HE.out, if_neg hlt, HMN.out, if_neg hend]
              go_wp2_with fail
              refine (text_some rb s nx m _ HR2.out (by omega) hs (by omega)).mono ?_
              rintro e w6 ⟨rfl, hr6, hm6⟩
              have HM6 : Hid (Moved rb w w6) := HM2.out.trans hm6
              have HR6 : Hid (RAt w6 rb s (nx + m)) := hr6
              have ob : w6.heap[w.heap.size]? = some (.cells #[.int .i64 0, .int .i64 0, .string ⟨#[]⟩] 63 (0, 0)) := (hm6.block _ (by omega) (by omega)).trans HRes2.out
              have p0 : w6.cell? ⟨w.heap.size, 0, none⟩ = some (.int .i64 0) := by rw [Lib.cell_of_heap ob]; rfl
              have p1 : w6.cell? ⟨w.heap.size, 1, none⟩ = some (.int .i64 0) := by rw [Lib.cell_of_heap ob]; rfl
              have p2 : w6.cell? ⟨w.heap.size, 2, none⟩ = some (.string ⟨#[]⟩) := by rw [Lib.cell_of_heap ob]; rfl
              have pf := fun j => Lib.frozen_of_heap ob j
              clear ob hm6 hr6
              go_wp2
              refine bodyPost_ret (by simp [results, Tryz.results145, go_sem, p0, p1, p2]; rfl) rfl ?_
              exact ⟨.inr ⟨_, _, HF.out, rfl, rat_far HR6.out hrb⟩, moved_new HM6.out (Nat.le_refl _)⟩
          · rw [List.concat_eq_append] at *
            have hlen : (A ++ [o]).length = A.length + 1 := by simp
            rw [hlen] at HO2 hl ⊢
            obtain ⟨g, hao, hg⟩ : ∃ g, ao = some ⟨g, 0, none⟩ ∧ g < w2.heap.size := by
              rcases HO2.out.2 with ⟨_, h⟩ | ⟨g, cap', cur, h, _⟩
              · simp at h
              · injection h with h1 h2 h3
                exact ⟨g, h1, row_own_lt HO2.out (by rw [h1]; rfl)⟩
            subst hao
            obtain ⟨c0, c1, c2, _⟩ := own_cells (B := []) HO2.out
            obtain ⟨of, ol, ot⟩ := o
            simp only at c0 c1 c2
            have q2 : A.length < A.length + 1 := by omega
            have q9 : (A.length : Int) < (A.length : Int) + 1 := by omega
            have q3 : (0 : Int) ≤ (A.length : Int) := by omega
            have hd : decide (0 < ol) = true := by simpa [lastText] using hlt
            clear hsm hlen
            go_wp2_with fail
            refine (isCopy_any of ol ot _).mono ?_
            rintro e w4 ⟨rfl, hb4⟩
            rw [hd]
            have HM4 : Hid (Moved rb w w4) := HM2.out.trans (.of_below hb4)
            have HR4 : Hid (RAt w4 rb s nx) := HR2.out.kept hb4
            have HRes4 : Hid (w4.heap[w.heap.size]? = some (.cells #[.int .i64 0, .int .i64 0, .string ⟨#[]⟩] 63 (0, 0))) := (hb4.block _ (by omega)).trans HRes2.out
            have hsz4 : w.heap.size + 1 ≤ w4.heap.size := by have := hb4.size; omega
            clear hb4 c0 c1 c2
            by_cases hend : s.size < nx + m
            · have HF : Hid (readF s (A ++ [(⟨of, ol, ot⟩ : DOp)]) total at_ = .inl s.size) := by show _ = _; rw [readF_text HP.out HB.out HE.out, if_neg hlt, HMN.out, if_pos hend]
              go_wp2_with fail
              refine (text_end rb s nx m _ HR4.out hnx hend hs (by omega)).mono ?_
              rintro e w6 ⟨rfl, hm6⟩
              have HM6 : Hid (Moved rb w w6) := HM4.out.trans hm6
              clear hm6
              go_wp2
              exact ⟨rfl, .inl ⟨s.size, HF.out, rfl⟩, HM6.out⟩
            · have HF : Hid (readF s (A ++ [(⟨of, ol, ot⟩ : DOp)]) total at_ = .inr (⟨0, 0, s.extract nx (nx + m)⟩, nx + m)) := by show _ = _; rw [readF_text HP.out HB.out HE.out, if_neg hlt, HMN.out, if_neg hend]
              go_wp2_with fail
              refine (text_some rb s nx m _ HR4.out (by omega) hs (by omega)).mono ?_
              rintro e w6 ⟨rfl, hr6, hm6⟩
              have HM6 : Hid (Moved rb w w6) := HM4.out.trans hm6
              have HR6 : Hid (RAt w6 rb s (nx + m)) := hr6
              have ob : w6.heap[w.heap.size]? = some (.cells #[.int .i64 0, .int .i64 0, .string ⟨#[]⟩] 63 (0, 0)) := (hm6.block _ (by omega) (by omega)).trans HRes4.out
              have p0 : w6.cell? ⟨w.heap.size, 0, none⟩ = some (.int .i64 0) := by rw [Lib.cell_of_heap ob]; rfl
              have p1 : w6.cell? ⟨w.heap.size, 1, none⟩ = some (.int .i64 0) := by rw [Lib.cell_of_heap ob]; rfl
              have p2 : w6.cell? ⟨w.heap.size, 2, none⟩ = some (.string ⟨#[]⟩) := by rw [Lib.cell_of_heap ob]; rfl
              have pf := fun j => Lib.frozen_of_heap ob j
              clear ob hm6 hr6
              go_wp2
              refine bodyPost_ret (by simp [results, Tryz.results145, go_sem, p0, p1, p2]; rfl) rfl ?_
              exact ⟨.inr ⟨_, _, HF.out, rfl, rat_far HR6.out hrb⟩, moved_new HM6.out (Nat.le_refl _)⟩
      · have hr : (n : Int) % 2 = 1 := by omega
        have HE : Hid (¬ n % 2 = 0) := hodd
        clear hodd
        go_wp2_with fail
        refine (readCopy_any rb s out _ base m nx _ HR2.out HO2.out hl hsm hnx hs hm0 (by omega)).mono ?_
        rintro e w4 ⟨hcase, hm4⟩
        have HM4 : Hid (Moved rb w w4) := HM2.out.trans hm4
        have ob : w4.heap[w.heap.size]? = some (.cells #[.int .i64 0, .int .i64 0, .string ⟨#[]⟩] 63 (0, 0)) := (hm4.block _ (by omega) (by omega)).trans HRes2.out
        have p0 : w4.cell? ⟨w.heap.size, 0, none⟩ = some (.int .i64 0) := by rw [Lib.cell_of_heap ob]; rfl
        have p1 : w4.cell? ⟨w.heap.size, 1, none⟩ = some (.int .i64 0) := by rw [Lib.cell_of_heap ob]; rfl
        have p2 : w4.cell? ⟨w.heap.size, 2, none⟩ = some (.string ⟨#[]⟩) := by rw [Lib.cell_of_heap ob]; rfl
        have pf := fun j => Lib.frozen_of_heap ob j
        clear ob hm4
        rcases hcase with ⟨p, rfl, hp⟩ | ⟨f, b, h3, h4, rfl, hr4⟩
        · have HF : Hid (readF s out total at_ = .inl p) := by
            rcases hp with hp | ⟨f, b, h3, h4, rfl⟩
            · exact readF_copy_num HP.out HB.out HE.out hp
            · exact readF_copy_bad HP.out HB.out HE.out h3 (by rw [HMN.out]; exact h4)
          clear hp
          go_wp2
          exact ⟨rfl, .inl ⟨p, HF.out, rfl⟩, HM4.out⟩
        · have HF : Hid (readF s out total at_ = .inr (⟨f, (m : Int), ⟨#[]⟩⟩, b)) := by
            have := readF_copy_ok HP.out HB.out HE.out h3 (by rw [HMN.out]; exact h4)
            rwa [HMN.out] at this
          have HR4 : Hid (RAt w4 rb s b) := hr4
          clear h3 h4 hr4
          go_wp2
          refine bodyPost_ret (by simp [results, Tryz.results145, go_sem, p0, p1, p2]; rfl) rfl ?_
          exact ⟨.inr ⟨_, b, HF.out, rfl, rat_far HR4.out hrb⟩, moved_new HM4.out (Nat.le_refl _)⟩
end Go.Proofs.YtabpiaaknjcnkaaGreat
