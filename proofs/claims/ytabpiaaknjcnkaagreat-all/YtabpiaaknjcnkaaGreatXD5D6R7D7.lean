/- The texts D5, D6, R7, D7, one behind the other. -/
import Derived.Test.YtabpiaaknjcnkaaGreatD4
import Derived.Test.YtabpiaaknjcnkaaGreatXE2W9R6
import Derived.LoopTactic
import Derived.Defers
import Derived.Recover
/-
  The walk over readOp.
-/
namespace Go.Proofs.YtabpiaaknjcnkaaGreat
open Go.RowKit
set_option linter.unusedVariables false
set_option linter.unusedSimpArgs false
set_option maxRecDepth 100000

/-- What readOp does. -/
def ReadPost (rb : Nat) (s : ByteArray) (out : List DOp) (total at_ : Nat) (w : World) (e : Ending) (w' : World) : Prop :=
  ((∃ p, readF s out total at_ = .inl p ∧ e = gaveUp p) ∨ ∃ o nx, readF s out total at_ = .inr (o, nx) ∧ e = .returned (.agg #[.int .i64 o.fr, .int .i64 o.len, .string o.tx]) ∧ RAt w' rb s nx) ∧ Moved rb w w'

theorem readF_num {s : ByteArray} {out : List DOp} {total at_ p : Nat} (h : numF s at_ = .inl p) : readF s out total at_ = .inl p := by unfold readF; rw [h]
theorem readF_len {s : ByteArray} {out : List DOp} {total at_ n nx : Nat} (h : numF s at_ = .inr (n, nx)) (hb : n / 2 = 0 ∨ 2000 < total + n / 2) : readF s out total at_ = .inl at_ := by
  unfold readF; rw [h]; simp only [if_pos hb]
theorem readF_text {s : ByteArray} {out : List DOp} {total at_ n nx : Nat} (h : numF s at_ = .inr (n, nx)) (hb : ¬ (n / 2 = 0 ∨ 2000 < total + n / 2)) (h2 : n % 2 = 0) :
    readF s out total at_ = if lastText out = true then .inl at_ else if s.size < nx + n / 2 then .inl s.size else .inr (⟨0, 0, s.extract nx (nx + n / 2)⟩, nx + n / 2) := by
  unfold readF; rw [h]; simp only [if_neg hb, if_pos h2]
theorem readF_copy_num {s : ByteArray} {out : List DOp} {total at_ n nx p : Nat} (h : numF s at_ = .inr (n, nx)) (hb : ¬ (n / 2 = 0 ∨ 2000 < total + n / 2)) (h2 : ¬ n % 2 = 0) (h3 : numF s nx = .inl p) : readF s out total at_ = .inl p := by
  unfold readF; rw [h]; simp only [if_neg hb, if_neg h2, h3]
theorem readF_copy_bad {s : ByteArray} {out : List DOp} {total at_ n nx f b : Nat} (h : numF s at_ = .inr (n, nx)) (hb : ¬ (n / 2 = 0 ∨ 2000 < total + n / 2)) (h2 : ¬ n % 2 = 0) (h3 : numF s nx = .inr (f, b))
    (h4 : 2000 < f + n / 2 ∨ goesOn out f (n / 2 : Nat) = true) : readF s out total at_ = .inl nx := by
  unfold readF; rw [h]; simp only [if_neg hb, if_neg h2, h3, if_pos h4]
theorem readF_copy_ok {s : ByteArray} {out : List DOp} {total at_ n nx f b : Nat} (h : numF s at_ = .inr (n, nx)) (hb : ¬ (n / 2 = 0 ∨ 2000 < total + n / 2)) (h2 : ¬ n % 2 = 0) (h3 : numF s nx = .inr (f, b))
    (h4 : ¬ (2000 < f + n / 2 ∨ goesOn out f (n / 2 : Nat) = true)) : readF s out total at_ = .inr (⟨f, (n / 2 : Nat), ⟨#[]⟩⟩, b) := by
  unfold readF; rw [h]; simp only [if_neg hb, if_neg h2, h3, if_neg h4]

set_option maxHeartbeats 4000000 in
theorem readOp_any (rb : Nat) (s : ByteArray) (out : List DOp) (va : Value) (base total at_ : Nat) (w : World) (h : RAt w rb s at_) (ho : OwnOps w base va out) (hl : out.length ≤ 1000) (hsm : ∀ p ∈ out, 0 ≤ p.fr ∧ p.fr ≤ 100000000 ∧ 0 ≤ p.len ∧ p.len ≤ 100000000)
    (hst : at_ ≤ s.size) (hs : s.size ≤ 9223372036854775000) (ht : total ≤ 2000) :
    Calls Tryz.prog 145 #[.pointer (some ⟨rb, 0, none⟩), va, .int .i64 (2000 - total)] w (ReadPost rb s out total at_ w) := by
  have HR : Hid (RAt w rb s at_) := h
  have HO : Hid (OwnOps w base va out) := ho
  obtain ⟨ao, cap, hva⟩ := ho.slice
  subst hva
  have hrb : rb < w.heap.size := lt_of_block h
  clear h ho
  go_enter Tryz.func145, Tryz.ntmps145
  have B0 : Below w.heap.size w (w.alloc (.cells #[.int .i64 0, .int .i64 0, .string ⟨#[]⟩] 63)) := (Below.refl _ _).alloc (Nat.le_refl _) _
  have HR0 : Hid (RAt (w.alloc (.cells #[.int .i64 0, .int .i64 0, .string ⟨#[]⟩] 63)) rb s at_) := HR.out.kept B0
  have HO0 : Hid (OwnOps (w.alloc (.cells #[.int .i64 0, .int .i64 0, .string ⟨#[]⟩] 63)) base (.slice ao out.length cap) out) := HO.out.alloc _
  have HRes : Hid ((w.alloc (.cells #[.int .i64 0, .int .i64 0, .string ⟨#[]⟩] 63)).heap[w.heap.size]? = some (.cells #[.int .i64 0, .int .i64 0, .string ⟨#[]⟩] 63 (0, 0))) := heap_alloc_new _ _
  have HM0 : Hid (Moved rb w (w.alloc (.cells #[.int .i64 0, .int .i64 0, .string ⟨#[]⟩] 63))) := .of_below B0
  clear HR HO B0
  go_wp2_with fail
  refine (at_any rb s at_ _ HR0.out).mono ?_
  rintro e w1 ⟨rfl, rfl⟩
  go_wp2_with fail
  refine (number_any rb s at_ _ HR0.out hst hs).mono ?_
  rintro e w2 ⟨hcase, hm2⟩
  have HM2 : Hid (Moved rb w w2) := HM0.out.trans hm2
  have HO2 : Hid (OwnOps w2 base (.slice ao out.length cap) out) := HO0.out.moved HR0.out hm2
  have HRes2 : Hid (w2.heap[w.heap.size]? = some (.cells #[.int .i64 0, .int .i64 0, .string ⟨#[]⟩] 63 (0, 0))) := (hm2.block _ (by simp) (by omega)).trans HRes.out
  have hsz2 : w.heap.size + 1 ≤ w2.heap.size := by simpa using hm2.size
  clear hm2 HM0 HO0 HR0 HRes
  rcases hcase with ⟨p, hp, rfl⟩ | ⟨n, nx, hp, rfl, hr2⟩
  · have HP : Hid (readF s out total at_ = .inl p) := readF_num hp
    clear hp
    go_wp2
    exact ⟨rfl, .inl ⟨p, HP.out, rfl⟩, HM2.out⟩
  · have HP : Hid (numF s at_ = .inr (n, nx)) := hp
    obtain ⟨hn, _, hnx⟩ := numF_ok hst hp
    have HR2 : Hid (RAt w2 rb s nx) := hr2
    clear hp hr2
    by_cases hbad : n / 2 = 0 ∨ 2000 < total + n / 2
    · have HB : Hid (readF s out total at_ = .inl at_) := readF_len HP.out hbad
      obtain ⟨m, hm⟩ : ∃ m : Nat, (n : Int) / 2 = m := ⟨n / 2, by omega⟩
      by_cases h0 : m = 0
      · have h0' : (n : Int) / 2 = 0 := by omega
        clear hm
        go_wp2_with fail
        refine (giveup_any at_ _).mono ?_
        rintro e w6 ⟨rfl, rfl⟩
        go_wp2
        exact ⟨rfl, .inl ⟨at_, HB.out, rfl⟩, HM2.out⟩
      · have h1 : (2000 : Int) - total < m := by omega
        have h2 : ((m : Int) == 0) = false := by simp; omega
        go_wp2_with fail
        refine (giveup_any at_ _).mono ?_
        rintro e w6 ⟨rfl, rfl⟩
        go_wp2
        exact ⟨rfl, .inl ⟨at_, HB.out, rfl⟩, HM2.out⟩
    · have HB : Hid (¬ (n / 2 = 0 ∨ 2000 < total + n / 2)) := hbad
      obtain ⟨m, hm⟩ : ∃ m : Nat, (n : Int) / 2 = m := ⟨n / 2, by omega⟩
      have hmn : n / 2 = m := by omega
      have HMN : Hid (n / 2 = m) := hmn
      have h1 : ¬ (2000 : Int) - total < m := by omega
      have h2 : ((m : Int) == 0) = false := by simp; omega
      have hm0 : 0 < m := by omega
      have hm2 : total + m ≤ 2000 := by omega
      clear hbad hmn
      by_cases hodd : n % 2 = 0
      · have HE : Hid (n % 2 = 0) := hodd
        have hr : (n : Int) % 2 = 0 := by omega
        clear hodd
        by_cases hlt : lastText out = true
        · have HF : Hid (readF s out total at_ = .inl at_) := by show _ = _; rw [readF_text HP.out HB.out HE.out, if_pos hlt]
          rcases List.eq_nil_or_concat out with rfl | ⟨A, o, rfl⟩
          · simp [lastText] at hlt
          · rw [List.concat_eq_append] at *
            have hlen : (A ++ [o]).length = A.length + 1 := by simp
            rw [hlen] at HO2 hl ⊢
            obtain ⟨g, hao, hg⟩ : ∃ g, ao = some ⟨g, 0, none⟩ ∧ g < w2.heap.size := by
              rcases HO2.out.2 with ⟨_, h⟩ | ⟨g, cap', cur, h, _⟩
              · simp at h
              · injection h with h1 h2 h3
                exact ⟨g, h1, row_own_lt HO2.out (by rw [h1]; rfl)⟩
            subst hao
            obtain ⟨c0, c1, c2, _⟩ := own_cells (B := []) HO2.out
            obtain ⟨of, ol, ot⟩ := o
            simp only at c0 c1 c2
            have q2 : A.length < A.length + 1 := by omega
            have q9 : (A.length : Int) < (A.length : Int) + 1 := by omega
            have q3 : (0 : Int) ≤ (A.length : Int) := by omega
            have hd : decide (0 < ol) = false := by simpa [lastText] using hlt
            clear hlt hsm hlen
            go_wp2_with fail
            refine (isCopy_any of ol ot _).mono ?_
            rintro e w4 ⟨rfl, hb4⟩
            rw [hd]
            have HM4 : Hid (Moved rb w w4) := HM2.out.trans (.of_below hb4)
            clear hb4
            go_wp2_with fail
            refine (giveup_any at_ _).mono ?_
            rintro e w6 ⟨rfl, rfl⟩
            go_wp2
            exact ⟨rfl, .inl ⟨at_, HF.out, rfl⟩, HM4.out⟩
        · rcases List.eq_nil_or_concat out with rfl | ⟨A, o, rfl⟩
          · clear hsm
            by_cases hend : s.size < nx + m
            · have HF : Hid (readF s [] total at_ = .inl s.size) := by show _ = _; rw [readF_text HP.out HB.out HE.out, if_neg hlt, HMN.out, if_pos hend]
              go_wp2_with fail
              refine (text_end rb s nx m _ HR2.out hnx hend hs (by omega)).mono ?_
              rintro e w6 ⟨rfl, hm6⟩
              have HM6 : Hid (Moved rb w w6) := HM2.out.trans hm6
              clear hm6
              go_wp2
              exact ⟨rfl, .inl ⟨s.size, HF.out, rfl⟩, HM6.out⟩
            · have HF : Hid (readF s [] total at_ = .inr (⟨0, 0, s.extract nx (nx + m)⟩, nx + m)) := by show _ = _; rw [readF_text HP.out HB.out HE.out, if_neg hlt, HMN.out, if_neg hend]
              go_wp2_with fail
              refine (text_some rb s nx m _ HR2.out (by omega) hs (by omega)).mono ?_
              rintro e w6 ⟨rfl, hr6, hm6⟩
              have HM6 : Hid (Moved rb w w6) := HM2.out.trans hm6
              have HR6 : Hid (RAt w6 rb s (nx + m)) := hr6
              have ob : w6.heap[w.heap.size]? = some (.cells #[.int .i64 0, .int .i64 0, .string ⟨#[]⟩] 63 (0, 0)) := (hm6.block _ (by omega) (by omega)).trans HRes2.out
              have p0 : w6.cell? ⟨w.heap.size, 0, none⟩ = some (.int .i64 0) := by rw [Lib.cell_of_heap ob]; rfl
              have p1 : w6.cell? ⟨w.heap.size, 1, none⟩ = some (.int .i64 0) := by rw [Lib.cell_of_heap ob]; rfl
              have p2 : w6.cell? ⟨w.heap.size, 2, none⟩ = some (.string ⟨#[]⟩) := by rw [Lib.cell_of_heap ob]; rfl
              have pf := fun j => Lib.frozen_of_heap ob j
              clear ob hm6 hr6
              go_wp2
              refine bodyPost_ret (by simp [results, Tryz.results145, go_sem, p0, p1, p2]; rfl) rfl ?_
              exact ⟨.inr ⟨_, _, HF.out, rfl, rat_far HR6.out hrb⟩, moved_new HM6.out (Nat.le_refl _)⟩
          · rw [List.concat_eq_append] at *
            have hlen : (A ++ [o]).length = A.length + 1 := by simp
            rw [hlen] at HO2 hl ⊢
            obtain ⟨g, hao, hg⟩ : ∃ g, ao = some ⟨g, 0, none⟩ ∧ g < w2.heap.size := by
              rcases HO2.out.2 with ⟨_, h⟩ | ⟨g, cap', cur, h, _⟩
              · simp at h
              · injection h with h1 h2 h3
                exact ⟨g, h1, row_own_lt HO2.out (by rw [h1]; rfl)⟩
            subst hao
            obtain ⟨c0, c1, c2, _⟩ := own_cells (B := []) HO2.out
            obtain ⟨of, ol, ot⟩ := o
            simp only at c0 c1 c2
            have q2 : A.length < A.length + 1 := by omega
            have q9 : (A.length : Int) < (A.length : Int) + 1 := by omega
            have q3 : (0 : Int) ≤ (A.length : Int) := by omega
            have hd : decide (0 < ol) = true := by simpa [lastText] using hlt
            clear hsm hlen
            go_wp2_with fail
            refine (isCopy_any of ol ot _).mono ?_
            rintro e w4 ⟨rfl, hb4⟩
            rw [hd]
            have HM4 : Hid (Moved rb w w4) := HM2.out.trans (.of_below hb4)
            have HR4 : Hid (RAt w4 rb s nx) := HR2.out.kept hb4
            have HRes4 : Hid (w4.heap[w.heap.size]? = some (.cells #[.int .i64 0, .int .i64 0, .string ⟨#[]⟩] 63 (0, 0))) := (hb4.block _ (by omega)).trans HRes2.out
            have hsz4 : w.heap.size + 1 ≤ w4.heap.size := by have := hb4.size; omega
            clear hb4 c0 c1 c2
            by_cases hend : s.size < nx + m
            · have HF : Hid (readF s (A ++ [(⟨of, ol, ot⟩ : DOp)]) total at_ = .inl s.size) := by show _ = _; rw [readF_text HP.out HB.out HE.out, if_neg hlt, HMN.out, if_pos hend]
              go_wp2_with fail
              refine (text_end rb s nx m _ HR4.out hnx hend hs (by omega)).mono ?_
              rintro e w6 ⟨rfl, hm6⟩
              have HM6 : Hid (Moved rb w w6) := HM4.out.trans hm6
              clear hm6
              go_wp2
              exact ⟨rfl, .inl ⟨s.size, HF.out, rfl⟩, HM6.out⟩
            · have HF : Hid (readF s (A ++ [(⟨of, ol, ot⟩ : DOp)]) total at_ = .inr (⟨0, 0, s.extract nx (nx + m)⟩, nx + m)) := by show _ = _; rw [readF_text HP.out HB.out HE.out, if_neg hlt, HMN.out, if_neg hend]
              go_wp2_with fail
              refine (text_some rb s nx m _ HR4.out (by omega) hs (by omega)).mono ?_
              rintro e w6 ⟨rfl, hr6, hm6⟩
              have HM6 : Hid (Moved rb w w6) := HM4.out.trans hm6
              have HR6 : Hid (RAt w6 rb s (nx + m)) := hr6
              have ob : w6.heap[w.heap.size]? = some (.cells #[.int .i64 0, .int .i64 0, .string ⟨#[]⟩] 63 (0, 0)) := (hm6.block _ (by omega) (by omega)).trans HRes4.out
              have p0 : w6.cell? ⟨w.heap.size, 0, none⟩ = some (.int .i64 0) := by rw [Lib.cell_of_heap ob]; rfl
              have p1 : w6.cell? ⟨w.heap.size, 1, none⟩ = some (.int .i64 0) := by rw [Lib.cell_of_heap ob]; rfl
              have p2 : w6.cell? ⟨w.heap.size, 2, none⟩ = some (.string ⟨#[]⟩) := by rw [Lib.cell_of_heap ob]; rfl
              have pf := fun j => Lib.frozen_of_heap ob j
              clear ob hm6 hr6
              go_wp2
              refine bodyPost_ret (by simp [results, Tryz.results145, go_sem, p0, p1, p2]; rfl) rfl ?_
              exact ⟨.inr ⟨_, _, HF.out, rfl, rat_far HR6.out hrb⟩, moved_new HM6.out (Nat.le_refl _)⟩
      · have hr : (n : Int) % 2 = 1 := by omega
        have HE : Hid (¬ n % 2 = 0) := hodd
        clear hodd
        go_wp2_with fail
        refine (readCopy_any rb s out _ base m nx _ HR2.out HO2.out hl hsm hnx hs hm0 (by omega)).mono ?_
        rintro e w4 ⟨hcase, hm4⟩
        have HM4 : Hid (Moved rb w w4) := HM2.out.trans hm4
        have ob : w4.heap[w.heap.size]? = some (.cells #[.int .i64 0, .int .i64 0, .string ⟨#[]⟩] 63 (0, 0)) := (hm4.block _ (by omega) (by omega)).trans HRes2.out
        have p0 : w4.cell? ⟨w.heap.size, 0, none⟩ = some (.int .i64 0) := by rw [Lib.cell_of_heap ob]; rfl
        have p1 : w4.cell? ⟨w.heap.size, 1, none⟩ = some (.int .i64 0) := by rw [Lib.cell_of_heap ob]; rfl
        have p2 : w4.cell? ⟨w.heap.size, 2, none⟩ = some (.string ⟨#[]⟩) := by rw [Lib.cell_of_heap ob]; rfl
        have pf := fun j => Lib.frozen_of_heap ob j
        clear ob hm4
        rcases hcase with ⟨p, rfl, hp⟩ | ⟨f, b, h3, h4, rfl, hr4⟩
        · have HF : Hid (readF s out total at_ = .inl p) := by
            rcases hp with hp | ⟨f, b, h3, h4, rfl⟩
            · exact readF_copy_num HP.out HB.out HE.out hp
            · exact readF_copy_bad HP.out HB.out HE.out h3 (by rw [HMN.out]; exact h4)
          clear hp
          go_wp2
          exact ⟨rfl, .inl ⟨p, HF.out, rfl⟩, HM4.out⟩
        · have HF : Hid (readF s out total at_ = .inr (⟨f, (m : Int), ⟨#[]⟩⟩, b)) := by
            have := readF_copy_ok HP.out HB.out HE.out h3 (by rw [HMN.out]; exact h4)
            rwa [HMN.out] at this
          have HR4 : Hid (RAt w4 rb s b) := hr4
          clear h3 h4 hr4
          go_wp2
          refine bodyPost_ret (by simp [results, Tryz.results145, go_sem, p0, p1, p2]; rfl) rfl ?_
          exact ⟨.inr ⟨_, b, HF.out, rfl, rat_far HR4.out hrb⟩, moved_new HM4.out (Nat.le_refl _)⟩
end Go.Proofs.YtabpiaaknjcnkaaGreat

/-
  The walk over Read.
-/
namespace Go.Proofs.YtabpiaaknjcnkaaGreat
open Go.RowKit
set_option linter.unusedVariables false
set_option linter.unusedSimpArgs false
set_option maxRecDepth 100000

theorem readF_props {s : ByteArray} {out : List DOp} {total at_ nx : Nat} {o : DOp} (hst : at_ ≤ s.size) (ht : total ≤ 2000) (h : readF s out total at_ = .inr (o, nx)) :
    Nice o ∧ o.fr ≤ 2000 ∧ o.len ≤ 2000 ∧ o.tx.size ≤ 2000 ∧ total + sizeN o ≤ 2000 ∧ nx ≤ s.size ∧ at_ < nx := by
  cases h1 : numF s at_ with
  | inl p => rw [readF_num h1] at h; cases h
  | inr q =>
    obtain ⟨n, n1⟩ := q
    obtain ⟨a1, a2, a3⟩ := numF_ok hst h1
    by_cases hb : n / 2 = 0 ∨ 2000 < total + n / 2
    · rw [readF_len h1 hb] at h; cases h
    · by_cases h2 : n % 2 = 0
      · rw [readF_text h1 hb h2] at h
        split at h
        · cases h
        · split at h
          · cases h
          · rename_i hend
            simp only [Sum.inr.injEq, Prod.mk.injEq] at h
            obtain ⟨rfl, rfl⟩ := h
            have hsz : (s.extract n1 (n1 + n / 2)).size = n / 2 := by rw [size_ext _ _ _ (by omega)]; omega
            simp only [sizeN, sizeI, Int.lt_irrefl, if_false, hsz]
            refine ⟨.inr ⟨rfl, rfl, by simp only [hsz]; omega⟩, by omega, by omega, by omega, by omega, by omega, by omega⟩
      · cases h3 : numF s n1 with
        | inl p => rw [readF_copy_num h1 hb h2 h3] at h; cases h
        | inr q =>
          obtain ⟨f, b⟩ := q
          obtain ⟨b1, b2, b3⟩ := numF_ok a3 h3
          by_cases h4 : 2000 < f + n / 2 ∨ goesOn out f (n / 2 : Nat) = true
          · rw [readF_copy_bad h1 hb h2 h3 h4] at h; cases h
          · rw [readF_copy_ok h1 hb h2 h3 h4] at h
            simp only [Sum.inr.injEq, Prod.mk.injEq] at h
            obtain ⟨rfl, rfl⟩ := h
            have hp : (0 : Int) < ((n / 2 : Nat) : Int) := by omega
            simp only [sizeN, sizeI, if_pos hp]
            refine ⟨.inl ⟨hp, by simp, rfl⟩, by omega, by omega, Nat.zero_le _, by omega, by omega, by omega⟩

/-- Blocks that hold neither ops nor the reader stay. -/
def Clear (rb : Nat) (w w' : World) : Prop := ∀ (q : Nat) (cs : Array Value) (T : TypeId) (fr : Nat × Nat), w.heap[q]? = some (.cells cs T fr) → T ≠ 63 → q ≠ rb → w'.heap[q]? = some (.cells cs T fr)
theorem Clear.refl (rb : Nat) (w : World) : Clear rb w w := fun _ _ _ _ h _ _ => h
theorem Clear.trans {rb : Nat} {a b c : World} (h1 : Clear rb a b) (h2 : Clear rb b c) : Clear rb a c := fun q cs T fr h hT hq => h2 q cs T fr (h1 q cs T fr h hT hq) hT hq
theorem Clear.of_moved {rb : Nat} {w w' : World} (h : Moved rb w w') : Clear rb w w' := fun q cs T fr hq _ hne => (h.block q (lt_of_block hq) hne).trans hq
theorem Clear.grown {rb : Nat} {w w' : World} {base : Nat} {v : Value} {xs : List DOp} (h : OwnOps w base v xs) (hg : w.grownBy w' v.ownBlock) : Clear rb w w' := by
  intro q cs T fr hq hT _
  refine (hg.block q (lt_of_block hq) (fun e => ?_)).trans hq
  rcases h.2 with ⟨hv, _⟩ | ⟨g, cap, cur, hv, _, hb, _⟩
  · rw [hv] at e; cases e
  · rw [hv] at e; cases e
    rw [hb] at hq
    cases hq
    exact hT rfl
theorem RAt.grown {rb at_ : Nat} {w w' : World} {base : Nat} {s : ByteArray} {v : Value} {xs : List DOp} (hr : RAt w rb s at_) (h : OwnOps w base v xs) (hg : w.grownBy w' v.ownBlock) : RAt w' rb s at_ := by
  refine (hg.block rb (lt_of_block hr) (fun e => ?_)).trans hr
  rcases h.2 with ⟨hv, _⟩ | ⟨g, cap, cur, hv, _, hb, _⟩
  · rw [hv] at e; cases e
  · rw [hv] at e; cases e
    unfold RAt at hr
    rw [hb] at hr
    simp at hr

/-- Ops that were read. -/
def Seen (out : List DOp) : Prop := ∀ p ∈ out, Nice p ∧ p.fr ≤ 2000 ∧ p.len ≤ 2000 ∧ p.tx.size ≤ 2000
theorem Seen.small {out : List DOp} (h : Seen out) : ∀ p ∈ out, 0 ≤ p.fr ∧ p.fr ≤ 100000000 ∧ 0 ≤ p.len ∧ p.len ≤ 100000000 := by
  intro p hp
  obtain ⟨h1, h2, h3, h4⟩ := h p hp
  rcases h1 with ⟨a, b, _⟩ | ⟨a, b, _⟩ <;> omega

/-- What Read does. -/
def ReadsPost (rb : Nat) (s : ByteArray) (st base : Nat) (w : World) (e : Ending) (w' : World) : Prop :=
  ((∃ p : Nat, e = gaveUp p ∧ (numF s st = .inl p ∨ ∃ c a, numF s st = .inr (c, a) ∧ ((200 < c ∧ p = st) ∨ (¬ 200 < c ∧ decGo s c [] 0 a = .inl p)))) ∨
    ∃ (v : Value) (out : List DOp) (c a at' : Nat), e = .returned v ∧ numF s st = .inr (c, a) ∧ ¬ 200 < c ∧ decGo s c [] 0 a = .inr (out, at') ∧ OwnOps w' base v out ∧ RAt w' rb s at' ∧ at' ≤ s.size) ∧ Below base w w' ∧ Clear rb w w'

theorem decGo_bad {s : ByteArray} {r total at_ p : Nat} {out : List DOp} (h : readF s out total at_ = .inl p) : decGo s (r + 1) out total at_ = .inl p := by rw [decGo, h]
theorem decGo_ok {s : ByteArray} {r total at_ nx : Nat} {out : List DOp} {o : DOp} (h : readF s out total at_ = .inr (o, nx)) : decGo s (r + 1) out total at_ = decGo s r (out ++ [o]) (total + sizeN o) nx := by rw [decGo, h]

set_option maxHeartbeats 4000000 in
theorem read_any (rb : Nat) (s : ByteArray) (st base : Nat) (w : World) (h : RAt w rb s st) (hbase : base ≤ rb) (hst : st ≤ s.size) (hs : s.size ≤ 9223372036854775000) :
    Calls Tryz.prog 128 #[.pointer (some ⟨rb, 0, none⟩)] w (ReadsPost rb s st base w) := by
  obtain ⟨i0, hi, hz0, hz1, hz2⟩ := info_parts Tryz.infoOp
  have HR : Hid (RAt w rb s st) := h
  have hrb : rb < w.heap.size := lt_of_block h
  clear h
  go_enter Tryz.func128, Tryz.ntmps128
  go_wp2_with fail
  refine (at_any rb s st _ HR.out).mono ?_
  rintro e w1 ⟨rfl, rfl⟩
  go_wp2_with fail
  refine (number_any rb s st _ HR.out (by omega) hs).mono ?_
  rintro e w2 ⟨hcase, hm2⟩
  have B2 : Below base w w2 := hm2.below hbase (by omega)
  have HC2 : Hid (Clear rb w w2) := .of_moved hm2
  have hsz2 := hm2.size
  clear hm2 HR
  rcases hcase with ⟨p, hp, rfl⟩ | ⟨c, a, hp, rfl, hr2⟩
  · have HP : Hid (numF s st = .inl p) := hp
    clear hp
    go_wp2
    exact ⟨rfl, .inl ⟨p, rfl, .inl HP.out⟩, B2, HC2.out⟩
  · have HP : Hid (numF s st = .inr (c, a)) := hp
    obtain ⟨hc, _, ha⟩ := numF_ok (by omega) hp
    have HR2 : Hid (RAt w2 rb s a) := hr2
    clear hp hr2
    by_cases h200 : 200 < c
    · go_wp2_with fail
      refine (giveup_any st _).mono ?_
      rintro e w6 ⟨rfl, rfl⟩
      go_wp2
      exact ⟨rfl, .inl ⟨st, rfl, .inr ⟨c, a, HP.out, .inl ⟨h200, rfl⟩⟩⟩, B2, HC2.out⟩
    · go_wp2
      go_loopw [5, 6, 17] (fun v m i wr => ∃ (j total at' : Nat) (out : List DOp), j ≤ c ∧ i = .int .i64 j ∧ m = .int .i64 (2000 - total) ∧ out.length = j ∧ total ≤ 2000 ∧ at' ≤ s.size ∧ Hid (decGo s c [] 0 a = decGo s (c - j) out total at') ∧ Hid (OwnOps wr base v out) ∧ Hid (RAt wr rb s at') ∧ Hid (Seen out) ∧ Below base w wr ∧ Hid (Clear rb w wr)) (fun _ _ i _ => c + 1 - (intOf i).toNat)
      case atStart => exact ⟨0, 0, a, [], by omega, rfl, rfl, rfl, by omega, ha, rfl, OwnOps.nil _ _, HR2, fun p hp => by (cases hp), B2, HC2⟩
      case round =>
        obtain ⟨j, total, at', out, hj, rfl, rfl, hlen, htot, hat, HD, HO, HR3, HS, hb, HC⟩ := hrel
        have hsz := hb.size
        have hrb3 : rb < wr.heap.size := lt_of_block HR3.out
        by_cases hlt : j < c
        · go_wp2_with fail
          refine (readOp_any rb s out _ base total at' _ HR3.out HO.out (by omega) HS.out.small hat hs htot).mono ?_
          rintro e w3 ⟨hcase, hm3⟩
          have B3 : Below base w w3 := hb.trans (hm3.below hbase (by omega))
          have HC3 : Hid (Clear rb w w3) := HC.out.trans (.of_moved hm3)
          have HO3 : Hid (OwnOps w3 base _ out) := HO.out.moved HR3.out hm3
          have hsz3 : wr.heap.size ≤ w3.heap.size := hm3.size
          clear hm3 hb HC HO
          rcases hcase with ⟨p, hp, rfl⟩ | ⟨o, nx, hp, rfl, hr3⟩
          · have HE : Hid (decGo s c [] 0 a = .inl p) := by
              show _ = _
              rw [HD.out, show c - j = (c - j - 1) + 1 by omega, decGo_bad hp]
            clear hp
            go_wp2
            exact ⟨rfl, .inl ⟨p, rfl, .inr ⟨c, a, HP.out, .inr ⟨h200, HE.out⟩⟩⟩, B3, HC3.out⟩
          · have HE : Hid (decGo s c [] 0 a = decGo s (c - (j + 1)) (out ++ [o]) (total + sizeN o) nx) := by
              show _ = _
              rw [HD.out, show c - j = (c - (j + 1)) + 1 by omega, decGo_ok hp]
            obtain ⟨p1, p2, p3, p4, p5, p6, p7⟩ := readF_props hat htot hp
            have HS2 : Hid (Seen (out ++ [o])) := fun q hq => by
              rcases List.mem_append.1 hq with hq | hq
              · exact HS.out q hq
              · rw [List.mem_singleton.1 hq]; exact ⟨p1, p2, p3, p4⟩
            have HR4 : Hid (RAt w3 rb s nx) := hr3
            have hz : sizeI o.len o.tx = (sizeN o : Nat) := by have := sizeI_nonneg o.len o.tx; unfold sizeN; omega
            have HZ : Hid (sizeI o.len o.tx = (sizeN o : Nat)) := hz
            generalize hzz : sizeN o = z at *
            obtain ⟨f, l, t⟩ := o
            simp only at p2 p3 p4 HZ
            clear hp hr3 hz hzz HD HS p1
            have b1 : Below w3.heap.size w3 ((w3.alloc (.cells #[.int .i64 f, .int .i64 l, .string t] 63)).alloc (.cells #[.int .i64 f, .int .i64 l, .string t] 63)) := ((Below.refl _ _).alloc (Nat.le_refl _) _).alloc (by simp) _
            have hown2 : OwnOps ((w3.alloc (.cells #[.int .i64 f, .int .i64 l, .string t] 63)).alloc (.cells #[.int .i64 f, .int .i64 l, .string t] 63)) base _ out := OwnOps.kept HO3.out b1
            go_wp2_with (first | (at_builtin; refine wpList_append_own _ rfl _ _ 59 rfl base 63 i0 (.agg #[.int .i64 0, .int .i64 0, .string ⟨#[]⟩]) 3 32 Tryz.underlying59 hi hz0 hz1 hz2 rfl (by decide) _ _ _ rfl hown2 ⟨w3.heap.size + 1, 0, none⟩ 1 1 (opCells [⟨f, l, t⟩]) rfl rfl ?c2 (opCells_oneCell _ _ _) ?c3 ?c4 ?c5 ?_))
            case c2 => simpa using cells_op_new (w3.alloc (.cells #[.int .i64 f, .int .i64 l, .string t] 63)) f l t 63
            case c3 => unfold maxLen; omega
            case c4 => omega
            case c5 => simp; omega
            intro v4 w4 ho4 hg4 _
            have HO4 : Hid (OwnOps w4 base v4 (out ++ [⟨f, l, t⟩])) := by
              show OwnOps w4 base v4 (out ++ [⟨f, l, t⟩])
              unfold OwnOps
              rw [opCells_append, List.length_append, hlen]
              exact ho4
            have hs4 : w3.heap.size + 1 + 1 ≤ w4.heap.size := by simpa using hg4.size
            have ob : w4.heap[w3.heap.size]? = some (.cells #[.int .i64 f, .int .i64 l, .string t] 63 (0, 0)) := by
              rw [hg4.block _ (by simp; omega) (fun h => by have := row_own_lt HO3.out h.symm; omega), heap_alloc_old _ _ (by simp)]; exact heap_alloc_new _ _
            have k0 : w4.cell? ⟨w3.heap.size, 0, none⟩ = some (.int .i64 f) := by rw [Lib.cell_of_heap ob]; rfl
            have k1 : w4.cell? ⟨w3.heap.size, 1, none⟩ = some (.int .i64 l) := by rw [Lib.cell_of_heap ob]; rfl
            have k2 : w4.cell? ⟨w3.heap.size, 2, none⟩ = some (.string t) := by rw [Lib.cell_of_heap ob]; rfl
            have B4 : Below base w w4 := (B3.trans (b1.mono (by omega))).grown hg4 (by simp; omega) (fun k hk => row_own_ge hown2 hk)
            have HR5 : Hid (RAt w4 rb s nx) := RAt.grown (HR4.out.kept b1) hown2 hg4
            have HC5 : Hid (Clear rb w w4) := (HC3.out.trans (.of_moved (.of_below b1))).trans (.grown hown2 hg4)
            clear ho4 hg4 ob hown2 b1 B3 HC3 HR4 HO3
            go_wp2_with fail
            refine (size_any f l t _).mono ?_
            rintro e w5 ⟨rfl, hb5⟩
            rw [HZ.out]
            have B5 : Below base w w5 := B4.trans (hb5.mono (by omega))
            have HR6 : Hid (RAt w5 rb s nx) := HR5.out.kept hb5
            have HC6 : Hid (Clear rb w w5) := HC5.out.trans (.of_moved (.of_below hb5))
            have HO6 : Hid (OwnOps w5 base v4 (out ++ [⟨f, l, t⟩])) := OwnOps.kept HO4.out hb5
            clear hb5 B4 HR5 HC5 HO4 k0 k1 k2
            go_wp2
            go_roundw
            case rel => exact ⟨j + 1, total + z, nx, out ++ [⟨f, l, t⟩], by omega, by go_num, by go_num, by simp [hlen], by omega, p6, HE, HO6, HR6, HS2, B5, HC6⟩
            case measure => simp [intOf]; omega
        · have HE : Hid (decGo s c [] 0 a = .inr (out, at')) := by
            show _ = _
            rw [HD.out, show c - j = 0 by omega]; rfl
          go_wp2
          go_ret
          exact ⟨.inr ⟨_, out, c, a, at', rfl, HP.out, h200, HE.out, HO.out, HR3.out, hat⟩, hb, HC.out⟩
end Go.Proofs.YtabpiaaknjcnkaaGreat

/-
  The walk over the document's number.
-/
namespace Go.Proofs.YtabpiaaknjcnkaaGreat
open Go.RowKit
set_option linter.unusedVariables false
set_option linter.unusedSimpArgs false
set_option maxRecDepth 100000

/-- What number tells: the number, the place behind it, the place at which it fails. -/
def numR (s : ByteArray) (at_ most : Nat) : Int × Int × Int := match numF s at_ with
  | .inl p => (0, 0, p)
  | .inr (n, nx) => if most < n then (0, 0, at_) else (n, nx, -1)
theorem numR_bad {s : ByteArray} {at_ most p : Nat} (h : numF s at_ = .inl p) : numR s at_ most = (0, 0, (p : Int)) := by unfold numR; rw [h]
theorem numR_most {s : ByteArray} {at_ most n nx : Nat} (h : numF s at_ = .inr (n, nx)) (hm : most < n) : numR s at_ most = (0, 0, (at_ : Int)) := by unfold numR; rw [h]; simp only [if_pos hm]
theorem numR_ok {s : ByteArray} {at_ most n nx : Nat} (h : numF s at_ = .inr (n, nx)) (hm : ¬ most < n) : numR s at_ most = ((n : Int), (nx : Int), -1) := by unfold numR; rw [h]; simp only [if_neg hm]
def three (r : Int × Int × Int) : Value := .tuple #[.int .i64 r.1, .int .i64 r.2.1, .int .i64 r.2.2]

theorem ret_nums {a b c d : Int} (h1 : a = c) (h2 : b = d) : Ending.returned (.tuple #[.int .i64 a, .int .i64 b, .int .i64 (-1)]) = .returned (three (c, d, -1)) := by rw [h1, h2]; rfl

set_option maxHeartbeats 4000000 in
theorem rnum_any (s : ByteArray) (at_ most : Nat) (w : World) (hst : at_ ≤ s.size) (hs : s.size ≤ 9223372036854775000) (hm : most ≤ 2147483647) :
    Calls Tryz.prog 104 #[.string s, .int .i64 at_, .int .i64 most] w fun e w' => e = .returned (three (numR s at_ most)) ∧ w = w' := by
  go_enter Tryz.func104, Tryz.ntmps104
  go_wp2
  go_loop [9, 10, 11] (fun n z i => ∃ k acc P : Nat, k ≤ 5 ∧ i = .int .i64 k ∧ n = .int .i64 acc ∧ z = .int .i64 P ∧ Hid (P = 128 ^ k) ∧ P ≤ 34359738368 ∧ Hid (acc < P) ∧ Hid (numGo s at_ (5 - k) k acc = numF s at_)) (fun _ _ i => 6 - (intOf i).toNat)
  case atStart => exact ⟨0, 0, 1, by omega, rfl, rfl, rfl, rfl, by omega, by (show 0 < 1); omega, rfl⟩
  case round =>
    obtain ⟨k, acc, P, hk, rfl, rfl, rfl, HP, hP, HA, HN⟩ := hrel
    have ha := HA.out
    by_cases hlt : k < 5
    · by_cases hin : at_ + k < s.size
      · have hc256 : (s[at_ + k]).toNat < 256 := (s[at_ + k]).toNat_lt
        have hP4 : P ≤ 268435456 := by rw [HP.out]; exact Nat.le_trans (Nat.pow_le_pow_right (by decide) (show k ≤ 4 by omega)) (by decide)
        have HMore : Hid (128 ≤ (s[at_ + k]).toNat → numF s at_ = numGo s at_ (4 - k) (k + 1) (acc + (s[at_ + k]).toNat % 128 * P)) := fun h => by
          rw [← HN.out, show 5 - k = (4 - k) + 1 by omega, numGo_more hin (by omega), HP.out]
        have HBad : Hid ((s[at_ + k]).toNat < 128 → (2147483647 < acc + (s[at_ + k]).toNat % 128 * P ∨ ((s[at_ + k]).toNat = 0 ∧ 0 < k)) → numF s at_ = .inl at_) := fun h h' => by
          rw [← HN.out, show 5 - k = (4 - k) + 1 by omega, numGo_bad hin h (by rw [← HP.out]; exact h')]
        have HDone : Hid ((s[at_ + k]).toNat < 128 → ¬ (2147483647 < acc + (s[at_ + k]).toNat % 128 * P ∨ ((s[at_ + k]).toNat = 0 ∧ 0 < k)) → numF s at_ = .inr (acc + (s[at_ + k]).toNat % 128 * P, at_ + k + 1)) := fun h h' => by
          rw [← HN.out, show 5 - k = (4 - k) + 1 by omega, numGo_done hin h (by rw [← HP.out]; exact h'), HP.out]
        have hM : (s[at_ + k]).toNat % 128 * P ≤ 34091302912 := Nat.le_trans (Nat.mul_le_mul (show (s[at_ + k]).toNat % 128 ≤ 127 by omega) hP4) (by decide)
        have HLt : Hid (acc + (s[at_ + k]).toNat % 128 * P < P * 128) := by
          have h2 : (s[at_ + k]).toNat % 128 ≤ 127 := by omega
          have h3 := Nat.mul_le_mul_right P h2
          show _ < P * 128
          omega
        have HP2 : Hid (P * 128 = 128 ^ (k + 1)) := by show _ = _; rw [HP.out, Nat.pow_succ]
        have hmul : (((s[at_ + k]).toNat : Int) % 128) * (P : Int) = (((s[at_ + k]).toNat % 128 * P : Nat) : Int) := by simp
        have q1 : (at_ : Int) + (k : Int) < (s.size : Int) := by omega
        generalize hMM : (s[at_ + k]).toNat % 128 * P = M at *
        generalize hcc : (s[at_ + k]).toNat = c at *
        clear hMM HP HN HA
        by_cases h128 : 128 ≤ c
        · have HN2 : Hid (numGo s at_ (5 - (k + 1)) (k + 1) (acc + M) = numF s at_) := by
            have := HMore.out h128
            show _ = _
            rw [this, show 5 - (k + 1) = 4 - k by omega]
          clear HMore HBad HDone
          go_wp2
          go_round
          case rel => exact ⟨k + 1, acc + M, P * 128, by omega, by go_num, by go_num, by go_num, HP2, by omega, HLt, HN2⟩
          case measure => simp [intOf]; omega
        · have h128' : c < 128 := by omega
          by_cases hv : most < acc + M
          · have HE : Hid (numR s at_ most = (0, 0, (at_ : Int))) := by
              by_cases hb : 2147483647 < acc + M ∨ (c = 0 ∧ 0 < k)
              · exact numR_bad (HBad.out h128' hb)
              · exact numR_most (HDone.out h128' hb) hv
            have hv' : (most : Int) < (acc : Int) + (M : Int) := by omega
            clear HMore HBad HDone
            go_wp2
            go_ret3
            rw [HE.out]
            exact ⟨rfl, rfl⟩
          · have hv' : ¬ (most : Int) < (acc : Int) + (M : Int) := by omega
            by_cases hc0 : c = 0 ∧ 0 < k
            · have HE : Hid (numR s at_ most = (0, 0, (at_ : Int))) := numR_bad (HBad.out h128' (.inr hc0))
              obtain ⟨hc1, hk1⟩ := hc0
              have hk2 : (0 : Int) < (k : Int) := by omega
              have hM0 : M = 0 := by rw [hc1] at hmul; simp at hmul; omega
              subst hM0
              clear HMore HBad HDone hmul
              go_wp2
              go_ret3
              rw [HE.out]
              exact ⟨rfl, rfl⟩
            · have HE : Hid (numR s at_ most = (((acc + M : Nat) : Int), ((at_ + k + 1 : Nat) : Int), -1)) := numR_ok (HDone.out h128' (fun h => by rcases h with h | h; omega; exact hc0 h)) hv
              clear HMore HBad HDone
              by_cases hc1 : c = 0
              · have hk3 : k = 0 := by omega
                have hk4 : ¬ (0 : Int) < (k : Int) := by omega
                clear hk3
                have hM0 : M = 0 := by rw [hc1] at hmul; simp at hmul; omega
                subst hM0
                clear hmul
                go_wp2
                go_ret3
                rw [HE.out]
                exact ⟨ret_nums (by omega) (by omega), rfl⟩
              · go_wp2
                go_ret3
                rw [HE.out]
                exact ⟨ret_nums (by omega) (by omega), rfl⟩
      · have HE : Hid (numR s at_ most = (0, 0, (s.size : Int))) := numR_bad (by rw [← HN.out, show 5 - k = (4 - k) + 1 by omega, numGo_end hin])
        have q1 : ¬ (at_ : Int) + (k : Int) < (s.size : Int) := by omega
        go_wp2
        go_ret3
        rw [HE.out]
        exact ⟨rfl, rfl⟩
    · have HE : Hid (numR s at_ most = (0, 0, (at_ : Int))) := numR_bad (by rw [← HN.out, show 5 - k = 0 by omega]; rfl)
      go_wp2
      go_ret3
      rw [HE.out]
      exact ⟨rfl, rfl⟩
end Go.Proofs.YtabpiaaknjcnkaaGreat

/-
  The walk over decode.
-/
namespace Go.Proofs.YtabpiaaknjcnkaaGreat
open Go.RowKit
set_option linter.unusedVariables false
set_option linter.unusedSimpArgs false
set_option maxRecDepth 100000

set_option maxHeartbeats 2000000 in
theorem catch_idle (a b c : Addr) (w : World) :
    CallsD Tryz.prog 127 #[.pointer (some a), .pointer (some b), .pointer (some c)] .returning w fun e u' w' => e = .returned (.tuple #[]) ∧ u' = .returning ∧ w' = w := by
  refine callsD_of_wpS Tryz.func127 rfl fun c₀ cs hu => ?_
  apply wpS_seq
  apply wpS_region
  simp [wpOpsS, go_sem, recoverD, hu, Tryz.ntmps127, Exit.thenS]
  refine wpS_of_wp ?_
  go_wp2
  cases c₀
  simp_all [bodyPostS, results, Tryz.results127]

theorem assert_fault (xT : TypeId) (v : Value) (w : World) : (Instr.typeAssert (.iface 128 v) xT 128 true).run Tryz.prog w = .ok (.tuple #[v, .bool true]) w := by
  simp [Instr.typeAssert, run_underlying Tryz.underlying128, go_sem, Result.andThen]

set_option maxHeartbeats 4000000 in
theorem catch_fault (q0 q1 q2 : Nat) (p : Nat) (older : List PanicEntry) (v0 v1 v2 : Value) (w : World) (h0 : w.cell? ⟨q0, 0, none⟩ = some v0) (h1 : w.cell? ⟨q1, 0, none⟩ = some v1) (h2 : w.cell? ⟨q2, 0, none⟩ = some v2)
    (f0 : w.frozen? ⟨q0, 0, none⟩ = false) (f1 : w.frozen? ⟨q1, 0, none⟩ = false) (f2 : w.frozen? ⟨q2, 0, none⟩ = false) (n01 : ¬ q0 = q1) (n02 : ¬ q0 = q2) (n12 : ¬ q1 = q2) (l0 : q0 < w.heap.size) (l1 : q1 < w.heap.size) (l2 : q2 < w.heap.size) :
    CallsD Tryz.prog 127 #[.pointer (some ⟨q0, 0, none⟩), .pointer (some ⟨q1, 0, none⟩), .pointer (some ⟨q2, 0, none⟩)] (.panicking ({ v := .iface 128 (.agg #[.int .i64 p]), recovered := false } :: older)) w fun e u' w' =>
      e = .returned (.tuple #[]) ∧ u' = .panicking ({ v := .iface 128 (.agg #[.int .i64 p]), recovered := true } :: older) ∧
      w' = ((((w.setCell ⟨q0, 0, none⟩ (.slice none 0 0)).setCell ⟨q1, 0, none⟩ (.int .i64 3)).setCell ⟨q2, 0, none⟩ (.int .i64 p)).alloc (.cells #[.int .i64 p] 128)).drew := by
  refine callsD_of_wpS Tryz.func127 rfl fun c₀ cs hu => ?_
  apply wpS_seq
  apply wpS_region
  simp [wpOpsS, go_sem, recoverD, hu, Tryz.ntmps127, Exit.thenS]
  refine wpS_of_wp ?_
  have hta := assert_fault
  go_wp2
  go_region
  all_goals
    go_wp2
    cases c₀
    simp_all [bodyPostS, results, Tryz.results127]
end Go.Proofs.YtabpiaaknjcnkaaGreat
