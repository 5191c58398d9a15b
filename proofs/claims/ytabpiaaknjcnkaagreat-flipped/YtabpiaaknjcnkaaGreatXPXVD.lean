/- The texts PX, VD, one behind the other. -/
import Derived.Test.YtabpiaaknjcnkaaGreatPP
import Derived.Test.YtabpiaaknjcnkaaGreatV2
import Derived.Test.YtabpiaaknjcnkaaGreatD6
/-
  Plain facts: a body is read, then done.
-/
namespace Go.Proofs.YtabpiaaknjcnkaaGreat
set_option linter.unusedVariables false
set_option linter.unusedSimpArgs false

/-- A record that was read: its letter, its chain, a number, a text, ops. -/
structure Rec where
  L : UInt8
  c : Nat
  n : Nat
  t : ByteArray
  xs : List DOp
def recOf (b : ByteArray) : Option Rec :=
  match b.data.toList.head? with
  | none => none
  | some L => match numF b 1 with
    | .inl _ => none
    | .inr (c, at_) =>
      if 3 < c then none
      else if L = 70 then (if (b.extract at_ b.size).size ≤ 2000 then some ⟨70, c, 0, b.extract at_ b.size, []⟩ else none)
      else if L = 68 then (match decF (b.extract at_ b.size) with
        | .inl _ => none
        | .inr ops => some ⟨68, c, 0, ⟨#[]⟩, ops⟩)
      else if L = 66 ∨ L = 80 then (match numF b at_ with
        | .inl _ => none
        | .inr (n, nx) => if L = 66 then (if 0 < n ∧ (b.extract nx b.size).size ≤ 2000 then some ⟨66, c, n, b.extract nx b.size, []⟩ else none) else if nx = b.size then some ⟨80, c, n, ⟨#[]⟩, []⟩ else none)
      else none
def Rec.does (ch : Nat → Chn) (r : Rec) : Option (Nat → Chn) :=
  if r.L = 70 then moreF ch r.c r.t
  else if r.L = 68 then (match (ch r.c).texts.getLast? with
    | none => none
    | some t => if faultF r.xs t.size < r.xs.length then none else moreF ch r.c ⟨(madeL t.data.toList r.xs).toArray⟩)
  else if r.L = 66 then baseF ch r.c r.n r.t
  else pruneF ch r.c r.n
/-- What a record that was read keeps to. -/
def Rec.Ok (r : Rec) : Prop := r.c < 4 ∧ r.n ≤ 2147483647 ∧ r.t.size ≤ 2000 ∧ faultF r.xs 2000 = r.xs.length ∧ (r.L = 70 ∨ r.L = 68 ∨ r.L = 66 ∧ 0 < r.n ∨ r.L = 80)

theorem doesF_rec (ch : Nat → Chn) (b : ByteArray) : doesF ch b = (recOf b).bind (fun r => r.does ch) := by
  unfold doesF recOf
  cases b.data.toList.head? with
  | none => rfl
  | some L =>
    simp only
    cases h1 : numF b 1 with
    | inl p => rfl
    | inr q =>
      obtain ⟨c, at_⟩ := q
      simp only
      by_cases h3 : 3 < c
      · rw [if_pos h3, if_pos h3]; rfl
      · rw [if_neg h3, if_neg h3]
        by_cases hF : L = 70
        · rw [if_pos hF, if_pos hF]
          by_cases hs : (b.extract at_ b.size).size ≤ 2000
          · rw [if_pos hs]; rfl
          · rw [if_neg hs]
            unfold moreF
            rw [if_neg (fun h => hs h.1)]; rfl
        · rw [if_neg hF, if_neg hF]
          by_cases hD : L = 68
          · rw [if_pos hD, if_pos hD]
            unfold codeF
            cases h4 : decF (b.extract at_ b.size) with
            | inl p => rfl
            | inr ops =>
              simp only [Option.bind_some]
              unfold Rec.does
              rw [if_neg (show ¬ (68 : UInt8) = 70 by decide), if_pos rfl]
              simp only
              cases (ch c).texts.getLast? <;> rfl
          · rw [if_neg hD, if_neg hD]
            by_cases hB : L = 66
            · rw [if_pos (.inl hB)]
              cases h4 : numF b at_ with
              | inl p => rfl
              | inr q =>
                obtain ⟨n, nx⟩ := q
                simp only
                rw [if_pos hB, if_pos hB]
                unfold baseF
                by_cases hh : 0 < n ∧ (b.extract nx b.size).size ≤ 2000
                · rw [if_pos hh]
                  simp only [Option.bind_some]
                  unfold Rec.does
                  rw [if_neg (show ¬ (66 : UInt8) = 70 by decide), if_neg (show ¬ (66 : UInt8) = 68 by decide), if_pos rfl]
                  unfold baseF
                  rfl
                · rw [if_neg hh, if_neg (fun h => hh ⟨h.1, h.2.2⟩)]; rfl
            · by_cases hP : L = 80
              · rw [if_pos (.inr hP)]
                cases h4 : numF b at_ with
                | inl p => rfl
                | inr q =>
                  obtain ⟨n, nx⟩ := q
                  simp only
                  rw [if_neg hB, if_neg hB]
                  by_cases hn : nx = b.size
                  · rw [if_pos ⟨hP, hn⟩, if_pos hn]
                    simp only [Option.bind_some]
                    unfold Rec.does
                    rw [if_neg (show ¬ (80 : UInt8) = 70 by decide), if_neg (show ¬ (80 : UInt8) = 68 by decide), if_neg (show ¬ (80 : UInt8) = 66 by decide)]
                  · rw [if_neg (fun h => hn h.2), if_neg hn]; rfl
              · rw [if_neg (fun h => h.elim hB hP)]
                cases h4 : numF b at_ with
                | inl p => rfl
                | inr q =>
                  obtain ⟨n, nx⟩ := q
                  simp only
                  rw [if_neg hB, if_neg (fun h => hP h.1)]; rfl

theorem faultF_nil (b : Int) : faultF [] b = ([] : List DOp).length := rfl
theorem recOf_ok {b : ByteArray} {r : Rec} (h : recOf b = some r) : r.Ok := by
  unfold recOf at h
  cases hh : b.data.toList.head? with
  | none => rw [hh] at h; cases h
  | some L =>
    rw [hh] at h
    have hb1 : 1 ≤ b.size := by
      rw [Lib.size_eq]
      cases hl : b.data.toList with
      | nil => rw [hl] at hh; cases hh
      | cons x r => simp
    simp only at h
    cases h1 : numF b 1 with
    | inl p => rw [h1] at h; cases h
    | inr q =>
      obtain ⟨c, at_⟩ := q
      rw [h1] at h
      have k1 := numF_ok hb1 h1
      simp only at h
      split at h
      · cases h
      · rename_i h3
        split at h
        · split at h
          · rename_i hs
            simp only [Option.some.injEq] at h
            subst h
            exact ⟨by simp; omega, by simp, hs, rfl, .inl rfl⟩
          · cases h
        · split at h
          · split at h
            · cases h
            · rename_i ops h4
              simp only [Option.some.injEq] at h
              subst h
              exact ⟨by simp; omega, by simp, Nat.zero_le _, (decF_back h4).1, .inr (.inl rfl)⟩
          · split at h
            · split at h
              · cases h
              · rename_i n nx h4
                have k2 := numF_ok k1.2.2 h4
                split at h
                · split at h
                  · rename_i hs
                    simp only [Option.some.injEq] at h
                    subst h
                    exact ⟨by simp; omega, by simp; omega, hs.2, rfl, .inr (.inr (.inl ⟨rfl, hs.1⟩))⟩
                  · cases h
                · split at h
                  · simp only [Option.some.injEq] at h
                    subst h
                    exact ⟨by simp; omega, by simp; omega, Nat.zero_le _, rfl, .inr (.inr (.inr rfl))⟩
                  · cases h
            · cases h

/-- A code that stands at a place of a body. -/
theorem code_fwd {b : ByteArray} {at_ c a at' : Nat} {ops : List DOp} (hat : at_ ≤ b.size) (h1 : numF b at_ = .inr (c, a)) (h2 : ¬ 200 < c) (h3 : decGo b c [] 0 a = .inr (ops, at')) (h4 : at' = b.size) : decF (b.extract at_ b.size) = .inr ops := by
  obtain ⟨a1, a2, a3⟩ := numF_ok hat h1
  obtain ⟨b1, b2⟩ := numF_back h1
  obtain ⟨i1, i2⟩ := dec_back (s := b) c [] 0 a a3 (by omega)
  obtain ⟨xs, e1, e2, e3, e4, e5⟩ := i2 ops at' h3
  simp only [List.nil_append] at e1
  subst e1
  have hf : faultF ops 2000 = ops.length := by
    have := fault_of_fits ops [] 0 0 e3 (by omega)
    unfold faultF; simpa using this
  have he : (b.extract at_ b.size).data.toList = encL ops ++ [] := by
    rw [toEnd_data, b1, e4, drop_none.2 (show b.size ≤ at' by omega)]
    unfold encL; rw [e2]; simp
  rw [decF_fwd hf he, if_pos rfl]
theorem code_back {b : ByteArray} {at_ : Nat} {ops : List DOp} (hat : at_ ≤ b.size) (h : decF (b.extract at_ b.size) = .inr ops) : ∃ a, numF b at_ = .inr (ops.length, a) ∧ ¬ 200 < ops.length ∧ decGo b ops.length [] 0 a = .inr (ops, b.size) := by
  obtain ⟨hf, he⟩ := decF_back h
  have hl := fault_len hf
  have hfit := fits_of_fault ops [] 0 0 (by unfold faultF at hf; simpa using hf)
  rw [toEnd_data] at he
  unfold encL at he
  have n1 := numF_fwd (s := b) (start := at_) he.symm (by omega)
  have d1 := dec_fwd (s := b) ops [] 0 (at_ + (uN ops.length).length) [] hfit (by rw [← List.drop_drop, ← he, List.drop_left, List.append_nil])
  refine ⟨_, n1, by omega, ?_⟩
  rw [d1]
  have hs : (uN ops.length).length + (ops.flatMap encOp).length = b.size - at_ := by
    have := congrArg List.length he
    rw [List.length_append, List.length_drop, ← Lib.size_eq] at this
    exact this
  simp only [List.nil_append]
  rw [show at_ + (uN ops.length).length + (ops.flatMap encOp).length = b.size by omega]
/-- Where no delta can be read, there is no code. -/
theorem code_num {b : ByteArray} {at_ p : Nat} (hat : at_ ≤ b.size) (h : numF b at_ = .inl p) : ∃ q, decF (b.extract at_ b.size) = .inl q := by
  cases hd : decF (b.extract at_ b.size) with
  | inl q => exact ⟨q, rfl⟩
  | inr ops => obtain ⟨a, h1, _⟩ := code_back hat hd; rw [h] at h1; cases h1
theorem code_many {b : ByteArray} {at_ c a : Nat} (hat : at_ ≤ b.size) (h : numF b at_ = .inr (c, a)) (hc : 200 < c) : ∃ q, decF (b.extract at_ b.size) = .inl q := by
  cases hd : decF (b.extract at_ b.size) with
  | inl q => exact ⟨q, rfl⟩
  | inr ops =>
    obtain ⟨a', h1, h2, _⟩ := code_back hat hd
    rw [h] at h1
    simp only [Sum.inr.injEq, Prod.mk.injEq] at h1
    omega
theorem code_go {b : ByteArray} {at_ c a p : Nat} (hat : at_ ≤ b.size) (h : numF b at_ = .inr (c, a)) (hg : decGo b c [] 0 a = .inl p) : ∃ q, decF (b.extract at_ b.size) = .inl q := by
  cases hd : decF (b.extract at_ b.size) with
  | inl q => exact ⟨q, rfl⟩
  | inr ops =>
    obtain ⟨a', h1, h2, h3⟩ := code_back hat hd
    rw [h] at h1
    simp only [Sum.inr.injEq, Prod.mk.injEq] at h1
    obtain ⟨rfl, rfl⟩ := h1
    rw [hg] at h3; cases h3
theorem code_more {b : ByteArray} {at_ c a at' : Nat} {ops : List DOp} (hat : at_ ≤ b.size) (h : numF b at_ = .inr (c, a)) (hg : decGo b c [] 0 a = .inr (ops, at')) (hne : at' < b.size) : ∃ q, decF (b.extract at_ b.size) = .inl q := by
  cases hd : decF (b.extract at_ b.size) with
  | inl q => exact ⟨q, rfl⟩
  | inr ops' =>
    obtain ⟨a', h1, h2, h3⟩ := code_back hat hd
    rw [h] at h1
    simp only [Sum.inr.injEq, Prod.mk.injEq] at h1
    obtain ⟨rfl, rfl⟩ := h1
    rw [hg] at h3
    simp only [Sum.inr.injEq, Prod.mk.injEq] at h3
    omega

/-- The sum that stands behind a body. -/
theorem rec_sum {log : ByteArray} {at_ n body : Nat} (h : numF log at_ = .inr (n, body)) (hs : body + n + 4 ≤ log.size) :
    recL (log.extract body (body + n)).data.toList = (log.extract at_ (body + n + 4)).data.toList ↔ (log.extract (body + n) (body + n + 4)).data.toList = le4 (sumL (log.extract body (body + n)).data.toList) := by
  obtain ⟨b1, b2⟩ := numF_back h
  have hl : (log.extract body (body + n)).data.toList.length = n := by
    rw [← Lib.size_eq]; simp; omega
  have e : (log.extract at_ (body + n + 4)).data.toList = uN n ++ ((log.extract body (body + n)).data.toList ++ (log.extract (body + n) (body + n + 4)).data.toList) := by
    have hu : body + n + 4 - at_ = (uN n).length + (n + 4) := by omega
    rw [mid_data, b1, hu, List.take_length_add_append, List.take_add, mid_data, mid_data, List.drop_drop]
    rw [show body + n - body = n by omega, show body + n + 4 - (body + n) = 4 by omega]
  rw [e]
  unfold recL
  rw [hl, List.append_assoc]
  constructor
  · intro h'
    exact (List.append_cancel_left (List.append_cancel_left h')).symm
  · intro h'
    rw [h']
end Go.Proofs.YtabpiaaknjcnkaaGreat

/-
  The walks over package record: a record is read.
-/
namespace Go.Proofs.YtabpiaaknjcnkaaGreat
open Go.RowKit
set_option linter.unusedVariables false
set_option linter.unusedSimpArgs false
set_option maxRecDepth 100000

set_option maxHeartbeats 1000000 in
theorem text_end2 (rb : Nat) (s : ByteArray) (at_ n : Nat) (w : World) (h : RAt w rb s at_) (hlt : at_ ≤ s.size) (hn : s.size < at_ + n) (hs : s.size ≤ 9223372036854775000) (hn2 : n ≤ 2147483647) :
    Calls Tryz.prog 135 #[.pointer (some ⟨rb, 0, none⟩), .int .i64 n] w fun e w' => e = gaveUp s.size ∧ Moved rb w w' := by
  obtain ⟨c0, c1, c2⟩ := h.cells
  have HR : Hid (RAt w rb s at_) := h
  have q1 : IntKind.i64.wrap ((s.size : Int) - (at_ : Int)) = (s.size : Int) - at_ := by rw [IntKind.wrap_i64]; omega
  have q2 : (s.size : Int) - (at_ : Int) < (n : Int) := by omega
  clear h
  go_enter Tryz.func135, Tryz.ntmps135
  go_wp2
  go_quiet (fail)
  go_wp2_with fail
  refine (toosoon_any rb s at_ (w.drewN nq) HR.out).mono ?_
  rintro e w' ⟨rfl, rfl⟩
  go_wp2
  exact ⟨rfl, rfl, .of_below (below_drewN0 _ _ _)⟩

set_option maxHeartbeats 1000000 in
theorem text_some2 (rb : Nat) (s : ByteArray) (at_ n : Nat) (w : World) (h : RAt w rb s at_) (hn : at_ + n ≤ s.size) (hs : s.size ≤ 9223372036854775000) (hn2 : n ≤ 100000) :
    Calls Tryz.prog 135 #[.pointer (some ⟨rb, 0, none⟩), .int .i64 n] w fun e w' => e = .returned (.string (s.extract at_ (at_ + n))) ∧ RAt w' rb s (at_ + n) ∧ Moved rb w w' := by
  obtain ⟨c0, c1, c2⟩ := h.cells
  have HR : Hid (RAt (w.setCell ⟨rb, 1, none⟩ (.int .i64 ((at_ : Int) + n))) rb s (at_ + n)) := h.set _ _ (by omega)
  have q1 : IntKind.i64.wrap ((s.size : Int) - (at_ : Int)) = (s.size : Int) - at_ := by rw [IntKind.wrap_i64]; omega
  have q2 : ¬ (s.size : Int) - (at_ : Int) < (n : Int) := by omega
  have q3 : IntKind.i64.wrap ((at_ : Int) + (n : Int)) = (at_ : Int) + n := by rw [IntKind.wrap_i64]; omega
  clear h
  go_enter Tryz.func135, Tryz.ntmps135
  go_wp2
  go_quiet (fail)
  go_wp2
  have d0 : ((w.drewN nq).setCell ⟨rb, 1, none⟩ (.int .i64 ((at_ : Int) + n))).cell? ⟨rb, 0, none⟩ = some (.string s) := (RAt.cells HR.out).1
  have d1 : ((w.drewN nq).setCell ⟨rb, 1, none⟩ (.int .i64 ((at_ : Int) + n))).cell? ⟨rb, 1, none⟩ = some (.int .i64 ((at_ : Int) + n)) := (RAt.cells HR.out).2.1
  have HC : Hid (∀ W, Calls Tryz.prog 54 #[.string (s.extract at_ (at_ + n))] W fun e w' => e = .returned (.string (s.extract at_ (at_ + n))) ∧ Below W.heap.size W w') := fun W => clone_any _ W (by rw [size_ext _ _ _ hn]; omega)
  have HR1 : Hid (RAt ((w.drewN nq).setCell ⟨rb, 1, none⟩ (.int .i64 ((at_ : Int) + n))) rb s (at_ + n)) := HR.out
  have hrb : rb < ((w.drewN nq).setCell ⟨rb, 1, none⟩ (.int .i64 ((at_ : Int) + n))).heap.size := lt_of_block HR1.out
  have HM1 : Hid (Moved rb w ((w.drewN nq).setCell ⟨rb, 1, none⟩ (.int .i64 ((at_ : Int) + n)))) := (Moved.of_below (below_drewN0 _ _ _)).trans (Moved.set _ _ _ _)
  generalize ((w.drewN nq).setCell ⟨rb, 1, none⟩ (.int .i64 ((at_ : Int) + n))) = W1 at *
  have r1 : (0 : Int) ≤ (at_ : Int) := by omega
  have r2 : (at_ : Int) ≤ (at_ : Int) + (n : Int) := by omega
  have r3 : (at_ : Int) + (n : Int) ≤ (s.size : Int) := by omega
  clear HR c0 c1 c2 q1 q2 q3
  go_region_held3 (fun w' => w'.cell? ⟨rb, 0, none⟩ = some (.string s) ∧ w'.cell? ⟨rb, 1, none⟩ = some (.int .i64 ((at_ : Int) + n))) (go_keep)
    (first | (go_at_call 54; refine (HC.out _).mono ?_; rintro e w3 ⟨rfl, hb3⟩; have e0 := (hb3.cell (p := ⟨rb, 0, none⟩) hrb).trans d0; have e1 := (hb3.cell (p := ⟨rb, 1, none⟩) hrb).trans d1))
  have HR3 : Hid (RAt w3 rb s (at_ + n)) := RAt.kept (w := W1.drew) HR1.out hb3
  have HM3 : Hid (Moved rb w w3) := (HM1.out.trans (Moved.of_below (Below.refl _ _).drew)).trans (Moved.of_below hb3)
  clear hb3 e0 e1 HC HR1 HM1 d0 d1
  go_wp2
  go_ret
  exact ⟨rfl, HR3.out, HM3.out⟩

set_option maxHeartbeats 1000000 in
/-- All that is left. -/
theorem rest_any (rb : Nat) (s : ByteArray) (at_ : Nat) (w : World) (h : RAt w rb s at_) (hle : at_ ≤ s.size) (hs : s.size ≤ 100000) :
    Calls Tryz.prog 156 #[.pointer (some ⟨rb, 0, none⟩)] w fun e w' => e = .returned (.string (s.extract at_ s.size)) ∧ RAt w' rb s s.size ∧ Moved rb w w' := by
  obtain ⟨c0, c1, c2⟩ := h.cells
  have hrb : rb < w.heap.size := lt_of_block h
  obtain ⟨n, hn⟩ : ∃ n, at_ + n = s.size := ⟨s.size - at_, by omega⟩
  have HT : Hid (Calls Tryz.prog 135 #[.pointer (some ⟨rb, 0, none⟩), .int .i64 n] (w.drewN 1) fun e w' => e = .returned (.string (s.extract at_ s.size)) ∧ RAt w' rb s s.size ∧ Moved rb (w.drewN 1) w') := by
    have := text_some2 rb s at_ n (w.drewN 1) (h.drewN 1) (by omega) (by omega) (by omega)
    rw [hn] at this; exact this
  have q1 : IntKind.i64.wrap ((s.size : Int) - (at_ : Int)) = (n : Int) := by rw [IntKind.wrap_i64]; omega
  clear h hn
  go_enter Tryz.func156, Tryz.ntmps156
  go_wp2
  go_region_with (first | (go_at_call 135; refine HT.out.mono ?_; rintro e w3 ⟨rfl, r3, m3⟩))
  all_goals
    have HR : Hid (RAt w3 rb s s.size) := r3
    have HM : Hid (Moved rb w w3) := (Moved.of_below (below_drewN0 _ _ 1)).trans m3
    clear r3 m3
    go_wp2
    go_ret
    exact ⟨rfl, HR.out, HM.out⟩

set_option maxHeartbeats 1000000 in
theorem readtext_at (rb : Nat) (s : ByteArray) (at_ : Nat) (w : World) (h : RAt w rb s at_) (hle : at_ ≤ s.size) (hs : s.size ≤ 100000) (t : ByteArray) (hE : s.extract at_ s.size = t) :
    Calls Tryz.prog 155 #[.pointer (some ⟨rb, 0, none⟩)] w fun e w' => ((¬ t.size ≤ 2000 ∧ e = gaveUp at_) ∨ (t.size ≤ 2000 ∧ e = .returned (.string t) ∧ RAt w' rb s s.size)) ∧ Moved rb w w' := by
  have HR : Hid (RAt w rb s at_) := h
  have HC : Hid (Calls Tryz.prog 156 #[.pointer (some ⟨rb, 0, none⟩)] w fun e w' => e = .returned (.string t) ∧ RAt w' rb s s.size ∧ Moved rb w w') := by
    have := rest_any rb s at_ w h hle hs
    rw [hE] at this; exact this
  clear h hE
  go_enter Tryz.func155, Tryz.ntmps155
  go_wp2_with fail
  refine (at_any rb s at_ _ HR.out).mono ?_
  rintro e w1 ⟨rfl, rfl⟩
  go_wp2_with fail
  refine HC.out.mono ?_
  rintro e w2 ⟨rfl, r2, m2⟩
  have HR2 : Hid (RAt w2 rb s s.size) := r2
  have HM2 : Hid (Moved rb w w2) := m2
  clear r2 m2
  by_cases ht : t.size ≤ 2000
  · go_wp2
    go_ret
    exact ⟨.inr ⟨ht, rfl, HR2.out⟩, HM2.out⟩
  · go_wp2_with fail
    refine (giveup_any at_ _).mono ?_
    rintro e w3 ⟨rfl, rfl⟩
    go_wp2
    exact ⟨rfl, .inl ⟨ht, rfl⟩, HM2.out⟩

/-- What readHead does. -/
def HeadPost (rb : Nat) (s : ByteArray) (w : World) (e : Ending) (w' : World) : Prop :=
  ((∃ p, e = gaveUp p ∧ (s.size = 0 ∨ (∃ p', numF s 1 = .inl p') ∨ ∃ c a, numF s 1 = .inr (c, a) ∧ 3 < c)) ∨
    ∃ (L : UInt8) (c a : Nat), s.data.toList.head? = some L ∧ numF s 1 = .inr (c, a) ∧ ¬ 3 < c ∧ e = .returned (.agg #[.int .u8 L.toNat, .int .i64 c]) ∧ RAt w' rb s a ∧ a ≤ s.size) ∧ Moved rb w w'

theorem Moved.alloc (rb : Nat) (w : World) (o : Obj) : Moved rb w (w.alloc o) := .of_below ((Below.refl _ _).alloc (Nat.le_refl _) _)

set_option maxHeartbeats 2000000 in
theorem readhead_any (rb : Nat) (s : ByteArray) (w : World) (h : RAt w rb s 0) (hs : s.size ≤ 100000) :
    Calls Tryz.prog 148 #[.pointer (some ⟨rb, 0, none⟩)] w (HeadPost rb s w) := by
  have hrb : rb < w.heap.size := lt_of_block h
  have HR : Hid (RAt (w.alloc (.cells #[.int .u8 0, .int .i64 0] 145)) rb s 0) := h.kept ((Below.refl _ _).alloc (Nat.le_refl _) _)
  have HM : Hid (Moved rb w (w.alloc (.cells #[.int .u8 0, .int .i64 0] 145))) := Moved.alloc rb w _
  have hb : (w.alloc (.cells #[.int .u8 0, .int .i64 0] 145)).heap[w.heap.size]? = some (.cells #[.int .u8 0, .int .i64 0] 145 (0, 0)) := heap_alloc_new _ _
  have hne : w.heap.size ≠ rb := by omega
  have hsz : w.heap.size < (w.alloc (.cells #[.int .u8 0, .int .i64 0] 145)).heap.size := by simp
  clear h
  by_cases h0 : s.size = 0
  · have HR0 : Hid (RAt (w.alloc (.cells #[.int .u8 0, .int .i64 0] 145)) rb s s.size) := by unfold Hid; rw [h0]; exact HR.out
    have HZ : Hid (s.size = 0) := h0
    clear h0 HR
    go_enter Tryz.func148, Tryz.ntmps148
    go_wp2_with fail
    refine (next_end rb s _ HR0.out).mono ?_
    rintro e w2 ⟨rfl, m2⟩
    have R : Moved rb w w2 := HM.out.trans m2
    clear m2
    go_wp2
    exact ⟨rfl, .inl ⟨_, rfl, .inl HZ.out⟩, R⟩
  · have hlt : 0 < s.size := by omega
    have HHD : Hid (s.data.toList.head? = some (s[0]'hlt)) := by
      unfold Hid
      have := drop_byte (s := s) (i := 0) hlt
      rw [List.drop_zero] at this
      rw [this]; rfl
    clear h0
    go_enter Tryz.func148, Tryz.ntmps148
    go_wp2_with fail
    refine (next_some rb s 0 _ HR.out hlt (by omega)).mono ?_
    rintro e w2 ⟨rfl, r2, m2⟩
    have HR2 : Hid (RAt w2 rb s 1) := r2
    have HM2 : Hid (Moved rb w w2) := HM.out.trans m2
    have hb2 := (m2.block w.heap.size hsz hne).trans hb
    have hs2 := m2.size
    generalize (s[0]'hlt) = L at *
    clear r2 m2 HM HR hb
    go_wp2_with fail
    refine (at_any rb s 1 _ HR2.out).mono ?_
    rintro e w3 ⟨rfl, rfl⟩
    go_wp2_with fail
    refine (number_any rb s 1 _ HR2.out (by omega) (by omega)).mono ?_
    rintro e w3 ⟨hcase, m3⟩
    have HM3 : Hid (Moved rb w w3) := HM2.out.trans m3
    have hb3 := (m3.block w.heap.size (Nat.lt_of_lt_of_le hsz hs2) hne).trans hb2
    clear m3 HM2 HR2 hb2
    rcases hcase with ⟨p, hp, rfl⟩ | ⟨c, a, hp, rfl, hr3⟩
    · have HP : Hid (numF s 1 = .inl p) := hp
      clear hp
      go_wp2
      exact ⟨rfl, .inl ⟨p, rfl, .inr (.inl ⟨p, HP.out⟩)⟩, HM3.out⟩
    · have HP : Hid (numF s 1 = .inr (c, a)) := hp
      obtain ⟨hc, _, ha⟩ := numF_ok (by omega) hp
      have HR3 : Hid (RAt w3 rb s a) := hr3
      clear hp hr3
      by_cases h3 : 3 < c
      · have c4 : (4 : Int) ≤ (c : Int) := by omega
        go_wp2_with fail
        refine (giveup_any 1 _).mono ?_
        rintro e w6 ⟨rfl, rfl⟩
        go_wp2
        exact ⟨rfl, .inl ⟨1, rfl, .inr (.inr ⟨c, a, HP.out, h3⟩)⟩, HM3.out⟩
      · have c4 : ¬ (4 : Int) ≤ (c : Int) := by omega
        have k0 : w3.cell? ⟨w.heap.size, 0, none⟩ = some (.int .u8 0) := by rw [Lib.cell_of_heap hb3]; rfl
        have k1 : w3.cell? ⟨w.heap.size, 1, none⟩ = some (.int .i64 0) := by rw [Lib.cell_of_heap hb3]; rfl
        have f0 : w3.frozen? ⟨w.heap.size, 0, none⟩ = false := Lib.frozen_of_heap hb3 0
        have f1 : w3.frozen? ⟨w.heap.size, 1, none⟩ = false := Lib.frozen_of_heap hb3 1
        go_wp2
        have hb4 := Lib.heap_setCell_same (i := 0) hb3 (.int .u8 (L.toNat : Int))
        have e0 : (w3.setCell ⟨w.heap.size, 0, none⟩ (.int .u8 (L.toNat : Int))).cell? ⟨w.heap.size, 0, none⟩ = some (.int .u8 (L.toNat : Int)) := by rw [Lib.cell_of_heap hb4]; rfl
        have hb5 := Lib.heap_setCell_same (i := 1) hb4 (.int .i64 (c : Int))
        have e1 : ((w3.setCell ⟨w.heap.size, 0, none⟩ (.int .u8 (L.toNat : Int))).setCell ⟨w.heap.size, 1, none⟩ (.int .i64 (c : Int))).cell? ⟨w.heap.size, 1, none⟩ = some (.int .i64 (c : Int)) := by rw [Lib.cell_of_heap hb5]; rfl
        refine bodyPost_ret (by simp [results, Tryz.results148, go_sem, e0, e1]; rfl) rfl ?_
        refine ⟨.inr ⟨L, c, a, HHD.out, HP.out, h3, rfl, (far1 (Ne.symm hne)).trans ((far1 (Ne.symm hne)).trans HR3.out), ha⟩, ?_⟩
        exact ⟨HM3.out.os, HM3.out.tape, HM3.out.output, by have := HM3.out.size; simpa [World.setCell] using this, fun k hk hk2 => ((far1 (by omega)).trans (far1 (by omega))).trans (HM3.out.block k hk hk2)⟩
end Go.Proofs.YtabpiaaknjcnkaaGreat
