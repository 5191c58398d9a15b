/-
  The walk over readCopy.
-/
import Derived.Test.YtabpiaaknjcnkaaGreatXLEPND1D2D3
namespace Go.Proofs.YtabpiaaknjcnkaaGreat
open Go.RowKit
set_option linter.unusedVariables false
set_option linter.unusedSimpArgs false
set_option maxRecDepth 100000

/-- An operation is taken first; where it puts what it yields is written out. -/
theorem takeH {P : Program} {ops : Array Oper} {Q : Exit → Act → World → Prop} {md : Region.Mode} {S : World → Prop} {i d : Nat} {oi : Oper} {v : Value} {fuel : Nat} {listed : Array Bool} {a : Act} {w : World} (hi : ops[i]? = some oi) (hd : oi.dst = some d)
    (hs : Region.noSelect ops = true) (hf : Region.free md ops listed i = true) (hr : (Region.ready md ops listed).contains i = true)
    (hQ : ∀ c a w, Q (.panic c) (a.put oi.dst v) w → Q (.panic c) a w) (hy : YieldsIf P ops S oi v a) (hS : S w)
    (h : wpAnyH P md ops Q S fuel (listed.setIfInBounds i true) (a.put (some d) v) w) : wpAnyH P md ops Q S (fuel + 1) listed a w :=
  wpAnyH_take hi hs hf hr hQ hy hS (hd ▸ h)

theorem rat_far {w : World} {rb q i j k at_ : Nat} {s : ByteArray} {x y z : Value} (h : RAt w rb s at_) (hq : rb < q) : RAt (((w.setCell ⟨q, i, none⟩ x).setCell ⟨q, j, none⟩ y).setCell ⟨q, k, none⟩ z) rb s at_ := (far3 (by omega)).trans h
theorem moved_new {w w4 : World} {rb q i j k : Nat} {x y z : Value} (h : Moved rb w w4) (hq : w.heap.size ≤ q) : Moved rb w (((w4.setCell ⟨q, i, none⟩ x).setCell ⟨q, j, none⟩ y).setCell ⟨q, k, none⟩ z) := by
  have b := ((((Below.refl 0 w4).setCell (p := ⟨q, i, none⟩) (Nat.zero_le _) x).setCell (p := ⟨q, j, none⟩) (Nat.zero_le _) y).setCell (p := ⟨q, k, none⟩) (Nat.zero_le _) z)
  exact ⟨b.os.trans h.os, b.tape.trans h.tape, b.output.trans h.output, Nat.le_trans h.size b.size, fun m hm hne => (far3 (by omega)).trans (h.block m hm hne)⟩

set_option maxHeartbeats 4000000 in
theorem readCopy_any (rb : Nat) (s : ByteArray) (out : List DOp) (va : Value) (base n nx : Nat) (w : World) (h : RAt w rb s nx) (ho : OwnOps w base va out) (hl : out.length ≤ 1000) (hsm : ∀ p ∈ out, 0 ≤ p.fr ∧ p.fr ≤ 100000000 ∧ 0 ≤ p.len ∧ p.len ≤ 100000000)
    (hst : nx ≤ s.size) (hs : s.size ≤ 9223372036854775000) (hn : 0 < n) (hn2 : n ≤ 2000) :
    Calls Tryz.prog 154 #[.pointer (some ⟨rb, 0, none⟩), va, .int .i64 n] w (CopyPost rb s out n nx w) := by
  have HR : Hid (RAt w rb s nx) := h
  have HO : Hid (OwnOps w base va out) := ho
  obtain ⟨ao, cap, hva⟩ := ho.slice
  subst hva
  clear h ho
  go_enter Tryz.func154, Tryz.ntmps154
  have B0 : Below w.heap.size w (w.alloc (.cells #[.int .i64 0, .int .i64 0, .string ⟨#[]⟩] 63)) := (Below.refl _ _).alloc (Nat.le_refl _) _
  have HR0 : Hid (RAt (w.alloc (.cells #[.int .i64 0, .int .i64 0, .string ⟨#[]⟩] 63)) rb s nx) := HR.out.kept B0
  have HO0 : Hid (OwnOps (w.alloc (.cells #[.int .i64 0, .int .i64 0, .string ⟨#[]⟩] 63)) base (.slice ao out.length cap) out) := HO.out.alloc _
  have HRes : Hid ((w.alloc (.cells #[.int .i64 0, .int .i64 0, .string ⟨#[]⟩] 63)).heap[w.heap.size]? = some (.cells #[.int .i64 0, .int .i64 0, .string ⟨#[]⟩] 63 (0, 0))) := heap_alloc_new _ _
  have HM0 : Hid (Moved rb w (w.alloc (.cells #[.int .i64 0, .int .i64 0, .string ⟨#[]⟩] 63))) := .of_below B0
  have hrb : rb < w.heap.size := lt_of_block HR.out
  clear HR HO B0
  go_wp2_with fail
  refine (at_any rb s nx _ HR0.out).mono ?_
  rintro e w1 ⟨rfl, rfl⟩
  go_wp2_with fail
  refine (number_any rb s nx _ HR0.out hst hs).mono ?_
  rintro e w2 ⟨hcase, hm2⟩
  have HM2 : Hid (Moved rb w w2) := HM0.out.trans hm2
  have HO2 : Hid (OwnOps w2 base (.slice ao out.length cap) out) := HO0.out.moved HR0.out hm2
  have HRes2 : Hid (w2.heap[w.heap.size]? = some (.cells #[.int .i64 0, .int .i64 0, .string ⟨#[]⟩] 63 (0, 0))) := (hm2.block _ (by simp) (by omega)).trans HRes.out
  have hsz2 : w.heap.size + 1 ≤ w2.heap.size := by simpa using hm2.size
  clear hm2 HM0 HO0 HR0 HRes
  rcases hcase with ⟨p, hp, rfl⟩ | ⟨f, b, hp, rfl, hr2⟩
  · have HP : Hid (numF s nx = .inl p) := hp
    clear hp
    go_wp2
    exact ⟨rfl, .inl ⟨p, rfl, .inl HP.out⟩, HM2.out⟩
  · have HP : Hid (numF s nx = .inr (f, b)) := hp
    obtain ⟨hf, _, _⟩ := numF_ok hst hp
    have HR2 : Hid (RAt w2 rb s b) := hr2
    clear hp hr2
    have HI : Hid (∀ W, Calls Tryz.prog 139 #[.agg #[.int .i64 f, .int .i64 n, .string ⟨#[]⟩], .int .i64 2000] W fun e w' => e = .returned (.bool (decide (f + n ≤ 2000))) ∧ Below W.heap.size W w') := fun W => by
      have := isOp_any f n ⟨#[]⟩ 2000 W (by omega) (by omega) (by omega)
      rwa [isOp_num f n hn] at this
    have B3 : Below w2.heap.size w2 (w2.alloc (.cells #[.int .i64 f, .int .i64 n, .string ⟨#[]⟩] 63)) := (Below.refl _ _).alloc (Nat.le_refl _) _
    have HR3 : Hid (RAt (w2.alloc (.cells #[.int .i64 f, .int .i64 n, .string ⟨#[]⟩] 63)) rb s b) := HR2.out.kept B3
    have HM3 : Hid (Moved rb w (w2.alloc (.cells #[.int .i64 f, .int .i64 n, .string ⟨#[]⟩] 63))) := HM2.out.trans (.of_below B3)
    have HO3 : Hid (OwnOps (w2.alloc (.cells #[.int .i64 f, .int .i64 n, .string ⟨#[]⟩] 63)) base (.slice ao out.length cap) out) := HO2.out.alloc _
    have HRes3 : Hid ((w2.alloc (.cells #[.int .i64 f, .int .i64 n, .string ⟨#[]⟩] 63)).heap[w.heap.size]? = some (.cells #[.int .i64 0, .int .i64 0, .string ⟨#[]⟩] 63 (0, 0))) := (B3.block _ (by omega)).trans HRes2.out
    have hk : w2.heap.size < (w2.alloc (.cells #[.int .i64 f, .int .i64 n, .string ⟨#[]⟩] 63)).heap.size := by simp
    have k0 : (w2.alloc (.cells #[.int .i64 f, .int .i64 n, .string ⟨#[]⟩] 63)).cell? ⟨w2.heap.size, 0, none⟩ = some (.int .i64 f) := by simp
    have k1 : (w2.alloc (.cells #[.int .i64 f, .int .i64 n, .string ⟨#[]⟩] 63)).cell? ⟨w2.heap.size, 1, none⟩ = some (.int .i64 n) := by simp
    have k2 : (w2.alloc (.cells #[.int .i64 f, .int .i64 n, .string ⟨#[]⟩] 63)).cell? ⟨w2.heap.size, 2, none⟩ = some (.string ⟨#[]⟩) := by simp
    clear B3 HR2 HM2 HO2 HRes2
    by_cases hfn : f + n ≤ 2000
    · rw [decide_eq_true hfn] at HI
      rcases List.eq_nil_or_concat out with rfl | ⟨A, o, rfl⟩
      · have HG : Hid (¬ (2000 < f + n ∨ goesOn [] f n = true)) := by rintro (h | h); omega; simp [goesOn] at h
        go_wp2
        generalize hW3 : (w2.alloc (.cells #[.int .i64 f, .int .i64 n, .string ⟨#[]⟩] 63)) = W3 at *
        clear hW3
        refine wp_region_held_drew (S := fun w' => w'.cell? ⟨w2.heap.size, 0, none⟩ = some (.int .i64 f) ∧ w'.cell? ⟨w2.heap.size, 1, none⟩ = some (.int .i64 n) ∧ w'.cell? ⟨w2.heap.size, 2, none⟩ = some (.string ⟨#[]⟩)) (by kernel_rfl) ⟨k0, k1, k2⟩ (fun hS0 => ?_)
        refine takeH (i := 0) (d := 15) (v := .agg #[.int .i64 f, .int .i64 n, .string ⟨#[]⟩]) rfl rfl (by kernel_rfl) (by kernel_rfl) (by kernel_rfl) (fun _ _ _ h => h) (.inl ⟨by rfl, ?_⟩) (by assumption) ?_
        · intro w' hSw; (try dsimp only at hSw); go_simp
        try simp only [Act.put, List.setIfInBounds_toArray, List.set_cons_zero, List.set_cons_succ]
        refine wpAnyH_ready (rs := [1]) (by kernel_rfl) (by simp) ?_
        refine AllReadyH.cons rfl (fun K hK => ?_) AllReadyH.nil
        go_simp
        refine (HI.out _).mono ?_
        rintro e w4 ⟨rfl, hb4⟩
        go_wp2_with fail
        refine hK.out _ _ ⟨(hb4.cell (p := ⟨w2.heap.size, 0, none⟩) hk).trans k0, (hb4.cell (p := ⟨w2.heap.size, 1, none⟩) hk).trans k1, (hb4.cell (p := ⟨w2.heap.size, 2, none⟩) hk).trans k2⟩ (fun hS4 => ?_)
        try simp only [Act.put, List.setIfInBounds_toArray, List.set_cons_zero, List.set_cons_succ]
        refine takeH (i := 2) (d := 17) (v := .bool false) rfl rfl (by kernel_rfl) (by kernel_rfl) (by kernel_rfl) (fun _ _ _ h => h) (.inl ⟨by rfl, ?_⟩) (by assumption) ?_
        · intro w' hSw; (try dsimp only at hSw); go_simp
        try simp only [Act.put, List.setIfInBounds_toArray, List.set_cons_zero, List.set_cons_succ]
        refine takeH (i := 3) (d := 18) (v := .bool false) rfl rfl (by kernel_rfl) (by kernel_rfl) (by kernel_rfl) (fun _ _ _ h => h) (.inl ⟨by rfl, ?_⟩) (by assumption) ?_
        · intro w' hSw; (try dsimp only at hSw); go_simp
        try simp only [Act.put, List.setIfInBounds_toArray, List.set_cons_zero, List.set_cons_succ]
        refine takeH (i := 4) (d := 19) (v := .slice ao 0 cap) rfl rfl (by kernel_rfl) (by kernel_rfl) (by kernel_rfl) (fun _ _ _ h => h) (.inl ⟨by rfl, ?_⟩) (by assumption) ?_
        · intro w' hSw; (try dsimp only at hSw); go_simp
        try simp only [Act.put, List.setIfInBounds_toArray, List.set_cons_zero, List.set_cons_succ]
        refine takeH (i := 5) (d := 20) (v := .int .i64 0) rfl rfl (by kernel_rfl) (by kernel_rfl) (by kernel_rfl) (fun _ _ _ h => h) (.inl ⟨by rfl, ?_⟩) (by assumption) ?_
        · intro w' hSw; (try dsimp only at hSw); go_simp
        try simp only [Act.put, List.setIfInBounds_toArray, List.set_cons_zero, List.set_cons_succ]
        refine takeH (i := 6) (d := 21) (v := .bool false) rfl rfl (by kernel_rfl) (by kernel_rfl) (by kernel_rfl) (fun _ _ _ h => h) (.inl ⟨by rfl, ?_⟩) (by assumption) ?_
        · intro w' hSw; (try dsimp only at hSw); go_simp
        try simp only [Act.put, List.setIfInBounds_toArray, List.set_cons_zero, List.set_cons_succ]
        refine takeH (i := 7) (d := 22) (v := .bool false) rfl rfl (by kernel_rfl) (by kernel_rfl) (by kernel_rfl) (fun _ _ _ h => h) (.inl ⟨by rfl, ?_⟩) (by assumption) ?_
        · intro w' hSw; (try dsimp only at hSw); go_simp
        try simp only [Act.put, List.setIfInBounds_toArray, List.set_cons_zero, List.set_cons_succ]
        refine takeH (i := 8) (d := 23) (v := undef) rfl rfl (by kernel_rfl) (by kernel_rfl) (by kernel_rfl) (fun _ _ _ h => h) (.inr ⟨by rfl, rfl⟩) (by assumption) ?_
        try simp only [Act.put, List.setIfInBounds_toArray, List.set_cons_zero, List.set_cons_succ]
        refine takeH (i := 9) (d := 24) (v := undef) rfl rfl (by kernel_rfl) (by kernel_rfl) (by kernel_rfl) (fun _ _ _ h => h) (.inr ⟨by rfl, rfl⟩) (by assumption) ?_
        try simp only [Act.put, List.setIfInBounds_toArray, List.set_cons_zero, List.set_cons_succ]
        refine takeH (i := 10) (d := 25) (v := undef) rfl rfl (by kernel_rfl) (by kernel_rfl) (by kernel_rfl) (fun _ _ _ h => h) (.inr ⟨by rfl, rfl⟩) (by assumption) ?_
        try simp only [Act.put, List.setIfInBounds_toArray, List.set_cons_zero, List.set_cons_succ]
        refine takeH (i := 11) (d := 26) (v := undef) rfl rfl (by kernel_rfl) (by kernel_rfl) (by kernel_rfl) (fun _ _ _ h => h) (.inr ⟨by rfl, rfl⟩) (by assumption) ?_
        try simp only [Act.put, List.setIfInBounds_toArray, List.set_cons_zero, List.set_cons_succ]
        refine takeH (i := 12) (d := 27) (v := undef) rfl rfl (by kernel_rfl) (by kernel_rfl) (by kernel_rfl) (fun _ _ _ h => h) (.inr ⟨by rfl, rfl⟩) (by assumption) ?_
        try simp only [Act.put, List.setIfInBounds_toArray, List.set_cons_zero, List.set_cons_succ]
        refine takeH (i := 13) (d := 28) (v := undef) rfl rfl (by kernel_rfl) (by kernel_rfl) (by kernel_rfl) (fun _ _ _ h => h) (.inr ⟨by rfl, rfl⟩) (by assumption) ?_
        try simp only [Act.put, List.setIfInBounds_toArray, List.set_cons_zero, List.set_cons_succ]
        refine takeH (i := 14) (d := 29) (v := undef) rfl rfl (by kernel_rfl) (by kernel_rfl) (by kernel_rfl) (fun _ _ _ h => h) (.inr ⟨by rfl, rfl⟩) (by assumption) ?_
        try simp only [Act.put, List.setIfInBounds_toArray, List.set_cons_zero, List.set_cons_succ]
        refine takeH (i := 15) (d := 30) (v := undef) rfl rfl (by kernel_rfl) (by kernel_rfl) (by kernel_rfl) (fun _ _ _ h => h) (.inr ⟨by rfl, rfl⟩) (by assumption) ?_
        try simp only [Act.put, List.setIfInBounds_toArray, List.set_cons_zero, List.set_cons_succ]
        refine takeH (i := 16) (d := 31) (v := undef) rfl rfl (by kernel_rfl) (by kernel_rfl) (by kernel_rfl) (fun _ _ _ h => h) (.inr ⟨by rfl, rfl⟩) (by assumption) ?_
        try simp only [Act.put, List.setIfInBounds_toArray, List.set_cons_zero, List.set_cons_succ]
        refine takeH (i := 17) (d := 32) (v := .bool false) rfl rfl (by kernel_rfl) (by kernel_rfl) (by kernel_rfl) (fun _ _ _ h => h) (.inl ⟨by rfl, ?_⟩) (by assumption) ?_
        · intro w' hSw; (try dsimp only at hSw); go_simp
        try simp only [Act.put, List.setIfInBounds_toArray, List.set_cons_zero, List.set_cons_succ]
        refine takeH (i := 18) (d := 33) (v := .bool false) rfl rfl (by kernel_rfl) (by kernel_rfl) (by kernel_rfl) (fun _ _ _ h => h) (.inl ⟨by rfl, ?_⟩) (by assumption) ?_
        · intro w' hSw; (try dsimp only at hSw); go_simp
        try simp only [Act.put, List.setIfInBounds_toArray, List.set_cons_zero, List.set_cons_succ]
        refine wpAnyH_done (by kernel_rfl) ?_ _
        have HR4 : Hid (RAt w4 rb s b) := RAt.kept (w := W3.drew) HR3.out hb4
        have HM4 : Hid (Moved rb w w4) := (HM3.out.trans (Moved.of_below (Below.refl _ _).drew)).trans (Moved.of_below hb4)
        have ob : w4.heap[w.heap.size]? = some (.cells #[.int .i64 0, .int .i64 0, .string ⟨#[]⟩] 63 (0, 0)) := (hb4.block _ (by have := lt_of_block HRes3.out; simpa using this)).trans HRes3.out
        have hs4 : w.heap.size < w4.heap.size := lt_of_block ob
        have p0 : w4.cell? ⟨w.heap.size, 0, none⟩ = some (.int .i64 0) := by rw [Lib.cell_of_heap ob]; rfl
        have p1 : w4.cell? ⟨w.heap.size, 1, none⟩ = some (.int .i64 0) := by rw [Lib.cell_of_heap ob]; rfl
        have p2 : w4.cell? ⟨w.heap.size, 2, none⟩ = some (.string ⟨#[]⟩) := by rw [Lib.cell_of_heap ob]; rfl
        have pf := fun j => Lib.frozen_of_heap ob j
        clear ob
        go_wp2
        refine bodyPost_ret (by simp [results, Tryz.results154, go_sem, p0, p1, p2]; rfl) rfl ?_
        exact ⟨.inr ⟨f, b, HP.out, HG.out, rfl, rat_far HR4.out hrb⟩, moved_new HM4.out (Nat.le_refl _)⟩
      · rw [List.concat_eq_append] at *
        have hlen : (A ++ [o]).length = A.length + 1 := by simp
        rw [hlen] at HO3 hl ⊢
        obtain ⟨g, hao, hg⟩ : ∃ g, ao = some ⟨g, 0, none⟩ ∧ g < (w2.alloc (.cells #[.int .i64 f, .int .i64 n, .string ⟨#[]⟩] 63)).heap.size := by
          rcases HO3.out.2 with ⟨_, h⟩ | ⟨g, cap', cur, h, _⟩
          · simp at h
          · injection h with h1 h2 h3
            exact ⟨g, h1, row_own_lt HO3.out (by rw [h1]; rfl)⟩
        subst hao
        obtain ⟨c0, c1, c2, _⟩ := own_cells (B := []) HO3.out
        obtain ⟨s1, s2, s3, s4⟩ := hsm o (by simp)
        obtain ⟨of, ol, ot⟩ := o
        simp only at c0 c1 c2 s1 s2 s3 s4
        have HF : Hid (∀ W, Calls Tryz.prog 140 #[.agg #[.int .i64 of, .int .i64 ol, .string ot], .agg #[.int .i64 f, .int .i64 n, .string ⟨#[]⟩]] W fun e w' => e = .returned (.bool (followB of ol f n)) ∧ Below W.heap.size W w') := fun W => mayFollow_any of ol f n ot ⟨#[]⟩ W (fun _ => by omega) (fun _ => by omega)
        have q1 : (A.length : Int) < ((A.length + 1 : Nat) : Int) := by omega
        have q2 : A.length < A.length + 1 := by omega
        have q9 : (A.length : Int) < (A.length : Int) + 1 := by omega
        have q3 : (0 : Int) ≤ (A.length : Int) := by omega
        have q5 : IntKind.i64.wrap (A.length : Int) = (A.length : Int) := by rw [IntKind.wrap_i64]; omega
        have q6 : (0 : Int) < (A.length : Int) + 1 := by omega
        have q7 : IntKind.i64.wrap ((A.length : Int) + 1 - 1) = (A.length : Int) := by rw [IntKind.wrap_i64]; omega
        have q8 : (A.length : Int) + 1 - 1 = (A.length : Int) := by omega
        have hgo : goesOn (A ++ [(⟨of, ol, ot⟩ : DOp)]) f n = !followB of ol f n := by simp [goesOn]
        clear hsm hlen
        cases hfo : followB of ol f n
        · rw [hfo] at HF hgo
          have HG : Hid (2000 < f + n ∨ goesOn (A ++ [(⟨of, ol, ot⟩ : DOp)]) f n = true) := .inr (by rw [hgo]; rfl)
          go_wp2
          generalize hW3 : (w2.alloc (.cells #[.int .i64 f, .int .i64 n, .string ⟨#[]⟩] 63)) = W3 at *
          clear hW3
          go_region_held3 (fun w' => w'.cell? ⟨w2.heap.size, 0, none⟩ = some (.int .i64 f) ∧ w'.cell? ⟨w2.heap.size, 1, none⟩ = some (.int .i64 n) ∧ w'.cell? ⟨w2.heap.size, 2, none⟩ = some (.string ⟨#[]⟩) ∧ w'.cell? ⟨g, A.length * 3, none⟩ = some (.int .i64 of) ∧ w'.cell? ⟨g, A.length * 3 + 1, none⟩ = some (.int .i64 ol) ∧ w'.cell? ⟨g, A.length * 3 + 2, none⟩ = some (.string ot)) (go_keep)
            (first | (go_at_call 139; refine (HI.out _).mono ?_; rintro e w4 ⟨rfl, hb4⟩; have e0 := (hb4.cell (p := ⟨w2.heap.size, 0, none⟩) hk).trans k0; have e1 := (hb4.cell (p := ⟨w2.heap.size, 1, none⟩) hk).trans k1; have e2 := (hb4.cell (p := ⟨w2.heap.size, 2, none⟩) hk).trans k2; have e3 := (hb4.cell (p := ⟨g, A.length * 3, none⟩) hg).trans c0; have e4 := (hb4.cell (p := ⟨g, A.length * 3 + 1, none⟩) hg).trans c1; have e5 := (hb4.cell (p := ⟨g, A.length * 3 + 2, none⟩) hg).trans c2; have hk4 : w2.heap.size < w4.heap.size := Nat.lt_of_lt_of_le hk hb4.size; have hg4 : g < w4.heap.size := Nat.lt_of_lt_of_le hg hb4.size) | (go_at_call 140; refine (HF.out _).mono ?_; rintro e w5 ⟨rfl, hb5⟩; have g0 := (hb5.cell (p := ⟨w2.heap.size, 0, none⟩) hk4).trans e0; have g1 := (hb5.cell (p := ⟨w2.heap.size, 1, none⟩) hk4).trans e1; have g2 := (hb5.cell (p := ⟨w2.heap.size, 2, none⟩) hk4).trans e2; have g3 := (hb5.cell (p := ⟨g, A.length * 3, none⟩) hg4).trans e3; have g4 := (hb5.cell (p := ⟨g, A.length * 3 + 1, none⟩) hg4).trans e4; have g5 := (hb5.cell (p := ⟨g, A.length * 3 + 2, none⟩) hg4).trans e5))
          have HR4 : Hid (RAt w5 rb s b) := RAt.kept (RAt.kept (w := W3.drew) HR3.out hb4) hb5
          have HM4 : Hid (Moved rb w w5) := (HM3.out.trans (Moved.of_below (Below.refl _ _).drew)).trans ((Moved.of_below hb4).trans (Moved.of_below hb5))
          have ob : w5.heap[w.heap.size]? = some (.cells #[.int .i64 0, .int .i64 0, .string ⟨#[]⟩] 63 (0, 0)) := (hb5.block _ (by have := lt_of_block HRes3.out; have := hb4.size; simp at this; omega)).trans ((hb4.block _ (by have := lt_of_block HRes3.out; simpa using this)).trans HRes3.out)
          have hs4 : w.heap.size < w5.heap.size := lt_of_block ob
          have p0 : w5.cell? ⟨w.heap.size, 0, none⟩ = some (.int .i64 0) := by rw [Lib.cell_of_heap ob]; rfl
          have p1 : w5.cell? ⟨w.heap.size, 1, none⟩ = some (.int .i64 0) := by rw [Lib.cell_of_heap ob]; rfl
          have p2 : w5.cell? ⟨w.heap.size, 2, none⟩ = some (.string ⟨#[]⟩) := by rw [Lib.cell_of_heap ob]; rfl
          have pf := fun j => Lib.frozen_of_heap ob j
          clear ob
          go_wp2_with fail
          refine (giveup_any nx _).mono ?_
          rintro e w6 ⟨rfl, rfl⟩
          go_wp2
          exact ⟨rfl, .inl ⟨nx, rfl, .inr ⟨f, b, HP.out, HG.out, rfl⟩⟩, HM4.out⟩
        · rw [hfo] at HF hgo
          have HG : Hid (¬ (2000 < f + n ∨ goesOn (A ++ [(⟨of, ol, ot⟩ : DOp)]) f n = true)) := by rintro (h | h); omega; rw [hgo] at h; simp at h
          go_wp2
          generalize hW3 : (w2.alloc (.cells #[.int .i64 f, .int .i64 n, .string ⟨#[]⟩] 63)) = W3 at *
          clear hW3
          go_region_held3 (fun w' => w'.cell? ⟨w2.heap.size, 0, none⟩ = some (.int .i64 f) ∧ w'.cell? ⟨w2.heap.size, 1, none⟩ = some (.int .i64 n) ∧ w'.cell? ⟨w2.heap.size, 2, none⟩ = some (.string ⟨#[]⟩) ∧ w'.cell? ⟨g, A.length * 3, none⟩ = some (.int .i64 of) ∧ w'.cell? ⟨g, A.length * 3 + 1, none⟩ = some (.int .i64 ol) ∧ w'.cell? ⟨g, A.length * 3 + 2, none⟩ = some (.string ot)) (go_keep)
            (first | (go_at_call 139; refine (HI.out _).mono ?_; rintro e w4 ⟨rfl, hb4⟩; have e0 := (hb4.cell (p := ⟨w2.heap.size, 0, none⟩) hk).trans k0; have e1 := (hb4.cell (p := ⟨w2.heap.size, 1, none⟩) hk).trans k1; have e2 := (hb4.cell (p := ⟨w2.heap.size, 2, none⟩) hk).trans k2; have e3 := (hb4.cell (p := ⟨g, A.length * 3, none⟩) hg).trans c0; have e4 := (hb4.cell (p := ⟨g, A.length * 3 + 1, none⟩) hg).trans c1; have e5 := (hb4.cell (p := ⟨g, A.length * 3 + 2, none⟩) hg).trans c2; have hk4 : w2.heap.size < w4.heap.size := Nat.lt_of_lt_of_le hk hb4.size; have hg4 : g < w4.heap.size := Nat.lt_of_lt_of_le hg hb4.size) | (go_at_call 140; refine (HF.out _).mono ?_; rintro e w5 ⟨rfl, hb5⟩; have g0 := (hb5.cell (p := ⟨w2.heap.size, 0, none⟩) hk4).trans e0; have g1 := (hb5.cell (p := ⟨w2.heap.size, 1, none⟩) hk4).trans e1; have g2 := (hb5.cell (p := ⟨w2.heap.size, 2, none⟩) hk4).trans e2; have g3 := (hb5.cell (p := ⟨g, A.length * 3, none⟩) hg4).trans e3; have g4 := (hb5.cell (p := ⟨g, A.length * 3 + 1, none⟩) hg4).trans e4; have g5 := (hb5.cell (p := ⟨g, A.length * 3 + 2, none⟩) hg4).trans e5))
          have HR4 : Hid (RAt w5 rb s b) := RAt.kept (RAt.kept (w := W3.drew) HR3.out hb4) hb5
          have HM4 : Hid (Moved rb w w5) := (HM3.out.trans (Moved.of_below (Below.refl _ _).drew)).trans ((Moved.of_below hb4).trans (Moved.of_below hb5))
          have ob : w5.heap[w.heap.size]? = some (.cells #[.int .i64 0, .int .i64 0, .string ⟨#[]⟩] 63 (0, 0)) := (hb5.block _ (by have := lt_of_block HRes3.out; have := hb4.size; simp at this; omega)).trans ((hb4.block _ (by have := lt_of_block HRes3.out; simpa using this)).trans HRes3.out)
          have hs4 : w.heap.size < w5.heap.size := lt_of_block ob
          have p0 : w5.cell? ⟨w.heap.size, 0, none⟩ = some (.int .i64 0) := by rw [Lib.cell_of_heap ob]; rfl
          have p1 : w5.cell? ⟨w.heap.size, 1, none⟩ = some (.int .i64 0) := by rw [Lib.cell_of_heap ob]; rfl
          have p2 : w5.cell? ⟨w.heap.size, 2, none⟩ = some (.string ⟨#[]⟩) := by rw [Lib.cell_of_heap ob]; rfl
          have pf := fun j => Lib.frozen_of_heap ob j
          clear ob
          go_wp2
          refine bodyPost_ret (by simp [results, Tryz.results154, go_sem, p0, p1, p2]; rfl) rfl ?_
          exact ⟨.inr ⟨f, b, HP.out, HG.out, rfl, rat_far HR4.out hrb⟩, moved_new HM4.out (Nat.le_refl _)⟩
    · rw [decide_eq_false hfn] at HI
      have HG : Hid (2000 < f + n ∨ goesOn out f n = true) := .inl (by omega)
      go_wp2
      generalize hW3 : (w2.alloc (.cells #[.int .i64 f, .int .i64 n, .string ⟨#[]⟩] 63)) = W3 at *
      clear hW3
      refine wp_region_held_drew (S := fun w' => w'.cell? ⟨w2.heap.size, 0, none⟩ = some (.int .i64 f) ∧ w'.cell? ⟨w2.heap.size, 1, none⟩ = some (.int .i64 n) ∧ w'.cell? ⟨w2.heap.size, 2, none⟩ = some (.string ⟨#[]⟩)) (by kernel_rfl) ⟨k0, k1, k2⟩ (fun hS0 => ?_)
      refine takeH (i := 0) (d := 15) (v := .agg #[.int .i64 f, .int .i64 n, .string ⟨#[]⟩]) rfl rfl (by kernel_rfl) (by kernel_rfl) (by kernel_rfl) (fun _ _ _ h => h) (.inl ⟨by rfl, ?_⟩) (by assumption) ?_
      · intro w' hSw; (try dsimp only at hSw); go_simp
      try simp only [Act.put, List.setIfInBounds_toArray, List.set_cons_zero, List.set_cons_succ]
      refine wpAnyH_ready (rs := [1]) (by kernel_rfl) (by simp) ?_
      refine AllReadyH.cons rfl (fun K hK => ?_) AllReadyH.nil
      go_simp
      refine (HI.out _).mono ?_
      rintro e w4 ⟨rfl, hb4⟩
      go_wp2_with fail
      refine hK.out _ _ ⟨(hb4.cell (p := ⟨w2.heap.size, 0, none⟩) hk).trans k0, (hb4.cell (p := ⟨w2.heap.size, 1, none⟩) hk).trans k1, (hb4.cell (p := ⟨w2.heap.size, 2, none⟩) hk).trans k2⟩ (fun hS4 => ?_)
      try simp only [Act.put, List.setIfInBounds_toArray, List.set_cons_zero, List.set_cons_succ]
      refine takeH (i := 2) (d := 17) (v := .bool true) rfl rfl (by kernel_rfl) (by kernel_rfl) (by kernel_rfl) (fun _ _ _ h => h) (.inl ⟨by rfl, ?_⟩) (by assumption) ?_
      · intro w' hSw; (try dsimp only at hSw); go_simp
      try simp only [Act.put, List.setIfInBounds_toArray, List.set_cons_zero, List.set_cons_succ]
      refine takeH (i := 3) (d := 18) (v := .bool true) rfl rfl (by kernel_rfl) (by kernel_rfl) (by kernel_rfl) (fun _ _ _ h => h) (.inl ⟨by rfl, ?_⟩) (by assumption) ?_
      · intro w' hSw; (try dsimp only at hSw); go_simp
      try simp only [Act.put, List.setIfInBounds_toArray, List.set_cons_zero, List.set_cons_succ]
      refine takeH (i := 4) (d := 19) (v := undef) rfl rfl (by kernel_rfl) (by kernel_rfl) (by kernel_rfl) (fun _ _ _ h => h) (.inr ⟨by rfl, rfl⟩) (by assumption) ?_
      try simp only [Act.put, List.setIfInBounds_toArray, List.set_cons_zero, List.set_cons_succ]
      refine takeH (i := 5) (d := 20) (v := undef) rfl rfl (by kernel_rfl) (by kernel_rfl) (by kernel_rfl) (fun _ _ _ h => h) (.inr ⟨by rfl, rfl⟩) (by assumption) ?_
      try simp only [Act.put, List.setIfInBounds_toArray, List.set_cons_zero, List.set_cons_succ]
      refine takeH (i := 6) (d := 21) (v := undef) rfl rfl (by kernel_rfl) (by kernel_rfl) (by kernel_rfl) (fun _ _ _ h => h) (.inr ⟨by rfl, rfl⟩) (by assumption) ?_
      try simp only [Act.put, List.setIfInBounds_toArray, List.set_cons_zero, List.set_cons_succ]
      refine takeH (i := 7) (d := 22) (v := undef) rfl rfl (by kernel_rfl) (by kernel_rfl) (by kernel_rfl) (fun _ _ _ h => h) (.inr ⟨by rfl, rfl⟩) (by assumption) ?_
      try simp only [Act.put, List.setIfInBounds_toArray, List.set_cons_zero, List.set_cons_succ]
      refine takeH (i := 8) (d := 23) (v := undef) rfl rfl (by kernel_rfl) (by kernel_rfl) (by kernel_rfl) (fun _ _ _ h => h) (.inr ⟨by rfl, rfl⟩) (by assumption) ?_
      try simp only [Act.put, List.setIfInBounds_toArray, List.set_cons_zero, List.set_cons_succ]
      refine takeH (i := 9) (d := 24) (v := undef) rfl rfl (by kernel_rfl) (by kernel_rfl) (by kernel_rfl) (fun _ _ _ h => h) (.inr ⟨by rfl, rfl⟩) (by assumption) ?_
      try simp only [Act.put, List.setIfInBounds_toArray, List.set_cons_zero, List.set_cons_succ]
      refine takeH (i := 10) (d := 25) (v := undef) rfl rfl (by kernel_rfl) (by kernel_rfl) (by kernel_rfl) (fun _ _ _ h => h) (.inr ⟨by rfl, rfl⟩) (by assumption) ?_
      try simp only [Act.put, List.setIfInBounds_toArray, List.set_cons_zero, List.set_cons_succ]
      refine takeH (i := 11) (d := 26) (v := undef) rfl rfl (by kernel_rfl) (by kernel_rfl) (by kernel_rfl) (fun _ _ _ h => h) (.inr ⟨by rfl, rfl⟩) (by assumption) ?_
      try simp only [Act.put, List.setIfInBounds_toArray, List.set_cons_zero, List.set_cons_succ]
      refine takeH (i := 12) (d := 27) (v := undef) rfl rfl (by kernel_rfl) (by kernel_rfl) (by kernel_rfl) (fun _ _ _ h => h) (.inr ⟨by rfl, rfl⟩) (by assumption) ?_
      try simp only [Act.put, List.setIfInBounds_toArray, List.set_cons_zero, List.set_cons_succ]
      refine takeH (i := 13) (d := 28) (v := undef) rfl rfl (by kernel_rfl) (by kernel_rfl) (by kernel_rfl) (fun _ _ _ h => h) (.inr ⟨by rfl, rfl⟩) (by assumption) ?_
      try simp only [Act.put, List.setIfInBounds_toArray, List.set_cons_zero, List.set_cons_succ]
      refine takeH (i := 14) (d := 29) (v := undef) rfl rfl (by kernel_rfl) (by kernel_rfl) (by kernel_rfl) (fun _ _ _ h => h) (.inr ⟨by rfl, rfl⟩) (by assumption) ?_
      try simp only [Act.put, List.setIfInBounds_toArray, List.set_cons_zero, List.set_cons_succ]
      refine takeH (i := 15) (d := 30) (v := undef) rfl rfl (by kernel_rfl) (by kernel_rfl) (by kernel_rfl) (fun _ _ _ h => h) (.inr ⟨by rfl, rfl⟩) (by assumption) ?_
      try simp only [Act.put, List.setIfInBounds_toArray, List.set_cons_zero, List.set_cons_succ]
      refine takeH (i := 16) (d := 31) (v := undef) rfl rfl (by kernel_rfl) (by kernel_rfl) (by kernel_rfl) (fun _ _ _ h => h) (.inr ⟨by rfl, rfl⟩) (by assumption) ?_
      try simp only [Act.put, List.setIfInBounds_toArray, List.set_cons_zero, List.set_cons_succ]
      refine takeH (i := 17) (d := 32) (v := undef) rfl rfl (by kernel_rfl) (by kernel_rfl) (by kernel_rfl) (fun _ _ _ h => h) (.inr ⟨by rfl, rfl⟩) (by assumption) ?_
      try simp only [Act.put, List.setIfInBounds_toArray, List.set_cons_zero, List.set_cons_succ]
      refine takeH (i := 18) (d := 33) (v := .bool true) rfl rfl (by kernel_rfl) (by kernel_rfl) (by kernel_rfl) (fun _ _ _ h => h) (.inl ⟨by rfl, ?_⟩) (by assumption) ?_
      · intro w' hSw; (try dsimp only at hSw); go_simp
      try simp only [Act.put, List.setIfInBounds_toArray, List.set_cons_zero, List.set_cons_succ]
      refine wpAnyH_done (by kernel_rfl) ?_ _
      have HR4 : Hid (RAt w4 rb s b) := RAt.kept (w := W3.drew) HR3.out hb4
      have HM4 : Hid (Moved rb w w4) := (HM3.out.trans (Moved.of_below (Below.refl _ _).drew)).trans (Moved.of_below hb4)
      have ob : w4.heap[w.heap.size]? = some (.cells #[.int .i64 0, .int .i64 0, .string ⟨#[]⟩] 63 (0, 0)) := (hb4.block _ (by have := lt_of_block HRes3.out; simpa using this)).trans HRes3.out
      have hs4 : w.heap.size < w4.heap.size := lt_of_block ob
      have p0 : w4.cell? ⟨w.heap.size, 0, none⟩ = some (.int .i64 0) := by rw [Lib.cell_of_heap ob]; rfl
      have p1 : w4.cell? ⟨w.heap.size, 1, none⟩ = some (.int .i64 0) := by rw [Lib.cell_of_heap ob]; rfl
      have p2 : w4.cell? ⟨w.heap.size, 2, none⟩ = some (.string ⟨#[]⟩) := by rw [Lib.cell_of_heap ob]; rfl
      have pf := fun j => Lib.frozen_of_heap ob j
      clear ob
      go_wp2_with fail
      refine (giveup_any nx _).mono ?_
      rintro e w6 ⟨rfl, rfl⟩
      go_wp2
      exact ⟨rfl, .inl ⟨nx, rfl, .inr ⟨f, b, HP.out, HG.out, rfl⟩⟩, HM4.out⟩
end Go.Proofs.YtabpiaaknjcnkaaGreat
