/-
  The walks over sizeOfAll and joinStretch.
-/
import Derived.Test.YtabpiaaknjcnkaaGreatC1
namespace Go.Proofs.YtabpiaaknjcnkaaGreat
open Go.RowKit
set_option linter.unusedVariables false
set_option linter.unusedSimpArgs false
set_option maxRecDepth 100000

theorem sumI_take_succ {xs : List DOp} {k : Nat} {o : DOp} (h : xs[k]? = some o) : sumI (xs.take (k + 1)) = sumI (xs.take k) + sizeI o.len o.tx := by
  induction xs generalizing k with
  | nil => simp at h
  | cons a r ih =>
    cases k with
    | zero => simp at h; subst h; simp [sumI]
    | succ k => simp only [List.getElem?_cons_succ] at h; have := ih h; simp only [List.take_succ_cons, sumI]; omega
theorem sumI_nonneg (xs : List DOp) : 0 ≤ sumI xs := by
  induction xs with
  | nil => simp [sumI]
  | cons a r ih => have := sizeI_nonneg a.len a.tx; simp only [sumI]; omega
theorem sumI_take_le (xs : List DOp) (k : Nat) : sumI (xs.take k) ≤ sumI xs := by
  induction xs generalizing k with
  | nil => simp [sumI]
  | cons a r ih =>
    cases k with
    | zero => simp only [List.take_zero, sumI]; have := sizeI_nonneg a.len a.tx; have := sumI_nonneg r; omega
    | succ k => have := ih k; simp only [List.take_succ_cons, sumI]; omega

set_option maxHeartbeats 1000000 in
theorem sizes_any (b off cap : Nat) (xs : List DOp) (w : World) (hx : xs.length ≤ 5000000000000) (hr : ReadsAt w b off xs) (hsum : sumI xs ≤ 1000000000) (hbw : b < w.heap.size) :
    Calls Tryz.prog 123 #[.slice (some ⟨b, off, none⟩) xs.length cap] w fun e w' => e = .returned (.int .i64 (sumI xs)) ∧ Below w.heap.size w w' := by
  have HR : Hid (ReadsAt w b off xs) := hr
  clear hr
  go_enter Tryz.func123, Tryz.ntmps123
  go_wp2
  go_loopw [3, 8] (fun m c wr => ∃ k : Nat, k ≤ xs.length ∧ c = .int .i64 k ∧ m = .int .i64 (sumI (xs.take k)) ∧ Below w.heap.size w wr) (fun _ c _ => xs.length + 1 - (intOf c).toNat)
  case atStart => exact ⟨0, by omega, rfl, rfl, Below.refl _ _⟩
  case round =>
    obtain ⟨k, hk, rfl, rfl, hb⟩ := hrel
    by_cases hlt : k < xs.length
    · obtain ⟨⟨f, l, t⟩, ho⟩ : ∃ o, xs[k]? = some o := ⟨xs[k], by simp [hlt]⟩
      obtain ⟨r0, r1, r2⟩ := HR.out k _ ho
      have c0 : wr.cell? ⟨b, off + k * 3, none⟩ = some (.int .i64 f) := (hb.cell (p := ⟨b, _, none⟩) hbw).trans r0
      have c1 : wr.cell? ⟨b, off + k * 3 + 1, none⟩ = some (.int .i64 l) := (hb.cell (p := ⟨b, _, none⟩) hbw).trans r1
      have c2 : wr.cell? ⟨b, off + k * 3 + 2, none⟩ = some (.string t) := (hb.cell (p := ⟨b, _, none⟩) hbw).trans r2
      have hs := sumI_take_succ ho
      have hle := sumI_take_le xs (k + 1)
      have h0 := sumI_nonneg (xs.take k)
      have h1 := sizeI_nonneg l t
      have hsz := hb.size
      simp only at hs
      have HS : Hid (sumI (xs.take (k + 1)) = sumI (xs.take k) + sizeI l t) := hs
      generalize hg : sumI (xs.take k) = m at *
      generalize hz : sizeI l t = z at *
      have HZ : Hid (sizeI l t = z) := hz
      have hmz : m + z ≤ 1000000000 := by omega
      clear hg hz hs ho r0 r1 r2
      go_wp2_with fail
      refine (size_any f l t _).mono ?_
      rintro e w4 ⟨rfl, hb4⟩
      rw [HZ.out]
      have R2 : Below w.heap.size w w4 := (hb.alloc (by omega) _).trans (hb4.mono (by simp; omega))
      clear hb4
      go_wp2
      go_roundw
      case rel => exact ⟨k + 1, by omega, by go_num, by rw [HS.out], R2⟩
      case measure => simp [intOf]; omega
    · obtain rfl : k = xs.length := by omega
      have e : sumI (xs.take xs.length) = sumI xs := by rw [List.take_length]
      rw [e]
      clear e
      go_wp2
      go_ret
      exact ⟨rfl, hb⟩

theorem sizes_nil (ao : Option Addr) (cap : Nat) (w : World) :
    Calls Tryz.prog 123 #[.slice ao 0 cap] w fun e w' => e = .returned (.int .i64 0) ∧ Below w.heap.size w w' := by
  go_enter Tryz.func123, Tryz.ntmps123
  go_wp2
  go_loopw [3, 8] (fun m c wr => c = .int .i64 0 ∧ m = .int .i64 0 ∧ w = wr) (fun _ c _ => 0)
  case atStart => exact ⟨rfl, rfl, rfl⟩
  case round =>
    obtain ⟨rfl, rfl, rfl⟩ := hrel
    go_wp2
    go_ret
    exact ⟨rfl, Below.refl _ _⟩

/-- What a stretch adds, op by op. -/
theorem pieceGo_drop {xs : List DOp} {k : Nat} {o : DOp} (h : xs[k]? = some o) (f n : Int) : pieceGo (xs.drop k) f n =
    (if 0 < min n (sizeI o.len o.tx - min f (sizeI o.len o.tx)) then [pieceP o (min f (sizeI o.len o.tx)) (min n (sizeI o.len o.tx - min f (sizeI o.len o.tx)))] else []) ++
      pieceGo (xs.drop (k + 1)) (f - min f (sizeI o.len o.tx)) (n - min n (sizeI o.len o.tx - min f (sizeI o.len o.tx))) := by
  rw [drop_cons h, pieceGo]

theorem sumI_append (xs ys : List DOp) : sumI (xs ++ ys) = sumI xs + sumI ys := by
  induction xs with
  | nil => simp [sumI]
  | cons a r ih => simp only [List.cons_append, sumI, ih]; omega
/-- Ops of a delta that is being made: so many bytes at most. -/
structure Fit (M : Int) (xs : List DOp) : Prop where
  nice : ∀ p ∈ xs, Nice p ∧ p.fr ≤ 4000
  sum : sumI xs ≤ M
theorem sumI_mem {xs : List DOp} {p : DOp} (h : p ∈ xs) : sizeI p.len p.tx ≤ sumI xs := by
  induction xs with
  | nil => cases h
  | cons a r ih =>
    simp only [sumI]
    have := sumI_nonneg r
    have := sizeI_nonneg a.len a.tx
    rcases List.mem_cons.1 h with rfl | h
    · omega
    · have := ih h; omega
theorem Fit.length {M : Int} {xs : List DOp} (h : Fit M xs) : (xs.length : Int) ≤ M := by
  have : (xs.length : Int) ≤ sumI xs := by
    have hn := h.nice
    clear h
    induction xs with
    | nil => simp [sumI]
    | cons a r ih =>
      have h1 := (hn a (by simp)).1.size.2
      have h2 := ih (fun p hp => hn p (by simp [hp]))
      simp only [List.length_cons, sumI]; omega
  have := h.sum; omega
theorem Fit.small {M : Int} {xs : List DOp} (h : Fit M xs) (hM : M ≤ 100000) : xs.length ≤ 100000 ∧ ∀ p ∈ xs, 0 ≤ p.fr ∧ p.fr ≤ 100000000 ∧ 0 ≤ p.len ∧ p.len ≤ 100000000 ∧ p.tx.size ≤ 100000000 := by
  refine ⟨by have := h.length; omega, fun p hp => ?_⟩
  have h1 := sumI_mem hp
  have h2 := h.sum
  obtain ⟨h3, h4⟩ := h.nice p hp
  unfold sizeI at h1
  rcases h3 with ⟨a, b, c⟩ | ⟨a, b, c⟩
  · rw [if_pos a] at h1; omega
  · rw [if_neg (by omega)] at h1; omega
theorem Fit.mono {M N : Int} {xs : List DOp} (h : Fit M xs) (hM : M ≤ N) : Fit N xs := ⟨h.nice, by have := h.sum; omega⟩
theorem Fit.join {M : Int} {xs : List DOp} {o : DOp} (h : Fit M xs) (ho : Nice o) (hf : o.fr ≤ 4000) : Fit (M + sizeI o.len o.tx) (joinP xs o) := by
  have hN := joinP_nice xs o (fun p hp => (h.nice p hp).1) ho
  have hs := h.sum
  rcases List.eq_nil_or_concat xs with rfl | ⟨A, l, rfl⟩
  · rw [joinP_nil]
    exact ⟨by simpa using ⟨ho, hf⟩, by simp only [sumI] at hs ⊢; omega⟩
  · have hl : Nice l ∧ l.fr ≤ 4000 := h.nice l (by simp)
    rw [List.concat_eq_append] at *
    have hfo := nice_follow hl.1 ho
    rw [joinP_snoc] at hN ⊢
    rw [sumI_append] at hs
    simp only [sumI] at hs
    split
    · refine ⟨fun p hp => ?_, by rw [sumI_append, sumI_append]; simp only [sumI]; omega⟩
      rcases List.mem_append.1 hp with hp | hp
      · exact h.nice p hp
      · rw [List.mem_singleton.1 hp]; exact ⟨ho, hf⟩
    · rename_i hc
      rw [if_neg hc] at hN
      have hfb : followB l.fr l.len o.fr o.len = false := by simpa using hc
      refine ⟨fun p hp => ⟨hN p hp, ?_⟩, ?_⟩
      · rcases List.mem_append.1 hp with hp | hp
        · exact (h.nice p (by simp [hp])).2
        · rw [List.mem_singleton.1 hp]; exact hl.2
      · rw [sumI_append]
        simp only [sumI]
        have e : sizeI (l.len + o.len) (l.tx ++ o.tx) = sizeI l.len l.tx + sizeI o.len o.tx := by
          unfold sizeI
          rcases ho with ⟨h1, h2, h3⟩ | ⟨h1, h2, h3⟩
          · have := (hfo.1 h1).1 hfb
            rw [if_pos (by omega), if_pos this.1, if_pos h1]
          · have := (hfo.2 h1).1 hfb
            rw [if_neg (by omega), if_neg (by omega), if_neg (by omega), ByteArray.size_append]; omega
        omega
theorem Nice.fit_piece {o : DOp} (h : Nice o) (hf : o.fr ≤ 2000) (hl : o.len ≤ 2000) {s t : Int} (hs : 0 ≤ s) (ht : 0 < t) (hst : s + t ≤ sizeI o.len o.tx) : Nice (pieceP o s t) ∧ (pieceP o s t).fr ≤ 4000 ∧ sizeI (pieceP o s t).len (pieceP o s t).tx = t ∧ (pieceP o s t).tx.size ≤ o.tx.size ∧ (pieceP o s t).len ≤ 2000 ∧ 0 ≤ (pieceP o s t).len := by
  obtain ⟨h1, h2⟩ := piece_cells h hs ht hst
  refine ⟨h2, ?_⟩
  unfold pieceP sizeI
  unfold sizeI at hst
  by_cases hc : 0 < o.len
  · rw [if_pos hc] at hst
    simp only [if_pos hc]
    refine ⟨by omega, by rw [if_pos ht], Nat.zero_le _, by omega, by omega⟩
  · rw [if_neg hc] at hst
    simp only [if_neg hc]
    rw [if_neg (by omega), size_ext _ _ _ (by omega)]
    omega

set_option maxHeartbeats 4000000 in
theorem joins_any (v : Value) (acc : List DOp) (b off cap : Nat) (xs : List DOp) (from_ n M : Int) (base : Nat) (w : World) (hown : OwnOps w base v acc) (hbase : base ≤ w.heap.size) (hx : xs.length ≤ 1000) (hr : ReadsAt w b off xs) (hbw : b < base)
    (hf0 : 0 ≤ from_) (hf1 : from_ ≤ 10000) (hn0 : 0 ≤ n) (hn1 : n ≤ 10000) (hnice : ∀ o ∈ xs, Nice o ∧ o.fr ≤ 2000 ∧ o.len ≤ 2000 ∧ o.tx.size ≤ 2000) (hfit : Fit M acc) (hM : M + n ≤ 20000) (hM0 : 0 ≤ M) :
    Calls Tryz.prog 124 #[v, .slice (some ⟨b, off, none⟩) xs.length cap, .int .i64 from_, .int .i64 n] w fun e w' => ∃ v', e = .returned v' ∧ OwnOps w' base v' ((pieceGo xs from_ n).foldl joinP acc) ∧ Fit (M + n) ((pieceGo xs from_ n).foldl joinP acc) ∧ Below base w w' := by
  have HR : Hid (ReadsAt w b off xs) := hr
  clear hr
  go_enter Tryz.func124, Tryz.ntmps124
  go_wp2
  go_loopw [0, 2, 3, 15] (fun v' fv nv c wr => ∃ (k : Nat) (f' n' : Int) (ps : List DOp), k ≤ xs.length ∧ c = .int .i64 k ∧ fv = .int .i64 f' ∧ nv = .int .i64 n' ∧ 0 ≤ f' ∧ f' ≤ 10000 ∧ 0 ≤ n' ∧ n' ≤ n ∧ Hid (pieceGo xs from_ n = ps ++ pieceGo (xs.drop k) f' n') ∧ Hid (OwnOps wr base v' (ps.foldl joinP acc)) ∧ Hid (Fit (M + (n - n')) (ps.foldl joinP acc)) ∧ Below base w wr) (fun _ _ _ c _ => xs.length + 1 - (intOf c).toNat)
  case atStart => exact ⟨0, from_, n, [], by omega, rfl, rfl, rfl, hf0, hf1, hn0, by omega, by simp [Hid], hown, hfit.mono (by omega), Below.refl _ _⟩
  case round =>
    obtain ⟨k, f', n', ps, hk, rfl, rfl, rfl, hf0', hf1', hn0', hn1', HP, HO, HF, hb⟩ := hrel
    have hsz := hb.size
    by_cases hlt : k < xs.length
    · obtain ⟨⟨f, l, t⟩, ho⟩ : ∃ o, xs[k]? = some o := ⟨xs[k], by simp [hlt]⟩
      obtain ⟨r0, r1, r2⟩ := HR.out k _ ho
      have c0 : wr.cell? ⟨b, off + k * 3, none⟩ = some (.int .i64 f) := (hb.cell (p := ⟨b, _, none⟩) hbw).trans r0
      have c1 : wr.cell? ⟨b, off + k * 3 + 1, none⟩ = some (.int .i64 l) := (hb.cell (p := ⟨b, _, none⟩) hbw).trans r1
      have c2 : wr.cell? ⟨b, off + k * 3 + 2, none⟩ = some (.string t) := (hb.cell (p := ⟨b, _, none⟩) hbw).trans r2
      have HP2 : Hid (pieceGo xs from_ n = ps ++ _) := HP.out.trans (by rw [pieceGo_drop ho])
      obtain ⟨hn, g1, g2, g3⟩ := hnice _ (List.mem_of_getElem? ho)
      have HN : Hid (Nice ⟨f, l, t⟩) := hn
      simp only at g1 g2 g3
      have hz0 : 0 < sizeI l t := hn.size.2
      have hz1 : sizeI l t ≤ 2000 := by unfold sizeI; split <;> omega
      simp only at HP2
      generalize hz : sizeI l t = z at *
      have HZ : Hid (sizeI l t = z) := hz
      clear hz hn ho r0 r1 r2 HP
      go_wp2_with fail
      refine (size_any f l t _).mono ?_
      rintro e w4 ⟨rfl, hb4⟩
      rw [HZ.out]
      have R1 : Below base w w4 := (hb.alloc (by omega) _).trans (hb4.mono (by simp; omega))
      have hs4 : wr.heap.size < w4.heap.size := by have := hb4.size; simp at this; omega
      have k0 : w4.cell? ⟨wr.heap.size, 0, none⟩ = some (.int .i64 f) := (hb4.cell (p := ⟨wr.heap.size, 0, none⟩) (by simp)).trans (by simp)
      have k1 : w4.cell? ⟨wr.heap.size, 1, none⟩ = some (.int .i64 l) := (hb4.cell (p := ⟨wr.heap.size, 1, none⟩) (by simp)).trans (by simp)
      have k2 : w4.cell? ⟨wr.heap.size, 2, none⟩ = some (.string t) := (hb4.cell (p := ⟨wr.heap.size, 2, none⟩) (by simp)).trans (by simp)
      have HO4 : Hid (OwnOps w4 base _ (ps.foldl joinP acc)) := OwnOps.kept (HO.out.alloc _) hb4
      clear hb4 HO c0 c1 c2
      go_wp2_with fail
      refine (size_any f l t _).mono ?_
      rintro e w5 ⟨rfl, hb5⟩
      rw [HZ.out]
      have R2 : Below base w w5 := R1.trans (hb5.mono (by omega))
      have hs5 : wr.heap.size < w5.heap.size := by have := hb5.size; omega
      have j0 : w5.cell? ⟨wr.heap.size, 0, none⟩ = some (.int .i64 f) := (hb5.cell (p := ⟨wr.heap.size, 0, none⟩) hs4).trans k0
      have j1 : w5.cell? ⟨wr.heap.size, 1, none⟩ = some (.int .i64 l) := (hb5.cell (p := ⟨wr.heap.size, 1, none⟩) hs4).trans k1
      have j2 : w5.cell? ⟨wr.heap.size, 2, none⟩ = some (.string t) := (hb5.cell (p := ⟨wr.heap.size, 2, none⟩) hs4).trans k2
      have HO5 : Hid (OwnOps w5 base _ (ps.foldl joinP acc)) := OwnOps.kept HO4.out hb5
      clear hb5 HO4 k0 k1 k2 R1
      have b1 : 0 ≤ min f' z := by omega
      have b2 : min f' z ≤ z := by omega
      have b3 : min f' z ≤ f' := by omega
      have b4 : 0 ≤ min n' (z - min f' z) := by omega
      have b5 : min n' (z - min f' z) ≤ n' := by omega
      have b6 : min f' z + min n' (z - min f' z) ≤ z := by omega
      by_cases hp : 0 < min n' (z - min f' z)
      · have HP3 : Hid (pieceGo xs from_ n = (ps ++ [pieceP ⟨f, l, t⟩ (min f' z) (min n' (z - min f' z))]) ++ pieceGo (List.drop (k + 1) xs) (f' - min f' z) (n' - min n' (z - min f' z))) := by
          have := HP2.out
          rw [if_pos hp] at this
          show _ = _
          rw [this, List.append_assoc]
        obtain ⟨pn, pf, pz, pt, pl, pl0⟩ := Nice.fit_piece HN.out g1 g2 b1 hp (by simp only; rw [HZ.out]; exact b6)
        simp only at pt
        have HF2 := HF.out.join pn pf
        rw [pz] at HF2
        obtain ⟨m1, m2⟩ := HF.out.small (by omega)
        have HM1 : Hid (∀ p ∈ ps.foldl joinP acc, 0 ≤ p.fr ∧ p.fr ≤ 100000000 ∧ 0 ≤ p.len ∧ p.len ≤ 100000000 ∧ p.tx.size ≤ 100000000) := m2
        have hf00 : 0 ≤ f := by rcases HN.out with ⟨_, h, _⟩ | ⟨_, h, _⟩ <;> simp only at h <;> omega
        generalize hsg : min f' z = sg at *
        generalize htg : min n' (z - sg) = tg at *
        have HF3 : Hid (Fit (M + (n - (n' - tg))) (joinP (ps.foldl joinP acc) (pieceP ⟨f, l, t⟩ sg tg))) := HF2.mono (by omega)
        have HPC : Hid (∀ W, Calls Tryz.prog 143 #[.agg #[.int .i64 f, .int .i64 l, .string t], .int .i64 sg, .int .i64 tg] W fun e w' => e = .returned (.agg #[.int .i64 (pieceP ⟨f, l, t⟩ sg tg).fr, .int .i64 (pieceP ⟨f, l, t⟩ sg tg).len, .string (pieceP ⟨f, l, t⟩ sg tg).tx]) ∧ Below W.heap.size W w') :=
          fun W => piece_any f l t sg tg W b1 b4 hf00 (by omega) (by rw [HZ.out]; exact b6) (by omega) (by omega)
        generalize hq : pieceP ⟨f, l, t⟩ sg tg = q at *
        clear hq HF2 pz pn HP2 m2 b2 b3
        go_wp2_with fail
        refine (HPC.out _).mono ?_
        rintro e w6 ⟨rfl, hb6⟩
        have R3 : Below base w w6 := R2.trans (hb6.mono (by omega))
        have hs6 : w.heap.size ≤ w6.heap.size := by have := hb6.size; omega
        have HO6 : Hid (OwnOps w6 base _ (ps.foldl joinP acc)) := OwnOps.kept HO5.out hb6
        clear hb6 HO5 HPC R2
        go_wp2_with fail
        refine (join_any _ (ps.foldl joinP acc) q.fr q.len q.tx base _ HO6.out (by omega) m1 (by omega) pl0 (by omega) HM1.out).mono ?_
        rintro e w7 ⟨v7, rfl, ho7, hb7⟩
        have R4 : Below base w w7 := R3.trans hb7
        have HO7 : Hid (OwnOps w7 base v7 ((ps ++ [q]).foldl joinP acc)) := by
          show OwnOps w7 base v7 ((ps ++ [q]).foldl joinP acc)
          rw [List.foldl_append]; exact ho7
        have HF4 : Hid (Fit (M + (n - (n' - tg))) ((ps ++ [q]).foldl joinP acc)) := by
          show Fit _ ((ps ++ [q]).foldl joinP acc)
          rw [List.foldl_append]; exact HF3.out
        clear hb7 ho7 HO6 R3 HF3 HM1
        go_wp2
        go_roundw
        case rel => exact ⟨k + 1, f' - sg, n' - tg, ps ++ [q], by omega, by go_num, by go_num, by go_num, by omega, by omega, by omega, by omega, HP3, HO7, HF4, R4⟩
        case measure => simp [intOf]; omega
      · have HP3 : Hid (pieceGo xs from_ n = ps ++ pieceGo (List.drop (k + 1) xs) (f' - min f' z) (n' - min n' (z - min f' z))) := by
          have := HP2.out
          rw [if_neg hp] at this
          simpa [Hid] using this
        have HF3 : Hid (Fit (M + (n - (n' - min n' (z - min f' z)))) (ps.foldl joinP acc)) := HF.out.mono (by omega)
        generalize hsg : min f' z = sg at *
        generalize htg : min n' (z - sg) = tg at *
        clear HP2 b2 b3
        go_wp2
        go_roundw
        case rel => exact ⟨k + 1, f' - sg, n' - tg, ps, by omega, by go_num, by go_num, by go_num, by omega, by omega, by omega, by omega, HP3, HO5, HF3, R2⟩
        case measure => simp [intOf]; omega
    · obtain rfl : k = xs.length := by omega
      have HE : Hid (pieceGo xs from_ n = ps) := by
        have := HP.out
        rw [List.drop_length] at this
        simpa [Hid, pieceGo] using this
      have HF3 : Hid (Fit (M + n) (ps.foldl joinP acc)) := HF.out.mono (by omega)
      go_wp2
      go_ret
      rw [HE.out]
      exact ⟨_, rfl, HO.out, HF3.out, hb⟩
end Go.Proofs.YtabpiaaknjcnkaaGreat
