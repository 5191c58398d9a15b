/- The texts ZQa, ZQc, ZR, ZZ, one behind the other. -/
import Derived.Test.YtabpiaaknjcnkaaGreatXZTZSZTaZTbZTcYA
import Derived.Test.YtabpiaaknjcnkaaGreatXW8WBP2
import Derived.Test.YtabpiaaknjcnkaaGreatXR4L7L8P4S1S2L9LBLP
import Derived.Deep.DeepCutAuto
import Derived.Test.YtabpiaaknjcnkaaGreatXVLVMZQ
import Derived.Test.YtabpiaaknjcnkaaGreatXZYZPYLPXVN
import Derived.Test.YtabpiaaknjcnkaaGreatXYQZQbYM
import Derived.LoopTactic
/-
  A text cut off, one byte of it turned.
-/
namespace Go.Proofs.YtabpiaaknjcnkaaGreat
open Go.RowKit
set_option linter.unusedVariables false
set_option linter.unusedSimpArgs false
set_option maxRecDepth 100000

theorem xor_byteZ (c : UInt8) (p : Nat) (hp : p < 255) : ∃ x : UInt8, bits BinOp.xor IntKind.u8 (c.toNat : Int) (1 + (p : Int)) = (x.toNat : Int) := by
  have hlt : c.toNat ^^^ (1 + p) < 256 := Nat.xor_lt_two_pow (n := 8) c.toNat_lt (by omega)
  refine ⟨UInt8.ofNat (c.toNat ^^^ (1 + p)), ?_⟩
  rw [UInt8.toNat_ofNat_of_lt' hlt, ← u8_xor_nat c.toNat (1 + p) c.toNat_lt (by omega)]
  rfl
theorem conv_byteZ (W : World) (x : UInt8) : (convert 48 9 (.slice (some ⟨W.heap.size, 0, none⟩) 1 1)).run Tryz.prog ((W.alloc (.cells #[.int .u8 (x.toNat : Int)] 5)).drew) = .ok (.string ⟨#[x]⟩) ((W.alloc (.cells #[.int .u8 (x.toNat : Int)] 5)).drew) :=
  run_convert_bytes_back (P := Tryz.prog) ((W.alloc (.cells #[.int .u8 (x.toNat : Int)] 5)).drew) 48 9 5 ⟨W.heap.size, 0, none⟩ 1 [x] Tryz.underlying48 Tryz.underlying5 Tryz.underlying9 (fun j hj => by
    have : j = 0 := by simpa using hj
    subst this
    simp [Addr.add])

set_option maxHeartbeats 4000000 in
theorem lcut_any (s : ByteArray) (n z : Int) (w : World) (hs : s.size ≤ 20000) (hn : -9223372036854775808 ≤ n ∧ n ≤ 9223372036854775807) (hz : -9223372036854775808 ≤ z ∧ z ≤ 9223372036854775807) :
    Calls Tryz.prog 38 #[.string s, .int .i64 n, .int .i64 z] w fun e w' => (∃ t : ByteArray, e = .returned (.string t) ∧ t.size ≤ 20000) ∧ Below w.heap.size w w' := by
  have hP := pickN_lt n (s.size + 1) (by omega)
  have HPK : Hid (∀ W, Calls Tryz.prog 32 #[.int .i64 n, .int .i64 ((s.size : Int) + 1)] W fun e w' => e = .returned (.int .i64 (pickN n (s.size + 1))) ∧ W = w') := fun W => lpick_eq n (s.size + 1) W hn.1 hn.2 (by omega) (by omega)
  generalize pickN n (s.size + 1) = P at *
  have hPI : (P : Int) ≤ (s.size : Int) := by omega
  have u0 : IntKind.i64.wrap ((s.size : Int) + 1) = (s.size : Int) + 1 := by rw [IntKind.wrap_i64]; omega
  have hs1 : (s.extract 0 P).size = P := by rw [ByteArray.size_extract]; omega
  clear hn
  obtain ⟨S1, hS1⟩ : ∃ S1, S1 = s.extract 0 P := ⟨_, rfl⟩
  have HS1 : Hid (s.extract 0 P = S1) := hS1.symm
  have hS1s : S1.size ≤ 20000 := by rw [hS1, hs1]; omega
  clear hS1 hs1
  by_cases hz0 : z ≤ 0
  · go_enter Tryz.func38, Tryz.ntmps38
    go_wp2_with fail
    refine (HPK.out _).mono ?_
    rintro e w1 ⟨rfl, rfl⟩
    go_wp2
    go_ret
    exact ⟨⟨_, rfl, by rw [HS1.out]; exact hS1s⟩, Below.refl _ _⟩
  · have hz0I : ¬ z ≤ 0 := hz0
    by_cases h0 : S1.size = 0
    · have he : (s.extract 0 P).toList.isEmpty = true := by rw [HS1.out]; exact (isEmpty_iff S1).2 h0
      go_enter Tryz.func38, Tryz.ntmps38
      go_wp2_with fail
      refine (HPK.out _).mono ?_
      rintro e w1 ⟨rfl, rfl⟩
      go_wp2
      go_ret
      exact ⟨⟨_, rfl, by rw [HS1.out]; exact hS1s⟩, Below.refl _ _⟩
    · have he : (s.extract 0 P).toList.isEmpty = false := by
        rw [HS1.out]
        cases h : S1.toList.isEmpty
        · rfl
        · have := (isEmpty_iff S1).1 h; omega
      have hsz : (s.extract 0 P).size = P := by rw [ByteArray.size_extract]; omega
      have hP0 : 0 < P := by rw [HS1.out] at hsz; omega
      obtain ⟨u, rfl⟩ : ∃ u : Nat, z = u := ⟨z.toNat, by omega⟩
      have hat : u % P < P := Nat.mod_lt _ hP0
      have hPn : ¬ (P : Int) = 0 := by omega
      go_enter Tryz.func38, Tryz.ntmps38
      go_wp2_with fail
      refine (HPK.out _).mono ?_
      rintro e w1 ⟨rfl, rfl⟩
      go_upto_region 5 with fail
      rw [HS1.out] at hsz ⊢
      have hA : ((u : Int) % (P : Int)) = ((u % P : Nat) : Int) := by simp
      rw [hA]
      obtain ⟨R, hR1, hR2⟩ : ∃ R : Nat, ((u : Int) / (P : Int) % 255) = (R : Int) ∧ R < 255 := ⟨u / P % 255, by simp, Nat.mod_lt _ (by omega)⟩
      have hqw : IntKind.i64.wrap ((u : Int) / (P : Int)) = (u : Int) / (P : Int) := by
        have h1 : (0 : Int) ≤ (u : Int) / (P : Int) := Int.ediv_nonneg (by omega) (by omega)
        have h2 : (u : Int) / (P : Int) ≤ (u : Int) := Int.ediv_le_self _ (by omega)
        rw [IntKind.wrap_i64]; omega
      generalize u % P = A at *
      have hAS : A < S1.size := by omega
      obtain ⟨x, hbx⟩ := xor_byteZ (S1[A]'hAS) R hR2
      have q1 : (A : Int) < (S1.size : Int) := by omega
      have q2 : (0 : Int) ≤ (A : Int) := by omega
      have q7 : IntKind.i64.wrap (1 + (R : Int)) = 1 + (R : Int) := by rw [IntKind.wrap_i64]; omega
      have q8 : IntKind.u8.wrap (1 + (R : Int)) = 1 + (R : Int) := by rw [IntKind.wrap_u8]; omega
      have q9 : (1 + (R : Int)) % 256 = 1 + (R : Int) := by omega
      have hPS : (P : Int) = (S1.size : Int) := by omega
      rw [hPS] at hR1 hqw hPn
      clear hA HPK HS1 he hat hsz hPI
      have ht : ((u : Int) / (S1.size : Int)).tmod 255 = (R : Int) := by
        rw [Int.tmod_eq_emod_of_nonneg (Int.ediv_nonneg (by omega) (by omega))]; exact hR1
      have hw : wrap64 (1 + (R : Int)) = 1 + (R : Int) := by unfold wrap64; omega
      go_quiet (fail)
      have HB0 : Hid (Below w.heap.size w (w.drewN nq)) := below_drewN1 (Below.refl _ _) nq
      generalize (w.drewN nq) = W0 at *
      have q3 : (A : Int) ≤ (S1.size : Int) := by omega
      have q4 : A + 1 ≤ S1.size := by omega
      have q5 : (A : Int) + 1 ≤ (S1.size : Int) := by omega
      have q10 : (0 : Int) ≤ (A : Int) + 1 := by omega
      have q6 : IntKind.i64.wrap ((A : Int) + 1) = (A : Int) + 1 := by rw [IntKind.wrap_i64]; omega
      have hcv : ∀ W : World, (convert 48 9 (.slice (some ⟨W.heap.size, 0, none⟩) 1 1)).run Tryz.prog ((W.alloc (.cells #[.int .u8 (x.toNat : Int)] 5)).drew) = .ok (.string ⟨#[x]⟩) ((W.alloc (.cells #[.int .u8 (x.toNat : Int)] 5)).drew) := fun W => conv_byteZ W x
      have z2 : (S1.extract 0 A).size = A := by rw [ByteArray.size_extract]; omega
      have z3 : (S1.extract (A + 1) S1.size).size = S1.size - (A + 1) := by rw [ByteArray.size_extract]; omega
      have z4 : (⟨#[x]⟩ : ByteArray).size = 1 := rfl
      have hadd1 : ∀ W : World, (Op.stringOp .add (S1.extract 0 A) ⟨#[x]⟩).run Tryz.prog W = .ok (.string (S1.extract 0 A ++ ⟨#[x]⟩)) W := fun W => run_string_add_sum W _ _ (by omega)
      have hadd2 : ∀ W : World, (Op.stringOp .add (S1.extract 0 A ++ ⟨#[x]⟩) (S1.extract (A + 1) S1.size)).run Tryz.prog W = .ok (.string (S1.extract 0 A ++ ⟨#[x]⟩ ++ S1.extract (A + 1) S1.size)) W := fun W => run_string_add_sum W _ _ (by rw [ByteArray.size_append]; omega)
      have HSZ : Hid ((S1.extract 0 A ++ ⟨#[x]⟩ ++ S1.extract (A + 1) S1.size).size ≤ 20000) := by
        unfold Hid; rw [ByteArray.size_append, ByteArray.size_append, z2, z3, z4]; omega
      clear hbx hw ht q7 q8 q9 hqw hR1 hR2 hPS hPn z2 z3 z4 hS1s h0 hP hP0 hs hz hz0 hz0I
      go_wp2
      go_region_with (first | fail)
      all_goals go_wp2
      all_goals go_ret
      all_goals exact ⟨⟨_, rfl, HSZ.out⟩, HB0.out.trans (((Below.refl _ _).alloc HB0.out.size _).drew)⟩
end Go.Proofs.YtabpiaaknjcnkaaGreat

/-
  The steps of Open, and of Open of a log that is cut off.
-/
namespace Go.Proofs.YtabpiaaknjcnkaaGreat
open Go.RowKit
set_option linter.unusedVariables false
set_option linter.unusedSimpArgs false
set_option maxRecDepth 100000

theorem opened_from {w W : World} {B0 Wb : Nat} {xv yv bv : Value} {es : List Entry} {xs : List XV} {ys : List YV} {κ : Nat → Col} (h : WorldAt w B0 Wb xv yv bv es xs ys κ) (hsame : xs.map (·.s) = ys.map (·.s)) (h4 : xs.length ≤ 4) (log : ByteArray) (hls : log.size ≤ 9223372036854775807) (hW : Below w.heap.size w W) :
    Calls Tryz.prog 31 #[.pointer (some ⟨Wb, 0, none⟩), .string log] W fun e w' => e = .returned (.bool true) ∧ Hid (Went B0 Wb es.length w e w') := by
  refine (opened_any (h.below hW) hsame h4 log hls).mono ?_
  rintro e w' ⟨he, hh, hb⟩
  exact ⟨he, he, hh, (hW.mono h.low0).trans hb⟩
set_option maxHeartbeats 4000000 in
theorem step_open {w : World} {B0 Wb : Nat} {xv yv bv : Value} {es : List Entry} {xs : List XV} {ys : List YV} {κ : Nat → Col} (h : WorldAt w B0 Wb xv yv bv es xs ys κ) (hsame : xs.map (·.s) = ys.map (·.s)) (h4 : xs.length ≤ 4) (a b c : Int) (s t : ByteArray) (hs : s.size ≤ 9223372036854775807) (lo mo : Option Addr) (ln lc mn mc : Nat) :
    Calls Tryz.prog 17 #[.pointer (some ⟨Wb, 0, none⟩), .agg #[.int .i64 13, .int .i64 a, .int .i64 b, .int .i64 c, .string s, .string t, .slice lo ln lc, .slice mo mn mc]] w (Went B0 Wb es.length w) := by
  have HC : Hid (∀ W, Below w.heap.size w W → Calls Tryz.prog 31 #[.pointer (some ⟨Wb, 0, none⟩), .string s] W fun e w' => e = .returned (.bool true) ∧ Hid (Went B0 Wb es.length w e w')) := fun W hW => opened_from h hsame h4 s hs hW
  clear h hsame h4 hs
  go_enter Tryz.func17, Tryz.ntmps17
  go_wp2_with fail
  refine (HC.out _ ((Below.refl w.heap.size w).alloc (Nat.le_refl _) _)).mono ?_
  rintro e w1 ⟨rfl, HG⟩
  clear HC
  go_wp2
  go_ret
  exact HG.out
set_option maxHeartbeats 4000000 in
theorem step_cut {w : World} {B0 Wb : Nat} {xv yv bv : Value} {es : List Entry} {xs : List XV} {ys : List YV} {κ : Nat → Col} (h : WorldAt w B0 Wb xv yv bv es xs ys κ) (hsame : xs.map (·.s) = ys.map (·.s)) (h0 : 0 < xs.length) (h4 : xs.length ≤ 4) (a b c : Int) (ha : -9223372036854775808 ≤ a ∧ a ≤ 9223372036854775807) (hb : -9223372036854775808 ≤ b ∧ b ≤ 9223372036854775807) (hc : -9223372036854775808 ≤ c ∧ c ≤ 9223372036854775807) (s t : ByteArray) (lo mo : Option Addr) (ln lc mn mc : Nat) :
    Calls Tryz.prog 17 #[.pointer (some ⟨Wb, 0, none⟩), .agg #[.int .i64 14, .int .i64 a, .int .i64 b, .int .i64 c, .string s, .string t, .slice lo ln lc, .slice mo mn mc]] w (Went B0 Wb es.length w) := by
  have hi := pickN_lt a xs.length h0
  have HPK : Hid (∀ W, Calls Tryz.prog 32 #[.int .i64 a, .int .i64 xs.length] W fun e w' => e = .returned (.int .i64 (pickN a xs.length)) ∧ W = w') := fun W => lpick_eq a xs.length W ha.1 ha.2 h0 (by omega)
  generalize pickN a xs.length = i at *
  obtain ⟨gx, cx, gy, cy, x, y, ex, ey, lx, ly, c1, c2, hx, hy, hxy⟩ := h.picks hsame hi
  obtain ⟨hX, hXc, hok⟩ := h.xat i x hx
  obtain ⟨hY, hYc, hok2⟩ := h.yat i y hy
  rw [← hxy] at hY
  have HC : Hid (∀ W log, Below w.heap.size w W → log.size ≤ 20000 → Calls Tryz.prog 31 #[.pointer (some ⟨Wb, 0, none⟩), .string log] W fun e w' => e = .returned (.bool true) ∧ Hid (Went B0 Wb es.length w e w')) := fun W log hW hl => opened_from h hsame h4 log (by omega) hW
  have k8 : w.cell? ⟨y.q, 8, none⟩ = some (.string ⟨x.s.log.toArray⟩) := hY.cellL
  have hq : y.q < w.heap.size := hY.lt
  have HCU : Hid (∀ W, Calls Tryz.prog 38 #[.string ⟨x.s.log.toArray⟩, .int .i64 b, .int .i64 c] W fun e w' => (∃ t : ByteArray, e = .returned (.string t) ∧ t.size ≤ 20000) ∧ Below W.heap.size W w') := fun W => lcut_any _ b c W (by rw [lens_size]; exact hok.log) hb hc
  have kX := h.cellX
  have kY := h.cellY
  rw [ex] at kX
  rw [ey] at kY
  have hWb := h.lt
  have hN0 : ¬ (xs.length : Int) = 0 := by omega
  have hiI : (i : Int) < (xs.length : Int) := by omega
  generalize (⟨x.s.log.toArray⟩ : ByteArray) = T at *
  generalize x.p = p at *
  generalize y.q = q at *
  generalize xs.length = N at *
  clear hx hy hxy hX hY hok h hsame ex ey ha hb hc hXc hYc hok2 h0 h4 hi
  go_enter Tryz.func17, Tryz.ntmps17
  go_wp2
  go_region_with (first | (go_at_call 32; refine (HPK.out _).mono ?_; rintro e w' ⟨rfl, rfl⟩))
  all_goals
    go_wp2_with fail
    go_region_with (first | (go_at_call 38; refine (HCU.out _).mono ?_; rintro e w3 ⟨⟨t3, rfl, ht3⟩, b3⟩; have B3 : Below w.heap.size w w3 := (by first | exact (((Below.refl w.heap.size w).alloc (Nat.le_refl _) _).drew.drew).trans (b3.mono (by simp)) | exact (((Below.refl w.heap.size w).alloc (Nat.le_refl _) _).drew).trans (b3.mono (by simp)))) | (go_at_call 31; refine (HC.out _ _ B3 ht3).mono ?_; rintro e w4 ⟨rfl, HG⟩))
    all_goals go_wp2
    all_goals go_ret
    all_goals exact HG.out
end Go.Proofs.YtabpiaaknjcnkaaGreat

/-
  Any step of the kinds up to 15.
-/
namespace Go.Proofs.YtabpiaaknjcnkaaGreat
open Go.RowKit
set_option linter.unusedVariables false
set_option linter.unusedSimpArgs false
set_option maxRecDepth 100000

/-- A raw number. -/
def Raw64 (a : Int) : Prop := -9223372036854775808 ≤ a ∧ a ≤ 9223372036854775807
theorem step_every {w : World} {B0 Wb n : Nat} (h : Holds B0 Wb n w) (hn : n ≤ 1300000000000) (k a b c : Int) (ha : Raw64 a) (hb : Raw64 b) (hc : Raw64 c) (s t : ByteArray) (vl vm : Value) (lx ly : List DOp) (hr : Raw B0 w s t vl vm lx ly) (hi2 : Ints ly) (hk : k ≤ 15) :
    Calls Tryz.prog 17 #[.pointer (some ⟨Wb, 0, none⟩), .agg #[.int .i64 k, .int .i64 a, .int .i64 b, .int .i64 c, .string s, .string t, vl, vm]] w fun e w' => e = .returned (.bool true) ∧ Hid (Holds B0 Wb (n + 1) w') ∧ Below B0 w w' := by
  by_cases h12 : k ≤ 12
  · exact (step_any h hn k a b c ha s t vl vm lx ly hr hi2 h12).mono fun e w' hh => hh.holds
  · have hH := h
    obtain ⟨xv, yv, bv, es, xs, ys, κ, h1, h2, h3, h4⟩ := h
    obtain ⟨lo, lc, hvl⟩ := hr.hl.slice
    obtain ⟨mo, mc, hvm⟩ := hr.hm.slice
    have hss : s.size ≤ 9223372036854775807 := by have := hr.hs; omega
    rw [hvl, hvm]
    rcases (show k = 13 ∨ k = 14 ∨ k = 15 by omega) with rfl | rfl | rfl
    · exact (step_open h4 h2 h3 a b c s t hss lo mo _ lc _ mc).mono fun e w' hh => (hh.mono (by omega)).holds
    · by_cases h0 : xs = []
      · subst h0
        exact (step_empty h4 14 a b c (by omega) (by omega) (by omega) s t lo mo _ lc _ mc).mono fun e w' hh => ((went_read hH hh.1 hh.2).mono (by omega)).holds
      · exact (step_cut h4 h2 (List.length_pos_iff.2 h0) h3 a b c ha hb hc s t lo mo _ lc _ mc).mono fun e w' hh => (hh.mono (by omega)).holds
    · by_cases h0 : xs = []
      · subst h0
        exact (step_empty h4 15 a b c (by omega) (by omega) (by omega) s t lo mo _ lc _ mc).mono fun e w' hh => ((went_read hH hh.1 hh.2).mono (by omega)).holds
      · exact (step_squash h4 h2 (List.length_pos_iff.2 h0) h3 a b c ha s t hss lo mo _ lc _ mc).mono fun e w' hh => (hh.mono (by omega)).holds
end Go.Proofs.YtabpiaaknjcnkaaGreat

/-
  A whole script, of the kinds up to 15.
-/
namespace Go.Proofs.YtabpiaaknjcnkaaGreat
open Go.RowKit
set_option linter.unusedVariables false
set_option linter.unusedSimpArgs false
set_option maxRecDepth 100000

set_option maxHeartbeats 16000000 in
theorem plays_all (w : World) (ao : Option Addr) (cap : Nat) (L : List SOp) (hL : L.length ≤ 1256600000000) (hsc : Script w ao L) (hys : ∀ o ∈ L, Ints o.ys) (hra : ∀ o ∈ L, Raw64 o.a ∧ Raw64 o.b ∧ Raw64 o.c) :
    Calls Tryz.prog 9 #[.slice ao L.length cap, .int .i64 15] w fun e w' => e = .returned (.bool true) ∧ Below w.heap.size w w' := by
  have HS : Hid (Script w ao L) := hsc
  have HY : Hid (∀ o ∈ L, Ints o.ys) := hys
  have HA : Hid (∀ o ∈ L, Raw64 o.a ∧ Raw64 o.b ∧ Raw64 o.c) := hra
  clear hsc hys hra
  have b0 : Below w.heap.size w (w.alloc (.cells #[.slice none 0 0, .slice none 0 0, .slice none 0 0] 57)) := (Below.refl _ _).alloc (Nat.le_refl _) _
  have HF : Hid (Calls Tryz.prog 17 #[.pointer (some ⟨w.heap.size, 0, none⟩), .agg #[.int .i64 1, .int .i64 0, .int .i64 0, .int .i64 0, .string ⟨#[104, 101, 108, 108, 111, 32, 119, 111, 114, 108, 100]⟩, .string ⟨#[104, 101, 108, 108, 111, 32, 119, 111, 114, 116, 104, 121]⟩, .slice none 0 0, .slice none 0 0]] (w.alloc (.cells #[.slice none 0 0, .slice none 0 0, .slice none 0 0] 57)) fun e w' => e = .returned (.bool true) ∧ Hid (Holds w.heap.size w.heap.size 1 w') ∧ Below w.heap.size (w.alloc (.cells #[.slice none 0 0, .slice none 0 0, .slice none 0 0] 57)) w') :=
    step_hold (world_new w) (by omega) 1 0 0 0 rng0 _ _ _ _ [] [] (raw_hello _ _) ints_nil (by omega)
  go_enter Tryz.func9, Tryz.ntmps9
  go_wp2_with fail
  refine HF.out.mono ?_
  rintro e w1 ⟨rfl, HH1, hb1⟩
  have c1 : Below w.heap.size w w1 := b0.trans hb1
  clear HF b0 hb1
  have HE := step_there HH1.out (by omega)
  have HE2 : Hid (Calls Tryz.prog 17 #[.pointer (some ⟨w.heap.size, 0, none⟩), .agg #[.int .i64 5, .int .i64 0, .int .i64 0, .int .i64 0, .string ⟨#[]⟩, .string ⟨#[]⟩, .slice (some ⟨w1.heap.size, 0, none⟩) 2 2, .slice none 0 0]] (w1.alloc (.cells #[.int .i64 0, .int .i64 6, .string ⟨#[]⟩, .int .i64 0, .int .i64 0, .string ⟨#[116, 104, 101, 114, 101]⟩] 63)) fun e w' => e = .returned (.bool true) ∧ Hid (Holds w.heap.size w.heap.size 1 w') ∧ Below w.heap.size w1 w') := HE
  clear HE
  go_wp2_with fail
  refine HE2.out.mono ?_
  rintro e w2 ⟨rfl, HH2, hb2⟩
  have c2 : Below w.heap.size w w2 := c1.trans hb2
  clear HE2 hb2 c1 HH1
  have HC3 : Hid (Calls Tryz.prog 17 #[.pointer (some ⟨w.heap.size, 0, none⟩), .agg #[.int .i64 7, .int .i64 0, .int .i64 0, .int .i64 0, .string ⟨#[]⟩, .string ⟨#[]⟩, .slice none 0 0, .slice none 0 0]] w2 fun e w' => e = .returned (.bool true) ∧ Hid (Holds w.heap.size w.heap.size 2 w') ∧ Below w.heap.size w2 w') := step_hold HH2.out (by omega) 7 0 0 0 rng0 _ _ _ _ [] [] (raw_none _ _ _ (by decide)) ints_nil (by omega)
  go_wp2_with fail
  refine HC3.out.mono ?_
  rintro e w3 ⟨rfl, HH3, hb3⟩
  have c3 : Below w.heap.size w w3 := c2.trans hb3
  clear HC3 hb3 c2 HH2
  have HC4 : Hid (Calls Tryz.prog 17 #[.pointer (some ⟨w.heap.size, 0, none⟩), .agg #[.int .i64 8, .int .i64 0, .int .i64 1, .int .i64 0, .string ⟨#[97, 32, 102, 105, 114, 115, 116, 32, 118, 101, 114, 115, 105, 111, 110]⟩, .string ⟨#[]⟩, .slice none 0 0, .slice none 0 0]] w3 fun e w' => e = .returned (.bool true) ∧ Hid (Holds w.heap.size w.heap.size 3 w') ∧ Below w.heap.size w3 w') := step_hold HH3.out (by omega) 8 0 1 0 rng0 _ _ _ _ [] [] (raw_none _ _ _ (by decide)) ints_nil (by omega)
  go_wp2_with fail
  refine HC4.out.mono ?_
  rintro e w4 ⟨rfl, HH4, hb4⟩
  have c4 : Below w.heap.size w w4 := c3.trans hb4
  clear HC4 hb4 c3 HH3
  have HC5 : Hid (Calls Tryz.prog 17 #[.pointer (some ⟨w.heap.size, 0, none⟩), .agg #[.int .i64 8, .int .i64 0, .int .i64 1, .int .i64 0, .string ⟨#[97, 32, 102, 105, 114, 115, 116, 32, 118, 101, 114, 115, 105, 111, 110, 44, 32, 97, 110, 100, 32, 109, 111, 114, 101]⟩, .string ⟨#[]⟩, .slice none 0 0, .slice none 0 0]] w4 fun e w' => e = .returned (.bool true) ∧ Hid (Holds w.heap.size w.heap.size 4 w') ∧ Below w.heap.size w4 w') := step_hold HH4.out (by omega) 8 0 1 0 rng0 _ _ _ _ [] [] (raw_none _ _ _ (by decide)) ints_nil (by omega)
  go_wp2_with fail
  refine HC5.out.mono ?_
  rintro e w5 ⟨rfl, HH5, hb5⟩
  have c5 : Below w.heap.size w w5 := c4.trans hb5
  clear HC5 hb5 c4 HH4
  go_wp2
  go_loopw [6, 9] (fun ok c wr => ∃ (i : Nat), i ≤ L.length ∧ ok = .bool true ∧ c = .int .i64 i ∧ Hid (Holds w.heap.size w.heap.size (i + 4) wr) ∧ Below w.heap.size w wr) (fun _ c _ => L.length + 1 - (intOf c).toNat)
  case atStart => exact ⟨0, by omega, rfl, rfl, HH5, c5⟩
  case round =>
    obtain ⟨i, hi, rfl, rfl, HBK, hbw⟩ := hrel
    have hsz := hbw.size
    have hWb : w.heap.size < wr.heap.size := HBK.out.lt
    by_cases hlt : i < L.length
    · obtain ⟨o, ho⟩ : ∃ o, L[i]? = some o := ⟨L[i], by simp [hlt]⟩
      obtain ⟨b, off, rfl, hb, hsc⟩ : ∃ b off, ao = some ⟨b, off, none⟩ ∧ b < w.heap.size ∧ ScriptAt w b off L := by
        rcases HS.out with h | h
        · rw [h] at hlt; simp at hlt
        · exact h
      obtain ⟨d0, d1, d2, d3, d4, d5, d6, d7, hraw⟩ := hsc i o ho
      have HIY : Hid (Ints o.ys) := HY.out o (List.mem_of_getElem? ho)
      have HRA : Hid (Raw64 o.a ∧ Raw64 o.b ∧ Raw64 o.c) := HA.out o (List.mem_of_getElem? ho)
      clear hsc
      obtain ⟨k, a, b', c, s, t, vl, vm, xs, ys⟩ := o
      simp only at d0 d1 d2 d3 d4 d5 d6 d7 hraw
      have k0 := (hbw.cell (p := ⟨b, off + i * 8, none⟩) hb).trans d0
      have k1 := (hbw.cell (p := ⟨b, off + i * 8 + 1, none⟩) hb).trans d1
      have k2 := (hbw.cell (p := ⟨b, off + i * 8 + 2, none⟩) hb).trans d2
      have k3 := (hbw.cell (p := ⟨b, off + i * 8 + 3, none⟩) hb).trans d3
      have k4 := (hbw.cell (p := ⟨b, off + i * 8 + 4, none⟩) hb).trans d4
      have k5 := (hbw.cell (p := ⟨b, off + i * 8 + 5, none⟩) hb).trans d5
      have k6 := (hbw.cell (p := ⟨b, off + i * 8 + 6, none⟩) hb).trans d6
      have k7 := (hbw.cell (p := ⟨b, off + i * 8 + 7, none⟩) hb).trans d7
      have HR : Hid (Raw w.heap.size wr s t vl vm xs ys) := hraw.kept hbw
      obtain ⟨lo, lc, hvl⟩ := hraw.hl.slice
      obtain ⟨mo, mc, hvm⟩ := hraw.hm.slice
      rw [hvl] at k6 HR
      rw [hvm] at k7 HR
      clear d0 d1 d2 d3 d4 d5 d6 d7 hraw ho hvl hvm
      by_cases hk : 15 < k
      · go_wp2
        go_roundw
        case rel =>
          refine ⟨i + 1, by omega, rfl, by go_num, ?_, hbw⟩
          obtain ⟨xv, yv, bv, es, xs, ys, κ, h1, h2⟩ := HBK.out
          exact ⟨xv, yv, bv, es, xs, ys, κ, by omega, h2⟩
        case measure => simp [intOf]; omega
      · have HC : Hid (Calls Tryz.prog 17 #[.pointer (some ⟨w.heap.size, 0, none⟩), .agg #[.int .i64 k, .int .i64 a, .int .i64 b', .int .i64 c, .string s, .string t, .slice lo xs.length lc, .slice mo ys.length mc]] wr fun e w' => e = .returned (.bool true) ∧ Hid (Holds w.heap.size w.heap.size (i + 4 + 1) w') ∧ Below w.heap.size wr w') :=
          step_every HBK.out (by omega) k a b' c HRA.out.1 HRA.out.2.1 HRA.out.2.2 s t _ _ xs ys HR.out HIY.out (by omega)
        have hk12 : k ≤ 15 := by omega
        go_wp2_with fail
        refine HC.out.mono ?_
        rintro e w2 ⟨rfl, HH2, hb2⟩
        have c2 : Below w.heap.size w w2 := hbw.trans hb2
        have HLK : Hid (Calls Tryz.prog 18 #[.pointer (some ⟨w.heap.size, 2, none⟩)] w2 fun e w' => e = .returned (.bool true) ∧ Below w2.heap.size w2 w') := HH2.out.looks (by omega)
        have hW2 : w.heap.size < w2.heap.size := HH2.out.lt
        clear hb2 HC
        go_wp2_with fail
        refine HLK.out.mono ?_
        rintro e w3 ⟨rfl, b3⟩
        have c3 : Below w.heap.size w w3 := c2.trans (b3.mono (by omega))
        have HH3 : Hid (Holds w.heap.size w.heap.size (i + 1 + 4) w3) := by
          have := HH2.out.below b3
          rw [show i + 4 + 1 = i + 1 + 4 by omega] at this
          exact this
        clear b3 HLK HH2 c2
        go_wp2
        go_roundw
        case rel => exact ⟨i + 1, by omega, rfl, by go_num, HH3, c3⟩
        case measure => simp [intOf]; omega
    · obtain ⟨xv, yv, bv, es, xs, ys, κ, h1, h2, h3, h4⟩ := HBK.out
      have H0 : Hid (WorldAt wr w.heap.size w.heap.size xv yv bv es xs ys κ) := h4
      have HSM : Hid (xs.map (·.s) = ys.map (·.s)) := h2
      obtain ⟨xo, xc, hxv⟩ := row_slice1 h4.xrow
      have kX := h4.cellX
      rw [hxv] at kX
      have HXV : Hid (xv = .slice xo xs.length xc) := hxv
      clear HBK h1 h2 h4 hxv
      obtain ⟨W5, hW5⟩ : ∃ W5, W5 = wr := ⟨_, rfl⟩
      subst hW5
      go_wp2
      go_loopw [6, 11] (fun ok c wx => ∃ (k : Nat), k ≤ xs.length ∧ ok = .bool true ∧ c = .int .i64 k ∧ Hid (WorldAt wx w.heap.size w.heap.size xv yv bv es xs ys κ) ∧ Below W5.heap.size W5 wx) (fun _ c _ => xs.length + 1 - (intOf c).toNat)
      case atStart => exact ⟨0, by omega, rfl, rfl, H0, Below.refl _ _⟩
      case round =>
        obtain ⟨k, hk, rfl, rfl, HK, hbk⟩ := hrel
        have kXr := (hbk.cell (p := ⟨w.heap.size, 0, none⟩) hWb).trans kX
        have hWbr := Nat.lt_of_lt_of_le hWb hbk.size
        by_cases hkl : k < xs.length
        · have hpos : 0 < xs.length := by omega
          have HLG : Hid (Calls Tryz.prog 17 #[.pointer (some ⟨w.heap.size, 0, none⟩), .agg #[.int .i64 12, .int .i64 (k : Int), .int .i64 0, .int .i64 0, .string ⟨#[]⟩, .string ⟨#[]⟩, .slice none 0 0, .slice none 0 0]] wr fun e w' => e = .returned (.bool true) ∧ Below wr.heap.size wr w') := step_log HK.out HSM.out hpos h3 k 0 0 (by omega) _ _ none none 0 0 0 0
          have hkI : (k : Int) < (xs.length : Int) := by omega
          go_wp2_with fail
          refine HLG.out.mono ?_
          rintro e w6 ⟨rfl, b6⟩
          have HK6 : Hid (WorldAt w6 w.heap.size w.heap.size xv yv bv es xs ys κ) := HK.out.below b6
          have hb6 : Below W5.heap.size W5 w6 := hbk.trans (b6.mono hbk.size)
          clear HLG b6 HK hbk kXr hWbr
          go_wp2
          go_loopw [6, 12] (fun ok c wx => ∃ (n : Nat), n ≤ 4 ∧ ok = .bool true ∧ c = .int .i64 n ∧ Hid (WorldAt wx w.heap.size w.heap.size xv yv bv es xs ys κ) ∧ Below W5.heap.size W5 wx) (fun _ c _ => 5 - (intOf c).toNat)
          case atStart => exact ⟨0, by omega, rfl, rfl, HK6, hb6⟩
          case round =>
            obtain ⟨W6, hW6⟩ : ∃ W6, W6 = wr := ⟨_, rfl⟩
            subst hW6
            obtain ⟨n, hn, rfl, rfl, HN, hbn⟩ := hrel
            by_cases hn4 : n < 4
            · have HVR : Hid (Calls Tryz.prog 17 #[.pointer (some ⟨w.heap.size, 0, none⟩), .agg #[.int .i64 10, .int .i64 (k : Int), .int .i64 (n : Int), .int .i64 0, .string ⟨#[]⟩, .string ⟨#[]⟩, .slice none 0 0, .slice none 0 0]] W6 fun e w' => e = .returned (.bool true) ∧ Below W6.heap.size W6 w') := step_versions HN.out HSM.out hpos h3 k n 0 (by omega) _ _ none none 0 0 0 0
              have hnI : (n : Int) < 4 := by omega
              go_wp2_with fail
              refine HVR.out.mono ?_
              rintro e w7 ⟨rfl, b7⟩
              have HK7 : Hid (WorldAt w7 w.heap.size w.heap.size xv yv bv es xs ys κ) := HN.out.below b7
              have hb7 : Below W5.heap.size W5 w7 := hbn.trans (b7.mono hbn.size)
              clear HVR b7 HN hbn
              obtain ⟨gx, cx, gy, cy, x, y, ex, ey, lx, ly, q1, q2, hx, hy, hxy⟩ := HK7.out.picks HSM.out hkl
              obtain ⟨hY, hYc, hok2⟩ := HK7.out.yat k y hy
              have kY := HK7.out.cellY
              rw [ey] at kY
              have e0 := hY.cellF n hn4
              have e1 := hY.cellT n hn4
              have hq := hY.lt
              obtain ⟨tq, tc, htv, htc, hrw⟩ := hY.row n hn4
              rw [htv] at e1
              have hlast : (y.s.ch n).gone + (y.s.ch n).texts.length ≤ 2147483647 := hok2.last n
              have hFle : yF (y.s.ch n) ≤ (y.s.ch n).gone + 1 := by unfold yF; split <;> omega
              have hWb7 : w.heap.size < w7.heap.size := HK7.out.lt
              generalize yF (y.s.ch n) = F at *
              generalize (y.s.ch n).texts.length = T at *
              generalize y.q = q at *
              have hFb : F ≤ 2147483648 := by omega
              have hTb : T ≤ 2147483648 := by omega
              clear hY hYc hok2 htv htc hlast hFle hx hy hxy q1 ex ey hrw
              have hs7 := hb7.size
              go_wp2
              go_loopw [6, 14] (fun ok c wx => ∃ (j : Nat), j ≤ T ∧ ok = .bool true ∧ c = .int .i64 j ∧ Hid (WorldAt wx w.heap.size w.heap.size xv yv bv es xs ys κ) ∧ Below W5.heap.size W5 wx ∧ Hid (wx.heap[w7.heap.size]? = some (.cells #[.int .i64 F, .slice tq T tc] 66 (0, 0)))) (fun _ c _ => T + 1 - (intOf c).toNat)
              case atStart => exact ⟨0, by omega, rfl, rfl, HK7.out.below ((Below.refl _ _).alloc (Nat.le_refl _) _), hb7.alloc hs7 _, heap_alloc_new _ _⟩
              case round =>
                obtain ⟨W8, hW8⟩ : ∃ W8, W8 = wr := ⟨_, rfl⟩
                subst hW8
                obtain ⟨j, hj, rfl, rfl, HJ, hbj, HOB⟩ := hrel
                have g0 : W8.cell? ⟨w7.heap.size, 0, none⟩ = some (.int .i64 F) := by rw [Lib.cell_of_heap HOB.out]; rfl
                have g1 : W8.cell? ⟨w7.heap.size, 1, none⟩ = some (.slice tq T tc) := by rw [Lib.cell_of_heap HOB.out]; rfl
                have hsj : w7.heap.size < W8.heap.size := lt_of_block HOB.out
                by_cases hjT : j < T
                · have HRS : Hid (Calls Tryz.prog 17 #[.pointer (some ⟨w.heap.size, 0, none⟩), .agg #[.int .i64 9, .int .i64 (k : Int), .int .i64 (n : Int), .int .i64 ((F : Int) + (j : Int)), .string ⟨#[]⟩, .string ⟨#[]⟩, .slice none 0 0, .slice none 0 0]] W8 fun e w' => e = .returned (.bool true) ∧ Below W8.heap.size W8 w') := step_restore HJ.out HSM.out hpos h3 k n ((F : Int) + (j : Int)) (by omega) _ _ none none 0 0 0 0
                  have hjI : (j : Int) < (T : Int) := by omega
                  have u1 : IntKind.i64.wrap ((F : Int) + (j : Int)) = (F : Int) + (j : Int) := by rw [IntKind.wrap_i64]; omega
                  go_wp2_with fail
                  refine HRS.out.mono ?_
                  rintro e w9 ⟨rfl, b9⟩
                  have HK9 : Hid (WorldAt w9 w.heap.size w.heap.size xv yv bv es xs ys κ) := HJ.out.below b9
                  have hb9 : Below W5.heap.size W5 w9 := hbj.trans (b9.mono hbj.size)
                  have HO9 : Hid (w9.heap[w7.heap.size]? = some (.cells #[.int .i64 F, .slice tq T tc] 66 (0, 0))) := (b9.block _ hsj).trans HOB.out
                  clear HRS b9 HJ hbj HOB g0 g1
                  go_wp2
                  go_roundw
                  case rel => exact ⟨j + 1, by omega, rfl, by go_num, HK9, hb9, HO9⟩
                  case measure => simp [intOf]; omega
                · go_wp2
                  go_roundw
                  case rel => exact ⟨n + 1, by omega, rfl, by go_num, HJ, hbj⟩
                  case measure => simp [intOf]; omega
            · go_wp2
              go_roundw
              case rel => exact ⟨k + 1, by omega, rfl, by go_num, HN, hbn⟩
              case measure => simp [intOf]; omega
        · go_wp2
          go_ret
          exact ⟨rfl, hbw.trans (hbk.mono hsz)⟩
end Go.Proofs.YtabpiaaknjcnkaaGreat
