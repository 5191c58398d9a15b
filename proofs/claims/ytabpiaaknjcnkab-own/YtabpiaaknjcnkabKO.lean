/-
  The walk over Own (written by genKO.py).
-/
import Derived.Test.YtabpiaaknjcnkabXVMKT
import Derived.Test.YtabpiaaknjcnkabPY
import Derived.Test.YtabpiaaknjcnkabRG
namespace Go.Proofs.Ytabpiaaknjcnkab
open Go.RowKit
set_option linter.unusedVariables false
set_option linter.unusedSimpArgs false
set_option maxRecDepth 100000

def uB (n : Nat) : ByteArray := ⟨(uN n).toArray⟩
def rB (b : ByteArray) : ByteArray := ⟨(recL b.data.toList).toArray⟩
theorem uB_data (n : Nat) : (uB n).data.toList = uN n := by simp [uB]
theorem rB_data (b : ByteArray) : (rB b).data.toList = recL b.data.toList := by simp [rB]
theorem uB_size {n : Nat} (h : n < 34359738368) : (uB n).size ≤ 5 := by rw [Lib.size_eq, uB_data]; exact uN_length5 h
theorem rB_size {b : ByteArray} (h : b.size ≤ 100000) : (rB b).size ≤ b.size + 9 := by
  rw [Lib.size_eq, rB_data]
  have := recL_length b.data.toList
  have h2 := uN_length5 (n := b.data.toList.length) (by rw [← Lib.size_eq]; omega)
  rw [← Lib.size_eq] at this h2
  omega
theorem cat_data (a b : ByteArray) : (a ++ b).data.toList = a.data.toList ++ b.data.toList := by rw [ByteArray.data_append, Array.toList_append]
theorem conv_two (W : World) (a b : UInt8) : (convert 26 9 (.slice (some ⟨W.heap.size, 0, none⟩) 2 2)).run Try.prog (W.alloc (.cells #[.int .u8 (a.toNat : Int), .int .u8 (b.toNat : Int)] 5)) = .ok (.string ⟨#[a, b]⟩) (W.alloc (.cells #[.int .u8 (a.toNat : Int), .int .u8 (b.toNat : Int)] 5)) :=
  run_convert_bytes_back (P := Try.prog) (W.alloc (.cells #[.int .u8 (a.toNat : Int), .int .u8 (b.toNat : Int)] 5)) 26 9 5 ⟨W.heap.size, 0, none⟩ 2 [a, b] Try.underlying26 Try.underlying5 Try.underlying9 (fun j hj => by
    have hb := heap_alloc_new W (.cells #[.int .u8 (a.toNat : Int), .int .u8 (b.toNat : Int)] 5)
    rw [show (⟨W.heap.size, 0, none⟩ : Addr).add j = ⟨W.heap.size, j, none⟩ from by unfold Addr.add; split <;> simp_all, Lib.cell_of_heap hb]
    match j, hj with
    | 0, _ => rfl
    | 1, _ => rfl)
theorem conv_at2 {W : World} {g : Nat} {a b : UInt8} (hb : W.heap[g]? = some (.cells #[.int .u8 (a.toNat : Int), .int .u8 (b.toNat : Int)] 5 (0, 0))) : (convert 26 9 (.slice (some ⟨g, 0, none⟩) 2 2)).run Try.prog W = .ok (.string ⟨#[a, b]⟩) W :=
  run_convert_bytes_back (P := Try.prog) W 26 9 5 ⟨g, 0, none⟩ 2 [a, b] Try.underlying26 Try.underlying5 Try.underlying9 (fun j hj => by
    rw [show (⟨g, 0, none⟩ : Addr).add j = ⟨g, j, none⟩ from by unfold Addr.add; split <;> simp_all, Lib.cell_of_heap hb]
    match j, hj with
    | 0, _ => rfl
    | 1, _ => rfl)
theorem ownOps_enc (y : ByteArray) : encL (ownOps y) = uN 2 ++ (uN 9 ++ uN 1 ++ (uN (2 * (tAnd y).size) ++ ([97, 110, 100, 32] ++ y.data.toList))) := by
  unfold encL ownOps
  rw [List.flatMap_cons, List.flatMap_cons, List.flatMap_nil, List.append_nil]
  unfold encOp
  rw [if_pos (by decide), if_neg (by simp), tAnd_data]
  rfl
theorem sview_two {W : World} {g : Nat} {a b : ByteArray} {T : TypeId} (hb : W.heap[g]? = some (.cells #[.string a, .string b] T (0, 0))) : SView W (.slice (some ⟨g, 0, none⟩) 2 2) [a, b] := by
  refine ⟨_, _, rfl, by simp, fun i t ht => ?_⟩
  match i, ht with
  | 0, ht => simp at ht; subst ht; exact ⟨g, 0, rfl, by rw [Lib.cell_of_heap hb]; rfl⟩
  | 1, ht => simp at ht; subst ht; exact ⟨g, 0, rfl, by rw [Lib.cell_of_heap hb]; rfl⟩
  | i + 2, ht => simp at ht
theorem own_put {x y : ByteArray} {n : Nat} {l : List UInt8} (hx : x.size ≤ 500) (hn2 : n ≤ 2147483638) (hl : l.length ≤ 10000) : putE ⟨l, ownCh x y n⟩ 3 x = 0 ∧ putN ⟨l, ownCh x y n⟩ 3 x = (n : Int) + 3 := by
  have h1 := (recL_len (b := bodyF 3 x.data.toList) (by have := (bodyF_len 3 x (by omega) (by omega)).2; omega)).1
  have h2 := (bodyF_len 3 x (by omega) (by omega)).2
  have hE : putE ⟨l, ownCh x y n⟩ 3 x = 0 := by
    unfold putE
    rw [if_neg (by omega), if_neg (by omega), if_neg]
    rintro (h | h)
    · have : (3 : Int).toNat = 3 := rfl
      rw [this] at h
      simp only at h
      omega
    · have : (ownCh x y n (3 : Int).toNat).last = n + 2 := rfl
      simp only at h
      omega
  refine ⟨hE, ?_⟩
  unfold putN
  rw [if_pos hE]
  have : (ownCh x y n (3 : Int).toNat).last = n + 2 := rfl
  simp only
  omega
theorem ku_says (k : Nat) (z : Int) (hz : z = k) (hk : k < 34359738368) (W : World) : Calls Try.prog 7 #[.int .i64 z] W fun e w' => e = .returned (.string (uB k)) ∧ Below W.heap.size W w' := by rw [hz]; exact ku_any k W hk
theorem kr_says (b : ByteArray) (hb : b.size ≤ 100000) (W : World) : Calls Try.prog 8 #[.string b] W fun e w' => e = .returned (.string (rB b)) ∧ Below W.heap.size W w' := krecord_any b W hb

set_option maxHeartbeats 64000000 in
theorem own_any (text next : ByteArray) (version bad : Int) (w : World) (ht : text.size ≤ 9223372036854775807) (hn : next.size ≤ 9223372036854775807) (hv1 : -9223372036854775808 ≤ version) (hv2 : version ≤ 9223372036854775807) (hb1 : -9223372036854775808 ≤ bad) (hb2 : bad ≤ 9223372036854775807) :
    Calls Try.prog 3 #[.string text, .string next, .int .i64 version, .int .i64 bad] w fun e w' => e = .returned (.bool true) ∧ Below w.heap.size w w' := by
  have HP1 : Hid (∀ W, Calls Try.prog 6 #[.int .i64 version, .int .i64 2147483638] W fun e w' => e = .returned (.int .i64 (pickN version 2147483638)) ∧ W = w') := fun W => pick_eq version 2147483638 W hv1 hv2 (by decide) (by decide)
  have hp1 := pickN_lt version 2147483638 (by decide)
  have HP2 : Hid (∀ W, Calls Try.prog 6 #[.int .i64 bad, .int .i64 16] W fun e w' => e = .returned (.int .i64 (pickN bad 16)) ∧ W = w') := fun W => pick_eq bad 16 W hb1 hb2 (by decide) (by decide)
  have hp2 := pickN_lt bad 16 (by decide)
  generalize pickN version 2147483638 = pv at *
  generalize pickN bad 16 = pb at *
  have hX : (shortB text 500).size ≤ 500 := shortB_size text 500
  have hY : (shortB next 500).size ≤ 500 := shortB_size next 500
  have HS1 : Hid (∀ W, Calls Try.prog 5 #[.string text, .int .i64 500] W fun e w' => e = .returned (.string (shortB text 500)) ∧ W = w') := fun W => (short_any text 500 W (by omega) ht).mono fun e w' ⟨a, b⟩ => ⟨a, b.symm⟩
  have HS2 : Hid (∀ W, Calls Try.prog 5 #[.string next, .int .i64 500] W fun e w' => e = .returned (.string (shortB next 500)) ∧ W = w') := fun W => (short_any next 500 W (by omega) hn).mono fun e w' ⟨a, b⟩ => ⟨a, b.symm⟩
  generalize shortB text 500 = X at *
  generalize shortB next 500 = Y at *
  obtain ⟨n, hnn⟩ : ∃ n, n = 1 + pv := ⟨_, rfl⟩
  have hn0 : 0 < n := by omega
  have hn9 : n ≤ 2147483638 := by omega
  have wn : IntKind.i64.wrap (1 + (pv : Int)) = (n : Int) := by rw [IntKind.wrap_i64]; omega
  clear hv1 hv2 hb1 hb2 ht hn hnn hp1
  go_enter Try.func3, Try.ntmps3
  go_wp2_with fail
  refine (HS1.out _).mono ?_
  rintro e w0 ⟨rfl, rfl⟩
  go_wp2_with fail
  refine (HS2.out _).mono ?_
  rintro e w0 ⟨rfl, rfl⟩
  go_wp2_with fail
  refine (HP1.out _).mono ?_
  rintro e w0 ⟨rfl, rfl⟩
  clear HS1 HS2 HP1
  have B0 : Hid (Below w.heap.size w w) := Below.refl _ _
  have wn1 : IntKind.i64.wrap ((n : Int) + 1) = (n : Int) + 1 := by rw [IntKind.wrap_i64]; omega
  have wn2 : IntKind.i64.wrap ((n : Int) + 2) = (n : Int) + 2 := by rw [IntKind.wrap_i64]; omega
  have wn3 : IntKind.i64.wrap ((n : Int) + 3) = (n : Int) + 3 := by rw [IntKind.wrap_i64]; omega
  obtain ⟨U0, hU0⟩ : ∃ U, U = uB 0 := ⟨_, rfl⟩
  have ZU0 : Hid (U0.size ≤ 5) := by unfold Hid; rw [hU0]; exact uB_size (by omega)
  have HU0 : Hid (U0 = uB 0) := hU0
  clear hU0
  obtain ⟨U1, hU1⟩ : ∃ U, U = uB 1 := ⟨_, rfl⟩
  have ZU1 : Hid (U1.size ≤ 5) := by unfold Hid; rw [hU1]; exact uB_size (by omega)
  have HU1 : Hid (U1 = uB 1) := hU1
  clear hU1
  obtain ⟨U2, hU2⟩ : ∃ U, U = uB 2 := ⟨_, rfl⟩
  have ZU2 : Hid (U2.size ≤ 5) := by unfold Hid; rw [hU2]; exact uB_size (by omega)
  have HU2 : Hid (U2 = uB 2) := hU2
  clear hU2
  obtain ⟨U3, hU3⟩ : ∃ U, U = uB 3 := ⟨_, rfl⟩
  have ZU3 : Hid (U3.size ≤ 5) := by unfold Hid; rw [hU3]; exact uB_size (by omega)
  have HU3 : Hid (U3 = uB 3) := hU3
  clear hU3
  obtain ⟨U4, hU4⟩ : ∃ U, U = uB 4 := ⟨_, rfl⟩
  have ZU4 : Hid (U4.size ≤ 5) := by unfold Hid; rw [hU4]; exact uB_size (by omega)
  have HU4 : Hid (U4 = uB 4) := hU4
  clear hU4
  obtain ⟨U9, hU9⟩ : ∃ U, U = uB 9 := ⟨_, rfl⟩
  have ZU9 : Hid (U9.size ≤ 5) := by unfold Hid; rw [hU9]; exact uB_size (by omega)
  have HU9 : Hid (U9 = uB 9) := hU9
  clear hU9
  obtain ⟨Un, hUn⟩ : ∃ U, U = uB n := ⟨_, rfl⟩
  have ZUn : Hid (Un.size ≤ 5) := by unfold Hid; rw [hUn]; exact uB_size (by omega)
  have HUn : Hid (Un = uB n) := hUn
  clear hUn
  obtain ⟨Un1, hUn1⟩ : ∃ U, U = uB (n + 1) := ⟨_, rfl⟩
  have ZUn1 : Hid (Un1.size ≤ 5) := by unfold Hid; rw [hUn1]; exact uB_size (by omega)
  have HUn1 : Hid (Un1 = uB (n + 1)) := hUn1
  clear hUn1
  obtain ⟨Un2, hUn2⟩ : ∃ U, U = uB (n + 2) := ⟨_, rfl⟩
  have ZUn2 : Hid (Un2.size ≤ 5) := by unfold Hid; rw [hUn2]; exact uB_size (by omega)
  have HUn2 : Hid (Un2 = uB (n + 2)) := hUn2
  clear hUn2
  obtain ⟨Un3, hUn3⟩ : ∃ U, U = uB (n + 3) := ⟨_, rfl⟩
  have ZUn3 : Hid (Un3.size ≤ 5) := by unfold Hid; rw [hUn3]; exact uB_size (by omega)
  have HUn3 : Hid (Un3 = uB (n + 3)) := hUn3
  clear hUn3
  go_wp2_with fail
  refine (ku_says 2 _ (by omega) (by omega) _).mono ?_
  rintro e w1 ⟨rfl, b1⟩
  rw [← HU2.out]
  have B1 : Hid (Below w.heap.size w w1) := B0.out.trans (b1.mono (by first | exact B0.out.size | (have := B0.out.size; simp; omega)))
  clear b1 B0
  go_wp2_with fail
  refine (ku_says 9 _ (by omega) (by omega) _).mono ?_
  rintro e w2 ⟨rfl, b2⟩
  rw [← HU9.out]
  have B2 : Hid (Below w.heap.size w w2) := B1.out.trans (b2.mono (by first | exact B1.out.size | (have := B1.out.size; simp; omega)))
  clear b2 B1
  obtain ⟨A2, hA2⟩ : ∃ A, A = U2 ++ U9 := ⟨_, rfl⟩
  have ZA2 : Hid (A2.size ≤ 10) := by unfold Hid; rw [hA2, ByteArray.size_append]; have h1 := ZU2.out; have h2 := ZU9.out; omega
  have HA2 : Hid (A2 = U2 ++ U9) := hA2
  clear hA2
  have aA2 : ∀ W : World, (Op.stringOp .add U2 U9).run Try.prog W = .ok (.string A2) W := fun W => by rw [HA2.out]; exact run_string_add_sum W _ _ (by have h1 := ZU2.out; have h2 := ZU9.out; omega)
  go_wp2_with fail
  refine (ku_says 1 _ (by omega) (by omega) _).mono ?_
  rintro e w3 ⟨rfl, b3⟩
  rw [← HU1.out]
  have B3 : Hid (Below w.heap.size w w3) := B2.out.trans (b3.mono (by first | exact B2.out.size | (have := B2.out.size; simp; omega)))
  clear b3 B2
  clear aA2
  obtain ⟨A3, hA3⟩ : ∃ A, A = A2 ++ U1 := ⟨_, rfl⟩
  have ZA3 : Hid (A3.size ≤ 15) := by unfold Hid; rw [hA3, ByteArray.size_append]; have h1 := ZA2.out; have h2 := ZU1.out; omega
  have HA3 : Hid (A3 = A2 ++ U1) := hA3
  clear hA3
  have aA3 : ∀ W : World, (Op.stringOp .add A2 U1).run Try.prog W = .ok (.string A3) W := fun W => by rw [HA3.out]; exact run_string_add_sum W _ _ (by have h1 := ZA2.out; have h2 := ZU1.out; omega)
  obtain ⟨A1, hA1⟩ : ∃ A, A = (⟨#[97, 110, 100, 32]⟩ : ByteArray) ++ Y := ⟨_, rfl⟩
  have ZA1 : Hid (A1.size ≤ 504) := by unfold Hid; rw [hA1, ByteArray.size_append]; have h1 := (show (⟨#[97, 110, 100, 32]⟩ : ByteArray).size = 4 from rfl); have h2 := hY; omega
  have HA1 : Hid (A1 = (⟨#[97, 110, 100, 32]⟩ : ByteArray) ++ Y) := hA1
  clear hA1
  have aA1 : ∀ W : World, (Op.stringOp .add (⟨#[97, 110, 100, 32]⟩ : ByteArray) Y).run Try.prog W = .ok (.string A1) W := fun W => by rw [HA1.out]; exact run_string_add_sum W _ _ (by have h1 := (show (⟨#[97, 110, 100, 32]⟩ : ByteArray).size = 4 from rfl); have h2 := hY; omega)
  have wUL : IntKind.i64.wrap (2 * ((A1.size : Nat) : Int)) = 2 * ((A1.size : Nat) : Int) := by have := ZA1.out; rw [IntKind.wrap_i64]; omega
  obtain ⟨UL, hUL⟩ : ∃ U, U = uB (2 * A1.size) := ⟨_, rfl⟩
  have ZUL : Hid (UL.size ≤ 5) := by unfold Hid; rw [hUL]; exact uB_size (by have := ZA1.out; omega)
  have HUL : Hid (UL = uB (2 * A1.size)) := hUL
  clear hUL
  go_wp2_with fail
  refine (ku_says (2 * A1.size) _ (by omega) (by have := ZA1.out; omega) _).mono ?_
  rintro e w4 ⟨rfl, b4⟩
  rw [← HUL.out]
  have B4 : Hid (Below w.heap.size w w4) := B3.out.trans (b4.mono (by first | exact B3.out.size | (have := B3.out.size; simp; omega)))
  clear b4 B3
  clear aA3 aA1 wUL
  obtain ⟨A4, hA4⟩ : ∃ A, A = A3 ++ UL := ⟨_, rfl⟩
  have ZA4 : Hid (A4.size ≤ 20) := by unfold Hid; rw [hA4, ByteArray.size_append]; have h1 := ZA3.out; have h2 := ZUL.out; omega
  have HA4 : Hid (A4 = A3 ++ UL) := hA4
  clear hA4
  have aA4 : ∀ W : World, (Op.stringOp .add A3 UL).run Try.prog W = .ok (.string A4) W := fun W => by rw [HA4.out]; exact run_string_add_sum W _ _ (by have h1 := ZA3.out; have h2 := ZUL.out; omega)
  obtain ⟨A5, hA5⟩ : ∃ A, A = A4 ++ (⟨#[97, 110, 100, 32]⟩ : ByteArray) := ⟨_, rfl⟩
  have ZA5 : Hid (A5.size ≤ 24) := by unfold Hid; rw [hA5, ByteArray.size_append]; have h1 := ZA4.out; have h2 := (show (⟨#[97, 110, 100, 32]⟩ : ByteArray).size = 4 from rfl); omega
  have HA5 : Hid (A5 = A4 ++ (⟨#[97, 110, 100, 32]⟩ : ByteArray)) := hA5
  clear hA5
  have aA5 : ∀ W : World, (Op.stringOp .add A4 (⟨#[97, 110, 100, 32]⟩ : ByteArray)).run Try.prog W = .ok (.string A5) W := fun W => by rw [HA5.out]; exact run_string_add_sum W _ _ (by have h1 := ZA4.out; have h2 := (show (⟨#[97, 110, 100, 32]⟩ : ByteArray).size = 4 from rfl); omega)
  obtain ⟨A6, hA6⟩ : ∃ A, A = A5 ++ Y := ⟨_, rfl⟩
  have ZA6 : Hid (A6.size ≤ 524) := by unfold Hid; rw [hA6, ByteArray.size_append]; have h1 := ZA5.out; have h2 := hY; omega
  have HA6 : Hid (A6 = A5 ++ Y) := hA6
  clear hA6
  have aA6 : ∀ W : World, (Op.stringOp .add A5 Y).run Try.prog W = .ok (.string A6) W := fun W => by rw [HA6.out]; exact run_string_add_sum W _ _ (by have h1 := ZA5.out; have h2 := hY; omega)
  go_wp2_with fail
  refine (ku_says 0 _ (by omega) (by omega) _).mono ?_
  rintro e w5 ⟨rfl, b5⟩
  rw [← HU0.out]
  have B5 : Hid (Below w.heap.size w w5) := B4.out.trans (b5.mono (by first | exact B4.out.size | (have := B4.out.size; simp; omega)))
  clear b5 B4
  clear aA4 aA5 aA6
  obtain ⟨A7, hA7⟩ : ∃ A, A = (⟨#[70]⟩ : ByteArray) ++ U0 := ⟨_, rfl⟩
  have ZA7 : Hid (A7.size ≤ 6) := by unfold Hid; rw [hA7, ByteArray.size_append]; have h1 := (show (⟨#[70]⟩ : ByteArray).size = 1 from rfl); have h2 := ZU0.out; omega
  have HA7 : Hid (A7 = (⟨#[70]⟩ : ByteArray) ++ U0) := hA7
  clear hA7
  have aA7 : ∀ W : World, (Op.stringOp .add (⟨#[70]⟩ : ByteArray) U0).run Try.prog W = .ok (.string A7) W := fun W => by rw [HA7.out]; exact run_string_add_sum W _ _ (by have h1 := (show (⟨#[70]⟩ : ByteArray).size = 1 from rfl); have h2 := ZU0.out; omega)
  obtain ⟨A8, hA8⟩ : ∃ A, A = A7 ++ X := ⟨_, rfl⟩
  have ZA8 : Hid (A8.size ≤ 506) := by unfold Hid; rw [hA8, ByteArray.size_append]; have h1 := ZA7.out; have h2 := hX; omega
  have HA8 : Hid (A8 = A7 ++ X) := hA8
  clear hA8
  have aA8 : ∀ W : World, (Op.stringOp .add A7 X).run Try.prog W = .ok (.string A8) W := fun W => by rw [HA8.out]; exact run_string_add_sum W _ _ (by have h1 := ZA7.out; have h2 := hX; omega)
  go_wp2_with fail
  refine (kr_says A8 (by have h1 := ZA8.out; omega) _).mono ?_
  rintro e w6 ⟨rfl, b6⟩
  obtain ⟨R9, hR9⟩ : ∃ R, R = rB A8 := ⟨_, rfl⟩
  have ZR9 : Hid (R9.size ≤ 515) := by unfold Hid; rw [hR9]; have h1 := ZA8.out; have h2 := rB_size (b := A8) (by omega); omega
  rw [← hR9]
  have HR9 : Hid (R9 = rB A8) := hR9
  clear hR9
  have B6 : Hid (Below w.heap.size w w6) := B5.out.trans (b6.mono (by first | exact B5.out.size | (have := B5.out.size; simp; omega)))
  clear b6 B5
  clear aA7 aA8
  go_wp2_with fail
  refine (ku_says 3 _ (by omega) (by omega) _).mono ?_
  rintro e w7 ⟨rfl, b7⟩
  rw [← HU3.out]
  have B7 : Hid (Below w.heap.size w w7) := B6.out.trans (b7.mono (by first | exact B6.out.size | (have := B6.out.size; simp; omega)))
  clear b7 B6
  obtain ⟨A10, hA10⟩ : ∃ A, A = (⟨#[66]⟩ : ByteArray) ++ U3 := ⟨_, rfl⟩
  have ZA10 : Hid (A10.size ≤ 6) := by unfold Hid; rw [hA10, ByteArray.size_append]; have h1 := (show (⟨#[66]⟩ : ByteArray).size = 1 from rfl); have h2 := ZU3.out; omega
  have HA10 : Hid (A10 = (⟨#[66]⟩ : ByteArray) ++ U3) := hA10
  clear hA10
  have aA10 : ∀ W : World, (Op.stringOp .add (⟨#[66]⟩ : ByteArray) U3).run Try.prog W = .ok (.string A10) W := fun W => by rw [HA10.out]; exact run_string_add_sum W _ _ (by have h1 := (show (⟨#[66]⟩ : ByteArray).size = 1 from rfl); have h2 := ZU3.out; omega)
  go_wp2_with fail
  refine (ku_says n _ (by omega) (by omega) _).mono ?_
  rintro e w8 ⟨rfl, b8⟩
  rw [← HUn.out]
  have B8 : Hid (Below w.heap.size w w8) := B7.out.trans (b8.mono (by first | exact B7.out.size | (have := B7.out.size; simp; omega)))
  clear b8 B7
  clear aA10
  obtain ⟨A11, hA11⟩ : ∃ A, A = A10 ++ Un := ⟨_, rfl⟩
  have ZA11 : Hid (A11.size ≤ 11) := by unfold Hid; rw [hA11, ByteArray.size_append]; have h1 := ZA10.out; have h2 := ZUn.out; omega
  have HA11 : Hid (A11 = A10 ++ Un) := hA11
  clear hA11
  have aA11 : ∀ W : World, (Op.stringOp .add A10 Un).run Try.prog W = .ok (.string A11) W := fun W => by rw [HA11.out]; exact run_string_add_sum W _ _ (by have h1 := ZA10.out; have h2 := ZUn.out; omega)
  obtain ⟨A12, hA12⟩ : ∃ A, A = A11 ++ (⟨#[97, 98, 99, 100, 101, 102]⟩ : ByteArray) := ⟨_, rfl⟩
  have ZA12 : Hid (A12.size ≤ 17) := by unfold Hid; rw [hA12, ByteArray.size_append]; have h1 := ZA11.out; have h2 := (show (⟨#[97, 98, 99, 100, 101, 102]⟩ : ByteArray).size = 6 from rfl); omega
  have HA12 : Hid (A12 = A11 ++ (⟨#[97, 98, 99, 100, 101, 102]⟩ : ByteArray)) := hA12
  clear hA12
  have aA12 : ∀ W : World, (Op.stringOp .add A11 (⟨#[97, 98, 99, 100, 101, 102]⟩ : ByteArray)).run Try.prog W = .ok (.string A12) W := fun W => by rw [HA12.out]; exact run_string_add_sum W _ _ (by have h1 := ZA11.out; have h2 := (show (⟨#[97, 98, 99, 100, 101, 102]⟩ : ByteArray).size = 6 from rfl); omega)
  obtain ⟨A13, hA13⟩ : ∃ A, A = A12 ++ X := ⟨_, rfl⟩
  have ZA13 : Hid (A13.size ≤ 517) := by unfold Hid; rw [hA13, ByteArray.size_append]; have h1 := ZA12.out; have h2 := hX; omega
  have HA13 : Hid (A13 = A12 ++ X) := hA13
  clear hA13
  have aA13 : ∀ W : World, (Op.stringOp .add A12 X).run Try.prog W = .ok (.string A13) W := fun W => by rw [HA13.out]; exact run_string_add_sum W _ _ (by have h1 := ZA12.out; have h2 := hX; omega)
  go_wp2_with fail
  refine (kr_says A13 (by have h1 := ZA13.out; omega) _).mono ?_
  rintro e w9 ⟨rfl, b9⟩
  obtain ⟨R14, hR14⟩ : ∃ R, R = rB A13 := ⟨_, rfl⟩
  have ZR14 : Hid (R14.size ≤ 526) := by unfold Hid; rw [hR14]; have h1 := ZA13.out; have h2 := rB_size (b := A13) (by omega); omega
  rw [← hR14]
  have HR14 : Hid (R14 = rB A13) := hR14
  clear hR14
  have B9 : Hid (Below w.heap.size w w9) := B8.out.trans (b9.mono (by first | exact B8.out.size | (have := B8.out.size; simp; omega)))
  clear b9 B8
  clear aA11 aA12 aA13
  obtain ⟨A26, hA26⟩ : ∃ A, A = R9 ++ R14 := ⟨_, rfl⟩
  have ZA26 : Hid (A26.size ≤ 1041) := by unfold Hid; rw [hA26, ByteArray.size_append]; have h1 := ZR9.out; have h2 := ZR14.out; omega
  have HA26 : Hid (A26 = R9 ++ R14) := hA26
  clear hA26
  have aA26 : ∀ W : World, (Op.stringOp .add R9 R14).run Try.prog W = .ok (.string A26) W := fun W => by rw [HA26.out]; exact run_string_add_sum W _ _ (by have h1 := ZR9.out; have h2 := ZR14.out; omega)
  go_wp2_with fail
  refine (ku_says 3 _ (by omega) (by omega) _).mono ?_
  rintro e w10 ⟨rfl, b10⟩
  rw [← HU3.out]
  have B10 : Hid (Below w.heap.size w w10) := B9.out.trans (b10.mono (by first | exact B9.out.size | (have := B9.out.size; simp; omega)))
  clear b10 B9
  clear aA26
  obtain ⟨A15, hA15⟩ : ∃ A, A = (⟨#[68]⟩ : ByteArray) ++ U3 := ⟨_, rfl⟩
  have ZA15 : Hid (A15.size ≤ 6) := by unfold Hid; rw [hA15, ByteArray.size_append]; have h1 := (show (⟨#[68]⟩ : ByteArray).size = 1 from rfl); have h2 := ZU3.out; omega
  have HA15 : Hid (A15 = (⟨#[68]⟩ : ByteArray) ++ U3) := hA15
  clear hA15
  have aA15 : ∀ W : World, (Op.stringOp .add (⟨#[68]⟩ : ByteArray) U3).run Try.prog W = .ok (.string A15) W := fun W => by rw [HA15.out]; exact run_string_add_sum W _ _ (by have h1 := (show (⟨#[68]⟩ : ByteArray).size = 1 from rfl); have h2 := ZU3.out; omega)
  obtain ⟨A16, hA16⟩ : ∃ A, A = A15 ++ A6 := ⟨_, rfl⟩
  have ZA16 : Hid (A16.size ≤ 530) := by unfold Hid; rw [hA16, ByteArray.size_append]; have h1 := ZA15.out; have h2 := ZA6.out; omega
  have HA16 : Hid (A16 = A15 ++ A6) := hA16
  clear hA16
  have aA16 : ∀ W : World, (Op.stringOp .add A15 A6).run Try.prog W = .ok (.string A16) W := fun W => by rw [HA16.out]; exact run_string_add_sum W _ _ (by have h1 := ZA15.out; have h2 := ZA6.out; omega)
  go_wp2_with fail
  refine (kr_says A16 (by have h1 := ZA16.out; omega) _).mono ?_
  rintro e w11 ⟨rfl, b11⟩
  obtain ⟨R17, hR17⟩ : ∃ R, R = rB A16 := ⟨_, rfl⟩
  have ZR17 : Hid (R17.size ≤ 539) := by unfold Hid; rw [hR17]; have h1 := ZA16.out; have h2 := rB_size (b := A16) (by omega); omega
  rw [← hR17]
  have HR17 : Hid (R17 = rB A16) := hR17
  clear hR17
  have B11 : Hid (Below w.heap.size w w11) := B10.out.trans (b11.mono (by first | exact B10.out.size | (have := B10.out.size; simp; omega)))
  clear b11 B10
  clear aA15 aA16
  obtain ⟨A27, hA27⟩ : ∃ A, A = A26 ++ R17 := ⟨_, rfl⟩
  have ZA27 : Hid (A27.size ≤ 1580) := by unfold Hid; rw [hA27, ByteArray.size_append]; have h1 := ZA26.out; have h2 := ZR17.out; omega
  have HA27 : Hid (A27 = A26 ++ R17) := hA27
  clear hA27
  have aA27 : ∀ W : World, (Op.stringOp .add A26 R17).run Try.prog W = .ok (.string A27) W := fun W => by rw [HA27.out]; exact run_string_add_sum W _ _ (by have h1 := ZA26.out; have h2 := ZR17.out; omega)
  go_wp2_with fail
  refine (ku_says 3 _ (by omega) (by omega) _).mono ?_
  rintro e w12 ⟨rfl, b12⟩
  rw [← HU3.out]
  have B12 : Hid (Below w.heap.size w w12) := B11.out.trans (b12.mono (by first | exact B11.out.size | (have := B11.out.size; simp; omega)))
  clear b12 B11
  clear aA27
  obtain ⟨A18, hA18⟩ : ∃ A, A = (⟨#[70]⟩ : ByteArray) ++ U3 := ⟨_, rfl⟩
  have ZA18 : Hid (A18.size ≤ 6) := by unfold Hid; rw [hA18, ByteArray.size_append]; have h1 := (show (⟨#[70]⟩ : ByteArray).size = 1 from rfl); have h2 := ZU3.out; omega
  have HA18 : Hid (A18 = (⟨#[70]⟩ : ByteArray) ++ U3) := hA18
  clear hA18
  have aA18 : ∀ W : World, (Op.stringOp .add (⟨#[70]⟩ : ByteArray) U3).run Try.prog W = .ok (.string A18) W := fun W => by rw [HA18.out]; exact run_string_add_sum W _ _ (by have h1 := (show (⟨#[70]⟩ : ByteArray).size = 1 from rfl); have h2 := ZU3.out; omega)
  obtain ⟨A19, hA19⟩ : ∃ A, A = A18 ++ Y := ⟨_, rfl⟩
  have ZA19 : Hid (A19.size ≤ 506) := by unfold Hid; rw [hA19, ByteArray.size_append]; have h1 := ZA18.out; have h2 := hY; omega
  have HA19 : Hid (A19 = A18 ++ Y) := hA19
  clear hA19
  have aA19 : ∀ W : World, (Op.stringOp .add A18 Y).run Try.prog W = .ok (.string A19) W := fun W => by rw [HA19.out]; exact run_string_add_sum W _ _ (by have h1 := ZA18.out; have h2 := hY; omega)
  go_wp2_with fail
  refine (kr_says A19 (by have h1 := ZA19.out; omega) _).mono ?_
  rintro e w13 ⟨rfl, b13⟩
  obtain ⟨R20, hR20⟩ : ∃ R, R = rB A19 := ⟨_, rfl⟩
  have ZR20 : Hid (R20.size ≤ 515) := by unfold Hid; rw [hR20]; have h1 := ZA19.out; have h2 := rB_size (b := A19) (by omega); omega
  rw [← hR20]
  have HR20 : Hid (R20 = rB A19) := hR20
  clear hR20
  have B13 : Hid (Below w.heap.size w w13) := B12.out.trans (b13.mono (by first | exact B12.out.size | (have := B12.out.size; simp; omega)))
  clear b13 B12
  clear aA18 aA19
  obtain ⟨A28, hA28⟩ : ∃ A, A = A27 ++ R20 := ⟨_, rfl⟩
  have ZA28 : Hid (A28.size ≤ 2095) := by unfold Hid; rw [hA28, ByteArray.size_append]; have h1 := ZA27.out; have h2 := ZR20.out; omega
  have HA28 : Hid (A28 = A27 ++ R20) := hA28
  clear hA28
  have aA28 : ∀ W : World, (Op.stringOp .add A27 R20).run Try.prog W = .ok (.string A28) W := fun W => by rw [HA28.out]; exact run_string_add_sum W _ _ (by have h1 := ZA27.out; have h2 := ZR20.out; omega)
  go_wp2_with fail
  refine (ku_says 3 _ (by omega) (by omega) _).mono ?_
  rintro e w14 ⟨rfl, b14⟩
  rw [← HU3.out]
  have B14 : Hid (Below w.heap.size w w14) := B13.out.trans (b14.mono (by first | exact B13.out.size | (have := B13.out.size; simp; omega)))
  clear b14 B13
  clear aA28
  obtain ⟨A21, hA21⟩ : ∃ A, A = (⟨#[80]⟩ : ByteArray) ++ U3 := ⟨_, rfl⟩
  have ZA21 : Hid (A21.size ≤ 6) := by unfold Hid; rw [hA21, ByteArray.size_append]; have h1 := (show (⟨#[80]⟩ : ByteArray).size = 1 from rfl); have h2 := ZU3.out; omega
  have HA21 : Hid (A21 = (⟨#[80]⟩ : ByteArray) ++ U3) := hA21
  clear hA21
  have aA21 : ∀ W : World, (Op.stringOp .add (⟨#[80]⟩ : ByteArray) U3).run Try.prog W = .ok (.string A21) W := fun W => by rw [HA21.out]; exact run_string_add_sum W _ _ (by have h1 := (show (⟨#[80]⟩ : ByteArray).size = 1 from rfl); have h2 := ZU3.out; omega)
  go_wp2_with fail
  refine (ku_says (n + 1) _ (by omega) (by omega) _).mono ?_
  rintro e w15 ⟨rfl, b15⟩
  rw [← HUn1.out]
  have B15 : Hid (Below w.heap.size w w15) := B14.out.trans (b15.mono (by first | exact B14.out.size | (have := B14.out.size; simp; omega)))
  clear b15 B14
  clear aA21
  obtain ⟨A22, hA22⟩ : ∃ A, A = A21 ++ Un1 := ⟨_, rfl⟩
  have ZA22 : Hid (A22.size ≤ 11) := by unfold Hid; rw [hA22, ByteArray.size_append]; have h1 := ZA21.out; have h2 := ZUn1.out; omega
  have HA22 : Hid (A22 = A21 ++ Un1) := hA22
  clear hA22
  have aA22 : ∀ W : World, (Op.stringOp .add A21 Un1).run Try.prog W = .ok (.string A22) W := fun W => by rw [HA22.out]; exact run_string_add_sum W _ _ (by have h1 := ZA21.out; have h2 := ZUn1.out; omega)
  go_wp2_with fail
  refine (kr_says A22 (by have h1 := ZA22.out; omega) _).mono ?_
  rintro e w16 ⟨rfl, b16⟩
  obtain ⟨R23, hR23⟩ : ∃ R, R = rB A22 := ⟨_, rfl⟩
  have ZR23 : Hid (R23.size ≤ 20) := by unfold Hid; rw [hR23]; have h1 := ZA22.out; have h2 := rB_size (b := A22) (by omega); omega
  rw [← hR23]
  have HR23 : Hid (R23 = rB A22) := hR23
  clear hR23
  have B16 : Hid (Below w.heap.size w w16) := B15.out.trans (b16.mono (by first | exact B15.out.size | (have := B15.out.size; simp; omega)))
  clear b16 B15
  clear aA22
  obtain ⟨A29, hA29⟩ : ∃ A, A = A28 ++ R23 := ⟨_, rfl⟩
  have ZA29 : Hid (A29.size ≤ 2115) := by unfold Hid; rw [hA29, ByteArray.size_append]; have h1 := ZA28.out; have h2 := ZR23.out; omega
  have HA29 : Hid (A29 = A28 ++ R23) := hA29
  clear hA29
  have aA29 : ∀ W : World, (Op.stringOp .add A28 R23).run Try.prog W = .ok (.string A29) W := fun W => by rw [HA29.out]; exact run_string_add_sum W _ _ (by have h1 := ZA28.out; have h2 := ZR23.out; omega)
  go_wp2_with fail
  refine (ku_says 0 _ (by omega) (by omega) _).mono ?_
  rintro e w17 ⟨rfl, b17⟩
  rw [← HU0.out]
  have B17 : Hid (Below w.heap.size w w17) := B16.out.trans (b17.mono (by first | exact B16.out.size | (have := B16.out.size; simp; omega)))
  clear b17 B16
  clear aA29
  have aA7 : ∀ W : World, (Op.stringOp .add (⟨#[70]⟩ : ByteArray) U0).run Try.prog W = .ok (.string A7) W := fun W => by rw [HA7.out]; exact run_string_add_sum W _ _ (by have h1 := (show (⟨#[70]⟩ : ByteArray).size = 1 from rfl); have h2 := ZU0.out; omega)
  obtain ⟨A24, hA24⟩ : ∃ A, A = A7 ++ (⟨#[]⟩ : ByteArray) := ⟨_, rfl⟩
  have ZA24 : Hid (A24.size ≤ 6) := by unfold Hid; rw [hA24, ByteArray.size_append]; have h1 := ZA7.out; have h2 := (show (⟨#[]⟩ : ByteArray).size = 0 from rfl); omega
  have HA24 : Hid (A24 = A7 ++ (⟨#[]⟩ : ByteArray)) := hA24
  clear hA24
  have aA24 : ∀ W : World, (Op.stringOp .add A7 (⟨#[]⟩ : ByteArray)).run Try.prog W = .ok (.string A24) W := fun W => by rw [HA24.out]; exact run_string_add_sum W _ _ (by have h1 := ZA7.out; have h2 := (show (⟨#[]⟩ : ByteArray).size = 0 from rfl); omega)
  go_wp2_with fail
  refine (kr_says A24 (by have h1 := ZA24.out; omega) _).mono ?_
  rintro e w18 ⟨rfl, b18⟩
  obtain ⟨R25, hR25⟩ : ∃ R, R = rB A24 := ⟨_, rfl⟩
  have ZR25 : Hid (R25.size ≤ 15) := by unfold Hid; rw [hR25]; have h1 := ZA24.out; have h2 := rB_size (b := A24) (by omega); omega
  rw [← hR25]
  have HR25 : Hid (R25 = rB A24) := hR25
  clear hR25
  have B18 : Hid (Below w.heap.size w w18) := B17.out.trans (b18.mono (by first | exact B17.out.size | (have := B17.out.size; simp; omega)))
  clear b18 B17
  clear aA7 aA24
  obtain ⟨A30, hA30⟩ : ∃ A, A = A29 ++ R25 := ⟨_, rfl⟩
  have ZA30 : Hid (A30.size ≤ 2130) := by unfold Hid; rw [hA30, ByteArray.size_append]; have h1 := ZA29.out; have h2 := ZR25.out; omega
  have HA30 : Hid (A30 = A29 ++ R25) := hA30
  clear hA30
  have aA30 : ∀ W : World, (Op.stringOp .add A29 R25).run Try.prog W = .ok (.string A30) W := fun W => by rw [HA30.out]; exact run_string_add_sum W _ _ (by have h1 := ZA29.out; have h2 := ZR25.out; omega)
  go_wp2_with fail
  clear aA30
  obtain ⟨A31, hA31⟩ : ∃ A, A = (⟨#[70]⟩ : ByteArray) ++ U4 := ⟨_, rfl⟩
  have ZA31 : Hid (A31.size ≤ 6) := by unfold Hid; rw [hA31, ByteArray.size_append]; have h1 := (show (⟨#[70]⟩ : ByteArray).size = 1 from rfl); have h2 := ZU4.out; omega
  have HA31 : Hid (A31 = (⟨#[70]⟩ : ByteArray) ++ U4) := hA31
  clear hA31
  obtain ⟨A32, hA32⟩ : ∃ A, A = A31 ++ (⟨#[120]⟩ : ByteArray) := ⟨_, rfl⟩
  have ZA32 : Hid (A32.size ≤ 7) := by unfold Hid; rw [hA32, ByteArray.size_append]; have h1 := ZA31.out; have h2 := (show (⟨#[120]⟩ : ByteArray).size = 1 from rfl); omega
  have HA32 : Hid (A32 = A31 ++ (⟨#[120]⟩ : ByteArray)) := hA32
  clear hA32
  obtain ⟨R33, hR33⟩ : ∃ R, R = rB A32 := ⟨_, rfl⟩
  have ZR33 : Hid (R33.size ≤ 16) := by unfold Hid; rw [hR33]; have h1 := ZA32.out; have h2 := rB_size (b := A32) (by omega); omega
  have HR33 : Hid (R33 = rB A32) := hR33
  clear hR33
  obtain ⟨A34, hA34⟩ : ∃ A, A = (⟨#[71]⟩ : ByteArray) ++ U0 := ⟨_, rfl⟩
  have ZA34 : Hid (A34.size ≤ 6) := by unfold Hid; rw [hA34, ByteArray.size_append]; have h1 := (show (⟨#[71]⟩ : ByteArray).size = 1 from rfl); have h2 := ZU0.out; omega
  have HA34 : Hid (A34 = (⟨#[71]⟩ : ByteArray) ++ U0) := hA34
  clear hA34
  obtain ⟨R35, hR35⟩ : ∃ R, R = rB A34 := ⟨_, rfl⟩
  have ZR35 : Hid (R35.size ≤ 15) := by unfold Hid; rw [hR35]; have h1 := ZA34.out; have h2 := rB_size (b := A34) (by omega); omega
  have HR35 : Hid (R35 = rB A34) := hR35
  clear hR35
  obtain ⟨A36, hA36⟩ : ∃ A, A = (⟨#[68]⟩ : ByteArray) ++ U1 := ⟨_, rfl⟩
  have ZA36 : Hid (A36.size ≤ 6) := by unfold Hid; rw [hA36, ByteArray.size_append]; have h1 := (show (⟨#[68]⟩ : ByteArray).size = 1 from rfl); have h2 := ZU1.out; omega
  have HA36 : Hid (A36 = (⟨#[68]⟩ : ByteArray) ++ U1) := hA36
  clear hA36
  obtain ⟨A37, hA37⟩ : ∃ A, A = A36 ++ U0 := ⟨_, rfl⟩
  have ZA37 : Hid (A37.size ≤ 11) := by unfold Hid; rw [hA37, ByteArray.size_append]; have h1 := ZA36.out; have h2 := ZU0.out; omega
  have HA37 : Hid (A37 = A36 ++ U0) := hA37
  clear hA37
  obtain ⟨R38, hR38⟩ : ∃ R, R = rB A37 := ⟨_, rfl⟩
  have ZR38 : Hid (R38.size ≤ 20) := by unfold Hid; rw [hR38]; have h1 := ZA37.out; have h2 := rB_size (b := A37) (by omega); omega
  have HR38 : Hid (R38 = rB A37) := hR38
  clear hR38
  obtain ⟨A39, hA39⟩ : ∃ A, A = (⟨#[68]⟩ : ByteArray) ++ U0 := ⟨_, rfl⟩
  have ZA39 : Hid (A39.size ≤ 6) := by unfold Hid; rw [hA39, ByteArray.size_append]; have h1 := (show (⟨#[68]⟩ : ByteArray).size = 1 from rfl); have h2 := ZU0.out; omega
  have HA39 : Hid (A39 = (⟨#[68]⟩ : ByteArray) ++ U0) := hA39
  clear hA39
  obtain ⟨A40, hA40⟩ : ∃ A, A = A39 ++ U1 := ⟨_, rfl⟩
  have ZA40 : Hid (A40.size ≤ 11) := by unfold Hid; rw [hA40, ByteArray.size_append]; have h1 := ZA39.out; have h2 := ZU1.out; omega
  have HA40 : Hid (A40 = A39 ++ U1) := hA40
  clear hA40
  obtain ⟨A41, hA41⟩ : ∃ A, A = A40 ++ U3 := ⟨_, rfl⟩
  have ZA41 : Hid (A41.size ≤ 16) := by unfold Hid; rw [hA41, ByteArray.size_append]; have h1 := ZA40.out; have h2 := ZU3.out; omega
  have HA41 : Hid (A41 = A40 ++ U3) := hA41
  clear hA41
  obtain ⟨A42, hA42⟩ : ∃ A, A = A41 ++ U0 := ⟨_, rfl⟩
  have ZA42 : Hid (A42.size ≤ 21) := by unfold Hid; rw [hA42, ByteArray.size_append]; have h1 := ZA41.out; have h2 := ZU0.out; omega
  have HA42 : Hid (A42 = A41 ++ U0) := hA42
  clear hA42
  obtain ⟨R43, hR43⟩ : ∃ R, R = rB A42 := ⟨_, rfl⟩
  have ZR43 : Hid (R43.size ≤ 30) := by unfold Hid; rw [hR43]; have h1 := ZA42.out; have h2 := rB_size (b := A42) (by omega); omega
  have HR43 : Hid (R43 = rB A42) := hR43
  clear hR43
  obtain ⟨A44, hA44⟩ : ∃ A, A = (⟨#[66]⟩ : ByteArray) ++ U0 := ⟨_, rfl⟩
  have ZA44 : Hid (A44.size ≤ 6) := by unfold Hid; rw [hA44, ByteArray.size_append]; have h1 := (show (⟨#[66]⟩ : ByteArray).size = 1 from rfl); have h2 := ZU0.out; omega
  have HA44 : Hid (A44 = (⟨#[66]⟩ : ByteArray) ++ U0) := hA44
  clear hA44
  obtain ⟨A45, hA45⟩ : ∃ A, A = A44 ++ U1 := ⟨_, rfl⟩
  have ZA45 : Hid (A45.size ≤ 11) := by unfold Hid; rw [hA45, ByteArray.size_append]; have h1 := ZA44.out; have h2 := ZU1.out; omega
  have HA45 : Hid (A45 = A44 ++ U1) := hA45
  clear hA45
  obtain ⟨A46, hA46⟩ : ∃ A, A = A45 ++ (⟨#[120]⟩ : ByteArray) := ⟨_, rfl⟩
  have ZA46 : Hid (A46.size ≤ 12) := by unfold Hid; rw [hA46, ByteArray.size_append]; have h1 := ZA45.out; have h2 := (show (⟨#[120]⟩ : ByteArray).size = 1 from rfl); omega
  have HA46 : Hid (A46 = A45 ++ (⟨#[120]⟩ : ByteArray)) := hA46
  clear hA46
  obtain ⟨R47, hR47⟩ : ∃ R, R = rB A46 := ⟨_, rfl⟩
  have ZR47 : Hid (R47.size ≤ 21) := by unfold Hid; rw [hR47]; have h1 := ZA46.out; have h2 := rB_size (b := A46) (by omega); omega
  have HR47 : Hid (R47 = rB A46) := hR47
  clear hR47
  obtain ⟨A48, hA48⟩ : ∃ A, A = (⟨#[66]⟩ : ByteArray) ++ U1 := ⟨_, rfl⟩
  have ZA48 : Hid (A48.size ≤ 6) := by unfold Hid; rw [hA48, ByteArray.size_append]; have h1 := (show (⟨#[66]⟩ : ByteArray).size = 1 from rfl); have h2 := ZU1.out; omega
  have HA48 : Hid (A48 = (⟨#[66]⟩ : ByteArray) ++ U1) := hA48
  clear hA48
  obtain ⟨A49, hA49⟩ : ∃ A, A = A48 ++ U0 := ⟨_, rfl⟩
  have ZA49 : Hid (A49.size ≤ 11) := by unfold Hid; rw [hA49, ByteArray.size_append]; have h1 := ZA48.out; have h2 := ZU0.out; omega
  have HA49 : Hid (A49 = A48 ++ U0) := hA49
  clear hA49
  obtain ⟨A50, hA50⟩ : ∃ A, A = A49 ++ (⟨#[120]⟩ : ByteArray) := ⟨_, rfl⟩
  have ZA50 : Hid (A50.size ≤ 12) := by unfold Hid; rw [hA50, ByteArray.size_append]; have h1 := ZA49.out; have h2 := (show (⟨#[120]⟩ : ByteArray).size = 1 from rfl); omega
  have HA50 : Hid (A50 = A49 ++ (⟨#[120]⟩ : ByteArray)) := hA50
  clear hA50
  obtain ⟨R51, hR51⟩ : ∃ R, R = rB A50 := ⟨_, rfl⟩
  have ZR51 : Hid (R51.size ≤ 21) := by unfold Hid; rw [hR51]; have h1 := ZA50.out; have h2 := rB_size (b := A50) (by omega); omega
  have HR51 : Hid (R51 = rB A50) := hR51
  clear hR51
  obtain ⟨A52, hA52⟩ : ∃ A, A = A21 ++ Un := ⟨_, rfl⟩
  have ZA52 : Hid (A52.size ≤ 11) := by unfold Hid; rw [hA52, ByteArray.size_append]; have h1 := ZA21.out; have h2 := ZUn.out; omega
  have HA52 : Hid (A52 = A21 ++ Un) := hA52
  clear hA52
  obtain ⟨R53, hR53⟩ : ∃ R, R = rB A52 := ⟨_, rfl⟩
  have ZR53 : Hid (R53.size ≤ 20) := by unfold Hid; rw [hR53]; have h1 := ZA52.out; have h2 := rB_size (b := A52) (by omega); omega
  have HR53 : Hid (R53 = rB A52) := hR53
  clear hR53
  obtain ⟨A54, hA54⟩ : ∃ A, A = A21 ++ Un3 := ⟨_, rfl⟩
  have ZA54 : Hid (A54.size ≤ 11) := by unfold Hid; rw [hA54, ByteArray.size_append]; have h1 := ZA21.out; have h2 := ZUn3.out; omega
  have HA54 : Hid (A54 = A21 ++ Un3) := hA54
  clear hA54
  obtain ⟨R55, hR55⟩ : ∃ R, R = rB A54 := ⟨_, rfl⟩
  have ZR55 : Hid (R55.size ≤ 20) := by unfold Hid; rw [hR55]; have h1 := ZA54.out; have h2 := rB_size (b := A54) (by omega); omega
  have HR55 : Hid (R55 = rB A54) := hR55
  clear hR55
  obtain ⟨A56, hA56⟩ : ∃ A, A = A21 ++ Un2 := ⟨_, rfl⟩
  have ZA56 : Hid (A56.size ≤ 11) := by unfold Hid; rw [hA56, ByteArray.size_append]; have h1 := ZA21.out; have h2 := ZUn2.out; omega
  have HA56 : Hid (A56 = A21 ++ Un2) := hA56
  clear hA56
  obtain ⟨A57, hA57⟩ : ∃ A, A = A56 ++ (⟨#[120]⟩ : ByteArray) := ⟨_, rfl⟩
  have ZA57 : Hid (A57.size ≤ 12) := by unfold Hid; rw [hA57, ByteArray.size_append]; have h1 := ZA56.out; have h2 := (show (⟨#[120]⟩ : ByteArray).size = 1 from rfl); omega
  have HA57 : Hid (A57 = A56 ++ (⟨#[120]⟩ : ByteArray)) := hA57
  clear hA57
  obtain ⟨R58, hR58⟩ : ∃ R, R = rB A57 := ⟨_, rfl⟩
  have ZR58 : Hid (R58.size ≤ 21) := by unfold Hid; rw [hR58]; have h1 := ZA57.out; have h2 := rB_size (b := A57) (by omega); omega
  have HR58 : Hid (R58 = rB A57) := hR58
  clear hR58
  obtain ⟨A59, hA59⟩ : ∃ A, A = (⟨#[80]⟩ : ByteArray) ++ U1 := ⟨_, rfl⟩
  have ZA59 : Hid (A59.size ≤ 6) := by unfold Hid; rw [hA59, ByteArray.size_append]; have h1 := (show (⟨#[80]⟩ : ByteArray).size = 1 from rfl); have h2 := ZU1.out; omega
  have HA59 : Hid (A59 = (⟨#[80]⟩ : ByteArray) ++ U1) := hA59
  clear hA59
  obtain ⟨A60, hA60⟩ : ∃ A, A = A59 ++ U0 := ⟨_, rfl⟩
  have ZA60 : Hid (A60.size ≤ 11) := by unfold Hid; rw [hA60, ByteArray.size_append]; have h1 := ZA59.out; have h2 := ZU0.out; omega
  have HA60 : Hid (A60 = A59 ++ U0) := hA60
  clear hA60
  obtain ⟨R61, hR61⟩ : ∃ R, R = rB A60 := ⟨_, rfl⟩
  have ZR61 : Hid (R61.size ≤ 20) := by unfold Hid; rw [hR61]; have h1 := ZA60.out; have h2 := rB_size (b := A60) (by omega); omega
  have HR61 : Hid (R61 = rB A60) := hR61
  clear hR61
  obtain ⟨R62, hR62⟩ : ∃ R, R = rB (⟨#[]⟩ : ByteArray) := ⟨_, rfl⟩
  have ZR62 : Hid (R62.size ≤ 9) := by unfold Hid; rw [hR62]; have h1 := (show (⟨#[]⟩ : ByteArray).size = 0 from rfl); have h2 := rB_size (b := (⟨#[]⟩ : ByteArray)) (by omega); omega
  have HR62 : Hid (R62 = rB (⟨#[]⟩ : ByteArray)) := hR62
  clear hR62
  obtain ⟨R63, hR63⟩ : ∃ R, R = rB (⟨#[70]⟩ : ByteArray) := ⟨_, rfl⟩
  have ZR63 : Hid (R63.size ≤ 10) := by unfold Hid; rw [hR63]; have h1 := (show (⟨#[70]⟩ : ByteArray).size = 1 from rfl); have h2 := rB_size (b := (⟨#[70]⟩ : ByteArray)) (by omega); omega
  have HR63 : Hid (R63 = rB (⟨#[70]⟩ : ByteArray)) := hR63
  clear hR63
  obtain ⟨A64, hA64⟩ : ∃ A, A = (⟨#[70]⟩ : ByteArray) ++ (⟨#[128, 0]⟩ : ByteArray) := ⟨_, rfl⟩
  have ZA64 : Hid (A64.size ≤ 3) := by unfold Hid; rw [hA64, ByteArray.size_append]; have h1 := (show (⟨#[70]⟩ : ByteArray).size = 1 from rfl); have h2 := (show (⟨#[128, 0]⟩ : ByteArray).size = 2 from rfl); omega
  have HA64 : Hid (A64 = (⟨#[70]⟩ : ByteArray) ++ (⟨#[128, 0]⟩ : ByteArray)) := hA64
  clear hA64
  obtain ⟨A65, hA65⟩ : ∃ A, A = A64 ++ (⟨#[120]⟩ : ByteArray) := ⟨_, rfl⟩
  have ZA65 : Hid (A65.size ≤ 4) := by unfold Hid; rw [hA65, ByteArray.size_append]; have h1 := ZA64.out; have h2 := (show (⟨#[120]⟩ : ByteArray).size = 1 from rfl); omega
  have HA65 : Hid (A65 = A64 ++ (⟨#[120]⟩ : ByteArray)) := hA65
  clear hA65
  obtain ⟨R66, hR66⟩ : ∃ R, R = rB A65 := ⟨_, rfl⟩
  have ZR66 : Hid (R66.size ≤ 13) := by unfold Hid; rw [hR66]; have h1 := ZA65.out; have h2 := rB_size (b := A65) (by omega); omega
  have HR66 : Hid (R66 = rB A65) := hR66
  clear hR66
  obtain ⟨A67, hA67⟩ : ∃ A, A = (⟨#[70]⟩ : ByteArray) ++ U1 := ⟨_, rfl⟩
  have ZA67 : Hid (A67.size ≤ 6) := by unfold Hid; rw [hA67, ByteArray.size_append]; have h1 := (show (⟨#[70]⟩ : ByteArray).size = 1 from rfl); have h2 := ZU1.out; omega
  have HA67 : Hid (A67 = (⟨#[70]⟩ : ByteArray) ++ U1) := hA67
  clear hA67
  obtain ⟨R68, hR68⟩ : ∃ R, R = rB A67 := ⟨_, rfl⟩
  have ZR68 : Hid (R68.size ≤ 15) := by unfold Hid; rw [hR68]; have h1 := ZA67.out; have h2 := rB_size (b := A67) (by omega); omega
  have HR68 : Hid (R68 = rB A67) := hR68
  clear hR68
  have SR68 : Hid (R68.size = 7) := by unfold Hid; rw [HR68.out, Lib.size_eq, rB_data, HA67.out, cat_data, HU1.out, uB_data]; rfl
  obtain ⟨E0, hE0⟩ : ∃ E, E = R68.extract 0 5 := ⟨_, rfl⟩
  have ZE0 : Hid (E0.size ≤ 20) := by unfold Hid; rw [hE0, ByteArray.size_extract]; have h1 := ZR68.out; omega
  have HE0 : Hid (E0 = R68.extract 0 5) := hE0
  clear hE0
  obtain ⟨E1, hE1⟩ : ∃ E, E = R68.extract 1 7 := ⟨_, rfl⟩
  have ZE1 : Hid (E1.size ≤ 20) := by unfold Hid; rw [hE1, ByteArray.size_extract]; have h1 := ZR68.out; omega
  have HE1 : Hid (E1 = R68.extract 1 7) := hE1
  clear hE1
  obtain ⟨A69, hA69⟩ : ∃ A, A = (⟨#[130, 0]⟩ : ByteArray) ++ E1 := ⟨_, rfl⟩
  have ZA69 : Hid (A69.size ≤ 22) := by unfold Hid; rw [hA69, ByteArray.size_append]; have h1 := (show (⟨#[130, 0]⟩ : ByteArray).size = 2 from rfl); have h2 := ZE1.out; omega
  have HA69 : Hid (A69 = (⟨#[130, 0]⟩ : ByteArray) ++ E1) := hA69
  clear hA69
  refine wp_region_wants (by kernel_rfl) [.val (.string U4), .val (.string A31), .val (.string A32), .val (.string R33), .val (.string U0), .val (.string A34), .val (.string R35), .val (.string U1), .val (.string A36), .val (.string U0), .val (.string A37), .val (.string R38), .val (.string U0), .val (.string A39), .val (.string U1), .val (.string A40), .val (.string U3), .val (.string A41), .val (.string U0), .val (.string A42), .val (.string R43), .val (.string U0), .val (.string A44), .val (.string U1), .val (.string A45), .val (.string A46), .val (.string R47), .val (.string U1), .val (.string A48), .val (.string U0), .val (.string A49), .val (.string A50), .val (.string R51), .val (.string U3), .val (.string A21), .val (.int .i64 (n : Int)), .val (.string Un), .val (.string A52), .val (.string R53), .val (.string U3), .val (.string A21), .val (.int .i64 (n : Int)), .val (.int .i64 ((n : Int) + 3)), .val (.string Un3), .val (.string A54), .val (.string R55), .val (.string U3), .val (.string A21), .val (.int .i64 (n : Int)), .val (.int .i64 ((n : Int) + 2)), .val (.string Un2), .val (.string A56), .val (.string A57), .val (.string R58), .val (.string U1), .val (.string A59), .val (.string U0), .val (.string A60), .val (.string R61), .val (.string R62), .val (.string R63), .row #[.int .u8 128, .int .u8 0] 2 5, .val (.string (⟨#[128, 0]⟩ : ByteArray)), .val (.string A64), .val (.string A65), .val (.string R66), .val (.string U1), .val (.string A67), .val (.string R68), .val (.string E0), .row #[.int .u8 130, .int .u8 0] 2 5, .val (.string (⟨#[130, 0]⟩ : ByteArray)), .val (.string U1), .val (.string A67), .val (.string R68), .val (.string E1), .val (.string A69), .row #[.string R33, .string R35, .string R38, .string R43, .string R47, .string R51, .string R53, .string R55, .string R58, .string R61, .string R62, .string R63, .string R66, .string (⟨#[120]⟩ : ByteArray), .string E0, .string A69] 16 9, .row #[.string R33, .string R35, .string R38, .string R43, .string R47, .string R51, .string R53, .string R55, .string R58, .string R61, .string R62, .string R63, .string R66, .string (⟨#[120]⟩ : ByteArray), .string E0, .string A69] 16 9] (fun i => if i = 78 then 12 else 82 + i) _ rfl (by kernel_rfl) ?_ rfl ?_
  · intro i o q a wx ho hq hh hb hdep
    have h9 : a.tmps.getD 9 undef = .int .i64 (n : Int) := hh.at_ 9 (by rintro ⟨i, hi, e⟩; split at e <;> omega)
    match i, ho, hq with
    | 0, ho, hq =>
      cases ho
      cases hq
      unfold Oper.wp
      go_simp
      refine (ku_says 4 _ (by omega) (by omega) _).mono ?_
      rintro e w' ⟨rfl, b'⟩
      exact ⟨_, rfl, b', congrArg Value.string HU4.out.symm⟩
    | 1, ho, hq =>
      cases ho
      cases hq
      have h82 : a.tmps.getD 82 undef = .string U4 := hdep ⟨0, .data⟩ (by simp) rfl _ rfl
      have aX : ∀ W : World, (Op.stringOp .add (⟨#[70]⟩ : ByteArray) U4).run Try.prog W = .ok (.string A31) W := fun W => by rw [HA31.out]; exact run_string_add_sum W _ _ (by have h1 := (show (⟨#[70]⟩ : ByteArray).size = 1 from rfl); have h2 := ZU4.out; omega)
      unfold Oper.wp
      go_simp
      exact ⟨_, rfl, Below.refl _ _, rfl⟩
    | 2, ho, hq =>
      cases ho
      cases hq
      have h83 : a.tmps.getD 83 undef = .string A31 := hdep ⟨1, .data⟩ (by simp) rfl _ rfl
      have aX : ∀ W : World, (Op.stringOp .add A31 (⟨#[120]⟩ : ByteArray)).run Try.prog W = .ok (.string A32) W := fun W => by rw [HA32.out]; exact run_string_add_sum W _ _ (by have h1 := ZA31.out; have h2 := (show (⟨#[120]⟩ : ByteArray).size = 1 from rfl); omega)
      unfold Oper.wp
      go_simp
      exact ⟨_, rfl, Below.refl _ _, rfl⟩
    | 3, ho, hq =>
      cases ho
      cases hq
      have h84 : a.tmps.getD 84 undef = .string A32 := hdep ⟨2, .data⟩ (by simp) rfl _ rfl
      unfold Oper.wp
      go_simp
      refine (kr_says A32 (by have h1 := ZA32.out; omega) _).mono ?_
      rintro e w' ⟨rfl, b'⟩
      exact ⟨_, rfl, b', congrArg Value.string HR33.out.symm⟩
    | 4, ho, hq =>
      cases ho
      cases hq
      unfold Oper.wp
      go_simp
      refine (ku_says 0 _ (by omega) (by omega) _).mono ?_
      rintro e w' ⟨rfl, b'⟩
      exact ⟨_, rfl, b', congrArg Value.string HU0.out.symm⟩
    | 5, ho, hq =>
      cases ho
      cases hq
      have h86 : a.tmps.getD 86 undef = .string U0 := hdep ⟨4, .data⟩ (by simp) rfl _ rfl
      have aX : ∀ W : World, (Op.stringOp .add (⟨#[71]⟩ : ByteArray) U0).run Try.prog W = .ok (.string A34) W := fun W => by rw [HA34.out]; exact run_string_add_sum W _ _ (by have h1 := (show (⟨#[71]⟩ : ByteArray).size = 1 from rfl); have h2 := ZU0.out; omega)
      unfold Oper.wp
      go_simp
      exact ⟨_, rfl, Below.refl _ _, rfl⟩
    | 6, ho, hq =>
      cases ho
      cases hq
      have h87 : a.tmps.getD 87 undef = .string A34 := hdep ⟨5, .data⟩ (by simp) rfl _ rfl
      unfold Oper.wp
      go_simp
      refine (kr_says A34 (by have h1 := ZA34.out; omega) _).mono ?_
      rintro e w' ⟨rfl, b'⟩
      exact ⟨_, rfl, b', congrArg Value.string HR35.out.symm⟩
    | 7, ho, hq =>
      cases ho
      cases hq
      unfold Oper.wp
      go_simp
      refine (ku_says 1 _ (by omega) (by omega) _).mono ?_
      rintro e w' ⟨rfl, b'⟩
      exact ⟨_, rfl, b', congrArg Value.string HU1.out.symm⟩
    | 8, ho, hq =>
      cases ho
      cases hq
      have h89 : a.tmps.getD 89 undef = .string U1 := hdep ⟨7, .data⟩ (by simp) rfl _ rfl
      have aX : ∀ W : World, (Op.stringOp .add (⟨#[68]⟩ : ByteArray) U1).run Try.prog W = .ok (.string A36) W := fun W => by rw [HA36.out]; exact run_string_add_sum W _ _ (by have h1 := (show (⟨#[68]⟩ : ByteArray).size = 1 from rfl); have h2 := ZU1.out; omega)
      unfold Oper.wp
      go_simp
      exact ⟨_, rfl, Below.refl _ _, rfl⟩
    | 9, ho, hq =>
      cases ho
      cases hq
      unfold Oper.wp
      go_simp
      refine (ku_says 0 _ (by omega) (by omega) _).mono ?_
      rintro e w' ⟨rfl, b'⟩
      exact ⟨_, rfl, b', congrArg Value.string HU0.out.symm⟩
    | 10, ho, hq =>
      cases ho
      cases hq
      have h90 : a.tmps.getD 90 undef = .string A36 := hdep ⟨8, .data⟩ (by simp) rfl _ rfl
      have h91 : a.tmps.getD 91 undef = .string U0 := hdep ⟨9, .data⟩ (by simp) rfl _ rfl
      have aX : ∀ W : World, (Op.stringOp .add A36 U0).run Try.prog W = .ok (.string A37) W := fun W => by rw [HA37.out]; exact run_string_add_sum W _ _ (by have h1 := ZA36.out; have h2 := ZU0.out; omega)
      unfold Oper.wp
      go_simp
      exact ⟨_, rfl, Below.refl _ _, rfl⟩
    | 11, ho, hq =>
      cases ho
      cases hq
      have h92 : a.tmps.getD 92 undef = .string A37 := hdep ⟨10, .data⟩ (by simp) rfl _ rfl
      unfold Oper.wp
      go_simp
      refine (kr_says A37 (by have h1 := ZA37.out; omega) _).mono ?_
      rintro e w' ⟨rfl, b'⟩
      exact ⟨_, rfl, b', congrArg Value.string HR38.out.symm⟩
    | 12, ho, hq =>
      cases ho
      cases hq
      unfold Oper.wp
      go_simp
      refine (ku_says 0 _ (by omega) (by omega) _).mono ?_
      rintro e w' ⟨rfl, b'⟩
      exact ⟨_, rfl, b', congrArg Value.string HU0.out.symm⟩
    | 13, ho, hq =>
      cases ho
      cases hq
      have h94 : a.tmps.getD 94 undef = .string U0 := hdep ⟨12, .data⟩ (by simp) rfl _ rfl
      have aX : ∀ W : World, (Op.stringOp .add (⟨#[68]⟩ : ByteArray) U0).run Try.prog W = .ok (.string A39) W := fun W => by rw [HA39.out]; exact run_string_add_sum W _ _ (by have h1 := (show (⟨#[68]⟩ : ByteArray).size = 1 from rfl); have h2 := ZU0.out; omega)
      unfold Oper.wp
      go_simp
      exact ⟨_, rfl, Below.refl _ _, rfl⟩
    | 14, ho, hq =>
      cases ho
      cases hq
      unfold Oper.wp
      go_simp
      refine (ku_says 1 _ (by omega) (by omega) _).mono ?_
      rintro e w' ⟨rfl, b'⟩
      exact ⟨_, rfl, b', congrArg Value.string HU1.out.symm⟩
    | 15, ho, hq =>
      cases ho
      cases hq
      have h95 : a.tmps.getD 95 undef = .string A39 := hdep ⟨13, .data⟩ (by simp) rfl _ rfl
      have h96 : a.tmps.getD 96 undef = .string U1 := hdep ⟨14, .data⟩ (by simp) rfl _ rfl
      have aX : ∀ W : World, (Op.stringOp .add A39 U1).run Try.prog W = .ok (.string A40) W := fun W => by rw [HA40.out]; exact run_string_add_sum W _ _ (by have h1 := ZA39.out; have h2 := ZU1.out; omega)
      unfold Oper.wp
      go_simp
      exact ⟨_, rfl, Below.refl _ _, rfl⟩
    | 16, ho, hq =>
      cases ho
      cases hq
      unfold Oper.wp
      go_simp
      refine (ku_says 3 _ (by omega) (by omega) _).mono ?_
      rintro e w' ⟨rfl, b'⟩
      exact ⟨_, rfl, b', congrArg Value.string HU3.out.symm⟩
    | 17, ho, hq =>
      cases ho
      cases hq
      have h97 : a.tmps.getD 97 undef = .string A40 := hdep ⟨15, .data⟩ (by simp) rfl _ rfl
      have h98 : a.tmps.getD 98 undef = .string U3 := hdep ⟨16, .data⟩ (by simp) rfl _ rfl
      have aX : ∀ W : World, (Op.stringOp .add A40 U3).run Try.prog W = .ok (.string A41) W := fun W => by rw [HA41.out]; exact run_string_add_sum W _ _ (by have h1 := ZA40.out; have h2 := ZU3.out; omega)
      unfold Oper.wp
      go_simp
      exact ⟨_, rfl, Below.refl _ _, rfl⟩
    | 18, ho, hq =>
      cases ho
      cases hq
      unfold Oper.wp
      go_simp
      refine (ku_says 0 _ (by omega) (by omega) _).mono ?_
      rintro e w' ⟨rfl, b'⟩
      exact ⟨_, rfl, b', congrArg Value.string HU0.out.symm⟩
    | 19, ho, hq =>
      cases ho
      cases hq
      have h99 : a.tmps.getD 99 undef = .string A41 := hdep ⟨17, .data⟩ (by simp) rfl _ rfl
      have h100 : a.tmps.getD 100 undef = .string U0 := hdep ⟨18, .data⟩ (by simp) rfl _ rfl
      have aX : ∀ W : World, (Op.stringOp .add A41 U0).run Try.prog W = .ok (.string A42) W := fun W => by rw [HA42.out]; exact run_string_add_sum W _ _ (by have h1 := ZA41.out; have h2 := ZU0.out; omega)
      unfold Oper.wp
      go_simp
      exact ⟨_, rfl, Below.refl _ _, rfl⟩
    | 20, ho, hq =>
      cases ho
      cases hq
      have h101 : a.tmps.getD 101 undef = .string A42 := hdep ⟨19, .data⟩ (by simp) rfl _ rfl
      unfold Oper.wp
      go_simp
      refine (kr_says A42 (by have h1 := ZA42.out; omega) _).mono ?_
      rintro e w' ⟨rfl, b'⟩
      exact ⟨_, rfl, b', congrArg Value.string HR43.out.symm⟩
    | 21, ho, hq =>
      cases ho
      cases hq
      unfold Oper.wp
      go_simp
      refine (ku_says 0 _ (by omega) (by omega) _).mono ?_
      rintro e w' ⟨rfl, b'⟩
      exact ⟨_, rfl, b', congrArg Value.string HU0.out.symm⟩
    | 22, ho, hq =>
      cases ho
      cases hq
      have h103 : a.tmps.getD 103 undef = .string U0 := hdep ⟨21, .data⟩ (by simp) rfl _ rfl
      have aX : ∀ W : World, (Op.stringOp .add (⟨#[66]⟩ : ByteArray) U0).run Try.prog W = .ok (.string A44) W := fun W => by rw [HA44.out]; exact run_string_add_sum W _ _ (by have h1 := (show (⟨#[66]⟩ : ByteArray).size = 1 from rfl); have h2 := ZU0.out; omega)
      unfold Oper.wp
      go_simp
      exact ⟨_, rfl, Below.refl _ _, rfl⟩
    | 23, ho, hq =>
      cases ho
      cases hq
      unfold Oper.wp
      go_simp
      refine (ku_says 1 _ (by omega) (by omega) _).mono ?_
      rintro e w' ⟨rfl, b'⟩
      exact ⟨_, rfl, b', congrArg Value.string HU1.out.symm⟩
    | 24, ho, hq =>
      cases ho
      cases hq
      have h104 : a.tmps.getD 104 undef = .string A44 := hdep ⟨22, .data⟩ (by simp) rfl _ rfl
      have h105 : a.tmps.getD 105 undef = .string U1 := hdep ⟨23, .data⟩ (by simp) rfl _ rfl
      have aX : ∀ W : World, (Op.stringOp .add A44 U1).run Try.prog W = .ok (.string A45) W := fun W => by rw [HA45.out]; exact run_string_add_sum W _ _ (by have h1 := ZA44.out; have h2 := ZU1.out; omega)
      unfold Oper.wp
      go_simp
      exact ⟨_, rfl, Below.refl _ _, rfl⟩
    | 25, ho, hq =>
      cases ho
      cases hq
      have h106 : a.tmps.getD 106 undef = .string A45 := hdep ⟨24, .data⟩ (by simp) rfl _ rfl
      have aX : ∀ W : World, (Op.stringOp .add A45 (⟨#[120]⟩ : ByteArray)).run Try.prog W = .ok (.string A46) W := fun W => by rw [HA46.out]; exact run_string_add_sum W _ _ (by have h1 := ZA45.out; have h2 := (show (⟨#[120]⟩ : ByteArray).size = 1 from rfl); omega)
      unfold Oper.wp
      go_simp
      exact ⟨_, rfl, Below.refl _ _, rfl⟩
    | 26, ho, hq =>
      cases ho
      cases hq
      have h107 : a.tmps.getD 107 undef = .string A46 := hdep ⟨25, .data⟩ (by simp) rfl _ rfl
      unfold Oper.wp
      go_simp
      refine (kr_says A46 (by have h1 := ZA46.out; omega) _).mono ?_
      rintro e w' ⟨rfl, b'⟩
      exact ⟨_, rfl, b', congrArg Value.string HR47.out.symm⟩
    | 27, ho, hq =>
      cases ho
      cases hq
      unfold Oper.wp
      go_simp
      refine (ku_says 1 _ (by omega) (by omega) _).mono ?_
      rintro e w' ⟨rfl, b'⟩
      exact ⟨_, rfl, b', congrArg Value.string HU1.out.symm⟩
    | 28, ho, hq =>
      cases ho
      cases hq
      have h109 : a.tmps.getD 109 undef = .string U1 := hdep ⟨27, .data⟩ (by simp) rfl _ rfl
      have aX : ∀ W : World, (Op.stringOp .add (⟨#[66]⟩ : ByteArray) U1).run Try.prog W = .ok (.string A48) W := fun W => by rw [HA48.out]; exact run_string_add_sum W _ _ (by have h1 := (show (⟨#[66]⟩ : ByteArray).size = 1 from rfl); have h2 := ZU1.out; omega)
      unfold Oper.wp
      go_simp
      exact ⟨_, rfl, Below.refl _ _, rfl⟩
    | 29, ho, hq =>
      cases ho
      cases hq
      unfold Oper.wp
      go_simp
      refine (ku_says 0 _ (by omega) (by omega) _).mono ?_
      rintro e w' ⟨rfl, b'⟩
      exact ⟨_, rfl, b', congrArg Value.string HU0.out.symm⟩
    | 30, ho, hq =>
      cases ho
      cases hq
      have h110 : a.tmps.getD 110 undef = .string A48 := hdep ⟨28, .data⟩ (by simp) rfl _ rfl
      have h111 : a.tmps.getD 111 undef = .string U0 := hdep ⟨29, .data⟩ (by simp) rfl _ rfl
      have aX : ∀ W : World, (Op.stringOp .add A48 U0).run Try.prog W = .ok (.string A49) W := fun W => by rw [HA49.out]; exact run_string_add_sum W _ _ (by have h1 := ZA48.out; have h2 := ZU0.out; omega)
      unfold Oper.wp
      go_simp
      exact ⟨_, rfl, Below.refl _ _, rfl⟩
    | 31, ho, hq =>
      cases ho
      cases hq
      have h112 : a.tmps.getD 112 undef = .string A49 := hdep ⟨30, .data⟩ (by simp) rfl _ rfl
      have aX : ∀ W : World, (Op.stringOp .add A49 (⟨#[120]⟩ : ByteArray)).run Try.prog W = .ok (.string A50) W := fun W => by rw [HA50.out]; exact run_string_add_sum W _ _ (by have h1 := ZA49.out; have h2 := (show (⟨#[120]⟩ : ByteArray).size = 1 from rfl); omega)
      unfold Oper.wp
      go_simp
      exact ⟨_, rfl, Below.refl _ _, rfl⟩
    | 32, ho, hq =>
      cases ho
      cases hq
      have h113 : a.tmps.getD 113 undef = .string A50 := hdep ⟨31, .data⟩ (by simp) rfl _ rfl
      unfold Oper.wp
      go_simp
      refine (kr_says A50 (by have h1 := ZA50.out; omega) _).mono ?_
      rintro e w' ⟨rfl, b'⟩
      exact ⟨_, rfl, b', congrArg Value.string HR51.out.symm⟩
    | 33, ho, hq =>
      cases ho
      cases hq
      unfold Oper.wp
      go_simp
      refine (ku_says 3 _ (by omega) (by omega) _).mono ?_
      rintro e w' ⟨rfl, b'⟩
      exact ⟨_, rfl, b', congrArg Value.string HU3.out.symm⟩
    | 34, ho, hq =>
      cases ho
      cases hq
      have h115 : a.tmps.getD 115 undef = .string U3 := hdep ⟨33, .data⟩ (by simp) rfl _ rfl
      have aX : ∀ W : World, (Op.stringOp .add (⟨#[80]⟩ : ByteArray) U3).run Try.prog W = .ok (.string A21) W := fun W => by rw [HA21.out]; exact run_string_add_sum W _ _ (by have h1 := (show (⟨#[80]⟩ : ByteArray).size = 1 from rfl); have h2 := ZU3.out; omega)
      unfold Oper.wp
      go_simp
      exact ⟨_, rfl, Below.refl _ _, rfl⟩
    | 35, ho, hq =>
      cases ho
      cases hq
      unfold Oper.wp
      go_simp
      exact ⟨_, rfl, Below.refl _ _, rfl⟩
    | 36, ho, hq =>
      cases ho
      cases hq
      have h117 : a.tmps.getD 117 undef = .int .i64 (n : Int) := hdep ⟨35, .data⟩ (by simp) rfl _ rfl
      unfold Oper.wp
      go_simp
      refine (ku_says n _ (by omega) (by omega) _).mono ?_
      rintro e w' ⟨rfl, b'⟩
      exact ⟨_, rfl, b', congrArg Value.string HUn.out.symm⟩
    | 37, ho, hq =>
      cases ho
      cases hq
      have h116 : a.tmps.getD 116 undef = .string A21 := hdep ⟨34, .data⟩ (by simp) rfl _ rfl
      have h118 : a.tmps.getD 118 undef = .string Un := hdep ⟨36, .data⟩ (by simp) rfl _ rfl
      have aX : ∀ W : World, (Op.stringOp .add A21 Un).run Try.prog W = .ok (.string A52) W := fun W => by rw [HA52.out]; exact run_string_add_sum W _ _ (by have h1 := ZA21.out; have h2 := ZUn.out; omega)
      unfold Oper.wp
      go_simp
      exact ⟨_, rfl, Below.refl _ _, rfl⟩
    | 38, ho, hq =>
      cases ho
      cases hq
      have h119 : a.tmps.getD 119 undef = .string A52 := hdep ⟨37, .data⟩ (by simp) rfl _ rfl
      unfold Oper.wp
      go_simp
      refine (kr_says A52 (by have h1 := ZA52.out; omega) _).mono ?_
      rintro e w' ⟨rfl, b'⟩
      exact ⟨_, rfl, b', congrArg Value.string HR53.out.symm⟩
    | 39, ho, hq =>
      cases ho
      cases hq
      unfold Oper.wp
      go_simp
      refine (ku_says 3 _ (by omega) (by omega) _).mono ?_
      rintro e w' ⟨rfl, b'⟩
      exact ⟨_, rfl, b', congrArg Value.string HU3.out.symm⟩
    | 40, ho, hq =>
      cases ho
      cases hq
      have h121 : a.tmps.getD 121 undef = .string U3 := hdep ⟨39, .data⟩ (by simp) rfl _ rfl
      have aX : ∀ W : World, (Op.stringOp .add (⟨#[80]⟩ : ByteArray) U3).run Try.prog W = .ok (.string A21) W := fun W => by rw [HA21.out]; exact run_string_add_sum W _ _ (by have h1 := (show (⟨#[80]⟩ : ByteArray).size = 1 from rfl); have h2 := ZU3.out; omega)
      unfold Oper.wp
      go_simp
      exact ⟨_, rfl, Below.refl _ _, rfl⟩
    | 41, ho, hq =>
      cases ho
      cases hq
      unfold Oper.wp
      go_simp
      exact ⟨_, rfl, Below.refl _ _, rfl⟩
    | 42, ho, hq =>
      cases ho
      cases hq
      have h123 : a.tmps.getD 123 undef = .int .i64 (n : Int) := hdep ⟨41, .data⟩ (by simp) rfl _ rfl
      unfold Oper.wp
      go_simp
      exact ⟨_, rfl, Below.refl _ _, rfl⟩
    | 43, ho, hq =>
      cases ho
      cases hq
      have h124 : a.tmps.getD 124 undef = .int .i64 ((n : Int) + 3) := hdep ⟨42, .data⟩ (by simp) rfl _ rfl
      unfold Oper.wp
      go_simp
      refine (ku_says (n + 3) _ (by omega) (by omega) _).mono ?_
      rintro e w' ⟨rfl, b'⟩
      exact ⟨_, rfl, b', congrArg Value.string HUn3.out.symm⟩
    | 44, ho, hq =>
      cases ho
      cases hq
      have h122 : a.tmps.getD 122 undef = .string A21 := hdep ⟨40, .data⟩ (by simp) rfl _ rfl
      have h125 : a.tmps.getD 125 undef = .string Un3 := hdep ⟨43, .data⟩ (by simp) rfl _ rfl
      have aX : ∀ W : World, (Op.stringOp .add A21 Un3).run Try.prog W = .ok (.string A54) W := fun W => by rw [HA54.out]; exact run_string_add_sum W _ _ (by have h1 := ZA21.out; have h2 := ZUn3.out; omega)
      unfold Oper.wp
      go_simp
      exact ⟨_, rfl, Below.refl _ _, rfl⟩
    | 45, ho, hq =>
      cases ho
      cases hq
      have h126 : a.tmps.getD 126 undef = .string A54 := hdep ⟨44, .data⟩ (by simp) rfl _ rfl
      unfold Oper.wp
      go_simp
      refine (kr_says A54 (by have h1 := ZA54.out; omega) _).mono ?_
      rintro e w' ⟨rfl, b'⟩
      exact ⟨_, rfl, b', congrArg Value.string HR55.out.symm⟩
    | 46, ho, hq =>
      cases ho
      cases hq
      unfold Oper.wp
      go_simp
      refine (ku_says 3 _ (by omega) (by omega) _).mono ?_
      rintro e w' ⟨rfl, b'⟩
      exact ⟨_, rfl, b', congrArg Value.string HU3.out.symm⟩
    | 47, ho, hq =>
      cases ho
      cases hq
      have h128 : a.tmps.getD 128 undef = .string U3 := hdep ⟨46, .data⟩ (by simp) rfl _ rfl
      have aX : ∀ W : World, (Op.stringOp .add (⟨#[80]⟩ : ByteArray) U3).run Try.prog W = .ok (.string A21) W := fun W => by rw [HA21.out]; exact run_string_add_sum W _ _ (by have h1 := (show (⟨#[80]⟩ : ByteArray).size = 1 from rfl); have h2 := ZU3.out; omega)
      unfold Oper.wp
      go_simp
      exact ⟨_, rfl, Below.refl _ _, rfl⟩
    | 48, ho, hq =>
      cases ho
      cases hq
      unfold Oper.wp
      go_simp
      exact ⟨_, rfl, Below.refl _ _, rfl⟩
    | 49, ho, hq =>
      cases ho
      cases hq
      have h130 : a.tmps.getD 130 undef = .int .i64 (n : Int) := hdep ⟨48, .data⟩ (by simp) rfl _ rfl
      unfold Oper.wp
      go_simp
      exact ⟨_, rfl, Below.refl _ _, rfl⟩
    | 50, ho, hq =>
      cases ho
      cases hq
      have h131 : a.tmps.getD 131 undef = .int .i64 ((n : Int) + 2) := hdep ⟨49, .data⟩ (by simp) rfl _ rfl
      unfold Oper.wp
      go_simp
      refine (ku_says (n + 2) _ (by omega) (by omega) _).mono ?_
      rintro e w' ⟨rfl, b'⟩
      exact ⟨_, rfl, b', congrArg Value.string HUn2.out.symm⟩
    | 51, ho, hq =>
      cases ho
      cases hq
      have h129 : a.tmps.getD 129 undef = .string A21 := hdep ⟨47, .data⟩ (by simp) rfl _ rfl
      have h132 : a.tmps.getD 132 undef = .string Un2 := hdep ⟨50, .data⟩ (by simp) rfl _ rfl
      have aX : ∀ W : World, (Op.stringOp .add A21 Un2).run Try.prog W = .ok (.string A56) W := fun W => by rw [HA56.out]; exact run_string_add_sum W _ _ (by have h1 := ZA21.out; have h2 := ZUn2.out; omega)
      unfold Oper.wp
      go_simp
      exact ⟨_, rfl, Below.refl _ _, rfl⟩
    | 52, ho, hq =>
      cases ho
      cases hq
      have h133 : a.tmps.getD 133 undef = .string A56 := hdep ⟨51, .data⟩ (by simp) rfl _ rfl
      have aX : ∀ W : World, (Op.stringOp .add A56 (⟨#[120]⟩ : ByteArray)).run Try.prog W = .ok (.string A57) W := fun W => by rw [HA57.out]; exact run_string_add_sum W _ _ (by have h1 := ZA56.out; have h2 := (show (⟨#[120]⟩ : ByteArray).size = 1 from rfl); omega)
      unfold Oper.wp
      go_simp
      exact ⟨_, rfl, Below.refl _ _, rfl⟩
    | 53, ho, hq =>
      cases ho
      cases hq
      have h134 : a.tmps.getD 134 undef = .string A57 := hdep ⟨52, .data⟩ (by simp) rfl _ rfl
      unfold Oper.wp
      go_simp
      refine (kr_says A57 (by have h1 := ZA57.out; omega) _).mono ?_
      rintro e w' ⟨rfl, b'⟩
      exact ⟨_, rfl, b', congrArg Value.string HR58.out.symm⟩
    | 54, ho, hq =>
      cases ho
      cases hq
      unfold Oper.wp
      go_simp
      refine (ku_says 1 _ (by omega) (by omega) _).mono ?_
      rintro e w' ⟨rfl, b'⟩
      exact ⟨_, rfl, b', congrArg Value.string HU1.out.symm⟩
    | 55, ho, hq =>
      cases ho
      cases hq
      have h136 : a.tmps.getD 136 undef = .string U1 := hdep ⟨54, .data⟩ (by simp) rfl _ rfl
      have aX : ∀ W : World, (Op.stringOp .add (⟨#[80]⟩ : ByteArray) U1).run Try.prog W = .ok (.string A59) W := fun W => by rw [HA59.out]; exact run_string_add_sum W _ _ (by have h1 := (show (⟨#[80]⟩ : ByteArray).size = 1 from rfl); have h2 := ZU1.out; omega)
      unfold Oper.wp
      go_simp
      exact ⟨_, rfl, Below.refl _ _, rfl⟩
    | 56, ho, hq =>
      cases ho
      cases hq
      unfold Oper.wp
      go_simp
      refine (ku_says 0 _ (by omega) (by omega) _).mono ?_
      rintro e w' ⟨rfl, b'⟩
      exact ⟨_, rfl, b', congrArg Value.string HU0.out.symm⟩
    | 57, ho, hq =>
      cases ho
      cases hq
      have h137 : a.tmps.getD 137 undef = .string A59 := hdep ⟨55, .data⟩ (by simp) rfl _ rfl
      have h138 : a.tmps.getD 138 undef = .string U0 := hdep ⟨56, .data⟩ (by simp) rfl _ rfl
      have aX : ∀ W : World, (Op.stringOp .add A59 U0).run Try.prog W = .ok (.string A60) W := fun W => by rw [HA60.out]; exact run_string_add_sum W _ _ (by have h1 := ZA59.out; have h2 := ZU0.out; omega)
      unfold Oper.wp
      go_simp
      exact ⟨_, rfl, Below.refl _ _, rfl⟩
    | 58, ho, hq =>
      cases ho
      cases hq
      have h139 : a.tmps.getD 139 undef = .string A60 := hdep ⟨57, .data⟩ (by simp) rfl _ rfl
      unfold Oper.wp
      go_simp
      refine (kr_says A60 (by have h1 := ZA60.out; omega) _).mono ?_
      rintro e w' ⟨rfl, b'⟩
      exact ⟨_, rfl, b', congrArg Value.string HR61.out.symm⟩
    | 59, ho, hq =>
      cases ho
      cases hq
      unfold Oper.wp
      go_simp
      refine (kr_says (⟨#[]⟩ : ByteArray) (by have h1 := (show (⟨#[]⟩ : ByteArray).size = 0 from rfl); omega) _).mono ?_
      rintro e w' ⟨rfl, b'⟩
      exact ⟨_, rfl, b', congrArg Value.string HR62.out.symm⟩
    | 60, ho, hq =>
      cases ho
      cases hq
      unfold Oper.wp
      go_simp
      refine (kr_says (⟨#[70]⟩ : ByteArray) (by have h1 := (show (⟨#[70]⟩ : ByteArray).size = 1 from rfl); omega) _).mono ?_
      rintro e w' ⟨rfl, b'⟩
      exact ⟨_, rfl, b', congrArg Value.string HR63.out.symm⟩
    | 61, ho, hq =>
      cases ho
      cases hq
      unfold Oper.wp
      go_simp
      exact ⟨_, rfl, (Below.refl _ _).alloc (Nat.le_refl _) _, _, rfl, hb.size, heap_alloc_new _ _⟩
    | 62, ho, hq =>
      cases ho
      cases hq
      obtain ⟨g, hg1, hg2, hg3⟩ := hdep ⟨61, .data⟩ (by simp) rfl _ rfl
      have h143 : a.tmps.getD 143 undef = .slice (some ⟨g, 0, none⟩) 2 2 := hg1
      have hcv := conv_at2 (a := 128) (b := 0) hg3
      clear hg1
      unfold Oper.wp
      go_simp
      exact ⟨_, rfl, Below.refl _ _, rfl⟩
    | 63, ho, hq =>
      cases ho
      cases hq
      have h144 : a.tmps.getD 144 undef = .string (⟨#[128, 0]⟩ : ByteArray) := hdep ⟨62, .data⟩ (by simp) rfl _ rfl
      have aX : ∀ W : World, (Op.stringOp .add (⟨#[70]⟩ : ByteArray) (⟨#[128, 0]⟩ : ByteArray)).run Try.prog W = .ok (.string A64) W := fun W => by rw [HA64.out]; exact run_string_add_sum W _ _ (by have h1 := (show (⟨#[70]⟩ : ByteArray).size = 1 from rfl); have h2 := (show (⟨#[128, 0]⟩ : ByteArray).size = 2 from rfl); omega)
      unfold Oper.wp
      go_simp
      exact ⟨_, rfl, Below.refl _ _, rfl⟩
    | 64, ho, hq =>
      cases ho
      cases hq
      have h145 : a.tmps.getD 145 undef = .string A64 := hdep ⟨63, .data⟩ (by simp) rfl _ rfl
      have aX : ∀ W : World, (Op.stringOp .add A64 (⟨#[120]⟩ : ByteArray)).run Try.prog W = .ok (.string A65) W := fun W => by rw [HA65.out]; exact run_string_add_sum W _ _ (by have h1 := ZA64.out; have h2 := (show (⟨#[120]⟩ : ByteArray).size = 1 from rfl); omega)
      unfold Oper.wp
      go_simp
      exact ⟨_, rfl, Below.refl _ _, rfl⟩
    | 65, ho, hq =>
      cases ho
      cases hq
      have h146 : a.tmps.getD 146 undef = .string A65 := hdep ⟨64, .data⟩ (by simp) rfl _ rfl
      unfold Oper.wp
      go_simp
      refine (kr_says A65 (by have h1 := ZA65.out; omega) _).mono ?_
      rintro e w' ⟨rfl, b'⟩
      exact ⟨_, rfl, b', congrArg Value.string HR66.out.symm⟩
    | 66, ho, hq =>
      cases ho
      cases hq
      unfold Oper.wp
      go_simp
      refine (ku_says 1 _ (by omega) (by omega) _).mono ?_
      rintro e w' ⟨rfl, b'⟩
      exact ⟨_, rfl, b', congrArg Value.string HU1.out.symm⟩
    | 67, ho, hq =>
      cases ho
      cases hq
      have h148 : a.tmps.getD 148 undef = .string U1 := hdep ⟨66, .data⟩ (by simp) rfl _ rfl
      have aX : ∀ W : World, (Op.stringOp .add (⟨#[70]⟩ : ByteArray) U1).run Try.prog W = .ok (.string A67) W := fun W => by rw [HA67.out]; exact run_string_add_sum W _ _ (by have h1 := (show (⟨#[70]⟩ : ByteArray).size = 1 from rfl); have h2 := ZU1.out; omega)
      unfold Oper.wp
      go_simp
      exact ⟨_, rfl, Below.refl _ _, rfl⟩
    | 68, ho, hq =>
      cases ho
      cases hq
      have h149 : a.tmps.getD 149 undef = .string A67 := hdep ⟨67, .data⟩ (by simp) rfl _ rfl
      unfold Oper.wp
      go_simp
      refine (kr_says A67 (by have h1 := ZA67.out; omega) _).mono ?_
      rintro e w' ⟨rfl, b'⟩
      exact ⟨_, rfl, b', congrArg Value.string HR68.out.symm⟩
    | 69, ho, hq =>
      cases ho
      cases hq
      have h150 : a.tmps.getD 150 undef = .string R68 := hdep ⟨68, .data⟩ (by simp) rfl _ rfl
      have s7 := SR68.out
      unfold Oper.wp
      go_simp
      exact ⟨_, rfl, Below.refl _ _, congrArg Value.string HE0.out.symm⟩
    | 70, ho, hq =>
      cases ho
      cases hq
      unfold Oper.wp
      go_simp
      exact ⟨_, rfl, (Below.refl _ _).alloc (Nat.le_refl _) _, _, rfl, hb.size, heap_alloc_new _ _⟩
    | 71, ho, hq =>
      cases ho
      cases hq
      obtain ⟨g, hg1, hg2, hg3⟩ := hdep ⟨70, .data⟩ (by simp) rfl _ rfl
      have h152 : a.tmps.getD 152 undef = .slice (some ⟨g, 0, none⟩) 2 2 := hg1
      have hcv := conv_at2 (a := 130) (b := 0) hg3
      clear hg1
      unfold Oper.wp
      go_simp
      exact ⟨_, rfl, Below.refl _ _, rfl⟩
    | 72, ho, hq =>
      cases ho
      cases hq
      unfold Oper.wp
      go_simp
      refine (ku_says 1 _ (by omega) (by omega) _).mono ?_
      rintro e w' ⟨rfl, b'⟩
      exact ⟨_, rfl, b', congrArg Value.string HU1.out.symm⟩
    | 73, ho, hq =>
      cases ho
      cases hq
      have h154 : a.tmps.getD 154 undef = .string U1 := hdep ⟨72, .data⟩ (by simp) rfl _ rfl
      have aX : ∀ W : World, (Op.stringOp .add (⟨#[70]⟩ : ByteArray) U1).run Try.prog W = .ok (.string A67) W := fun W => by rw [HA67.out]; exact run_string_add_sum W _ _ (by have h1 := (show (⟨#[70]⟩ : ByteArray).size = 1 from rfl); have h2 := ZU1.out; omega)
      unfold Oper.wp
      go_simp
      exact ⟨_, rfl, Below.refl _ _, rfl⟩
    | 74, ho, hq =>
      cases ho
      cases hq
      have h155 : a.tmps.getD 155 undef = .string A67 := hdep ⟨73, .data⟩ (by simp) rfl _ rfl
      unfold Oper.wp
      go_simp
      refine (kr_says A67 (by have h1 := ZA67.out; omega) _).mono ?_
      rintro e w' ⟨rfl, b'⟩
      exact ⟨_, rfl, b', congrArg Value.string HR68.out.symm⟩
    | 75, ho, hq =>
      cases ho
      cases hq
      have h156 : a.tmps.getD 156 undef = .string R68 := hdep ⟨74, .data⟩ (by simp) rfl _ rfl
      have s7 := SR68.out
      unfold Oper.wp
      go_simp
      exact ⟨_, rfl, Below.refl _ _, congrArg Value.string HE1.out.symm⟩
    | 76, ho, hq =>
      cases ho
      cases hq
      have h153 : a.tmps.getD 153 undef = .string (⟨#[130, 0]⟩ : ByteArray) := hdep ⟨71, .data⟩ (by simp) rfl _ rfl
      have h157 : a.tmps.getD 157 undef = .string E1 := hdep ⟨75, .data⟩ (by simp) rfl _ rfl
      have aX : ∀ W : World, (Op.stringOp .add (⟨#[130, 0]⟩ : ByteArray) E1).run Try.prog W = .ok (.string A69) W := fun W => by rw [HA69.out]; exact run_string_add_sum W _ _ (by have h1 := (show (⟨#[130, 0]⟩ : ByteArray).size = 2 from rfl); have h2 := ZE1.out; omega)
      unfold Oper.wp
      go_simp
      exact ⟨_, rfl, Below.refl _ _, rfl⟩
    | 77, ho, hq =>
      cases ho
      cases hq
      have h85 : a.tmps.getD 85 undef = .string R33 := hdep ⟨3, .data⟩ (by simp) rfl _ rfl
      have h88 : a.tmps.getD 88 undef = .string R35 := hdep ⟨6, .data⟩ (by simp) rfl _ rfl
      have h93 : a.tmps.getD 93 undef = .string R38 := hdep ⟨11, .data⟩ (by simp) rfl _ rfl
      have h102 : a.tmps.getD 102 undef = .string R43 := hdep ⟨20, .data⟩ (by simp) rfl _ rfl
      have h108 : a.tmps.getD 108 undef = .string R47 := hdep ⟨26, .data⟩ (by simp) rfl _ rfl
      have h114 : a.tmps.getD 114 undef = .string R51 := hdep ⟨32, .data⟩ (by simp) rfl _ rfl
      have h120 : a.tmps.getD 120 undef = .string R53 := hdep ⟨38, .data⟩ (by simp) rfl _ rfl
      have h127 : a.tmps.getD 127 undef = .string R55 := hdep ⟨45, .data⟩ (by simp) rfl _ rfl
      have h135 : a.tmps.getD 135 undef = .string R58 := hdep ⟨53, .data⟩ (by simp) rfl _ rfl
      have h140 : a.tmps.getD 140 undef = .string R61 := hdep ⟨58, .data⟩ (by simp) rfl _ rfl
      have h141 : a.tmps.getD 141 undef = .string R62 := hdep ⟨59, .data⟩ (by simp) rfl _ rfl
      have h142 : a.tmps.getD 142 undef = .string R63 := hdep ⟨60, .data⟩ (by simp) rfl _ rfl
      have h147 : a.tmps.getD 147 undef = .string R66 := hdep ⟨65, .data⟩ (by simp) rfl _ rfl
      have h151 : a.tmps.getD 151 undef = .string E0 := hdep ⟨69, .data⟩ (by simp) rfl _ rfl
      have h158 : a.tmps.getD 158 undef = .string A69 := hdep ⟨76, .data⟩ (by simp) rfl _ rfl
      have k85 : a.tmps[85]?.getD undef = .string R33 := by rw [← Array.getD_eq_getD_getElem?]; exact h85
      have k88 : a.tmps[88]?.getD undef = .string R35 := by rw [← Array.getD_eq_getD_getElem?]; exact h88
      have k93 : a.tmps[93]?.getD undef = .string R38 := by rw [← Array.getD_eq_getD_getElem?]; exact h93
      have k102 : a.tmps[102]?.getD undef = .string R43 := by rw [← Array.getD_eq_getD_getElem?]; exact h102
      have k108 : a.tmps[108]?.getD undef = .string R47 := by rw [← Array.getD_eq_getD_getElem?]; exact h108
      have k114 : a.tmps[114]?.getD undef = .string R51 := by rw [← Array.getD_eq_getD_getElem?]; exact h114
      have k120 : a.tmps[120]?.getD undef = .string R53 := by rw [← Array.getD_eq_getD_getElem?]; exact h120
      have k127 : a.tmps[127]?.getD undef = .string R55 := by rw [← Array.getD_eq_getD_getElem?]; exact h127
      have k135 : a.tmps[135]?.getD undef = .string R58 := by rw [← Array.getD_eq_getD_getElem?]; exact h135
      have k140 : a.tmps[140]?.getD undef = .string R61 := by rw [← Array.getD_eq_getD_getElem?]; exact h140
      have k141 : a.tmps[141]?.getD undef = .string R62 := by rw [← Array.getD_eq_getD_getElem?]; exact h141
      have k142 : a.tmps[142]?.getD undef = .string R63 := by rw [← Array.getD_eq_getD_getElem?]; exact h142
      have k147 : a.tmps[147]?.getD undef = .string R66 := by rw [← Array.getD_eq_getD_getElem?]; exact h147
      have k151 : a.tmps[151]?.getD undef = .string E0 := by rw [← Array.getD_eq_getD_getElem?]; exact h151
      have k158 : a.tmps[158]?.getD undef = .string A69 := by rw [← Array.getD_eq_getD_getElem?]; exact h158
      unfold Oper.wp
      go_simp
      exact ⟨_, rfl, (Below.refl _ _).alloc (Nat.le_refl _) _, _, rfl, hb.size, heap_alloc_new _ _⟩
    | 78, ho, hq =>
      cases ho
      cases hq
      obtain ⟨g, hg1, hg2, hg3⟩ := hdep ⟨77, .data⟩ (by simp) rfl _ rfl
      have h159 : a.tmps.getD 159 undef = .slice (some ⟨g, 0, none⟩) 16 16 := hg1
      clear hg1
      unfold Oper.wp
      go_simp
      exact ⟨_, rfl, Below.refl _ _, g, rfl, hg2, hg3⟩
    | i + 79, ho, hq =>
      exfalso
      have h : i + 79 < 79 := (List.getElem?_eq_some_iff.1 hq).1
      omega
  · intro a wx hh hb hv
    obtain ⟨G, hG1, hG2, hG3⟩ := hv 78 _ rfl
    obtain ⟨u, hu1, hu2⟩ := Held.form (n := 79) (D := fun i => if i = 78 then 12 else 82 + i) hh (fun i hi => Nat.lt_of_lt_of_le (m := 160) (by show (if i = 78 then 12 else 82 + i) < 160; split <;> omega) (Nat.le_of_ble_eq_true rfl))
    have hu78 : u 78 = .slice (some ⟨G, 0, none⟩) 16 16 := (hu2 78).trans hG1
    clear hu2 hv hh hG1
    subst hu1
    rw [show List.range 79 = [0, 1, 2, 3, 4, 5, 6, 7, 8, 9, 10, 11, 12, 13, 14, 15, 16, 17, 18, 19, 20, 21, 22, 23, 24, 25, 26, 27, 28, 29, 30, 31, 32, 33, 34, 35, 36, 37, 38, 39, 40, 41, 42, 43, 44, 45, 46, 47, 48, 49, 50, 51, 52, 53, 54, 55, 56, 57, 58, 59, 60, 61, 62, 63, 64, 65, 66, 67, 68, 69, 70, 71, 72, 73, 74, 75, 76, 77, 78] from rfl]
    simp only [putAll, Act.put, reduceIte, Nat.reduceEqDiff, Nat.reduceAdd, List.setIfInBounds_toArray, List.set_cons_zero, List.set_cons_succ, hu78]
    have hAND : A1 = tAnd Y := HA1.out
    have DLOG : Hid (A30.data.toList = ownLog X Y n) := by
      unfold Hid
      simp only [HUL.out, hAND, HA2.out, HA3.out, HA4.out, HA5.out, HA6.out, HA7.out, HA8.out, HR9.out, HA10.out, HA11.out, HA12.out, HA13.out, HR14.out, HA26.out, HA15.out, HA16.out, HR17.out, HA27.out, HA18.out, HA19.out, HR20.out, HA28.out, HA21.out, HA22.out, HR23.out, HA29.out, HA24.out, HR25.out, HA30.out, HA31.out, HA32.out, HR33.out, HA34.out, HR35.out, HA36.out, HA37.out, HR38.out, HA39.out, HA40.out, HA41.out, HA42.out, HR43.out, HA44.out, HA45.out, HA46.out, HR47.out, HA48.out, HA49.out, HA50.out, HR51.out, HA52.out, HR53.out, HA54.out, HR55.out, HA56.out, HA57.out, HR58.out, HA59.out, HA60.out, HR61.out, HR62.out, HR63.out, HA64.out, HA65.out, HR66.out, HA67.out, HR68.out, HA69.out, HU0.out, HU1.out, HU2.out, HU3.out, HU4.out, HU9.out, HUn.out, HUn1.out, HUn2.out, HUn3.out, cat_data, rB_data, uB_data, ownLog, bodyF, bodyB, bodyD, bodyP, ownOps_enc, tAbc_data]
      simp only [List.append_assoc, List.cons_append, List.nil_append, List.append_nil]
    clear hAND
    have HWR : Hid (∀ k, k < 16 → ∃ S l, wx.cell? ⟨G, k, none⟩ = some (.string S) ∧ S.size ≤ 2000 ∧ (ownBad n)[k]? = some l ∧ S.data.toList = l) := fun k hk => by
      match k, hk with
      | 0, _ => exact ⟨R33, _, (Lib.cell_of_heap hG3 0).trans rfl, by have h1 := ZR33.out; omega, rfl, by simp only [HA2.out, HA3.out, HA4.out, HA5.out, HA6.out, HA7.out, HA8.out, HR9.out, HA10.out, HA11.out, HA12.out, HA13.out, HR14.out, HA26.out, HA15.out, HA16.out, HR17.out, HA27.out, HA18.out, HA19.out, HR20.out, HA28.out, HA21.out, HA22.out, HR23.out, HA29.out, HA24.out, HR25.out, HA30.out, HA31.out, HA32.out, HR33.out, HA34.out, HR35.out, HA36.out, HA37.out, HR38.out, HA39.out, HA40.out, HA41.out, HA42.out, HR43.out, HA44.out, HA45.out, HA46.out, HR47.out, HA48.out, HA49.out, HA50.out, HR51.out, HA52.out, HR53.out, HA54.out, HR55.out, HA56.out, HA57.out, HR58.out, HA59.out, HA60.out, HR61.out, HR62.out, HR63.out, HA64.out, HA65.out, HR66.out, HA67.out, HR68.out, HA69.out, HU0.out, HU1.out, HU2.out, HU3.out, HU4.out, HU9.out, HUn.out, HUn1.out, HUn2.out, HUn3.out, cat_data, rB_data, uB_data]; try simp only [List.append_assoc, List.cons_append, List.nil_append, List.append_nil]⟩
      | 1, _ => exact ⟨R35, _, (Lib.cell_of_heap hG3 1).trans rfl, by have h1 := ZR35.out; omega, rfl, by simp only [HA2.out, HA3.out, HA4.out, HA5.out, HA6.out, HA7.out, HA8.out, HR9.out, HA10.out, HA11.out, HA12.out, HA13.out, HR14.out, HA26.out, HA15.out, HA16.out, HR17.out, HA27.out, HA18.out, HA19.out, HR20.out, HA28.out, HA21.out, HA22.out, HR23.out, HA29.out, HA24.out, HR25.out, HA30.out, HA31.out, HA32.out, HR33.out, HA34.out, HR35.out, HA36.out, HA37.out, HR38.out, HA39.out, HA40.out, HA41.out, HA42.out, HR43.out, HA44.out, HA45.out, HA46.out, HR47.out, HA48.out, HA49.out, HA50.out, HR51.out, HA52.out, HR53.out, HA54.out, HR55.out, HA56.out, HA57.out, HR58.out, HA59.out, HA60.out, HR61.out, HR62.out, HR63.out, HA64.out, HA65.out, HR66.out, HA67.out, HR68.out, HA69.out, HU0.out, HU1.out, HU2.out, HU3.out, HU4.out, HU9.out, HUn.out, HUn1.out, HUn2.out, HUn3.out, cat_data, rB_data, uB_data]; try simp only [List.append_assoc, List.cons_append, List.nil_append, List.append_nil]⟩
      | 2, _ => exact ⟨R38, _, (Lib.cell_of_heap hG3 2).trans rfl, by have h1 := ZR38.out; omega, rfl, by simp only [HA2.out, HA3.out, HA4.out, HA5.out, HA6.out, HA7.out, HA8.out, HR9.out, HA10.out, HA11.out, HA12.out, HA13.out, HR14.out, HA26.out, HA15.out, HA16.out, HR17.out, HA27.out, HA18.out, HA19.out, HR20.out, HA28.out, HA21.out, HA22.out, HR23.out, HA29.out, HA24.out, HR25.out, HA30.out, HA31.out, HA32.out, HR33.out, HA34.out, HR35.out, HA36.out, HA37.out, HR38.out, HA39.out, HA40.out, HA41.out, HA42.out, HR43.out, HA44.out, HA45.out, HA46.out, HR47.out, HA48.out, HA49.out, HA50.out, HR51.out, HA52.out, HR53.out, HA54.out, HR55.out, HA56.out, HA57.out, HR58.out, HA59.out, HA60.out, HR61.out, HR62.out, HR63.out, HA64.out, HA65.out, HR66.out, HA67.out, HR68.out, HA69.out, HU0.out, HU1.out, HU2.out, HU3.out, HU4.out, HU9.out, HUn.out, HUn1.out, HUn2.out, HUn3.out, cat_data, rB_data, uB_data]; try simp only [List.append_assoc, List.cons_append, List.nil_append, List.append_nil]⟩
      | 3, _ => exact ⟨R43, _, (Lib.cell_of_heap hG3 3).trans rfl, by have h1 := ZR43.out; omega, rfl, by simp only [HA2.out, HA3.out, HA4.out, HA5.out, HA6.out, HA7.out, HA8.out, HR9.out, HA10.out, HA11.out, HA12.out, HA13.out, HR14.out, HA26.out, HA15.out, HA16.out, HR17.out, HA27.out, HA18.out, HA19.out, HR20.out, HA28.out, HA21.out, HA22.out, HR23.out, HA29.out, HA24.out, HR25.out, HA30.out, HA31.out, HA32.out, HR33.out, HA34.out, HR35.out, HA36.out, HA37.out, HR38.out, HA39.out, HA40.out, HA41.out, HA42.out, HR43.out, HA44.out, HA45.out, HA46.out, HR47.out, HA48.out, HA49.out, HA50.out, HR51.out, HA52.out, HR53.out, HA54.out, HR55.out, HA56.out, HA57.out, HR58.out, HA59.out, HA60.out, HR61.out, HR62.out, HR63.out, HA64.out, HA65.out, HR66.out, HA67.out, HR68.out, HA69.out, HU0.out, HU1.out, HU2.out, HU3.out, HU4.out, HU9.out, HUn.out, HUn1.out, HUn2.out, HUn3.out, cat_data, rB_data, uB_data]; try simp only [List.append_assoc, List.cons_append, List.nil_append, List.append_nil]⟩
      | 4, _ => exact ⟨R47, _, (Lib.cell_of_heap hG3 4).trans rfl, by have h1 := ZR47.out; omega, rfl, by simp only [HA2.out, HA3.out, HA4.out, HA5.out, HA6.out, HA7.out, HA8.out, HR9.out, HA10.out, HA11.out, HA12.out, HA13.out, HR14.out, HA26.out, HA15.out, HA16.out, HR17.out, HA27.out, HA18.out, HA19.out, HR20.out, HA28.out, HA21.out, HA22.out, HR23.out, HA29.out, HA24.out, HR25.out, HA30.out, HA31.out, HA32.out, HR33.out, HA34.out, HR35.out, HA36.out, HA37.out, HR38.out, HA39.out, HA40.out, HA41.out, HA42.out, HR43.out, HA44.out, HA45.out, HA46.out, HR47.out, HA48.out, HA49.out, HA50.out, HR51.out, HA52.out, HR53.out, HA54.out, HR55.out, HA56.out, HA57.out, HR58.out, HA59.out, HA60.out, HR61.out, HR62.out, HR63.out, HA64.out, HA65.out, HR66.out, HA67.out, HR68.out, HA69.out, HU0.out, HU1.out, HU2.out, HU3.out, HU4.out, HU9.out, HUn.out, HUn1.out, HUn2.out, HUn3.out, cat_data, rB_data, uB_data]; try simp only [List.append_assoc, List.cons_append, List.nil_append, List.append_nil]⟩
      | 5, _ => exact ⟨R51, _, (Lib.cell_of_heap hG3 5).trans rfl, by have h1 := ZR51.out; omega, rfl, by simp only [HA2.out, HA3.out, HA4.out, HA5.out, HA6.out, HA7.out, HA8.out, HR9.out, HA10.out, HA11.out, HA12.out, HA13.out, HR14.out, HA26.out, HA15.out, HA16.out, HR17.out, HA27.out, HA18.out, HA19.out, HR20.out, HA28.out, HA21.out, HA22.out, HR23.out, HA29.out, HA24.out, HR25.out, HA30.out, HA31.out, HA32.out, HR33.out, HA34.out, HR35.out, HA36.out, HA37.out, HR38.out, HA39.out, HA40.out, HA41.out, HA42.out, HR43.out, HA44.out, HA45.out, HA46.out, HR47.out, HA48.out, HA49.out, HA50.out, HR51.out, HA52.out, HR53.out, HA54.out, HR55.out, HA56.out, HA57.out, HR58.out, HA59.out, HA60.out, HR61.out, HR62.out, HR63.out, HA64.out, HA65.out, HR66.out, HA67.out, HR68.out, HA69.out, HU0.out, HU1.out, HU2.out, HU3.out, HU4.out, HU9.out, HUn.out, HUn1.out, HUn2.out, HUn3.out, cat_data, rB_data, uB_data]; try simp only [List.append_assoc, List.cons_append, List.nil_append, List.append_nil]⟩
      | 6, _ => exact ⟨R53, _, (Lib.cell_of_heap hG3 6).trans rfl, by have h1 := ZR53.out; omega, rfl, by simp only [HA2.out, HA3.out, HA4.out, HA5.out, HA6.out, HA7.out, HA8.out, HR9.out, HA10.out, HA11.out, HA12.out, HA13.out, HR14.out, HA26.out, HA15.out, HA16.out, HR17.out, HA27.out, HA18.out, HA19.out, HR20.out, HA28.out, HA21.out, HA22.out, HR23.out, HA29.out, HA24.out, HR25.out, HA30.out, HA31.out, HA32.out, HR33.out, HA34.out, HR35.out, HA36.out, HA37.out, HR38.out, HA39.out, HA40.out, HA41.out, HA42.out, HR43.out, HA44.out, HA45.out, HA46.out, HR47.out, HA48.out, HA49.out, HA50.out, HR51.out, HA52.out, HR53.out, HA54.out, HR55.out, HA56.out, HA57.out, HR58.out, HA59.out, HA60.out, HR61.out, HR62.out, HR63.out, HA64.out, HA65.out, HR66.out, HA67.out, HR68.out, HA69.out, HU0.out, HU1.out, HU2.out, HU3.out, HU4.out, HU9.out, HUn.out, HUn1.out, HUn2.out, HUn3.out, cat_data, rB_data, uB_data]; try simp only [List.append_assoc, List.cons_append, List.nil_append, List.append_nil]⟩
      | 7, _ => exact ⟨R55, _, (Lib.cell_of_heap hG3 7).trans rfl, by have h1 := ZR55.out; omega, rfl, by simp only [HA2.out, HA3.out, HA4.out, HA5.out, HA6.out, HA7.out, HA8.out, HR9.out, HA10.out, HA11.out, HA12.out, HA13.out, HR14.out, HA26.out, HA15.out, HA16.out, HR17.out, HA27.out, HA18.out, HA19.out, HR20.out, HA28.out, HA21.out, HA22.out, HR23.out, HA29.out, HA24.out, HR25.out, HA30.out, HA31.out, HA32.out, HR33.out, HA34.out, HR35.out, HA36.out, HA37.out, HR38.out, HA39.out, HA40.out, HA41.out, HA42.out, HR43.out, HA44.out, HA45.out, HA46.out, HR47.out, HA48.out, HA49.out, HA50.out, HR51.out, HA52.out, HR53.out, HA54.out, HR55.out, HA56.out, HA57.out, HR58.out, HA59.out, HA60.out, HR61.out, HR62.out, HR63.out, HA64.out, HA65.out, HR66.out, HA67.out, HR68.out, HA69.out, HU0.out, HU1.out, HU2.out, HU3.out, HU4.out, HU9.out, HUn.out, HUn1.out, HUn2.out, HUn3.out, cat_data, rB_data, uB_data]; try simp only [List.append_assoc, List.cons_append, List.nil_append, List.append_nil]⟩
      | 8, _ => exact ⟨R58, _, (Lib.cell_of_heap hG3 8).trans rfl, by have h1 := ZR58.out; omega, rfl, by simp only [HA2.out, HA3.out, HA4.out, HA5.out, HA6.out, HA7.out, HA8.out, HR9.out, HA10.out, HA11.out, HA12.out, HA13.out, HR14.out, HA26.out, HA15.out, HA16.out, HR17.out, HA27.out, HA18.out, HA19.out, HR20.out, HA28.out, HA21.out, HA22.out, HR23.out, HA29.out, HA24.out, HR25.out, HA30.out, HA31.out, HA32.out, HR33.out, HA34.out, HR35.out, HA36.out, HA37.out, HR38.out, HA39.out, HA40.out, HA41.out, HA42.out, HR43.out, HA44.out, HA45.out, HA46.out, HR47.out, HA48.out, HA49.out, HA50.out, HR51.out, HA52.out, HR53.out, HA54.out, HR55.out, HA56.out, HA57.out, HR58.out, HA59.out, HA60.out, HR61.out, HR62.out, HR63.out, HA64.out, HA65.out, HR66.out, HA67.out, HR68.out, HA69.out, HU0.out, HU1.out, HU2.out, HU3.out, HU4.out, HU9.out, HUn.out, HUn1.out, HUn2.out, HUn3.out, cat_data, rB_data, uB_data]; try simp only [List.append_assoc, List.cons_append, List.nil_append, List.append_nil]⟩
      | 9, _ => exact ⟨R61, _, (Lib.cell_of_heap hG3 9).trans rfl, by have h1 := ZR61.out; omega, rfl, by simp only [HA2.out, HA3.out, HA4.out, HA5.out, HA6.out, HA7.out, HA8.out, HR9.out, HA10.out, HA11.out, HA12.out, HA13.out, HR14.out, HA26.out, HA15.out, HA16.out, HR17.out, HA27.out, HA18.out, HA19.out, HR20.out, HA28.out, HA21.out, HA22.out, HR23.out, HA29.out, HA24.out, HR25.out, HA30.out, HA31.out, HA32.out, HR33.out, HA34.out, HR35.out, HA36.out, HA37.out, HR38.out, HA39.out, HA40.out, HA41.out, HA42.out, HR43.out, HA44.out, HA45.out, HA46.out, HR47.out, HA48.out, HA49.out, HA50.out, HR51.out, HA52.out, HR53.out, HA54.out, HR55.out, HA56.out, HA57.out, HR58.out, HA59.out, HA60.out, HR61.out, HR62.out, HR63.out, HA64.out, HA65.out, HR66.out, HA67.out, HR68.out, HA69.out, HU0.out, HU1.out, HU2.out, HU3.out, HU4.out, HU9.out, HUn.out, HUn1.out, HUn2.out, HUn3.out, cat_data, rB_data, uB_data]; try simp only [List.append_assoc, List.cons_append, List.nil_append, List.append_nil]⟩
      | 10, _ => exact ⟨R62, _, (Lib.cell_of_heap hG3 10).trans rfl, by have h1 := ZR62.out; omega, rfl, by simp only [HA2.out, HA3.out, HA4.out, HA5.out, HA6.out, HA7.out, HA8.out, HR9.out, HA10.out, HA11.out, HA12.out, HA13.out, HR14.out, HA26.out, HA15.out, HA16.out, HR17.out, HA27.out, HA18.out, HA19.out, HR20.out, HA28.out, HA21.out, HA22.out, HR23.out, HA29.out, HA24.out, HR25.out, HA30.out, HA31.out, HA32.out, HR33.out, HA34.out, HR35.out, HA36.out, HA37.out, HR38.out, HA39.out, HA40.out, HA41.out, HA42.out, HR43.out, HA44.out, HA45.out, HA46.out, HR47.out, HA48.out, HA49.out, HA50.out, HR51.out, HA52.out, HR53.out, HA54.out, HR55.out, HA56.out, HA57.out, HR58.out, HA59.out, HA60.out, HR61.out, HR62.out, HR63.out, HA64.out, HA65.out, HR66.out, HA67.out, HR68.out, HA69.out, HU0.out, HU1.out, HU2.out, HU3.out, HU4.out, HU9.out, HUn.out, HUn1.out, HUn2.out, HUn3.out, cat_data, rB_data, uB_data]; try simp only [List.append_assoc, List.cons_append, List.nil_append, List.append_nil]⟩
      | 11, _ => exact ⟨R63, _, (Lib.cell_of_heap hG3 11).trans rfl, by have h1 := ZR63.out; omega, rfl, by simp only [HA2.out, HA3.out, HA4.out, HA5.out, HA6.out, HA7.out, HA8.out, HR9.out, HA10.out, HA11.out, HA12.out, HA13.out, HR14.out, HA26.out, HA15.out, HA16.out, HR17.out, HA27.out, HA18.out, HA19.out, HR20.out, HA28.out, HA21.out, HA22.out, HR23.out, HA29.out, HA24.out, HR25.out, HA30.out, HA31.out, HA32.out, HR33.out, HA34.out, HR35.out, HA36.out, HA37.out, HR38.out, HA39.out, HA40.out, HA41.out, HA42.out, HR43.out, HA44.out, HA45.out, HA46.out, HR47.out, HA48.out, HA49.out, HA50.out, HR51.out, HA52.out, HR53.out, HA54.out, HR55.out, HA56.out, HA57.out, HR58.out, HA59.out, HA60.out, HR61.out, HR62.out, HR63.out, HA64.out, HA65.out, HR66.out, HA67.out, HR68.out, HA69.out, HU0.out, HU1.out, HU2.out, HU3.out, HU4.out, HU9.out, HUn.out, HUn1.out, HUn2.out, HUn3.out, cat_data, rB_data, uB_data]; try simp only [List.append_assoc, List.cons_append, List.nil_append, List.append_nil]⟩
      | 12, _ => exact ⟨R66, _, (Lib.cell_of_heap hG3 12).trans rfl, by have h1 := ZR66.out; omega, rfl, by simp only [HA2.out, HA3.out, HA4.out, HA5.out, HA6.out, HA7.out, HA8.out, HR9.out, HA10.out, HA11.out, HA12.out, HA13.out, HR14.out, HA26.out, HA15.out, HA16.out, HR17.out, HA27.out, HA18.out, HA19.out, HR20.out, HA28.out, HA21.out, HA22.out, HR23.out, HA29.out, HA24.out, HR25.out, HA30.out, HA31.out, HA32.out, HR33.out, HA34.out, HR35.out, HA36.out, HA37.out, HR38.out, HA39.out, HA40.out, HA41.out, HA42.out, HR43.out, HA44.out, HA45.out, HA46.out, HR47.out, HA48.out, HA49.out, HA50.out, HR51.out, HA52.out, HR53.out, HA54.out, HR55.out, HA56.out, HA57.out, HR58.out, HA59.out, HA60.out, HR61.out, HR62.out, HR63.out, HA64.out, HA65.out, HR66.out, HA67.out, HR68.out, HA69.out, HU0.out, HU1.out, HU2.out, HU3.out, HU4.out, HU9.out, HUn.out, HUn1.out, HUn2.out, HUn3.out, cat_data, rB_data, uB_data]; try simp only [List.append_assoc, List.cons_append, List.nil_append, List.append_nil]⟩
      | 13, _ => exact ⟨(⟨#[120]⟩ : ByteArray), _, (Lib.cell_of_heap hG3 13).trans rfl, by have h1 := (show (⟨#[120]⟩ : ByteArray).size = 1 from rfl); omega, rfl, by rfl⟩
      | 14, _ => exact ⟨E0, _, (Lib.cell_of_heap hG3 14).trans rfl, by have h1 := ZE0.out; omega, rfl, by rw [HE0.out, mid_data, HR68.out, rB_data, HA67.out, cat_data, HU1.out, uB_data]; rfl⟩
      | 15, _ => exact ⟨A69, _, (Lib.cell_of_heap hG3 15).trans rfl, by have h1 := ZA69.out; omega, rfl, by rw [HA69.out, cat_data, HE1.out, mid_data, HR68.out, rB_data, HA67.out, cat_data, HU1.out, uB_data]; rfl⟩
      | k + 16, hk => omega
    have HZL : Hid (A30.size ≤ 2200) := by unfold Hid; have := ZA30.out; omega
    have B0 : Hid (Below w.heap.size w wx) := B18.out.trans (hb.mono B18.out.size)
    clear hb B18 hG3 hu78
    clear HA2 ZA2 HA3 ZA3 HA1 ZA1 HA4 ZA4 HA5 ZA5 HA6 ZA6 HA7 ZA7 HA8 ZA8 HR9 ZR9 HA10 ZA10 HA11 ZA11 HA12 ZA12 HA13 ZA13 HR14 ZR14 HA26 ZA26 HA15 ZA15 HA16 ZA16 HR17 ZR17 HA27 ZA27 HA18 ZA18 HA19 ZA19 HR20 ZR20 HA28 ZA28 HA21 ZA21 HA22 ZA22 HR23 ZR23 HA29 ZA29 HA24 ZA24 HR25 ZR25 HA31 ZA31 HA32 ZA32 HR33 ZR33 HA34 ZA34 HR35 ZR35 HA36 ZA36 HA37 ZA37 HR38 ZR38 HA39 ZA39 HA40 ZA40 HA41 ZA41 HA42 ZA42 HR43 ZR43 HA44 ZA44 HA45 ZA45 HA46 ZA46 HR47 ZR47 HA48 ZA48 HA49 ZA49 HA50 ZA50 HR51 ZR51 HA52 ZA52 HR53 ZR53 HA54 ZA54 HR55 ZR55 HA56 ZA56 HA57 ZA57 HR58 ZR58 HA59 ZA59 HA60 ZA60 HR61 ZR61 HR62 ZR62 HR63 ZR63 HA64 ZA64 HA65 ZA65 HR66 ZR66 HA67 ZA67 HR68 ZR68 HA69 ZA69 HUL ZUL HU0 ZU0 HU1 ZU1 HU2 ZU2 HU3 ZU3 HU4 ZU4 HU9 ZU9 HUn ZUn HUn1 ZUn1 HUn2 ZUn2 HUn3 ZUn3 HA30 ZA30
    obtain ⟨S, l, hS1, hS2, hS3, hS4⟩ := HWR.out pb hp2
    obtain ⟨LS, hLS⟩ : ∃ LS, LS = A30 ++ S := ⟨_, rfl⟩
    have hadd : ∀ W : World, (Op.stringOp .add A30 S).run Try.prog W = .ok (.string LS) W := fun W => by rw [hLS]; exact run_string_add_sum W _ _ (by have := HZL.out; omega)
    have hLSs : LS.size ≤ 10000 := by rw [hLS, ByteArray.size_append]; have := HZL.out; omega
    have hLSd : LS.data.toList = ownLog X Y n ++ l := by rw [hLS, cat_data, DLOG.out, hS4]
    have HOF : Hid (openF LS = (ownCh X Y n, (ownLog X Y n).length)) := own_opens hX hY hn0 hn9 hS3 hLSd
    have HLZ : Hid (A30.size = (ownLog X Y n).length) := by unfold Hid; rw [Lib.size_eq, DLOG.out]
    have HOP : Hid (∀ W : World, Calls Try.prog 9 #[.string LS] W fun e w' => ∃ (lv3 : Value) (tv3 : Nat → Value), e = .returned (.tuple #[.pointer (some ⟨W.heap.size, 0, none⟩), .int .i64 0, .int .i64 A30.size]) ∧ Hid (VaultAt w' W.heap.size lv3 tv3 ⟨ownLog X Y n, ownCh X Y n⟩) ∧ Hid (ChOk (ownCh X Y n)) ∧ Hid (∀ q, foot W.heap.size lv3 tv3 q → W.heap.size ≤ q) ∧ Hid (Below W.heap.size W w')) := fun W => by
      refine (copen_any LS W (by omega)).mono ?_
      rintro e w3 ⟨hcase, b3⟩
      rcases hcase with ⟨hbad, _⟩ | ⟨_, n', ch', lv3, tv3, hO, hn', hok', rfl, hv3, hf3⟩
      · omega
      · have ho := HOF.out.symm.trans hO
        simp only [Prod.mk.injEq] at ho
        obtain ⟨e1, e2⟩ := ho
        subst e1
        subst e2
        rw [hLSd, List.take_left] at hv3
        refine ⟨lv3, tv3, by rw [HLZ.out], hv3, hok', hf3, b3⟩
    have HLQ : Hid ((⟨(ownLog X Y n).toArray⟩ : ByteArray) = A30) := bytes_ext (by rw [DLOG.out])
    have hpI : (pb : Int) < 16 := by omega
    clear hLS hLSd hS3 hS4 HWR HOF
    go_wp2_with fail
    refine (HP2.out _).mono ?_
    rintro e wy ⟨rfl, rfl⟩
    go_wp2_with fail
    refine (HOP.out _).mono ?_
    rintro e w1 ⟨lv, tv, rfl, HV1, HCO, HFT0, HB1⟩
    have HFT : Hid (∀ q, foot wx.heap.size lv tv q → w.heap.size ≤ q) := fun q hq => Nat.le_trans B0.out.size (HFT0.out q hq)
    clear HFT0
    have B1 : Hid (Below w.heap.size w w1) := B0.out.trans (HB1.out.mono B0.out.size)
    generalize wx.heap.size = p at *
    have HLG : Hid (∀ W, Below w1.heap.size w1 W → Calls Try.prog 10 #[.pointer (some ⟨p, 0, none⟩)] W fun e w' => e = .returned (.string A30) ∧ W = w') := fun W hW => by
      have := clog_any p lv tv _ W (HV1.out.below hW)
      rw [HLQ.out] at this; exact this
    have HOK : Hid (Vlt.Ok ⟨ownLog X Y n, ownCh X Y n⟩) := HCO.out.ok (by rw [← HLZ.out]; have := HZL.out; omega)
    have HKV : Hid (∀ (W : World) (c z : Nat) (ci zi : Int) (v : Value) (ts : List ByteArray), ci = (c : Int) → zi = (z : Int) → Below w1.heap.size w1 W → c < 4 → (ownCh X Y n c).texts = ts → (ts ≠ [] → z = (ownCh X Y n c).gone + 1) → SView W v ts → (∀ g, v.ownBlock = some g → g < W.heap.size) → Calls Try.prog 11 #[.pointer (some ⟨p, 0, none⟩), .int .i64 ci, .int .i64 zi, v] W fun e w' => e = .returned (.bool true) ∧ Below W.heap.size W w') := fun W c z ci zi v ts hci hzi hW hc ht hz hs hg => by
      subst ht
      subst hci
      subst hzi
      exact kversions_any p c z lv v tv _ W (HV1.out.below hW) HOK.out hc hz hs hg
    clear HB1 HOP HLQ DLOG hadd hS1 hS2 hLSs hpI HCO
    go_wp2_with fail
    refine (HLG.out _ (Below.refl _ _)).mono ?_
    rintro e wy ⟨rfl, rfl⟩
    go_wp2_with fail
    have X1 : Hid (Below w1.heap.size w1 (w1.alloc (.cells #[.string X, .string ⟨#[]⟩] 9))) := (Below.refl _ _).alloc (Nat.le_refl _) _
    refine (HKV.out _ 0 1 0 1 _ [X, ⟨#[]⟩] rfl rfl X1.out (by omega) rfl (fun _ => rfl) (sview_two (heap_alloc_new _ _)) ?_).mono ?_
    · intro g hg; simp [Value.ownBlock] at hg; subst hg; simp
    rintro e w2 ⟨rfl, b2⟩
    have X2 : Hid (Below w1.heap.size w1 w2) := X1.out.trans (b2.mono X1.out.size)
    clear b2 X1
    have hadd2 : ∀ W : World, (Op.stringOp .add ⟨#[98, 99, 100, 101, 97, 110, 100, 32]⟩ Y).run Try.prog W = .ok (.string (tMade Y)) W := fun W => run_string_add_sum W _ _ (by have : (⟨#[98, 99, 100, 101, 97, 110, 100, 32]⟩ : ByteArray).size = 8 := rfl; omega)
    go_wp2_with fail
    have X3 : Hid (Below w1.heap.size w1 (w2.alloc (.cells #[.string (tMade Y), .string Y] 9))) := X2.out.alloc X2.out.size _
    refine (HKV.out _ 3 (n + 1) 3 ((n : Int) + 1) _ [tMade Y, Y] rfl (by omega) X3.out (by omega) rfl (fun _ => rfl) (sview_two (heap_alloc_new _ _)) ?_).mono ?_
    · intro g hg; simp [Value.ownBlock] at hg; subst hg; simp
    rintro e w3 ⟨rfl, b3⟩
    have X4 : Hid (Below w1.heap.size w1 w3) := X3.out.trans (b3.mono X3.out.size)
    clear b3 X3 X2 hadd2
    go_wp2_with fail
    refine (HKV.out _ 1 0 1 0 (.slice none 0 0) [] rfl rfl X4.out (by omega) rfl (fun h => absurd rfl h) ⟨none, 0, rfl, by simp, fun i t ht => by simp at ht⟩ (fun g hg => by cases hg)).mono ?_
    rintro e w4 ⟨rfl, b4⟩
    have X5 : Hid (Below w1.heap.size w1 w4) := X4.out.trans (b4.mono X4.out.size)
    have HBK : Hid (Calls Try.prog 12 #[.pointer (some ⟨p, 0, none⟩), .int .i64 3, .string X] w4 fun e w' => e = .returned (.tuple #[.int .i64 ((n : Int) + 3), .int .i64 0]) ∧ Hid (Moves p lv tv (putS ⟨ownLog X Y n, ownCh X Y n⟩ 3 X) w4 w')) := by
      have := cbackup_any p 3 lv tv _ X w4 (HV1.out.below X5.out) HOK.out (by omega)
      obtain ⟨q1, q2⟩ := own_put (x := X) (y := Y) (n := n) (l := ownLog X Y n) hX hn9 (by rw [← HLZ.out]; have := HZL.out; omega)
      rw [q1, q2] at this
      exact this
    clear b4 X4 HKV HLG
    go_wp2_with fail
    refine HBK.out.mono ?_
    rintro e w5 ⟨rfl, HM⟩
    obtain ⟨lv5, tv5, hv5, ho5, hf5⟩ := HM.out
    have R : Hid (Below w.heap.size w w5) := by
      have B4 := B1.out.trans (X5.out.mono B1.out.size)
      refine ⟨ho5.os.trans B4.os, ho5.tape.trans B4.tape, ho5.output.trans B4.output, Nat.le_trans B4.size ho5.size, fun q hq => (ho5.block q (Nat.lt_of_lt_of_le hq B4.size) ?_).trans (B4.block q hq)⟩
      intro hf
      have := HFT.out q hf
      omega
    clear hv5 ho5 hf5 HM HBK
    go_wp2
    go_ret
    exact ⟨rfl, R.out⟩
end Go.Proofs.Ytabpiaaknjcnkab
