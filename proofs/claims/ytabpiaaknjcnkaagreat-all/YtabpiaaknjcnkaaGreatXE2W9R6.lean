/- The texts E2, W9, R6, one behind the other. -/
import Derived.Test.YtabpiaaknjcnkaaGreatXC3E1
import Derived.Test.YtabpiaaknjcnkaaGreatXP1W1W3W4
import Derived.LoopTactic
/-
  The walks over the program's Encode.
-/
namespace Go.Proofs.YtabpiaaknjcnkaaGreat
open Go.RowKit
set_option linter.unusedVariables false
set_option linter.unusedSimpArgs false
set_option maxRecDepth 100000

theorem encOp_length {o : DOp} (hn : Nice o) (hf : o.fr ≤ 2000) (hl : o.len ≤ 2000) (ht : o.tx.size ≤ 2000) : ((encOp o).length : Int) ≤ 6 + sizeI o.len o.tx := by
  unfold encOp sizeI
  have h0 : 0 ≤ o.fr := by rcases hn with ⟨_, h, _⟩ | ⟨_, h, _⟩ <;> omega
  split
  · have h1 := uN_length (n := (2 * o.len + 1).toNat) (by omega)
    have h2 := uN_length (n := o.fr.toNat) (by omega)
    rw [List.length_append]; omega
  · have h1 := uN_length (n := 2 * o.tx.size) (by omega)
    rw [List.length_append, ← Lib.size_eq]; omega
theorem encs_length {xs : List DOp} (h : ∀ o ∈ xs, Nice o ∧ o.fr ≤ 2000 ∧ o.len ≤ 2000 ∧ o.tx.size ≤ 2000) : ((xs.flatMap encOp).length : Int) ≤ 6 * xs.length + sumI xs := by
  induction xs with
  | nil => simp [sumI]
  | cons o r ih =>
    obtain ⟨h1, h2, h3, h4⟩ := h o (by simp)
    have := encOp_length h1 h2 h3 h4
    have := ih (fun q hq => h q (by simp [hq]))
    simp only [List.flatMap_cons, List.length_append, List.length_cons, sumI]; omega
/-- So much of a code. -/
def encTo (xs : List DOp) (k : Nat) : List UInt8 := uN xs.length ++ (xs.take k).flatMap encOp
theorem encTo_succ {xs : List DOp} {k : Nat} {o : DOp} (h : xs[k]? = some o) : encTo xs (k + 1) = encTo xs k ++ encOp o := by
  unfold encTo; rw [List.take_add_one, h]; simp
theorem encTo_length {xs : List DOp} (hD : Delta xs 2000) (k : Nat) : (encTo xs k).length ≤ 4000 := by
  have hp := hD.parts (by omega)
  have h1 := encs_length (xs := xs.take k) (fun o ho => hp o (List.mem_of_mem_take ho))
  have h2 := sumI_take_le xs k
  have h3 := hD.sum
  have h4 := hD.len
  have h5 := uN_length (n := xs.length) (by omega)
  have h6 : (xs.take k).length ≤ xs.length := by simp; omega
  unfold encTo; rw [List.length_append]; omega

def encS (xs : List DOp) : ByteArray := if faultF xs 2000 < xs.length then ⟨#[]⟩ else ⟨(encL xs).toArray⟩
def encE (xs : List DOp) : Int := if faultF xs 2000 < xs.length then 2 else 0
def encP (xs : List DOp) : Int := if faultF xs 2000 < xs.length then faultF xs 2000 else 0

theorem conv_own {w : World} {base : Nat} {v : Value} {bs : List UInt8} (h : OwnBytes w base v bs) (hb : 0 < bs.length) : (convert 48 9 v).run Tryz.prog w = .ok (.string ⟨bs.toArray⟩) w := by
  rcases h.2 with ⟨_, h0⟩ | ⟨g, cap, cur, rfl, _, hbk, h1, h2, h3, h4⟩
  · omega
  · refine run_convert_bytes_back (P := Tryz.prog) w 48 9 5 ⟨g, 0, none⟩ cap bs Tryz.underlying48 Tryz.underlying5 Tryz.underlying9 (fun j hj => ?_)
    rw [show (⟨g, 0, none⟩ : Addr).add j = ⟨g, j, none⟩ from by unfold Addr.add; split <;> simp_all, Lib.cell_of_heap hbk]
    have hget : (cur.toList.take (bs.length * 1))[j]? = (bs.map byteV)[j]? := by rw [h4]
    rw [List.getElem?_take_of_lt (by omega), List.getElem?_map, List.getElem?_eq_getElem hj, Array.getElem?_toList] at hget
    exact hget

set_option maxHeartbeats 1000000 in
theorem enc_fault {v : Value} {xs : List DOp} {w : World} (hv : View w v xs) (hi : Ints xs) (hf : faultF xs 2000 < xs.length) :
    Calls Tryz.prog 101 #[v] w fun e w' => e = .returned (.tuple #[.string ⟨#[]⟩, .int .i64 2, .int .i64 (faultF xs 2000)]) ∧ Below w.heap.size w w' := by
  obtain ⟨ao, c1, hv1⟩ := hv.slice
  rw [hv1] at hv ⊢
  have HV : Hid (View w (.slice ao xs.length c1) xs) := hv
  clear hv hv1
  go_enter Tryz.func101, Tryz.ntmps101
  go_wp2_with fail
  refine (fault_view HV.out hi 2000 (by omega) (by omega)).mono ?_
  rintro e w1 ⟨rfl, hb⟩
  generalize hff : faultF xs 2000 = q at *
  have HQ : Hid (faultF xs 2000 = q) := hff
  clear hff HV
  go_wp2
  go_ret3
  exact ⟨ret_three rfl (by rw [HQ.out]), hb⟩

/-- The code of a delta behind some bytes. -/
def codeTo (bs : List UInt8) (xs : List DOp) (k : Nat) : List UInt8 := bs ++ encTo xs k
theorem codeTo_succ {bs : List UInt8} {xs : List DOp} {k : Nat} {o : DOp} (h : xs[k]? = some o) : codeTo bs xs (k + 1) = codeTo bs xs k ++ encOp o := by
  unfold codeTo; rw [encTo_succ h, List.append_assoc]
theorem codeTo_length {bs : List UInt8} {xs : List DOp} (hl : bs.length ≤ 1000) (hD : Delta xs 2000) (k : Nat) : (codeTo bs xs k).length ≤ 5000 := by
  have := encTo_length hD k
  unfold codeTo; rw [List.length_append]; omega
theorem encL_pos (xs : List DOp) : 0 < (encL xs).length := by
  unfold encL
  by_cases h : xs.length < 128
  · rw [uN_lt h]; simp
  · rw [uN_ge h]; simp

set_option maxHeartbeats 4000000 in
theorem addcode_any {v bv : Value} {bs : List UInt8} {xs : List DOp} {base : Nat} {w0 w : World} (hv : View w0 v xs) (hw0 : Below w0.heap.size w0 w) (h0b : w0.heap.size ≤ base) (hD : Delta xs 2000) (hown : OwnBytes w base bv bs) (hbase : base ≤ w.heap.size) (hl : bs.length ≤ 1000) :
    Calls Tryz.prog 126 #[bv, v] w fun e w' => ∃ v', e = .returned v' ∧ OwnBytes w' base v' (bs ++ encL xs) ∧ Below base w w' ∧ Spares w w' := by
  obtain ⟨ao, c1, hv1⟩ := hv.slice
  rw [hv1] at hv ⊢
  have HV : Hid (View w0 (.slice ao xs.length c1) xs) := hv
  have HD : Hid (Delta xs 2000) := hD
  have HO0 : Hid (OwnBytes w base bv bs) := hown
  have HB0 : Hid (Below w0.heap.size w0 w) := hw0
  have hx := HD.out.len
  clear hv hv1 hD hown hw0
  go_enter Tryz.func126, Tryz.ntmps126
  go_wp2_with fail
  refine (addnum_any bv bs xs.length base _ HO0.out hbase (by omega) (by omega)).mono ?_
  rintro e w2 ⟨v2, rfl, ho2, hb2, hs2⟩
  have HO2 : Hid (OwnBytes w2 base v2 (codeTo bs xs 0)) := by
    show OwnBytes w2 base v2 (codeTo bs xs 0)
    simpa [codeTo, encTo] using ho2
  have HS2 : Hid (Spares w w2) := hs2
  clear ho2 hs2
  go_wp2
  go_loopw [0, 13] (fun v' c wr => ∃ k : Nat, k ≤ xs.length ∧ c = .int .i64 k ∧ Hid (OwnBytes wr base v' (codeTo bs xs k)) ∧ Below base w wr ∧ Hid (Spares w wr)) (fun _ c _ => xs.length + 1 - (intOf c).toNat)
  case atStart => exact ⟨0, by omega, rfl, HO2, hb2, HS2⟩
  case round =>
    obtain ⟨k, hk, rfl, HO, hb, HS⟩ := hrel
    have hsz := hb.size
    have hlen := codeTo_length hl HD.out k
    by_cases hlt : k < xs.length
    · obtain ⟨⟨f, l, t⟩, ho⟩ : ∃ o, xs[k]? = some o := ⟨xs[k], by simp [hlt]⟩
      obtain ⟨b, off, hbo, hbw, hr⟩ : ∃ b off, ao = some ⟨b, off, none⟩ ∧ b < w0.heap.size ∧ ReadsAt w0 b off xs := by
        rcases HV.out with ⟨h, _⟩ | ⟨b, off, cap, hv, hlt', hr⟩
        · rw [h] at hlt; simp at hlt
        · injection hv with h1 h2 h3; exact ⟨b, off, h1, hlt', hr⟩
      subst hbo
      obtain ⟨r0, r1, r2⟩ := hr k _ ho
      have hb0 : Below w0.heap.size w0 wr := HB0.out.trans (hb.mono h0b)
      have c0 : wr.cell? ⟨b, off + k * 3, none⟩ = some (.int .i64 f) := (hb0.cell (p := ⟨b, _, none⟩) hbw).trans r0
      have c1' : wr.cell? ⟨b, off + k * 3 + 1, none⟩ = some (.int .i64 l) := (hb0.cell (p := ⟨b, _, none⟩) hbw).trans r1
      have c2' : wr.cell? ⟨b, off + k * 3 + 2, none⟩ = some (.string t) := (hb0.cell (p := ⟨b, _, none⟩) hbw).trans r2
      have HN1 : Hid (codeTo bs xs (k + 1) = codeTo bs xs k ++ encOp ⟨f, l, t⟩) := codeTo_succ ho
      obtain ⟨hn, g1, g2, g3⟩ := HD.out.parts (by omega) _ (List.mem_of_getElem? ho)
      have HN : Hid (Nice ⟨f, l, t⟩) := hn
      simp only at g1 g2 g3
      clear r0 r1 r2 hr ho hn hb0
      have HO1 : Hid (OwnBytes (wr.alloc (.cells #[.int .i64 f, .int .i64 l, .string t] 63)) base _ (codeTo bs xs k)) := HO.out.alloc _
      have HSA : Hid (Spares w (wr.alloc (.cells #[.int .i64 f, .int .i64 l, .string t] 63))) := HS.out.trans (Spares.of_below ((Below.refl _ _).alloc (Nat.le_refl _) _))
      go_wp2_with fail
      refine (addop_any _ (codeTo bs xs k) f l t base _ HO1.out (by simp; omega) (by omega) HN.out g1 g2 g3).mono ?_
      rintro e w3 ⟨v3, rfl, ho3, hb3, hs3⟩
      have HO3 : Hid (OwnBytes w3 base v3 (codeTo bs xs (k + 1))) := by
        show OwnBytes w3 base v3 (codeTo bs xs (k + 1))
        rw [HN1.out]; exact ho3
      have R3 : Below base w w3 := (hb.alloc (by omega) _).trans hb3
      have HS3 : Hid (Spares w w3) := HSA.out.trans hs3
      clear ho3 hb3 hs3 HO1 HO c0 c1' c2' HSA
      go_wp2
      go_roundw
      case rel => exact ⟨k + 1, by omega, by go_num, HO3, R3, HS3⟩
      case measure => simp [intOf]; omega
    · obtain rfl : k = xs.length := by omega
      have e : codeTo bs xs xs.length = bs ++ encL xs := by unfold codeTo encTo encL; rw [List.take_length]
      rw [e] at HO
      clear e hlen
      go_wp2
      go_ret
      exact ⟨_, rfl, HO.out, hb, HS.out⟩

set_option maxHeartbeats 4000000 in
theorem enc_ok {v : Value} {xs : List DOp} {w : World} (hv : View w v xs) (hi : Ints xs) (hf : ¬ faultF xs 2000 < xs.length) :
    Calls Tryz.prog 101 #[v] w fun e w' => e = .returned (.tuple #[.string ⟨(encL xs).toArray⟩, .int .i64 0, .int .i64 0]) ∧ Below w.heap.size w w' := by
  obtain ⟨ao, c1, hv1⟩ := hv.slice
  rw [hv1] at hv ⊢
  have HV : Hid (View w (.slice ao xs.length c1) xs) := hv
  have HQ1 : Hid (faultF xs 2000 = xs.length) := by show _ = _; have := faultF_le xs 2000; omega
  have HD : Hid (Delta xs 2000) := delta_of HQ1.out
  clear hv hv1 hf
  go_enter Tryz.func101, Tryz.ntmps101
  go_wp2_with fail
  refine (fault_view HV.out hi 2000 (by omega) (by omega)).mono ?_
  rintro e w1 ⟨rfl, hb⟩
  rw [HQ1.out]
  go_wp2_with fail
  refine (addcode_any (base := w.heap.size) (bs := []) HV.out hb (Nat.le_refl _) HD.out (World.ownsRow_nil _ _ _ _) hb.size (by simp)).mono ?_
  rintro e w2 ⟨v2, rfl, ho2, hb2, _⟩
  have HO2 : Hid (OwnBytes w2 w.heap.size v2 (encL xs)) := by
    show OwnBytes w2 w.heap.size v2 (encL xs)
    simpa using ho2
  have B2 : Below w.heap.size w w2 := hb.trans hb2
  have hcv := conv_own HO2.out (encL_pos xs)
  obtain ⟨oo, oc, hvo⟩ := HO2.out.slice
  subst hvo
  clear ho2 hb2 hb HO2
  go_wp2
  go_ret3
  exact ⟨rfl, B2⟩

theorem enc_any {v : Value} {xs : List DOp} {w : World} (hv : View w v xs) (hi : Ints xs) :
    Calls Tryz.prog 101 #[v] w fun e w' => e = .returned (.tuple #[.string (encS xs), .int .i64 (encE xs), .int .i64 (encP xs)]) ∧ Below w.heap.size w w' := by
  unfold encS encE encP
  by_cases hf : faultF xs 2000 < xs.length
  · rw [if_pos hf, if_pos hf, if_pos hf]; exact enc_fault hv hi hf
  · rw [if_neg hf, if_neg hf, if_neg hf]; exact enc_ok hv hi hf

set_option maxHeartbeats 1000000 in
theorem cenc_any {v : Value} {xs : List DOp} {w : World} (hv : View w v xs) (hi : Ints xs) :
    Calls Tryz.prog 66 #[v] w fun e w' => e = .returned (.tuple #[.string (encS xs), .int .i64 (encE xs), .int .i64 (encP xs)]) ∧ Below w.heap.size w w' := by
  have HC : Hid (Calls Tryz.prog 101 #[v] w fun e w' => e = .returned (.tuple #[.string (encS xs), .int .i64 (encE xs), .int .i64 (encP xs)]) ∧ Below w.heap.size w w') := enc_any hv hi
  clear hv
  go_enter Tryz.func66, Tryz.ntmps66
  go_wp2_with fail
  refine HC.out.mono ?_
  rintro e w' ⟨rfl, hb⟩
  go_wp2
  go_ret3
  exact ⟨rfl, hb⟩
end Go.Proofs.YtabpiaaknjcnkaaGreat

/-
  The walk over turned.
-/
namespace Go.Proofs.YtabpiaaknjcnkaaGreat
open Go.RowKit
set_option linter.unusedVariables false
set_option linter.unusedSimpArgs false
set_option maxRecDepth 100000

def byteOf (z : Int) : UInt8 := UInt8.ofNat (z % 256).toNat
theorem byteOf_toNat (z : Int) : ((byteOf z).toNat : Int) = z % 256 := by
  have h : (z % 256).toNat < 256 := by omega
  rw [byteOf, UInt8.toNat_ofNat_of_lt' (by simpa using h)]
  omega
theorem conv1 (w : World) (z : Int) : (convert 48 9 (.slice (some ⟨w.heap.size, 0, none⟩) 1 1)).run Tryz.prog (w.alloc (.cells #[.int .u8 (z % 256)] 5)) = .ok (.string ⟨#[byteOf z]⟩) (w.alloc (.cells #[.int .u8 (z % 256)] 5)) := by
  have := run_convert_bytes_back (P := Tryz.prog) (w.alloc (.cells #[.int .u8 (z % 256)] 5)) 48 9 5 ⟨w.heap.size, 0, none⟩ 1 [byteOf z] Tryz.underlying48 Tryz.underlying5 Tryz.underlying9 (fun j hj => by
    have : j = 0 := by simpa using hj
    subst this
    simp [Addr.add, byteOf_toNat])
  exact this

end Go.Proofs.YtabpiaaknjcnkaaGreat

/-
  The walks over the document's U and Encode.
-/
namespace Go.Proofs.YtabpiaaknjcnkaaGreat
open Go.RowKit
set_option linter.unusedVariables false
set_option linter.unusedSimpArgs false
set_option maxRecDepth 100000

theorem conv_byte (w : World) (z : Int) (n : Nat) (hz : z = n) (hn : n < 256) : (convert 48 9 (.slice (some ⟨w.heap.size, 0, none⟩) 1 1)).run Tryz.prog (w.alloc (.cells #[.int .u8 z] 5)) = .ok (.string ⟨#[UInt8.ofNat n]⟩) (w.alloc (.cells #[.int .u8 z] 5)) := by
  have := conv1 w z
  rw [show z % 256 = z by omega] at this
  rw [this, show byteOf z = UInt8.ofNat n by unfold byteOf; rw [show (z % 256).toNat = n by omega]]

set_option maxHeartbeats 2000000 in
theorem ru_any (n : Nat) (w : World) (hn : n < 2097152) :
    Calls Tryz.prog 102 #[.int .i64 n] w fun e w' => e = .returned (.string ⟨(uN n).toArray⟩) ∧ Below w.heap.size w w' := by
  go_enter Tryz.func102, Tryz.ntmps102
  go_wp2
  go_loopw [0, 3] (fun c v wr => ∃ (m : Nat) (out : ByteArray) (pre : List UInt8), c = .int .i64 m ∧ v = .string out ∧ m ≤ n ∧ Hid (out.data.toList = pre) ∧ Hid (uN n = pre ++ uN m) ∧ out.size + m ≤ n ∧ Below w.heap.size w wr) (fun c _ _ => (intOf c).toNat)
  case atStart => exact ⟨n, ⟨#[]⟩, [], rfl, rfl, by omega, rfl, rfl, (show 0 + n ≤ n by omega), Below.refl _ _⟩
  case round =>
    obtain ⟨m, out, pre, rfl, rfl, hm, HO, HU, hsz, hb⟩ := hrel
    have hs := hb.size
    by_cases hge : 127 < m
    · have hcv := conv_byte wr ((m : Int) % 128 + 128) (m % 128 + 128) (by omega) (by omega)
      have HO2 : Hid ((out ++ ⟨#[UInt8.ofNat (m % 128 + 128)]⟩).data.toList = pre ++ [UInt8.ofNat (m % 128 + 128)]) := by
        show _ = _
        rw [app_bytes, HO.out]
      have HU2 : Hid (uN n = (pre ++ [UInt8.ofNat (m % 128 + 128)]) ++ uN (m / 128)) := by
        show uN n = _
        rw [HU.out, uN_ge (by omega)]; simp
      have hs2 : (out ++ ⟨#[UInt8.ofNat (m % 128 + 128)]⟩ : ByteArray).size = out.size + 1 := by rw [ByteArray.size_append]; rfl
      generalize UInt8.ofNat (m % 128 + 128) = c at *
      go_wp2
      go_roundw
      case rel => exact ⟨m / 128, out ++ ⟨#[c]⟩, pre ++ [c], by go_num, rfl, by omega, HO2, HU2, by omega, hb.alloc (by omega) _⟩
      case measure => simp [intOf]; omega
    · have hcv := conv_byte wr (m : Int) m (by omega) (by omega)
      have HE : Hid ((⟨(uN n).toArray⟩ : ByteArray) = out ++ ⟨#[UInt8.ofNat m]⟩) := by
        apply bytes_ext
        rw [app_bytes, HO.out, HU.out, uN_lt (by omega)]
      go_wp2
      go_ret
      rw [HE.out]
      exact ⟨rfl, hb.alloc (by omega) _⟩
theorem ru_int (z : Int) (w : World) (h0 : 0 ≤ z) (hn : z < 2097152) :
    Calls Tryz.prog 102 #[.int .i64 z] w fun e w' => e = .returned (.string ⟨(uN z.toNat).toArray⟩) ∧ Below w.heap.size w w' := by
  obtain ⟨n, rfl⟩ : ∃ n : Nat, z = n := ⟨z.toNat, by omega⟩
  exact ru_any n w (by omega)

theorem wrong_view {v : Value} {xs : List DOp} {w : World} (hv : View w v xs) (hi : Ints xs) (bs : Int) (h0 : 0 ≤ bs) (h1 : bs ≤ 2000) :
    Calls Tryz.prog 96 #[v, .int .i64 bs] w fun e w' => e = .returned (.int .i64 (wrongI xs bs)) ∧ Below w.heap.size w w' := by
  rcases hv with ⟨rfl, ao, cap, rfl⟩ | ⟨b, off, cap, rfl, hb, hr⟩
  · refine (wrong_nil ao cap bs w).mono ?_
    rintro e w' ⟨rfl, rfl⟩
    exact ⟨rfl, Below.refl _ _⟩
  · exact wrong_two b off cap xs bs w h0 h1 hi.1 hr hi.2.1 hi.2.2 hb

theorem wrongI_bad {xs : List DOp} {b : Int} (h : faultF xs b < xs.length) : wrongI xs b = faultF xs b := by rw [wrongI, if_pos h]
theorem wrongI_ok {xs : List DOp} {b : Int} (h : ¬ faultF xs b < xs.length) : wrongI xs b = -1 := by rw [wrongI, if_neg h]

set_option maxHeartbeats 1000000 in
theorem renc_fault {v : Value} {xs : List DOp} {w : World} (hv : View w v xs) (hi : Ints xs) (hf : faultF xs 2000 < xs.length) :
    Calls Tryz.prog 67 #[v] w fun e w' => e = .returned (.tuple #[.string ⟨#[]⟩, .int .i64 2, .int .i64 (faultF xs 2000)]) ∧ Below w.heap.size w w' := by
  have HV : Hid (View w v xs) := hv
  clear hv
  go_enter Tryz.func67, Tryz.ntmps67
  go_wp2_with fail
  refine (wrong_view HV.out hi 2000 (by omega) (by omega)).mono ?_
  rintro e w1 ⟨rfl, hb⟩
  rw [wrongI_bad hf]
  generalize hff : faultF xs 2000 = q at *
  have HQ : Hid (faultF xs 2000 = q) := hff
  clear hff HV
  go_wp2
  go_ret3
  exact ⟨ret_three rfl (by rw [HQ.out]), hb⟩

set_option maxHeartbeats 4000000 in
theorem renc_ok {v : Value} {xs : List DOp} {w : World} (hv : View w v xs) (hi : Ints xs) (hf : ¬ faultF xs 2000 < xs.length) :
    Calls Tryz.prog 67 #[v] w fun e w' => e = .returned (.tuple #[.string ⟨(encL xs).toArray⟩, .int .i64 0, .int .i64 0]) ∧ Below w.heap.size w w' := by
  obtain ⟨ao, c1, hv1⟩ := hv.slice
  rw [hv1] at hv ⊢
  have HV : Hid (View w (.slice ao xs.length c1) xs) := hv
  have HQ1 : Hid (faultF xs 2000 = xs.length) := by show _ = _; have := faultF_le xs 2000; omega
  have HW : Hid (wrongI xs 2000 = -1) := wrongI_ok hf
  have HD : Hid (Delta xs 2000) := delta_of HQ1.out
  have hx := HD.out.len
  clear hv hv1 hf
  go_enter Tryz.func67, Tryz.ntmps67
  go_wp2_with fail
  refine (wrong_view HV.out hi 2000 (by omega) (by omega)).mono ?_
  rintro e w1 ⟨rfl, hb⟩
  rw [HW.out]
  go_wp2_with fail
  refine (ru_any xs.length _ (by omega)).mono ?_
  rintro e w2 ⟨rfl, hb2⟩
  have B2 : Below w.heap.size w w2 := hb.trans (hb2.mono hb.size)
  clear hb2 hb
  go_wp2
  have HS0 : Hid ((⟨(uN xs.length).toArray⟩ : ByteArray).data.toList = encTo xs 0) := by show _ = _; simp [encTo]
  generalize (⟨(uN xs.length).toArray⟩ : ByteArray) = S0 at *
  go_loopw [6, 7] (fun v c wr => ∃ (k : Nat) (S : ByteArray), k ≤ xs.length ∧ c = .int .i64 k ∧ v = .string S ∧ Hid (S.data.toList = encTo xs k) ∧ Below w.heap.size w wr) (fun _ c _ => xs.length + 1 - (intOf c).toNat)
  case atStart => exact ⟨0, S0, by omega, rfl, rfl, HS0, B2⟩
  case round =>
    obtain ⟨k, S, hk, rfl, rfl, HS, hb⟩ := hrel
    have hlen := encTo_length HD.out k
    have hSs : S.size ≤ 4000 := by rw [Lib.size_eq, HS.out]; exact hlen
    by_cases hlt : k < xs.length
    · obtain ⟨⟨f, l, t⟩, ho⟩ : ∃ o, xs[k]? = some o := ⟨xs[k], by simp [hlt]⟩
      obtain ⟨b, off, hbo, hbw, hr⟩ : ∃ b off, ao = some ⟨b, off, none⟩ ∧ b < w.heap.size ∧ ReadsAt w b off xs := by
        rcases HV.out with ⟨h, _⟩ | ⟨b, off, cap, hv, hlt', hr⟩
        · rw [h] at hlt; simp at hlt
        · injection hv with h1 h2 h3; exact ⟨b, off, h1, hlt', hr⟩
      subst hbo
      obtain ⟨r0, r1, r2⟩ := hr k _ ho
      have c0 : wr.cell? ⟨b, off + k * 3, none⟩ = some (.int .i64 f) := (hb.cell (p := ⟨b, _, none⟩) hbw).trans r0
      have c1 : wr.cell? ⟨b, off + k * 3 + 1, none⟩ = some (.int .i64 l) := (hb.cell (p := ⟨b, _, none⟩) hbw).trans r1
      have c2 : wr.cell? ⟨b, off + k * 3 + 2, none⟩ = some (.string t) := (hb.cell (p := ⟨b, _, none⟩) hbw).trans r2
      have HE : Hid (encTo xs (k + 1) = encTo xs k ++ encOp ⟨f, l, t⟩) := encTo_succ ho
      obtain ⟨hn, g1, g2, g3⟩ := HD.out.parts (by omega) _ (List.mem_of_getElem? ho)
      simp only at g1 g2 g3
      have h0 : 0 ≤ f ∧ 0 ≤ l := by rcases hn with ⟨a, b, _⟩ | ⟨a, b, _⟩ <;> simp only at a b <;> omega
      obtain ⟨hf0, hl0⟩ := h0
      have q1 : (0 : Int) ≤ (k : Int) := by omega
      have q2 : (k : Int) < (xs.length : Int) := by omega
      have hbd : Below w.heap.size w wr.drew := hb.drew
      clear r0 r1 r2 ho hr hn
      by_cases hl : 0 < l
      · have HEo : Hid (encOp ⟨f, l, t⟩ = uN (2 * l + 1).toNat ++ uN f.toNat) := by show _ = _; rw [encOp, if_pos hl]
        have H1 : Hid (∀ W, Calls Tryz.prog 102 #[.int .i64 (2 * l + 1)] W fun e w' => e = .returned (.string ⟨(uN (2 * l + 1).toNat).toArray⟩) ∧ Below W.heap.size W w') := fun W => ru_int (2 * l + 1) W (by omega) (by omega)
        have H2 : Hid (∀ W, Calls Tryz.prog 102 #[.int .i64 f] W fun e w' => e = .returned (.string ⟨(uN f.toNat).toArray⟩) ∧ Below W.heap.size W w') := fun W => ru_int f W (by omega) (by omega)
        have u1 := uN_length (n := (2 * l + 1).toNat) (by omega)
        have u2 := uN_length (n := f.toNat) (by omega)
        have z1 : (⟨(uN (2 * l + 1).toNat).toArray⟩ : ByteArray).size ≤ 3 := by rw [Lib.size_eq]; exact u1
        have z2 : (⟨(uN f.toNat).toArray⟩ : ByteArray).size ≤ 3 := by rw [Lib.size_eq]; exact u2
        have HT : Hid ((S ++ ⟨(uN (2 * l + 1).toNat).toArray⟩ ++ ⟨(uN f.toNat).toArray⟩ : ByteArray).data.toList = encTo xs (k + 1)) := by
          show _ = _
          rw [app_bytes, app_bytes, HS.out, HE.out, HEo.out]; simp
        generalize (⟨(uN (2 * l + 1).toNat).toArray⟩ : ByteArray) = U1 at *
        generalize (⟨(uN f.toNat).toArray⟩ : ByteArray) = U2 at *
        have zA : ¬ 9223372036854775807 < S.size + U1.size := by omega
        have zB : ¬ 9223372036854775807 < S.size + U1.size + U2.size := by omega
        have zC : ¬ 9223372036854775807 < (S ++ U1).size + U2.size := by rw [ByteArray.size_append]; omega
        have w1 : IntKind.i64.wrap (2 * l) = 2 * l := by rw [IntKind.wrap_i64]; omega
        have w2 : IntKind.i64.wrap (2 * l + 1) = 2 * l + 1 := by rw [IntKind.wrap_i64]; omega
        go_wp2
        go_region_held3 (fun w' => w'.cell? ⟨b, off + k * 3, none⟩ = some (.int .i64 f) ∧ w'.cell? ⟨b, off + k * 3 + 1, none⟩ = some (.int .i64 l)) (go_keep)
          (first | (go_at_call_of 102 l; refine (H1.out _).mono ?_; rintro e w4 ⟨rfl, hb4⟩; have hl4 := Nat.lt_of_lt_of_le hbw hbd.size; have hbd := hbd.trans (hb4.mono hbd.size); have c0 := (hb4.cell (p := ⟨b, off + k * 3, none⟩) hl4).trans c0; have c1 := (hb4.cell (p := ⟨b, off + k * 3 + 1, none⟩) hl4).trans c1) | (go_at_call_of 102 f; refine (H2.out _).mono ?_; rintro e w4 ⟨rfl, hb4⟩; have hl4 := Nat.lt_of_lt_of_le hbw hbd.size; have hbd := hbd.trans (hb4.mono hbd.size); have c0 := (hb4.cell (p := ⟨b, off + k * 3, none⟩) hl4).trans c0; have c1 := (hb4.cell (p := ⟨b, off + k * 3 + 1, none⟩) hl4).trans c1))
        all_goals
          go_wp2
          go_roundw
          case rel => exact ⟨k + 1, S ++ U1 ++ U2, by omega, by go_num, rfl, HT, hbd⟩
          case measure => simp [intOf]; omega
      · have HEo : Hid (encOp ⟨f, l, t⟩ = uN (2 * t.size) ++ t.data.toList) := by show _ = _; rw [encOp, if_neg hl]
        have H1 : Hid (∀ W, Calls Tryz.prog 102 #[.int .i64 (2 * (t.size : Int))] W fun e w' => e = .returned (.string ⟨(uN (2 * t.size)).toArray⟩) ∧ Below W.heap.size W w') := fun W => by
          have := ru_any (2 * t.size) W (by omega)
          rwa [show ((2 * t.size : Nat) : Int) = 2 * (t.size : Int) by omega] at this
        have u1 := uN_length (n := 2 * t.size) (by omega)
        have z1 : (⟨(uN (2 * t.size)).toArray⟩ : ByteArray).size ≤ 3 := by rw [Lib.size_eq]; exact u1
        have HT : Hid ((S ++ ⟨(uN (2 * t.size)).toArray⟩ ++ t : ByteArray).data.toList = encTo xs (k + 1)) := by
          show _ = _
          rw [app_bytes, app_bytes, HS.out, HE.out, HEo.out]; simp
        generalize (⟨(uN (2 * t.size)).toArray⟩ : ByteArray) = U1 at *
        have zA : ¬ 9223372036854775807 < S.size + U1.size := by omega
        have zB : ¬ 9223372036854775807 < S.size + U1.size + t.size := by omega
        have zC : ¬ 9223372036854775807 < (S ++ U1).size + t.size := by rw [ByteArray.size_append]; omega
        have w1 : IntKind.i64.wrap (2 * (t.size : Int)) = 2 * (t.size : Int) := by rw [IntKind.wrap_i64]; omega
        go_wp2
        go_region_held3 (fun w' => w'.cell? ⟨b, off + k * 3 + 2, none⟩ = some (.string t)) (go_keep)
          (first | (go_at_call 102; refine (H1.out _).mono ?_; rintro e w4 ⟨rfl, hb4⟩; have hl4 := Nat.lt_of_lt_of_le hbw hbd.size; have hbd := hbd.trans (hb4.mono hbd.size); have c2 := (hb4.cell (p := ⟨b, off + k * 3 + 2, none⟩) hl4).trans c2))
        all_goals
          go_wp2
          go_roundw
          case rel => exact ⟨k + 1, S ++ U1 ++ t, by omega, by go_num, rfl, HT, hbd⟩
          case measure => simp [intOf]; omega
    · obtain rfl : k = xs.length := by omega
      have e : encTo xs xs.length = encL xs := by unfold encTo encL; rw [List.take_length]
      have HX : Hid ((⟨(encL xs).toArray⟩ : ByteArray) = S) := by
        apply bytes_ext
        rw [HS.out, e]
      clear e
      go_wp2
      go_ret3
      rw [HX.out]
      exact ⟨rfl, hb⟩

theorem renc_any {v : Value} {xs : List DOp} {w : World} (hv : View w v xs) (hi : Ints xs) :
    Calls Tryz.prog 67 #[v] w fun e w' => e = .returned (.tuple #[.string (encS xs), .int .i64 (encE xs), .int .i64 (encP xs)]) ∧ Below w.heap.size w w' := by
  unfold encS encE encP
  by_cases hf : faultF xs 2000 < xs.length
  · rw [if_pos hf, if_pos hf, if_pos hf]; exact renc_fault hv hi hf
  · rw [if_neg hf, if_neg hf, if_neg hf]; exact renc_ok hv hi hf
end Go.Proofs.YtabpiaaknjcnkaaGreat
