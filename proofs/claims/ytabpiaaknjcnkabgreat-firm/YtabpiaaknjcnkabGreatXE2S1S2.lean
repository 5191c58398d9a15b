/- The texts E2, S1, S2, one behind the other. -/
import Derived.Test.YtabpiaaknjcnkabGreatE1
import Derived.Test.YtabpiaaknjcnkabGreatXW1W3W4
import Derived.Test.YtabpiaaknjcnkabGreatXPDPUP4
import Derived.LoopTactic
import Derived.Laws.BitsAllLaws
/-
  The walks over the program's Encode.
-/
namespace Go.Proofs.YtabpiaaknjcnkabGreat
open Go.RowKit
set_option linter.unusedVariables false
set_option linter.unusedSimpArgs false
set_option maxRecDepth 100000

theorem encOp_length {o : DOp} (hn : Nice o) (hf : o.fr ≤ 2000) (hl : o.len ≤ 2000) (ht : o.tx.size ≤ 2000) : ((encOp o).length : Int) ≤ 6 + sizeI o.len o.tx := by
  unfold encOp sizeI
  have h0 : 0 ≤ o.fr := by rcases hn with ⟨_, h, _⟩ | ⟨_, h, _⟩ <;> omega
  split
  · have h1 := uN_length (n := (2 * o.len + 1).toNat) (by omega)
    have h2 := uN_length (n := o.fr.toNat) (by omega)
    rw [List.length_append]; omega
  · have h1 := uN_length (n := 2 * o.tx.size) (by omega)
    rw [List.length_append, ← Lib.size_eq]; omega
theorem encs_length {xs : List DOp} (h : ∀ o ∈ xs, Nice o ∧ o.fr ≤ 2000 ∧ o.len ≤ 2000 ∧ o.tx.size ≤ 2000) : ((xs.flatMap encOp).length : Int) ≤ 6 * xs.length + sumI xs := by
  induction xs with
  | nil => simp [sumI]
  | cons o r ih =>
    obtain ⟨h1, h2, h3, h4⟩ := h o (by simp)
    have := encOp_length h1 h2 h3 h4
    have := ih (fun q hq => h q (by simp [hq]))
    simp only [List.flatMap_cons, List.length_append, List.length_cons, sumI]; omega
/-- So much of a code. -/
def encTo (xs : List DOp) (k : Nat) : List UInt8 := uN xs.length ++ (xs.take k).flatMap encOp
theorem encTo_succ {xs : List DOp} {k : Nat} {o : DOp} (h : xs[k]? = some o) : encTo xs (k + 1) = encTo xs k ++ encOp o := by
  unfold encTo; rw [List.take_add_one, h]; simp
theorem encTo_length {xs : List DOp} (hD : Delta xs 2000) (k : Nat) : (encTo xs k).length ≤ 4000 := by
  have hp := hD.parts (by omega)
  have h1 := encs_length (xs := xs.take k) (fun o ho => hp o (List.mem_of_mem_take ho))
  have h2 := sumI_take_le xs k
  have h3 := hD.sum
  have h4 := hD.len
  have h5 := uN_length (n := xs.length) (by omega)
  have h6 : (xs.take k).length ≤ xs.length := by simp; omega
  unfold encTo; rw [List.length_append]; omega

def encS (xs : List DOp) : ByteArray := if faultF xs 2000 < xs.length then ⟨#[]⟩ else ⟨(encL xs).toArray⟩
def encE (xs : List DOp) : Int := if faultF xs 2000 < xs.length then 2 else 0
def encP (xs : List DOp) : Int := if faultF xs 2000 < xs.length then faultF xs 2000 else 0

theorem conv_own {w : World} {base : Nat} {v : Value} {bs : List UInt8} (h : OwnBytes w base v bs) (hb : 0 < bs.length) : (convert 41 9 v).run Tryz.prog w = .ok (.string ⟨bs.toArray⟩) w := by
  rcases h.2 with ⟨_, h0⟩ | ⟨g, cap, cur, rfl, _, hbk, h1, h2, h3, h4⟩
  · omega
  · refine run_convert_bytes_back (P := Tryz.prog) w 41 9 5 ⟨g, 0, none⟩ cap bs Tryz.underlying41 Tryz.underlying5 Tryz.underlying9 (fun j hj => ?_)
    rw [show (⟨g, 0, none⟩ : Addr).add j = ⟨g, j, none⟩ from by unfold Addr.add; split <;> simp_all, Lib.cell_of_heap hbk]
    have hget : (cur.toList.take (bs.length * 1))[j]? = (bs.map byteV)[j]? := by rw [h4]
    rw [List.getElem?_take_of_lt (by omega), List.getElem?_map, List.getElem?_eq_getElem hj, Array.getElem?_toList] at hget
    exact hget

set_option maxHeartbeats 1000000 in
theorem enc_fault {v : Value} {xs : List DOp} {w : World} (hv : View w v xs) (hi : Ints xs) (hf : faultF xs 2000 < xs.length) :
    Calls Tryz.prog 31 #[v] w fun e w' => e = .returned (.tuple #[.string ⟨#[]⟩, .int .i64 2, .int .i64 (faultF xs 2000)]) ∧ Below w.heap.size w w' := by
  obtain ⟨ao, c1, hv1⟩ := hv.slice
  rw [hv1] at hv ⊢
  have HV : Hid (View w (.slice ao xs.length c1) xs) := hv
  clear hv hv1
  go_enter Tryz.func31, Tryz.ntmps31
  go_wp2_with fail
  refine (fault_view HV.out hi 2000 (by omega) (by omega)).mono ?_
  rintro e w1 ⟨rfl, hb⟩
  generalize hff : faultF xs 2000 = q at *
  have HQ : Hid (faultF xs 2000 = q) := hff
  clear hff HV
  go_wp2
  go_ret3
  exact ⟨ret_three rfl (by rw [HQ.out]), hb⟩

/-- The code of a delta behind some bytes. -/
def codeTo (bs : List UInt8) (xs : List DOp) (k : Nat) : List UInt8 := bs ++ encTo xs k
theorem codeTo_succ {bs : List UInt8} {xs : List DOp} {k : Nat} {o : DOp} (h : xs[k]? = some o) : codeTo bs xs (k + 1) = codeTo bs xs k ++ encOp o := by
  unfold codeTo; rw [encTo_succ h, List.append_assoc]
theorem codeTo_length {bs : List UInt8} {xs : List DOp} (hl : bs.length ≤ 1000) (hD : Delta xs 2000) (k : Nat) : (codeTo bs xs k).length ≤ 5000 := by
  have := encTo_length hD k
  unfold codeTo; rw [List.length_append]; omega
theorem encL_pos (xs : List DOp) : 0 < (encL xs).length := by
  unfold encL
  by_cases h : xs.length < 128
  · rw [uN_lt h]; simp
  · rw [uN_ge h]; simp

set_option maxHeartbeats 4000000 in
theorem addcode_any {v bv : Value} {bs : List UInt8} {xs : List DOp} {base : Nat} {w0 w : World} (hv : View w0 v xs) (hw0 : Below w0.heap.size w0 w) (h0b : w0.heap.size ≤ base) (hD : Delta xs 2000) (hown : OwnBytes w base bv bs) (hbase : base ≤ w.heap.size) (hl : bs.length ≤ 1000) :
    Calls Tryz.prog 49 #[bv, v] w fun e w' => ∃ v', e = .returned v' ∧ OwnBytes w' base v' (bs ++ encL xs) ∧ Below base w w' ∧ Spares w w' := by
  obtain ⟨ao, c1, hv1⟩ := hv.slice
  rw [hv1] at hv ⊢
  have HV : Hid (View w0 (.slice ao xs.length c1) xs) := hv
  have HD : Hid (Delta xs 2000) := hD
  have HO0 : Hid (OwnBytes w base bv bs) := hown
  have HB0 : Hid (Below w0.heap.size w0 w) := hw0
  have hx := HD.out.len
  clear hv hv1 hD hown hw0
  go_enter Tryz.func49, Tryz.ntmps49
  go_wp2_with fail
  refine (addnum_any bv bs xs.length base _ HO0.out hbase (by omega) (by omega)).mono ?_
  rintro e w2 ⟨v2, rfl, ho2, hb2, hs2⟩
  have HO2 : Hid (OwnBytes w2 base v2 (codeTo bs xs 0)) := by
    show OwnBytes w2 base v2 (codeTo bs xs 0)
    simpa [codeTo, encTo] using ho2
  have HS2 : Hid (Spares w w2) := hs2
  clear ho2 hs2
  go_wp2
  go_loopw [0, 13] (fun v' c wr => ∃ k : Nat, k ≤ xs.length ∧ c = .int .i64 k ∧ Hid (OwnBytes wr base v' (codeTo bs xs k)) ∧ Below base w wr ∧ Hid (Spares w wr)) (fun _ c _ => xs.length + 1 - (intOf c).toNat)
  case atStart => exact ⟨0, by omega, rfl, HO2, hb2, HS2⟩
  case round =>
    obtain ⟨k, hk, rfl, HO, hb, HS⟩ := hrel
    have hsz := hb.size
    have hlen := codeTo_length hl HD.out k
    by_cases hlt : k < xs.length
    · obtain ⟨⟨f, l, t⟩, ho⟩ : ∃ o, xs[k]? = some o := ⟨xs[k], by simp [hlt]⟩
      obtain ⟨b, off, hbo, hbw, hr⟩ : ∃ b off, ao = some ⟨b, off, none⟩ ∧ b < w0.heap.size ∧ ReadsAt w0 b off xs := by
        rcases HV.out with ⟨h, _⟩ | ⟨b, off, cap, hv, hlt', hr⟩
        · rw [h] at hlt; simp at hlt
        · injection hv with h1 h2 h3; exact ⟨b, off, h1, hlt', hr⟩
      subst hbo
      obtain ⟨r0, r1, r2⟩ := hr k _ ho
      have hb0 : Below w0.heap.size w0 wr := HB0.out.trans (hb.mono h0b)
      have c0 : wr.cell? ⟨b, off + k * 3, none⟩ = some (.int .i64 f) := (hb0.cell (p := ⟨b, _, none⟩) hbw).trans r0
      have c1' : wr.cell? ⟨b, off + k * 3 + 1, none⟩ = some (.int .i64 l) := (hb0.cell (p := ⟨b, _, none⟩) hbw).trans r1
      have c2' : wr.cell? ⟨b, off + k * 3 + 2, none⟩ = some (.string t) := (hb0.cell (p := ⟨b, _, none⟩) hbw).trans r2
      have HN1 : Hid (codeTo bs xs (k + 1) = codeTo bs xs k ++ encOp ⟨f, l, t⟩) := codeTo_succ ho
      obtain ⟨hn, g1, g2, g3⟩ := HD.out.parts (by omega) _ (List.mem_of_getElem? ho)
      have HN : Hid (Nice ⟨f, l, t⟩) := hn
      simp only at g1 g2 g3
      clear r0 r1 r2 hr ho hn hb0
      have HO1 : Hid (OwnBytes (wr.alloc (.cells #[.int .i64 f, .int .i64 l, .string t] 48)) base _ (codeTo bs xs k)) := HO.out.alloc _
      have HSA : Hid (Spares w (wr.alloc (.cells #[.int .i64 f, .int .i64 l, .string t] 48))) := HS.out.trans (Spares.of_below ((Below.refl _ _).alloc (Nat.le_refl _) _))
      go_wp2_with fail
      refine (addop_any _ (codeTo bs xs k) f l t base _ HO1.out (by simp; omega) (by omega) HN.out g1 g2 g3).mono ?_
      rintro e w3 ⟨v3, rfl, ho3, hb3, hs3⟩
      have HO3 : Hid (OwnBytes w3 base v3 (codeTo bs xs (k + 1))) := by
        show OwnBytes w3 base v3 (codeTo bs xs (k + 1))
        rw [HN1.out]; exact ho3
      have R3 : Below base w w3 := (hb.alloc (by omega) _).trans hb3
      have HS3 : Hid (Spares w w3) := HSA.out.trans hs3
      clear ho3 hb3 hs3 HO1 HO c0 c1' c2' HSA
      go_wp2
      go_roundw
      case rel => exact ⟨k + 1, by omega, by go_num, HO3, R3, HS3⟩
      case measure => simp [intOf]; omega
    · obtain rfl : k = xs.length := by omega
      have e : codeTo bs xs xs.length = bs ++ encL xs := by unfold codeTo encTo encL; rw [List.take_length]
      rw [e] at HO
      clear e hlen
      go_wp2
      go_ret
      exact ⟨_, rfl, HO.out, hb, HS.out⟩

set_option maxHeartbeats 4000000 in
theorem enc_ok {v : Value} {xs : List DOp} {w : World} (hv : View w v xs) (hi : Ints xs) (hf : ¬ faultF xs 2000 < xs.length) :
    Calls Tryz.prog 31 #[v] w fun e w' => e = .returned (.tuple #[.string ⟨(encL xs).toArray⟩, .int .i64 0, .int .i64 0]) ∧ Below w.heap.size w w' := by
  obtain ⟨ao, c1, hv1⟩ := hv.slice
  rw [hv1] at hv ⊢
  have HV : Hid (View w (.slice ao xs.length c1) xs) := hv
  have HQ1 : Hid (faultF xs 2000 = xs.length) := by show _ = _; have := faultF_le xs 2000; omega
  have HD : Hid (Delta xs 2000) := delta_of HQ1.out
  clear hv hv1 hf
  go_enter Tryz.func31, Tryz.ntmps31
  go_wp2_with fail
  refine (fault_view HV.out hi 2000 (by omega) (by omega)).mono ?_
  rintro e w1 ⟨rfl, hb⟩
  rw [HQ1.out]
  go_wp2_with fail
  refine (addcode_any (base := w.heap.size) (bs := []) HV.out hb (Nat.le_refl _) HD.out (World.ownsRow_nil _ _ _ _) hb.size (by simp)).mono ?_
  rintro e w2 ⟨v2, rfl, ho2, hb2, _⟩
  have HO2 : Hid (OwnBytes w2 w.heap.size v2 (encL xs)) := by
    show OwnBytes w2 w.heap.size v2 (encL xs)
    simpa using ho2
  have B2 : Below w.heap.size w w2 := hb.trans hb2
  have hcv := conv_own HO2.out (encL_pos xs)
  obtain ⟨oo, oc, hvo⟩ := HO2.out.slice
  subst hvo
  clear ho2 hb2 hb HO2
  go_wp2
  go_ret3
  exact ⟨rfl, B2⟩

theorem enc_any {v : Value} {xs : List DOp} {w : World} (hv : View w v xs) (hi : Ints xs) :
    Calls Tryz.prog 31 #[v] w fun e w' => e = .returned (.tuple #[.string (encS xs), .int .i64 (encE xs), .int .i64 (encP xs)]) ∧ Below w.heap.size w w' := by
  unfold encS encE encP
  by_cases hf : faultF xs 2000 < xs.length
  · rw [if_pos hf, if_pos hf, if_pos hf]; exact enc_fault hv hi hf
  · rw [if_neg hf, if_neg hf, if_neg hf]; exact enc_ok hv hi hf

set_option maxHeartbeats 1000000 in
theorem cenc_any {v : Value} {xs : List DOp} {w : World} (hv : View w v xs) (hi : Ints xs) :
    Calls Tryz.prog 14 #[v] w fun e w' => e = .returned (.tuple #[.string (encS xs), .int .i64 (encE xs), .int .i64 (encP xs)]) ∧ Below w.heap.size w w' := by
  have HC : Hid (Calls Tryz.prog 31 #[v] w fun e w' => e = .returned (.tuple #[.string (encS xs), .int .i64 (encE xs), .int .i64 (encP xs)]) ∧ Below w.heap.size w w') := enc_any hv hi
  clear hv
  go_enter Tryz.func14, Tryz.ntmps14
  go_wp2_with fail
  refine HC.out.mono ?_
  rintro e w' ⟨rfl, hb⟩
  go_wp2
  go_ret3
  exact ⟨rfl, hb⟩
end Go.Proofs.YtabpiaaknjcnkabGreat

/-
  The walks over the sums of the statements.
-/
namespace Go.Proofs.YtabpiaaknjcnkabGreat
open Go.RowKit
set_option linter.unusedVariables false
set_option linter.unusedSimpArgs false
set_option maxRecDepth 100000

theorem and1 (y : Nat) (h : y < 4294967296) : bits BinOp.and IntKind.u32 (y : Int) 1 = ((y % 2 : Nat) : Int) := by
  have := u32_and_nat y 1 h (by decide)
  rw [nat_mask1] at this
  exact this
theorem xorP (y : Nat) (h : y < 4294967296) : bits BinOp.xor IntKind.u32 ((y : Int) / 2) 3988292384 = ((y / 2 ^^^ 3988292384 : Nat) : Int) := by
  have := u32_xor_nat (y / 2) 3988292384 (by omega) (by decide)
  rw [← this]; rfl
theorem odd_of {y : Nat} (h : y < 4294967296) (hb : (bits BinOp.and IntKind.u32 (y : Int) 1 == 1) = true) : y % 2 = 1 := by
  rw [and1 y h] at hb
  have : ((y % 2 : Nat) : Int) = 1 := by simpa using hb
  omega
theorem even_of {y : Nat} (h : y < 4294967296) (hb : (bits BinOp.and IntKind.u32 (y : Int) 1 == 1) = false) : ¬ y % 2 = 1 := by
  rw [and1 y h] at hb
  have : ¬ ((y % 2 : Nat) : Int) = 1 := by simpa using hb
  omega
theorem byte_at (s : ByteArray) (k : Nat) (h : k < s.size) : s.data.toList.take (k + 1) = s.data.toList.take k ++ [s[k]] := by
  rw [List.take_succ_eq_append_getElem (by simpa using h)]; rfl

/-- The walk at the k-th byte. -/
def st (s : ByteArray) (k : Nat) : Nat := run 4294967295 (s.data.toList.take k)
theorem st_zero (s : ByteArray) : st s 0 = 4294967295 := by simp [st, run]
theorem st_lt (s : ByteArray) (k : Nat) : st s k < 4294967296 := run_lt (by decide) _
theorem st_succ (s : ByteArray) (k : Nat) (h : k < s.size) : st s (k + 1) = upd (st s k) s[k].toNat := by
  rw [st, byte_at s k h, run_snoc]; rfl
theorem st_end (s : ByteArray) : sumL s.data.toList = 4294967295 - st s s.size := by
  rw [st, List.take_of_length_le (by rw [Lib.size_eq]; exact Nat.le_refl _)]; rfl

theorem ret_u32 {a b : Int} (h : a = b) : Ending.returned (.int .u32 a) = .returned (.int .u32 b) := by rw [h]

theorem val_u32 {a b : Int} (h : a = b) : Value.int .u32 a = .int .u32 b := by rw [h]

theorem bit_at (c j : Nat) (hc : c < 256) : (c : Int) / 2 ^ j % 4294967296 = ((c / 2 ^ j : Nat) : Int) := by
  have h1 : (c : Int) / 2 ^ j = ((c / 2 ^ j : Nat) : Int) := by rw [Int.natCast_ediv, Int.natCast_pow]; rfl
  have h2 : c / 2 ^ j ≤ c := Nat.div_le_self _ _
  rw [h1]
  generalize c / 2 ^ j = z at *
  omega
theorem bit_ne {y c j : Nat} (hy : y < 4294967296) (hc : c < 256) (h : (bits BinOp.and IntKind.u32 (y : Int) 1 != bits BinOp.and IntKind.u32 ((c : Int) / 2 ^ j % 4294967296) 1) = true) : y % 2 ≠ c / 2 ^ j % 2 := by
  have h2 : c / 2 ^ j ≤ c := Nat.div_le_self _ _
  rw [bit_at c j hc, and1 y hy, and1 _ (by omega), bne_iff_ne] at h
  omega
theorem bit_eq {y c j : Nat} (hy : y < 4294967296) (hc : c < 256) (h : (bits BinOp.and IntKind.u32 (y : Int) 1 != bits BinOp.and IntKind.u32 ((c : Int) / 2 ^ j % 4294967296) 1) = false) : ¬ y % 2 ≠ c / 2 ^ j % 2 := by
  have h2 : c / 2 ^ j ≤ c := Nat.div_le_self _ _
  rw [bit_at c j hc, and1 y hy, and1 _ (by omega)] at h
  have : ((y % 2 : Nat) : Int) = ((c / 2 ^ j % 2 : Nat) : Int) := by simpa using h
  omega
theorem odd2 {y : Nat} (h : ((y : Int) % 2 == 1) = true) : y % 2 = 1 := by
  have : (y : Int) % 2 = 1 := by simpa using h
  omega
theorem even2 {y : Nat} (h : ((y : Int) % 2 == 1) = false) : ¬ y % 2 = 1 := by
  have : ¬ (y : Int) % 2 = 1 := by simpa using h
  omega
theorem flip (v : Nat) (h : v < 4294967296) : bits BinOp.xor IntKind.u32 IntKind.u32.max (v : Int) = ((4294967295 - v : Nat) : Int) := by
  have := u32_xor_nat 4294967295 v (by decide) h
  rw [xor_ones h] at this
  exact this

set_option maxHeartbeats 1000000 in
theorem ksum_any (s : ByteArray) (w : World) (hs : s.size ≤ 9223372036854775806) :
    Calls Tryz.prog 63 #[.string s] w fun e w' => e = .returned (.int .u32 (sumL s.data.toList)) ∧ w = w' := by
  go_enter Tryz.func63, Tryz.ntmps63
  go_wp2
  go_loop [3, 4] (fun v i => ∃ k : Nat, k ≤ s.size ∧ i = .int .i64 k ∧ v = .int .u32 (st s k)) (fun _ i => s.size + 1 - (intOf i).toNat)
  case atStart => exact ⟨0, by omega, rfl, val_u32 (by rw [st_zero]; rfl)⟩
  case round =>
    obtain ⟨k, hk, rfl, rfl⟩ := hrel
    by_cases hlt : k < s.size
    · have hv := st_lt s k
      have HS : Hid (st s (k + 1) = upd (st s k) s[k].toNat) := st_succ s k hlt
      generalize hst : st s k = v at *
      clear hst
      go_wp2
      go_loop [3, 5] (fun x i => ∃ j : Nat, j ≤ 8 ∧ i = .int .i64 j ∧ x = .int .u32 (bitRun s[k].toNat j v)) (fun _ i => 9 - (intOf i).toNat)
      case atStart => exact ⟨0, by omega, rfl, rfl⟩
      case round =>
        obtain ⟨j, hj, rfl, rfl⟩ := hrel
        by_cases hj8 : j < 8
        · have hc : s[k].toNat < 256 := s[k].toNat_lt
          have hy : bitRun s[k].toNat j v < 4294967296 := bitRun_lt hv hc j
          have HN : Hid (bitRun s[k].toNat (j + 1) v = bitStep (bitRun s[k].toNat j v) (s[k].toNat / 2 ^ j % 2)) := rfl
          generalize hyy : bitRun s[k].toNat j v = y at *
          clear hyy
          go_wp2
          · go_round
            case rel => exact ⟨j + 1, by omega, by go_num, val_u32 (by rw [HN.out, bitStep, if_pos (bit_ne hy hc (by assumption)), xorP y hy])⟩
            case measure => simp [intOf]; omega
          · go_round
            case rel => exact ⟨j + 1, by omega, by go_num, val_u32 (by rw [HN.out, bitStep, if_neg (bit_eq hy hc (by assumption))]; omega)⟩
            case measure => simp [intOf]; omega
        · have HE : Hid (bitRun s[k].toNat j v = st s (k + 1)) := by
            show bitRun s[k].toNat j v = _
            rw [HS.out, show j = 8 from by omega, bitRun_upd _ _ s[k].toNat_lt]
          go_wp2
          go_round
          case rel => exact ⟨k + 1, by omega, by go_num, val_u32 (by rw [HE.out])⟩
          case measure => simp [intOf]; omega
    · go_wp2
      go_ret
      refine ⟨ret_u32 ?_, rfl⟩
      rw [flip _ (st_lt s k), st_end, show k = s.size from by omega]

end Go.Proofs.YtabpiaaknjcnkabGreat

/-
  The walks over the program's own sum.
-/
namespace Go.Proofs.YtabpiaaknjcnkabGreat
open Go.RowKit
set_option linter.unusedVariables false
set_option linter.unusedSimpArgs false
set_option maxRecDepth 100000

set_option maxHeartbeats 1000000 in
theorem eight_any (x : Nat) (w : World) (hx : x < 4294967296) :
    Calls Tryz.prog 103 #[.int .u32 x] w fun e w' => e = .returned (.int .u32 (mvs 8 x)) ∧ w = w' := by
  go_enter Tryz.func103, Tryz.ntmps103
  go_wp2
  go_loop [0, 4] (fun v i => ∃ k : Nat, k ≤ 8 ∧ i = .int .i64 k ∧ v = .int .u32 (mvs k x)) (fun _ i => 9 - (intOf i).toNat)
  case atStart => exact ⟨0, by omega, rfl, rfl⟩
  case round =>
    obtain ⟨k, hk, rfl, rfl⟩ := hrel
    have hy := mvs_lt hx k
    by_cases hlt : k < 8
    · have HN : Hid (mvs (k + 1) x = mv (mvs k x)) := rfl
      generalize hyy : mvs k x = y at *
      clear hyy
      go_wp2
      · go_round
        case rel => exact ⟨k + 1, by omega, by go_num, val_u32 (by rw [HN.out, mv, if_pos (odd_of hy (by assumption)), xorP y hy])⟩
        case measure => simp [intOf]; omega
      · go_round
        case rel => exact ⟨k + 1, by omega, by go_num, val_u32 (by rw [HN.out, mv, if_neg (even_of hy (by assumption))]; omega)⟩
        case measure => simp [intOf]; omega
    · have HE : Hid (mvs k x = mvs 8 x) := by show mvs k x = _; rw [show k = 8 from by omega]
      go_wp2
      go_ret
      exact ⟨ret_u32 (by rw [HE.out]), rfl⟩

set_option maxHeartbeats 1000000 in
theorem of_any (s : ByteArray) (w : World) (hs : s.size ≤ 9223372036854775806) :
    Calls Tryz.prog 94 #[.string s] w fun e w' => e = .returned (.int .u32 (sumL s.data.toList)) ∧ w = w' := by
  go_enter Tryz.func94, Tryz.ntmps94
  go_wp2
  go_loop [3, 7] (fun v i => ∃ k : Nat, k ≤ s.size ∧ i = .int .i64 k ∧ v = .int .u32 (st s k)) (fun _ i => s.size + 1 - (intOf i).toNat)
  case atStart => exact ⟨0, by omega, rfl, val_u32 (by rw [st_zero]; rfl)⟩
  case round =>
    obtain ⟨k, hk, rfl, rfl⟩ := hrel
    have hv := st_lt s k
    by_cases hlt : k < s.size
    · have hc : s[k].toNat < 256 := s[k].toNat_lt
      have HS : Hid (st s (k + 1) = mvs 8 (st s k ^^^ s[k].toNat)) := by
        show st s (k + 1) = _
        rw [st_succ s k hlt]; rfl
      generalize hst : st s k = v at *
      clear hst
      have hz : v ^^^ s[k].toNat < 4294967296 := Nat.xor_lt_two_pow (n := 32) (by omega) (by omega)
      have HX : Hid (bits BinOp.xor IntKind.u32 (v : Int) (s[k].toNat : Int) = ((v ^^^ s[k].toNat : Nat) : Int)) := u32_xor_nat v s[k].toNat (by omega) (by omega)
      go_wp2_with fail
      rw [HX.out]
      generalize hxx : v ^^^ s[k].toNat = x at *
      clear hxx HX
      refine (eight_any x _ (by omega)).mono ?_
      rintro e w' ⟨rfl, rfl⟩
      go_wp2
      go_round
      case rel => exact ⟨k + 1, by omega, by go_num, val_u32 (by rw [HS.out])⟩
      case measure => simp [intOf]; omega
    · go_wp2
      go_ret
      refine ⟨ret_u32 ?_, rfl⟩
      rw [st_end, ← show k = s.size from by omega]
      have h1 := u32_xor_nat (st s k) 4294967295 hv (by decide)
      rw [Nat.xor_comm, xor_ones hv] at h1
      exact h1

end Go.Proofs.YtabpiaaknjcnkabGreat
