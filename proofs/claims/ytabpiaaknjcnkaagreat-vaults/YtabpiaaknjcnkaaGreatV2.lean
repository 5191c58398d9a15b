/-
  The walks over package record: a record's bytes.
-/
import Derived.Test.YtabpiaaknjcnkaaGreatXZAPVV1
namespace Go.Proofs.YtabpiaaknjcnkaaGreat
open Go.RowKit
set_option linter.unusedVariables false
set_option linter.unusedSimpArgs false
set_option maxRecDepth 100000

/-- So many of the bytes of a number, the lowest first. -/
def leTo (v : Nat) : Nat → List UInt8
  | 0 => []
  | k + 1 => leTo v k ++ [UInt8.ofNat (v / 256 ^ k)]
theorem leTo_length (v k : Nat) : (leTo v k).length = k := by
  induction k with
  | zero => rfl
  | succ k ih => simp [leTo, ih]
theorem leTo_four (v : Nat) : leTo v 4 = le4 v := by simp [leTo, le4]

theorem ofNat_mod (x : Nat) : ((x : Int) % 256) = ((UInt8.ofNat x).toNat : Int) := by
  rw [UInt8.toNat_ofNat']; omega

/-- Four bytes in a row: those of a number that have been written, then zeros. -/
def leCells (x k : Nat) : Array Value := #[byteV (if 0 < k then UInt8.ofNat x else 0), byteV (if 1 < k then UInt8.ofNat (x / 256) else 0), byteV (if 2 < k then UInt8.ofNat (x / 65536) else 0), byteV (if 3 < k then UInt8.ofNat (x / 16777216) else 0)]
theorem leCells_set (w : World) (g x k : Nat) (hk : k < 4) (T : TypeId) (h : w.heap[g]? = some (.cells (leCells x k) T (0, 0))) (y : Nat) (hy : y = x / 256 ^ k) : (w.setCell ⟨g, k, none⟩ (.int .u8 ((UInt8.ofNat y).toNat : Int))).heap[g]? = some (.cells (leCells x (k + 1)) T (0, 0)) := by
  rw [Lib.heap_setCell_same h]
  subst hy
  rcases (show k = 0 ∨ k = 1 ∨ k = 2 ∨ k = 3 by omega) with rfl | rfl | rfl | rfl <;> simp [leCells, byteV]
theorem le4_conv (w : World) (g x : Nat) (T : TypeId) (h : w.heap[g]? = some (.cells (leCells x 4) T (0, 0))) : (convert 48 9 (.slice (some ⟨g, 0, none⟩) 4 4)).run Tryz.prog w = .ok (.string ⟨(le4 x).toArray⟩) w := by
  have := run_convert_bytes_back (P := Tryz.prog) w 48 9 5 ⟨g, 0, none⟩ 4 (le4 x) Tryz.underlying48 Tryz.underlying5 Tryz.underlying9 (fun j hj => by
    have hj4 : j < 4 := by simpa [le4] using hj
    have e : (⟨g, 0, none⟩ : Addr).add j = ⟨g, j, none⟩ := by unfold Addr.add; split <;> simp_all
    rw [e, Lib.cell_of_heap h]
    rcases (show j = 0 ∨ j = 1 ∨ j = 2 ∨ j = 3 by omega) with rfl | rfl | rfl | rfl <;> simp [leCells, byteV, le4])
  exact this

set_option maxHeartbeats 2000000 in
/-- The sum of a body as it stands behind it. -/
theorem sumof4_any (b : ByteArray) (w : World) (hb : b.size ≤ 9223372036854775806) :
    Calls Tryz.prog 133 #[.string b] w fun e w' => e = .returned (.string ⟨(le4 (sumL b.data.toList)).toArray⟩) ∧ Below w.heap.size w w' := by
  have hx : sumL b.data.toList < 4294967296 := sumL_lt _
  have HS : Hid (∀ W, Calls Tryz.prog 98 #[.string b] W fun e w' => e = .returned (.int .u32 (sumL b.data.toList)) ∧ W = w') := fun W => of_any b W hb
  generalize sumL b.data.toList = x at *
  have HB0 : Hid (Below w.heap.size w (w.alloc (.cells (leCells x 0) 192))) := (Below.refl _ _).alloc (Nat.le_refl _) _
  have HC0 : Hid ((w.alloc (.cells (leCells x 0) 192)).heap[w.heap.size]? = some (.cells (leCells x 0) 192 (0, 0))) := heap_alloc_new _ _
  go_enter Tryz.func133, Tryz.ntmps133
  go_wp2_with fail
  refine (HS.out _).mono ?_
  rintro e w1 ⟨rfl, rfl⟩
  go_wp2
  go_loopw [4, 8] (fun b c wr => ∃ (k y : Nat), c = .int .i64 k ∧ b = .int .u32 y ∧ k ≤ 4 ∧ y < 4294967296 ∧ Hid (y = x / 256 ^ k) ∧ Hid (wr.heap[w.heap.size]? = some (.cells (leCells x k) 192 (0, 0))) ∧ Hid (Below w.heap.size w wr)) (fun _ c _ => 5 - (intOf c).toNat)
  case atStart => exact ⟨0, x, rfl, rfl, by omega, hx, by simp [Hid], HC0, HB0⟩
  case round =>
    obtain ⟨k, y, rfl, rfl, hk, hy, HY, HC, HB⟩ := hrel
    by_cases hlt : k < 4
    · have hcell : (wr.cell? ⟨w.heap.size, k, none⟩).isSome = true := by
        rw [Lib.cell_of_heap HC.out]
        rcases (show k = 0 ∨ k = 1 ∨ k = 2 ∨ k = 3 by omega) with rfl | rfl | rfl | rfl <;> simp [leCells]
      have hfr : wr.frozen? ⟨w.heap.size, k, none⟩ = false := Lib.frozen_of_heap HC.out k
      obtain ⟨u, hu⟩ := Option.isSome_iff_exists.1 hcell
      have hw8 : IntKind.u8.wrap (y : Int) = ((UInt8.ofNat y).toNat : Int) := by rw [IntKind.wrap_u8]; exact ofNat_mod y
      have HC2 : Hid ((wr.setCell ⟨w.heap.size, k, none⟩ (.int .u8 ((UInt8.ofNat y).toNat : Int))).heap[w.heap.size]? = some (.cells (leCells x (k + 1)) 192 (0, 0))) := leCells_set wr _ x k hlt 192 HC.out y HY.out
      have HB2 : Hid (Below w.heap.size w (wr.setCell ⟨w.heap.size, k, none⟩ (.int .u8 ((UInt8.ofNat y).toNat : Int)))) := HB.out.setCell (p := ⟨w.heap.size, k, none⟩) (Nat.le_refl _) _
      have HY2 : Hid (y / 256 = x / 256 ^ (k + 1)) := by
        show _ = _
        rw [HY.out, Nat.pow_succ, Nat.div_div_eq_div_mul]
      clear hcell HC HB HY
      generalize ((UInt8.ofNat y).toNat : Int) = z at *
      go_wp2
      go_roundw
      case rel => exact ⟨k + 1, y / 256, by go_num, val_u32 (by omega), by omega, by omega, HY2, HC2, HB2⟩
      case measure => simp [intOf]; omega
    · obtain rfl : k = 4 := by omega
      have hcv := le4_conv wr w.heap.size x 192 HC.out
      go_wp2
      go_ret
      exact ⟨rfl, HB.out⟩

theorem own_news {w : World} {base : Nat} {v : Value} {bs : List UInt8} {g n c : Nat} (h : OwnBytes w base v bs) (hv : v = .slice (some ⟨g, 0, none⟩) n c) : ∀ j u, (bs.map byteV)[j]? = some u → w.cell? ((⟨g, 0, none⟩ : Addr).add j) = some u := by
  rcases h.2 with ⟨h', _⟩ | ⟨g', cap', cur, h', _, hbk, h1, h2, h3, h4⟩
  · rw [h'] at hv; cases hv
  · rw [h'] at hv
    injection hv with e1 e2 e3
    injection e1 with e1
    injection e1 with e1
    subst e1
    intro j u hu
    rw [show (⟨g', 0, none⟩ : Addr).add j = ⟨g', j, none⟩ from by unfold Addr.add; split <;> simp_all, Lib.cell_of_heap hbk]
    have hj := (List.getElem?_eq_some_iff.1 hu).1
    rw [← h4] at hu hj
    rw [List.length_take] at hj
    rw [List.getElem?_take_of_lt (by omega), Array.getElem?_toList] at hu
    exact hu
theorem own_form {w : World} {base : Nat} {v : Value} {bs : List UInt8} (h : OwnBytes w base v bs) (hb : 0 < bs.length) : ∃ g c, v = .slice (some ⟨g, 0, none⟩) bs.length c ∧ base ≤ g ∧ g < w.heap.size := by
  rcases h.2 with ⟨h', h0⟩ | ⟨g', cap', cur, h', hg, hbk, _⟩
  · omega
  · exact ⟨g', cap', h', hg, lt_of_block hbk⟩
theorem own_kept {w w' : World} {base B : Nat} {v : Value} {bs : List UInt8} (h : OwnBytes w base v bs) (hb : Below B w w') (hlt : ∀ g, v.ownBlock = some g → g < B) : OwnBytes w' base v bs := row_block h (fun g hg => hb.block g (hlt g hg))

set_option maxHeartbeats 4000000 in
/-- A body's record. -/
theorem wrap_any (g c1 : Nat) (body : List UInt8) (base : Nat) (w : World) (hb0 : 0 < body.length) (hbl : body.length ≤ 10000) (ho : OwnBytes w base (.slice (some ⟨g, 0, none⟩) body.length c1) body) (hg : g < w.heap.size) :
    Calls Tryz.prog 108 #[.slice (some ⟨g, 0, none⟩) body.length c1] w fun e w' => ∃ v, e = .returned v ∧ OwnBytes w' w.heap.size v (recL body) ∧ Below w.heap.size w w' := by
  have HO1 : Hid (OwnBytes w base (.slice (some ⟨g, 0, none⟩) body.length c1) body) := ho
  clear ho
  go_enter Tryz.func108, Tryz.ntmps108
  go_wp2_with fail
  refine (addnum_any (.slice none 0 0) [] body.length w.heap.size _ (World.ownsRow_nil _ _ _ _) (Nat.le_refl _) (by simp) (by omega)).mono ?_
  rintro e w2 ⟨v2, rfl, o2, b2, _⟩
  have hu := uN_length (n := body.length) (by omega)
  have HO2 : Hid (OwnBytes w2 w.heap.size v2 (uN body.length)) := by simpa [Hid] using o2
  have HB2 : Hid (OwnBytes w2 base (.slice (some ⟨g, 0, none⟩) body.length c1) body) := own_kept HO1.out b2 (fun q hq => by simp [Value.ownBlock] at hq; omega)
  have hs2 := b2.size
  obtain ⟨i0, hi, hz0, hz1, hz2⟩ := info_parts Tryz.infoByte
  clear o2 HO1
  go_wp2_with (first | (at_builtin; refine wpList_append_own _ rfl _ _ 48 rfl w.heap.size 5 i0 (.int .u8 0) 1 1 Tryz.underlying48 hi hz0 hz1 hz2 rfl (by decide) _ _ _ rfl HO2.out ⟨g, 0, none⟩ body.length c1 (body.map byteV) rfl ?c1 ?c2 ?c3 ?c4 ?c5 ?c6 ?_))
  case c1 => simp
  case c2 => exact own_news HB2.out rfl
  case c3 => intro u hu; obtain ⟨x, _, rfl⟩ := List.mem_map.1 hu; rfl
  case c4 => unfold maxLen; omega
  case c5 => omega
  case c6 => omega
  intro v3 w3 o3 hg3 _
  have HO3 : Hid (OwnBytes w3 w.heap.size v3 (uN body.length ++ body)) := by
    show OwnBytes w3 w.heap.size v3 (uN body.length ++ body)
    unfold OwnBytes; rw [List.map_append, List.length_append]; exact o3
  have B3 : Below w.heap.size w w3 := b2.grown hg3 hs2 (fun k hk => row_own_ge HO2.out hk)
  have hB3 : OwnBytes w3 base (.slice (some ⟨g, 0, none⟩) body.length c1) body := row_block HB2.out (fun q hq => hg3.block q (by simp [Value.ownBlock] at hq; omega) (fun e => by have := row_own_ge HO2.out e.symm; simp [Value.ownBlock] at hq; omega))
  have hcv := conv_own hB3 hb0
  have hs3 := B3.size
  have hLl : (uN body.length ++ body).length ≤ 20000 := by simp; omega
  have HREC : Hid (recL body = uN body.length ++ body ++ le4 (sumL body)) := rfl
  generalize hL : uN body.length ++ body = L at HO3 hLl HREC
  clear hL
  obtain ⟨ob, oc, hv3⟩ := HO3.out.slice
  rw [hv3] at HO3 ⊢
  clear o3 hg3 hB3 HB2 HO2 b2 hv3
  have HSUM : Hid (∀ W, Calls Tryz.prog 133 #[.string ⟨body.toArray⟩] W fun e w' => e = .returned (.string ⟨(le4 (sumL body)).toArray⟩) ∧ Below W.heap.size W w') := fun W => by
    have := sumof4_any ⟨body.toArray⟩ W (by rw [Lib.size_eq]; simp; omega)
    rw [show (⟨body.toArray⟩ : ByteArray).data.toList = body from by simp] at this
    exact this
  have hS4 : (⟨(le4 (sumL body)).toArray⟩ : ByteArray).size = 4 := rfl
  have HS4 : Hid ((⟨(le4 (sumL body)).toArray⟩ : ByteArray).data.toList = le4 (sumL body)) := by simp [Hid]
  generalize hS : (⟨(le4 (sumL body)).toArray⟩ : ByteArray) = S at *
  clear hS
  go_wp2_with fail
  refine (HSUM.out _).mono ?_
  rintro e w4 ⟨rfl, b4⟩
  have HO4 : Hid (OwnBytes w4 w.heap.size _ L) := row_block HO3.out (fun q hq => b4.block q (row_own_lt HO3.out hq))
  have B4 : Below w.heap.size w w4 := B3.trans (b4.mono hs3)
  have hs4 := B4.size
  clear HO3 hcv b4
  go_wp2_with (first | (at_builtin; refine Lib.wpList_append_own_string _ rfl _ _ 48 9 rfl w.heap.size 5 i0 Tryz.underlying48 Tryz.underlying9 hi hz0 hz1 hz2 _ _ _ rfl HO4.out S rfl ?d1 ?d2 ?d3 ?_))
  case d1 => unfold maxLen; omega
  case d2 => omega
  case d3 => omega
  intro v5 w5 o5 hg5 _
  have R1 : Below w.heap.size w w5 := B4.grown hg5 hs4 (fun k hk => row_own_ge HO4.out hk)
  have R2 : Hid (OwnBytes w5 w.heap.size v5 (recL body)) := by
    show OwnBytes w5 w.heap.size v5 (recL body)
    rw [HREC.out, ← HS4.out]
    unfold OwnBytes; rw [List.map_append, List.length_append, ← Lib.size_eq, hS4]; exact o5
  clear o5 hg5
  go_wp2
  go_ret
  exact ⟨v5, rfl, R2.out, R1⟩

set_option maxHeartbeats 4000000 in
/-- A record's bytes, of whatever kind: by its body. -/
theorem recbytes_of (T : TypeId) (x : Value) (K : FuncId) (body : List UInt8) (w : World) (hb0 : 0 < body.length) (hbl : body.length ≤ 10000)
    (hm : ∀ W : World, (method 313 T x "coffer/record.body").run Tryz.prog W = .ok (K, x) W) (hf : ∀ W : World, (callFunc K #[x]).run Tryz.prog W = .ok (.enter K #[x]) W)
    (hc : Calls Tryz.prog K #[x] w fun e w' => ∃ v, e = .returned v ∧ OwnBytes w' w.heap.size v body ∧ Below w.heap.size w w') :
    Calls Tryz.prog 84 #[.iface T x] w fun e w' => ∃ v, e = .returned v ∧ OwnBytes w' w.heap.size v (recL body) ∧ Below w.heap.size w w' := by
  have HC : Hid (Calls Tryz.prog K #[x] w fun e w' => ∃ v, e = .returned v ∧ OwnBytes w' w.heap.size v body ∧ Below w.heap.size w w') := hc
  clear hc
  go_enter Tryz.func84, Tryz.ntmps84
  go_wp2_with fail
  refine HC.out.mono ?_
  rintro e w1 ⟨v1, rfl, o1, b1⟩
  obtain ⟨g, c1, hv1, hg, hg1⟩ := own_form o1 hb0
  subst hv1
  have HO1 : Hid (OwnBytes w1 w.heap.size (.slice (some ⟨g, 0, none⟩) body.length c1) body) := o1
  have hs1 := b1.size
  clear o1 HC
  go_wp2_with fail
  refine (wrap_any g c1 body _ _ hb0 hbl HO1.out hg1).mono ?_
  rintro e w2 ⟨v2, rfl, o2, b2⟩
  have R1 : Below w.heap.size w w2 := b1.trans (b2.mono hs1)
  have R2 : Hid (OwnBytes w2 w.heap.size v2 (recL body)) := OwnBytes.wide o2 hs1
  clear o2 b2 HO1
  go_wp2
  go_ret
  exact ⟨v2, rfl, R2.out, R1⟩

theorem bodyF_len (c : Nat) (t : ByteArray) (hc : c < 128) (ht : t.size ≤ 2000) : 0 < (bodyF c t.data.toList).length ∧ (bodyF c t.data.toList).length ≤ 2010 := by
  have := uN_length (n := c) (by omega)
  have := Lib.size_eq t
  constructor <;> simp [bodyF] <;> omega
theorem bodyP_len (c n : Nat) (hc : c < 128) (hn : n < 34359738368) : 0 < (bodyP c n).length ∧ (bodyP c n).length ≤ 20 := by
  have := uN_length (n := c) (by omega)
  have := uN_length5 hn
  constructor <;> simp [bodyP] <;> omega
theorem bodyD_len (c : Nat) (xs : List DOp) (hc : c < 128) (hD : Delta xs 2000) : 0 < (bodyD c xs).length ∧ (bodyD c xs).length ≤ 5000 := by
  have h1 := uN_length (n := c) (by omega)
  have h2 := encTo_length hD xs.length
  have e : encTo xs xs.length = encL xs := by unfold encTo encL; rw [List.take_length]
  rw [e] at h2
  constructor <;> simp [bodyD] <;> omega
theorem recL_len {b : List UInt8} (h : b.length ≤ 10000) : (recL b).length ≤ b.length + 7 ∧ 4 < (recL b).length := by
  have h1 := uN_length (n := b.length) (by omega)
  have h2 := uN_pos b.length
  rw [recL_length]; omega

theorem recbytes_full (c : Nat) (t : ByteArray) (w : World) (hc : c < 128) (ht : t.size ≤ 2000) :
    Calls Tryz.prog 84 #[.iface 155 (.agg #[.int .u8 70, .int .i64 c, .string t])] w fun e w' => ∃ v, e = .returned v ∧ OwnBytes w' w.heap.size v (recL (bodyF c t.data.toList)) ∧ Below w.heap.size w w' :=
  recbytes_of _ _ 177 _ w (bodyF_len c t hc ht).1 (by have := (bodyF_len c t hc ht).2; omega) (fun W => by kernel_rfl) (fun W => by kernel_rfl) (fbody_any c t w hc ht)
theorem recbytes_prune (c n : Nat) (w : World) (hc : c < 128) (hn : n < 34359738368) :
    Calls Tryz.prog 84 #[.iface 147 (.agg #[.int .u8 80, .int .i64 c, .int .i64 n])] w fun e w' => ∃ v, e = .returned v ∧ OwnBytes w' w.heap.size v (recL (bodyP c n)) ∧ Below w.heap.size w w' :=
  recbytes_of _ _ 174 _ w (bodyP_len c n hc hn).1 (by have := (bodyP_len c n hc hn).2; omega) (fun W => by kernel_rfl) (fun W => by kernel_rfl) (pbody_any c n w hc hn)
theorem recbytes_diff (c : Nat) (v : Value) (xs : List DOp) (w : World) (hc : c < 128) (hv : View w v xs) (hD : Delta xs 2000) :
    Calls Tryz.prog 84 #[.iface 180 (.agg #[.int .u8 68, .int .i64 c, v])] w fun e w' => ∃ v, e = .returned v ∧ OwnBytes w' w.heap.size v (recL (bodyD c xs)) ∧ Below w.heap.size w w' :=
  recbytes_of _ _ 180 _ w (bodyD_len c xs hc hD).1 (by have := (bodyD_len c xs hc hD).2; omega) (fun W => by kernel_rfl) (fun W => by kernel_rfl) (dbody_any c v xs w hc hv hD)

set_option maxHeartbeats 1000000 in
theorem recfull_any (c : Nat) (t : ByteArray) (w : World) : Calls Tryz.prog 89 #[.int .i64 c, .string t] w fun e w' => e = .returned (.iface 155 (.agg #[.int .u8 70, .int .i64 c, .string t])) ∧ w = w' := by
  go_enter Tryz.func89, Tryz.ntmps89
  go_wp2
  go_ret
  exact ⟨rfl, rfl⟩
set_option maxHeartbeats 1000000 in
theorem recprune_any (c n : Nat) (w : World) : Calls Tryz.prog 85 #[.int .i64 c, .int .i64 n] w fun e w' => e = .returned (.iface 147 (.agg #[.int .u8 80, .int .i64 c, .int .i64 n])) ∧ w = w' := by
  go_enter Tryz.func85, Tryz.ntmps85
  go_wp2
  go_ret
  exact ⟨rfl, rfl⟩
set_option maxHeartbeats 1000000 in
theorem recdiff_any (c : Nat) (v : Value) (xs : List DOp) (w : World) (hv : View w v xs) : Calls Tryz.prog 115 #[.int .i64 c, v] w fun e w' => e = .returned (.iface 180 (.agg #[.int .u8 68, .int .i64 c, v])) ∧ w = w' := by
  obtain ⟨ao, c1, hv1⟩ := hv.slice
  rw [hv1]
  clear hv hv1
  go_enter Tryz.func115, Tryz.ntmps115
  go_wp2
  go_ret
  exact ⟨rfl, rfl⟩

set_option maxHeartbeats 2000000 in
/-- The record of a text behind the one ahead. -/
theorem sdiff_any (c : Nat) (b t : ByteArray) (w : World) (hc : c < 128) (hb : b.size ≤ 2000) (ht : t.size ≤ 2000) :
    Calls Tryz.prog 91 #[.int .i64 c, .string b, .string t] w fun e w' => ∃ v, e = .returned v ∧ OwnBytes w' w.heap.size v (recL (bodyD c (diffF b t))) ∧ Below w.heap.size w w' := by
  have HD : Hid (Delta (diffF b t) 2000) := delta_of (diffF_fault hb ht)
  go_enter Tryz.func91, Tryz.ntmps91
  go_wp2_with fail
  refine (diff_ok b t _ hb ht).mono ?_
  rintro e w1 ⟨v1, rfl, o1, b1⟩
  have HV : Hid (View w1 v1 (diffF b t)) := View.of_own o1
  obtain ⟨oo, oc, hvo⟩ := o1.slice
  subst hvo
  clear o1
  have hs1 := b1.size
  go_wp2_with fail
  refine (recdiff_any c _ _ _ HV.out).mono ?_
  rintro e w2 ⟨rfl, rfl⟩
  go_wp2_with fail
  refine (recbytes_diff c _ _ _ hc HV.out HD.out).mono ?_
  rintro e w3 ⟨v3, rfl, o3, b3⟩
  have R1 : Below w.heap.size w w3 := b1.trans (b3.mono hs1)
  have R2 : Hid (OwnBytes w3 w.heap.size v3 (recL (bodyD c (diffF b t)))) := OwnBytes.wide o3 hs1
  clear o3 b3
  go_wp2
  go_ret
  exact ⟨v3, rfl, R2.out, R1⟩

set_option maxHeartbeats 1000000 in
theorem shorter_any (a1 a2 : Option Addr) (n1 c1 n2 c2 : Nat) (w : World) : Calls Tryz.prog 90 #[.slice a1 n1 c1, .slice a2 n2 c2] w fun e w' => e = .returned (if n2 < n1 then .slice a2 n2 c2 else .slice a1 n1 c1) ∧ w = w' := by
  by_cases h : n2 < n1
  · rw [if_pos h]
    go_enter Tryz.func90, Tryz.ntmps90
    go_wp2
    go_ret
    exact ⟨rfl, rfl⟩
  · rw [if_neg h]
    go_enter Tryz.func90, Tryz.ntmps90
    go_wp2
    go_ret
    exact ⟨rfl, rfl⟩
end Go.Proofs.YtabpiaaknjcnkaaGreat
