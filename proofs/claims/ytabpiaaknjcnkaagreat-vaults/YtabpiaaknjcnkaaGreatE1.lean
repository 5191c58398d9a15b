/-
  The walks over AddNumber and addOp.
-/
import Derived.Test.YtabpiaaknjcnkaaGreatXPCPDPU
import Derived.Test.YtabpiaaknjcnkaaGreatC3
import Derived.LoopTactic
import Derived.Laws.BitsAllLaws
namespace Go.Proofs.YtabpiaaknjcnkaaGreat
open Go.RowKit
set_option linter.unusedVariables false
set_option linter.unusedSimpArgs false
set_option maxRecDepth 100000

def byteV (c : UInt8) : Value := .int .u8 c.toNat
/-- A row of bytes of the call's own. -/
def OwnBytes (w : World) (base : Nat) (v : Value) (bs : List UInt8) : Prop := w.ownsRow base 5 1 v bs.length (bs.map byteV)
theorem OwnBytes.kept {w w1 : World} {base : Nat} {v : Value} {bs : List UInt8} (h : OwnBytes w base v bs) (hb : Below w.heap.size w w1) : OwnBytes w1 base v bs := row_kept h hb
theorem OwnBytes.slice {w : World} {b : Nat} {v : Value} {bs : List UInt8} (h : OwnBytes w b v bs) : ∃ ao cap, v = .slice ao bs.length cap := by
  rcases h.2 with ⟨h, h0⟩ | ⟨g', cap', cur, h, _⟩
  · exact ⟨none, 0, by rw [h, h0]⟩
  · exact ⟨_, _, h⟩
theorem byte_cells (w : World) (z : Int) (c : UInt8) (h : z = c.toNat) : ∀ j u, [byteV c][j]? = some u → (w.alloc (.cells #[.int .u8 z] 5)).cell? ((⟨w.heap.size, 0, none⟩ : Addr).add j) = some u := by
  intro j u hu
  match j, hu with
  | 0, hu => simp [byteV] at hu; subst hu; simp [Addr.add, h]
  | j + 1, hu => simp at hu
theorem byte_one (c : UInt8) : ∀ u ∈ [byteV c], u.oneCell' = true := by
  intro u hu; simp at hu; subst hu; rfl

theorem or128 : ∀ a : Fin 256, (a.val ||| 128) = a.val % 128 + 128 := by decide
theorem u8_more (m : Nat) : bits BinOp.or IntKind.u8 ((m : Int) % 256) 128 = ((UInt8.ofNat (m % 128 + 128)).toNat : Int) := by
  have h1 := u8_or_nat (m % 256) 128 (by omega) (by omega)
  have h2 := or128 ⟨m % 256, by omega⟩
  simp only at h2
  rw [h2] at h1
  rw [byte_toNat (by omega)]
  have h3 : ((m % 256 : Nat) : Int) = (m : Int) % 256 := by omega
  rw [h3] at h1
  rw [show ((128 : Nat) : Int) = 128 from rfl] at h1
  rw [h1]; congr 2; omega
theorem u8_low {m : Nat} (h : m < 128) : ((m : Int) % 256) = ((UInt8.ofNat m).toNat : Int) := by rw [byte_toNat (by omega)]; omega
theorem own_byte {w w' : World} {base : Nat} {v' : Value} {bs : List UInt8} {c : UInt8} (h : w'.ownsRow base 5 1 v' (bs.length + 1) (bs.map byteV ++ [byteV c])) : OwnBytes w' base v' (bs ++ [c]) := by
  unfold OwnBytes; rw [List.map_append, List.length_append]; exact h

/-- Blocks that hold no bytes stay. -/
def Spares (w w' : World) : Prop := ∀ (q : Nat) (cs : Array Value) (T : TypeId) (fr : Nat × Nat), w.heap[q]? = some (.cells cs T fr) → T ≠ 5 → w'.heap[q]? = some (.cells cs T fr)
theorem Spares.refl (w : World) : Spares w w := fun _ _ _ _ h _ => h
theorem Spares.trans {a b c : World} (h1 : Spares a b) (h2 : Spares b c) : Spares a c := fun q cs T fr h hT => h2 q cs T fr (h1 q cs T fr h hT) hT
theorem lt_of_block {w : World} {q : Nat} {o : Obj} (h : w.heap[q]? = some o) : q < w.heap.size := by
  rcases Nat.lt_or_ge q w.heap.size with h' | h'
  · exact h'
  · simp [Array.getElem?_eq_none h'] at h
theorem Spares.of_below {w w' : World} (h : Below w.heap.size w w') : Spares w w' := fun q cs T fr hq _ => (h.block q (lt_of_block hq)).trans hq
theorem Spares.grown {w w' : World} {base : Nat} {v : Value} {bs : List UInt8} (h : OwnBytes w base v bs) (hg : w.grownBy w' v.ownBlock) : Spares w w' := by
  intro q cs T fr hq hT
  refine (hg.block q (lt_of_block hq) (fun e => ?_)).trans hq
  rcases h.2 with ⟨hv, _⟩ | ⟨g, cap, cur, hv, _, hb, _⟩
  · rw [hv] at e; cases e
  · rw [hv] at e; cases e
    rw [hb] at hq
    cases hq
    exact hT rfl

set_option maxHeartbeats 2000000 in
theorem addnum_any (v : Value) (bs : List UInt8) (n base : Nat) (w : World) (hown : OwnBytes w base v bs) (hbase : base ≤ w.heap.size) (hl : bs.length ≤ 100000) (hn : n < 34359738368) :
    Calls Tryz.prog 132 #[v, .int .i64 n] w fun e w' => ∃ v', e = .returned v' ∧ OwnBytes w' base v' (bs ++ uN n) ∧ Below base w w' ∧ Spares w w' := by
  obtain ⟨i0, hi, hz0, hz1, hz2⟩ := info_parts Tryz.infoByte
  go_enter Tryz.func132, Tryz.ntmps132
  go_wp2
  go_loopw [0, 1] (fun v' c wr => ∃ (m : Nat) (pre : List UInt8), c = .int .i64 m ∧ m ≤ n ∧ Hid (uN n = pre ++ uN m) ∧ Hid (OwnBytes wr base v' (bs ++ pre)) ∧ Below base w wr ∧ Hid (Spares w wr)) (fun _ c _ => (intOf c).toNat)
  case atStart => exact ⟨n, [], rfl, by omega, rfl, by simpa [Hid] using hown, Below.refl _ _, Spares.refl _⟩
  case round =>
    obtain ⟨m, pre, rfl, hm, HU, HO, hb, HS⟩ := hrel
    have hsz := hb.size
    have hlen : (bs ++ pre).length ≤ 3000000 := by
      have h1 := uN_length5 hn
      rw [HU.out] at h1
      simp at h1 ⊢; omega
    generalize hL : bs ++ pre = L at *
    have HL : Hid (bs ++ pre = L) := hL
    clear hL
    by_cases hge : 128 ≤ m
    · obtain ⟨c, hc⟩ : ∃ c, c = UInt8.ofNat (m % 128 + 128) := ⟨_, rfl⟩
      have HC : Hid (c = UInt8.ofNat (m % 128 + 128)) := hc
      clear hc
      go_wp2_with (first | (at_builtin; refine wpList_append_own _ rfl _ _ 48 rfl base 5 i0 (.int .u8 0) 1 1 Tryz.underlying48 hi hz0 hz1 hz2 rfl (by decide) _ _ _ rfl (HO.out.alloc _) ⟨wr.heap.size, 0, none⟩ 1 1 [byteV c] rfl rfl ?c2 (byte_one _) ?c3 ?c4 ?c5 ?_))
      case c2 => exact byte_cells wr _ _ (by rw [HC.out]; exact u8_more m)
      case c3 => unfold maxLen; omega
      case c4 => omega
      case c5 => simp; omega
      intro v' w2 ho2 hgrow _
      have HO2 : Hid (OwnBytes w2 base v' (bs ++ (pre ++ [UInt8.ofNat (m % 128 + 128)]))) := by
        show OwnBytes w2 base v' (bs ++ (pre ++ [UInt8.ofNat (m % 128 + 128)]))
        rw [← List.append_assoc, HL.out, ← HC.out]; exact own_byte (w := w) ho2
      have R2 : Below base w w2 := ((hb.alloc (by omega) _).grown hgrow (by simp; omega) (fun k hk => row_own_ge HO.out hk))
      have HU2 : Hid (uN n = (pre ++ [UInt8.ofNat (m % 128 + 128)]) ++ uN (m / 128)) := by
        show uN n = _
        rw [HU.out, uN_ge (by omega)]; simp
      have HS2 : Hid (Spares w w2) := (HS.out.trans (Spares.of_below ((Below.refl _ _).alloc (Nat.le_refl _) _))).trans (Spares.grown (HO.out.alloc _) hgrow)
      clear ho2 hgrow
      go_wp2
      go_roundw
      case rel => exact ⟨m / 128, pre ++ [UInt8.ofNat (m % 128 + 128)], by go_num, by omega, HU2, HO2, R2, HS2⟩
      case measure => simp [intOf]; omega
    · obtain ⟨c, hc⟩ : ∃ c, c = UInt8.ofNat m := ⟨_, rfl⟩
      have HC : Hid (c = UInt8.ofNat m) := hc
      clear hc
      go_wp2_with (first | (at_builtin; refine wpList_append_own _ rfl _ _ 48 rfl base 5 i0 (.int .u8 0) 1 1 Tryz.underlying48 hi hz0 hz1 hz2 rfl (by decide) _ _ _ rfl (HO.out.alloc _) ⟨wr.heap.size, 0, none⟩ 1 1 [byteV c] rfl rfl ?c2 (byte_one _) ?c3 ?c4 ?c5 ?_))
      case c2 => exact byte_cells wr _ _ (by rw [HC.out, byte_toNat (by omega)])
      case c3 => unfold maxLen; omega
      case c4 => omega
      case c5 => simp; omega
      intro v' w2 ho2 hgrow _
      have HO2 : Hid (OwnBytes w2 base v' (bs ++ uN n)) := by
        show OwnBytes w2 base v' (bs ++ uN n)
        rw [HU.out, uN_lt (by omega), ← List.append_assoc, HL.out, ← HC.out]; exact own_byte (w := w) ho2
      have R2 : Below base w w2 := ((hb.alloc (by omega) _).grown hgrow (by simp; omega) (fun k hk => row_own_ge HO.out hk))
      have HS2 : Hid (Spares w w2) := (HS.out.trans (Spares.of_below ((Below.refl _ _).alloc (Nat.le_refl _) _))).trans (Spares.grown (HO.out.alloc _) hgrow)
      clear ho2 hgrow
      go_wp2
      go_ret
      exact ⟨v', rfl, HO2.out, R2, HS2.out⟩

theorem addnum_int (v : Value) (bs : List UInt8) (z : Int) (base : Nat) (w : World) (hown : OwnBytes w base v bs) (hbase : base ≤ w.heap.size) (hl : bs.length ≤ 100000) (h0 : 0 ≤ z) (hn : z < 34359738368) :
    Calls Tryz.prog 132 #[v, .int .i64 z] w fun e w' => ∃ v', e = .returned v' ∧ OwnBytes w' base v' (bs ++ uN z.toNat) ∧ Below base w w' ∧ Spares w w' := by
  obtain ⟨n, rfl⟩ : ∃ n : Nat, z = n := ⟨z.toNat, by omega⟩
  exact addnum_any v bs n base w hown hbase hl (by omega)

set_option maxHeartbeats 2000000 in
theorem addop_any (v : Value) (bs : List UInt8) (f l : Int) (t : ByteArray) (base : Nat) (w : World) (hown : OwnBytes w base v bs) (hbase : base ≤ w.heap.size) (hl : bs.length ≤ 90000) (hn : Nice ⟨f, l, t⟩) (hf : f ≤ 2000) (hl2 : l ≤ 2000) (ht : t.size ≤ 2000) :
    Calls Tryz.prog 144 #[v, .agg #[.int .i64 f, .int .i64 l, .string t]] w fun e w' => ∃ v', e = .returned v' ∧ OwnBytes w' base v' (bs ++ encOp ⟨f, l, t⟩) ∧ Below base w w' ∧ Spares w w' := by
  obtain ⟨i0, hi, hz0, hz1, hz2⟩ := info_parts Tryz.infoByte
  have h0 : 0 ≤ f ∧ 0 ≤ l := by rcases hn with ⟨a, b, _⟩ | ⟨a, b, _⟩ <;> simp only at a b <;> omega
  obtain ⟨hf0, hl0⟩ := h0
  have HO : Hid (OwnBytes w base v bs) := hown
  clear hn hown
  by_cases h : 0 < l
  · have HE : Hid (encOp ⟨f, l, t⟩ = uN (2 * l + 1).toNat ++ uN f.toNat) := by show _ = _; rw [encOp, if_pos h]
    have hd : decide (0 < l) = true := by simpa using h
    go_enter Tryz.func144, Tryz.ntmps144
    go_wp2_with fail
    refine (isCopy_any f l t _).mono ?_
    rintro e w4 ⟨rfl, hb4⟩
    rw [hd]
    have R1 : Below base w w4 := ((Below.refl base w).alloc hbase _).trans (hb4.mono (by simp; omega))
    have ob4 : w4.heap[w.heap.size]? = some (.cells #[.int .i64 f, .int .i64 l, .string t] 63 (0, 0)) := (hb4.block _ (by simp)).trans (heap_alloc_new _ _)
    have k0 : w4.cell? ⟨w.heap.size, 0, none⟩ = some (.int .i64 f) := by rw [Lib.cell_of_heap ob4]; rfl
    have k1 : w4.cell? ⟨w.heap.size, 1, none⟩ = some (.int .i64 l) := by rw [Lib.cell_of_heap ob4]; rfl
    have HP4 : Hid (Spares w w4) := (Spares.of_below ((Below.refl _ _).alloc (Nat.le_refl _) _)).trans (Spares.of_below hb4)
    have hs4 : w.heap.size < w4.heap.size := by have := hb4.size; simp at this; omega
    have HO4 : Hid (OwnBytes w4 base v bs) := OwnBytes.kept (HO.out.alloc _) hb4
    clear hb4 HO hd
    go_wp2_with fail
    refine (addnum_int v bs (2 * l + 1) base _ HO4.out (by omega) (by omega) (by omega) (by omega)).mono ?_
    rintro e w5 ⟨v5, rfl, ho5, hb5, hp5⟩
    have ob : w5.heap[w.heap.size]? = some (.cells #[.int .i64 f, .int .i64 l, .string t] 63 (0, 0)) := hp5 _ _ _ _ ob4 (by decide)
    have j0 : w5.cell? ⟨w.heap.size, 0, none⟩ = some (.int .i64 f) := by rw [Lib.cell_of_heap ob]; rfl
    have HO5 : Hid (OwnBytes w5 base v5 (bs ++ uN (2 * l + 1).toNat)) := ho5
    have R2 : Below base w w5 := R1.trans hb5
    have HP : Hid (Spares w w5) := HP4.out.trans hp5
    have hul : (bs ++ uN (2 * l + 1).toNat).length ≤ 100000 := by have := uN_length (n := (2 * l + 1).toNat) (by omega); simp; omega
    have hs5 := R2.size
    clear ob ob4 ho5 hb5 hp5 HO4 HP4 R1 k0 k1
    go_wp2_with fail
    refine (addnum_int v5 _ f base _ HO5.out (by omega) hul (by omega) (by omega)).mono ?_
    rintro e w6 ⟨v6, rfl, ho6, hb6, hp6⟩
    have HO6 : Hid (OwnBytes w6 base v6 (bs ++ encOp ⟨f, l, t⟩)) := by
      show OwnBytes w6 base v6 (bs ++ encOp ⟨f, l, t⟩)
      rw [HE.out, ← List.append_assoc]; exact ho6
    have R3 : Below base w w6 := R2.trans hb6
    have HP6 : Hid (Spares w w6) := HP.out.trans hp6
    clear ho6 hb6 hp6 HO5
    go_wp2
    go_ret
    exact ⟨v6, rfl, HO6.out, R3, HP6.out⟩
  · have HE : Hid (encOp ⟨f, l, t⟩ = uN (2 * t.size) ++ t.data.toList) := by show _ = _; rw [encOp, if_neg h]
    have hd : decide (0 < l) = false := by simpa using h
    go_enter Tryz.func144, Tryz.ntmps144
    go_wp2_with fail
    refine (isCopy_any f l t _).mono ?_
    rintro e w4 ⟨rfl, hb4⟩
    rw [hd]
    have R1 : Below base w w4 := ((Below.refl base w).alloc hbase _).trans (hb4.mono (by simp; omega))
    have ob4 : w4.heap[w.heap.size]? = some (.cells #[.int .i64 f, .int .i64 l, .string t] 63 (0, 0)) := (hb4.block _ (by simp)).trans (heap_alloc_new _ _)
    have k2 : w4.cell? ⟨w.heap.size, 2, none⟩ = some (.string t) := by rw [Lib.cell_of_heap ob4]; rfl
    have hs4 : w.heap.size < w4.heap.size := by have := hb4.size; simp at this; omega
    have HO4 : Hid (OwnBytes w4 base v bs) := OwnBytes.kept (HO.out.alloc _) hb4
    have HP4 : Hid (Spares w w4) := (Spares.of_below ((Below.refl _ _).alloc (Nat.le_refl _) _)).trans (Spares.of_below hb4)
    clear hb4 HO hd
    go_wp2_with fail
    refine (addnum_any v bs (2 * t.size) base _ HO4.out (by omega) (by omega) (by omega)).mono ?_
    rintro e w5 ⟨v5, rfl, ho5, hb5, hp5⟩
    have ob : w5.heap[w.heap.size]? = some (.cells #[.int .i64 f, .int .i64 l, .string t] 63 (0, 0)) := hp5 _ _ _ _ ob4 (by decide)
    have j2 : w5.cell? ⟨w.heap.size, 2, none⟩ = some (.string t) := by rw [Lib.cell_of_heap ob]; rfl
    have R2 : Below base w w5 := R1.trans hb5
    have HP : Hid (Spares w w5) := HP4.out.trans hp5
    have hul : (bs ++ uN (2 * t.size)).length ≤ 100000 := by have := uN_length (n := 2 * t.size) (by omega); simp; omega
    generalize hL : bs ++ uN (2 * t.size) = L at *
    have HL : Hid (bs ++ uN (2 * t.size) = L) := hL
    have HO5 : Hid (OwnBytes w5 base v5 L) := ho5
    have hs5 := R2.size
    clear ob ob4 ho5 hb5 hp5 HO4 HP4 R1 k2 hL
    go_wp2_with (first | (at_builtin; refine Lib.wpList_append_own_string _ rfl _ _ 48 9 rfl base 5 i0 Tryz.underlying48 Tryz.underlying9 hi hz0 hz1 hz2 _ _ _ rfl HO5.out t rfl ?c3 ?c4 ?c5 ?_))
    case c3 => unfold maxLen; omega
    case c4 => omega
    case c5 => omega
    intro v6 w6 ho6 hg6 _
    have HO6 : Hid (OwnBytes w6 base v6 (bs ++ encOp ⟨f, l, t⟩)) := by
      show OwnBytes w6 base v6 (bs ++ encOp ⟨f, l, t⟩)
      rw [HE.out, ← List.append_assoc, HL.out]
      unfold OwnBytes
      rw [List.map_append, List.length_append, ← Lib.size_eq]
      exact ho6
    have R3 : Below base w w6 := R2.grown hg6 (by omega) (fun k hk => row_own_ge HO5.out hk)
    have HP6 : Hid (Spares w w6) := HP.out.trans (Spares.grown HO5.out hg6)
    clear ho6 hg6 HO5
    go_wp2
    go_ret
    exact ⟨v6, rfl, HO6.out, R3, HP6.out⟩
end Go.Proofs.YtabpiaaknjcnkaaGreat
