/-
  The walks over package record: a body, and a record, are read.
-/
import Derived.Test.YtabpiaaknjcnkaaGreatVE
import Derived.Test.YtabpiaaknjcnkaaGreatD8
import Derived.Deep.DeepCutAuto
namespace Go.Proofs.YtabpiaaknjcnkaaGreat
open Go.RowKit
set_option linter.unusedVariables false
set_option linter.unusedSimpArgs false
set_option maxRecDepth 100000

/-- A record as it lies in memory. -/
def RecV (w : World) (base : Nat) (v : Value) (r : Rec) : Prop :=
  (r.L = 70 ∧ v = .iface 155 (.agg #[.int .u8 70, .int .i64 r.c, .string r.t])) ∨
  (r.L = 68 ∧ ∃ ao n cap, v = .iface 180 (.agg #[.int .u8 68, .int .i64 r.c, .slice ao n cap]) ∧ OwnOps w base (.slice ao n cap) r.xs) ∨
  (r.L = 66 ∧ v = .iface 191 (.agg #[.int .u8 66, .int .i64 r.c, .int .i64 r.n, .string r.t])) ∨
  (r.L = 80 ∧ v = .iface 147 (.agg #[.int .u8 80, .int .i64 r.c, .int .i64 r.n]))

theorem recOf_none {b : ByteArray} (h : b.size = 0) : recOf b = none := by
  unfold recOf
  have : b.data.toList = [] := List.eq_nil_of_length_eq_zero (by rw [← Lib.size_eq]; exact h)
  rw [this]; rfl
theorem recOf_num {b : ByteArray} {p : Nat} (h : numF b 1 = .inl p) : recOf b = none := by
  unfold recOf
  cases b.data.toList.head? with
  | none => rfl
  | some L => simp only; rw [h]
theorem recOf_chain {b : ByteArray} {c a : Nat} (h : numF b 1 = .inr (c, a)) (h3 : 3 < c) : recOf b = none := by
  unfold recOf
  cases b.data.toList.head? with
  | none => rfl
  | some L => simp only; rw [h]; simp only [if_pos h3]
theorem recOf_at {b : ByteArray} {L : UInt8} {c a : Nat} (hh : b.data.toList.head? = some L) (h : numF b 1 = .inr (c, a)) (h3 : ¬ 3 < c) : recOf b =
      if L = 70 then (if (b.extract a b.size).size ≤ 2000 then some ⟨70, c, 0, b.extract a b.size, []⟩ else none)
      else if L = 68 then (match decF (b.extract a b.size) with
        | .inl _ => none
        | .inr ops => some ⟨68, c, 0, ⟨#[]⟩, ops⟩)
      else if L = 66 ∨ L = 80 then (match numF b a with
        | .inl _ => none
        | .inr (n, nx) => if L = 66 then (if 0 < n ∧ (b.extract nx b.size).size ≤ 2000 then some ⟨66, c, n, b.extract nx b.size, []⟩ else none) else if nx = b.size then some ⟨80, c, n, ⟨#[]⟩, []⟩ else none)
      else none := by
  unfold recOf
  rw [hh]; simp only; rw [h]; simp only [if_neg h3]
  rfl
theorem letter_eq {L : UInt8} {k : Nat} (h : L.toNat = k) (hk : k < 256) : L = UInt8.ofNat k := UInt8.toNat_inj.1 (by rw [h, byte_toNat hk])

/-- No delta can be read there: the place that is told. -/
def ReadsBad (b : ByteArray) (a p : Nat) : Prop := numF b a = .inl p ∨ ∃ c st, numF b a = .inr (c, st) ∧ ((200 < c ∧ p = a) ∨ (¬ 200 < c ∧ decGo b c [] 0 st = .inl p))
theorem reads_cases (b : ByteArray) (a : Nat) : (∃ p, ReadsBad b a p) ∨ ∃ cnt st ops at', numF b a = .inr (cnt, st) ∧ ¬ 200 < cnt ∧ decGo b cnt [] 0 st = .inr (ops, at') := by
  cases h1 : numF b a with
  | inl p => exact .inl ⟨p, .inl h1⟩
  | inr v =>
    obtain ⟨c, st⟩ := v
    by_cases h2 : 200 < c
    · exact .inl ⟨a, .inr ⟨c, st, h1, .inl ⟨h2, rfl⟩⟩⟩
    · cases h3 : decGo b c [] 0 st with
      | inl p => exact .inl ⟨p, .inr ⟨c, st, h1, .inr ⟨h2, h3⟩⟩⟩
      | inr v => obtain ⟨ops, at'⟩ := v; exact .inr ⟨c, st, ops, at', rfl, h2, h3⟩
theorem reads_bad {b : ByteArray} {a p : Nat} (ha : a ≤ b.size) (h : ReadsBad b a p) : ∃ q, decF (b.extract a b.size) = .inl q := by
  rcases h with h | ⟨c, st, h1, h | h⟩
  · exact code_num ha h
  · exact code_many ha h1 h.1
  · exact code_go ha h1 h.2
theorem reads_same {b : ByteArray} {a p p' : Nat} (h : ReadsBad b a p) (h' : ReadsBad b a p') : p' = p := by
  rcases h with h | ⟨c, st, h1, h⟩ <;> rcases h' with h' | ⟨c', st', h1', h'⟩
  · rw [h] at h'; simpa using h'.symm
  · rw [h] at h1'; cases h1'
  · rw [h1] at h'; cases h'
  · rw [h1] at h1'
    simp only [Sum.inr.injEq, Prod.mk.injEq] at h1'
    obtain ⟨rfl, rfl⟩ := h1'
    rcases h with ⟨x, y⟩ | ⟨x, y⟩ <;> rcases h' with ⟨x', y'⟩ | ⟨x', y'⟩
    · omega
    · exact absurd x x'
    · exact absurd x' x
    · rw [y] at y'; simpa using y'.symm
theorem reads_not {b : ByteArray} {a p cnt st at' : Nat} {ops : List DOp} (g1 : numF b a = .inr (cnt, st)) (g2 : ¬ 200 < cnt) (g3 : decGo b cnt [] 0 st = .inr (ops, at')) : ¬ ReadsBad b a p := by
  rintro (h | ⟨c, st', h1, h⟩)
  · rw [g1] at h; cases h
  · rw [g1] at h1
    simp only [Sum.inr.injEq, Prod.mk.injEq] at h1
    obtain ⟨rfl, rfl⟩ := h1
    rcases h with ⟨x, _⟩ | ⟨_, x⟩
    · exact g2 x
    · rw [g3] at x; cases x

/-- What readBody does. -/
def BodyPost (b : ByteArray) (w : World) (e : Ending) (w' : World) : Prop :=
  ((∃ p, e = gaveUp p ∧ recOf b = none) ∨ ∃ r v, e = .returned v ∧ recOf b = some r ∧ RecV w' w.heap.size v r) ∧ Below w.heap.size w w'

set_option maxHeartbeats 8000000 in
theorem readbody_any (b : ByteArray) (w : World) (hs : b.size ≤ 100000) : Calls Tryz.prog 136 #[.string b] w (BodyPost b w) := by
  go_enter Tryz.func136, Tryz.ntmps136
  go_wp2_with fail
  refine (newreader_any b _).mono ?_
  rintro e w1 ⟨rfl, rfl⟩
  have HR1 : Hid (RAt (w.alloc (.cells #[.string b, .int .i64 0] 177)) w.heap.size b 0) := heap_alloc_new _ _
  have HB1 : Hid (Below w.heap.size w (w.alloc (.cells #[.string b, .int .i64 0] 177))) := (Below.refl _ _).alloc (Nat.le_refl _) _
  have hs1 : w.heap.size < (w.alloc (.cells #[.string b, .int .i64 0] 177)).heap.size := by simp
  generalize (w.alloc (.cells #[.string b, .int .i64 0] 177)) = W1 at *
  go_wp2_with fail
  refine (readhead_any w.heap.size b _ HR1.out hs).mono ?_
  rintro e w2 ⟨hcase, m2⟩
  have B2 : Below w.heap.size w w2 := HB1.out.trans (m2.below (Nat.le_refl _) (by omega))
  have hs2 := m2.size
  clear m2 HR1 HB1
  rcases hcase with ⟨p, rfl, hp⟩ | ⟨L, c, a, hh, hn, h3, rfl, hr2, ha⟩
  · have HN : Hid (recOf b = none) := by
      rcases hp with h | ⟨p', h⟩ | ⟨c, a, h, h'⟩
      · exact recOf_none h
      · exact recOf_num h
      · exact recOf_chain h h'
    clear hp
    go_wp2
    exact ⟨rfl, .inl ⟨p, rfl, HN.out⟩, B2⟩
  · have HAT := recOf_at hh hn h3
    have HA : Hid (recOf b = _) := HAT
    have hLt : L.toNat < 256 := L.toNat_lt
    have HR2 : Hid (RAt (w2.alloc (.cells #[.int .u8 L.toNat, .int .i64 c] 145)) w.heap.size b a) := hr2.kept ((Below.refl _ _).alloc (Nat.le_refl _) _)
    have HB2 : Hid (Below w.heap.size w (w2.alloc (.cells #[.int .u8 L.toNat, .int .i64 c] 145))) := B2.alloc (by omega) _
    have hb2 : (w2.alloc (.cells #[.int .u8 L.toNat, .int .i64 c] 145)).heap[w2.heap.size]? = some (.cells #[.int .u8 L.toNat, .int .i64 c] 145 (0, 0)) := heap_alloc_new _ _
    have k0 : (w2.alloc (.cells #[.int .u8 L.toNat, .int .i64 c] 145)).cell? ⟨w2.heap.size, 0, none⟩ = some (.int .u8 L.toNat) := by rw [Lib.cell_of_heap hb2]; rfl
    have k1 : (w2.alloc (.cells #[.int .u8 L.toNat, .int .i64 c] 145)).cell? ⟨w2.heap.size, 1, none⟩ = some (.int .i64 c) := by rw [Lib.cell_of_heap hb2]; rfl
    clear hh hn hr2 HAT B2 hb2
    obtain ⟨W3, hW3⟩ : ∃ W, W = w2.alloc (.cells #[.int .u8 L.toNat, .int .i64 c] 145) := ⟨_, rfl⟩
    go_upto_region 4 with fail
    rw [← hW3] at HR2 HB2 k0 k1 ⊢
    clear hW3
    by_cases hk : L.toNat = 70
    · have hI : (L.toNat : Int) = 70 := by omega
      rw [hI] at k0
      have HL : L = 70 := letter_eq hk (by decide)
      obtain ⟨t, ht⟩ : ∃ t, b.extract a b.size = t := ⟨_, rfl⟩
      by_cases hts : t.size ≤ 2000
      · have HREC : Hid (recOf b = some ⟨70, c, 0, t, []⟩) := by unfold Hid; rw [HA.out, if_pos HL, ht, if_pos hts]
        have HX : Hid (Calls Tryz.prog 149 #[.pointer (some ⟨w.heap.size, 0, none⟩), .agg #[.int .u8 70, .int .i64 c]] W3 fun e w' => ∃ t', e = .returned (.iface 155 (.agg #[.int .u8 70, .int .i64 c, .string t'])) ∧ (t' = t ∧ RAt w' w.heap.size b b.size) ∧ Below w.heap.size W3 w' ∧ Clear w.heap.size W3 w') := by rw [← hI]; exact readfull_ok w.heap.size b a w.heap.size L c W3 HR2.out (Nat.le_refl _) (fun t' w' => t' = t ∧ RAt w' w.heap.size b b.size) (fun W hW => (readtext_at w.heap.size b a W hW ha hs t ht).mono fun e w' ⟨h1, h2⟩ => by
          rcases h1 with ⟨x, _⟩ | ⟨_, x, y⟩
          · exact absurd hts x
          · exact ⟨t, x, ⟨rfl, y⟩, h2.frames (Nat.le_refl _) (Nat.le_of_lt (lt_of_block hW))⟩)
        clear ht HL hI hk
        go_wp2_with fail
        refine HX.out.mono ?_
        rintro e w4 ⟨t', rfl, hR, b4, c4⟩
        obtain ⟨rfl, r4⟩ := hR
        have HR4 : Hid (RAt w4 w.heap.size b b.size) := r4
        have B4 : Below w.heap.size w w4 := HB2.out.trans b4
        clear r4 b4 c4 HX
        go_wp2_with fail
        refine (end_none w.heap.size b b.size _ HR4.out (by omega) (by omega)).mono ?_
        rintro e w5 ⟨rfl, m5⟩
        have B5 : Below w.heap.size w w5 := B4.trans (m5.below (Nat.le_refl _) B4.size)

        clear m5
        go_wp2
        go_ret
        exact ⟨.inr ⟨⟨70, c, 0, t', []⟩, _, rfl, HREC.out, .inl ⟨rfl, rfl⟩⟩, B5⟩
      · have HREC : Hid (recOf b = none) := by unfold Hid; rw [HA.out, if_pos HL, ht, if_neg hts]
        have HX : Hid (Calls Tryz.prog 149 #[.pointer (some ⟨w.heap.size, 0, none⟩), .agg #[.int .u8 70, .int .i64 c]] W3 fun e w' => e = gaveUp a ∧ Below w.heap.size W3 w' ∧ Clear w.heap.size W3 w') := by rw [← hI]; exact readfull_bad w.heap.size b a w.heap.size L c a W3 HR2.out (Nat.le_refl _) (fun W hW => (readtext_at w.heap.size b a W hW ha hs t ht).mono fun e w' ⟨h1, h2⟩ => by
          rcases h1 with ⟨_, x⟩ | ⟨x, _⟩
          · exact ⟨x, h2.frames (Nat.le_refl _) (Nat.le_of_lt (lt_of_block hW))⟩
          · exact absurd x hts)
        clear ht HL hI hk
        go_wp2_with fail
        refine HX.out.mono ?_
        rintro e w4 ⟨rfl, b4, c4⟩
        go_wp2
        exact ⟨rfl, .inl ⟨_, rfl, HREC.out⟩, HB2.out.trans b4⟩
    have hk70 := hk
    clear hk
    by_cases hk : L.toNat = 68
    · have hI : (L.toNat : Int) = 68 := by omega
      rw [hI] at k0
      have HL : L = 68 := letter_eq hk (by decide)
      have HN70 : ¬ L = 70 := fun h => by rw [h] at hk; exact absurd hk (by decide)
      have HPR : Hid (recOf b = match decF (b.extract a b.size) with
            | .inl _ => none
            | .inr ops => some ⟨68, c, 0, ⟨#[]⟩, ops⟩) := by
        unfold Hid; rw [HA.out, if_neg HN70, if_pos HL]
      have HRD := fun W hW => read_any w.heap.size b a w.heap.size W hW (Nat.le_refl _) ha (by omega)
      have hgo : (∃ p, ReadsBad b a p) ∨ ∃ cnt st ops at', numF b a = .inr (cnt, st) ∧ ¬ 200 < cnt ∧ decGo b cnt [] 0 st = .inr (ops, at') := reads_cases b a
      rcases hgo with ⟨p, hbad⟩ | ⟨cnt, st, ops, at', g1, g2, g3⟩
      · have HREC : Hid (recOf b = none) := by
          obtain ⟨q', hq'⟩ := reads_bad ha hbad
          unfold Hid; rw [HPR.out, hq']
        have HX : Hid (Calls Tryz.prog 150 #[.pointer (some ⟨w.heap.size, 0, none⟩), .agg #[.int .u8 68, .int .i64 c]] W3 fun e w' => e = gaveUp p ∧ Below w.heap.size W3 w' ∧ Clear w.heap.size W3 w') := by rw [← hI]; exact readdiff_bad w.heap.size b a w.heap.size L c p W3 HR2.out (Nat.le_refl _) (fun W hW => (HRD W hW).mono fun e w' ⟨h1, h2, h3⟩ => by
          refine ⟨?_, h2, h3⟩
          rcases h1 with ⟨p', x, y⟩ | ⟨v, out, c', a', at', x, y1, y2, y3, _⟩
          · rw [x, reads_same hbad y]
          · exact absurd hbad (reads_not y1 y2 y3))
        clear HRD HL HN70 hbad hI hk
        go_wp2_with fail
        refine HX.out.mono ?_
        rintro e w4 ⟨rfl, b4, c4⟩
        go_wp2
        exact ⟨rfl, .inl ⟨_, rfl, HREC.out⟩, HB2.out.trans b4⟩
      · have hat' : at' ≤ b.size := by
          obtain ⟨_, _, x⟩ := numF_ok ha g1
          obtain ⟨_, _, _, _, _, y⟩ := (dec_back (s := b) cnt [] 0 st x (by omega)).2 ops at' g3
          exact y
        have HX : Hid (Calls Tryz.prog 150 #[.pointer (some ⟨w.heap.size, 0, none⟩), .agg #[.int .u8 68, .int .i64 c]] W3 fun e w' => ∃ x : Option Addr × Nat × Nat, e = .returned (.iface 180 (.agg #[.int .u8 68, .int .i64 c, .slice x.1 x.2.1 x.2.2])) ∧ (OwnOps w' w.heap.size (.slice x.1 x.2.1 x.2.2) ops ∧ RAt w' w.heap.size b at') ∧ Below w.heap.size W3 w' ∧ Clear w.heap.size W3 w') := by rw [← hI]; exact readdiff_ok w.heap.size b a w.heap.size L c W3 HR2.out (Nat.le_refl _) (fun x w' => OwnOps w' w.heap.size (.slice x.1 x.2.1 x.2.2) ops ∧ RAt w' w.heap.size b at') (fun W hW => (HRD W hW).mono fun e w' ⟨h1, h2, h3⟩ => by
          rcases h1 with ⟨p', x, y⟩ | ⟨v, out, c', a', at'', x, y1, y2, y3, y4, y5, _⟩
          · exact absurd y (reads_not g1 g2 g3)
          · rw [g1] at y1
            simp only [Sum.inr.injEq, Prod.mk.injEq] at y1
            obtain ⟨rfl, rfl⟩ := y1
            rw [g3] at y3
            simp only [Sum.inr.injEq, Prod.mk.injEq] at y3
            obtain ⟨rfl, rfl⟩ := y3
            obtain ⟨ao, cp, hv⟩ := y4.slice
            subst hv
            exact ⟨(ao, ops.length, cp), x, ⟨y4, y5⟩, h2, h3⟩)
        have HG : Hid (numF b a = .inr (cnt, st) ∧ ¬ 200 < cnt ∧ decGo b cnt [] 0 st = .inr (ops, at')) := ⟨g1, g2, g3⟩
        clear HRD HL HN70 g1 g2 g3 hI hk
        go_wp2_with fail
        refine HX.out.mono ?_
        rintro e w4 ⟨⟨ao, nn, cp⟩, rfl, hR, b4, c4⟩
        obtain ⟨o4, r4⟩ := hR
        simp only at o4
        have HO4 : Hid (OwnOps w4 w.heap.size (.slice ao nn cp) ops) := o4
        have HR4 : Hid (RAt w4 w.heap.size b at') := r4
        have B4 : Below w.heap.size w w4 := HB2.out.trans b4
        clear r4 b4 c4 HX o4
        by_cases hend : at' < b.size
        · have HREC : Hid (recOf b = none) := by
            obtain ⟨q', hq'⟩ := code_more ha HG.out.1 HG.out.2.2 hend
            unfold Hid; rw [HPR.out, hq']
          go_wp2_with fail
          refine (end_more w.heap.size b at' _ HR4.out hend).mono ?_
          rintro e w5 ⟨rfl, m5⟩
          have B5 : Below w.heap.size w w5 := B4.trans (m5.below (Nat.le_refl _) B4.size)
          go_wp2
          exact ⟨rfl, .inl ⟨_, rfl, HREC.out⟩, B5⟩
        · have HREC : Hid (recOf b = some ⟨68, c, 0, ⟨#[]⟩, ops⟩) := by
            unfold Hid; rw [HPR.out, code_fwd ha HG.out.1 HG.out.2.1 HG.out.2.2 (by omega)]
          go_wp2_with fail
          refine (end_none w.heap.size b at' _ HR4.out (by omega) (by omega)).mono ?_
          rintro e w5 ⟨rfl, m5⟩
          have B5 : Below w.heap.size w w5 := B4.trans (m5.below (Nat.le_refl _) B4.size)
          have HO5 : Hid (OwnOps w5 w.heap.size (.slice ao nn cp) ops) := OwnOps.moved HO4.out HR4.out m5
          clear m5
          go_wp2
          go_ret
          exact ⟨.inr ⟨⟨68, c, 0, ⟨#[]⟩, ops⟩, _, rfl, HREC.out, .inr (.inl ⟨rfl, ao, nn, cp, rfl, HO5.out⟩)⟩, B5⟩
    have hk68 := hk
    clear hk
    by_cases hk : L.toNat = 66
    · have hI : (L.toNat : Int) = 66 := by omega
      rw [hI] at k0
      have HL : L = 66 := letter_eq hk (by decide)
      have HN70 : ¬ L = 70 := fun h => by rw [h] at hk; exact absurd hk (by decide)
      have HN68 : ¬ L = 68 := fun h => by rw [h] at hk; exact absurd hk (by decide)
      have HPR : Hid (recOf b = match numF b a with
            | .inl _ => none
            | .inr (n, nx) => if 0 < n ∧ (b.extract nx b.size).size ≤ 2000 then some ⟨66, c, n, b.extract nx b.size, []⟩ else none) := by
        unfold Hid; rw [HA.out, if_neg HN70, if_neg HN68, if_pos (.inl HL)]; simp only [if_pos HL]
      have HX := readbeg_any w.heap.size b a w.heap.size L c W3 HR2.out (Nat.le_refl _) ha hs
      rw [hI] at HX
      have HXH : Hid (Calls Tryz.prog 151 #[.pointer (some ⟨w.heap.size, 0, none⟩), .agg #[.int .u8 66, .int .i64 c]] W3 _) := HX
      clear HL HN70 HN68 hI hk HX
      go_wp2_with fail
      refine HXH.out.mono ?_
      rintro e w4 ⟨hcase, b4, c4⟩
      have B4 : Below w.heap.size w w4 := HB2.out.trans b4
      clear b4 c4
      rcases hcase with ⟨p, rfl, hp⟩ | ⟨n, nx, hnum, hn0, hts, rfl, r4⟩
      · have HREC : Hid (recOf b = none) := by
          unfold Hid; rw [HPR.out]
          rcases hp with ⟨p', h⟩ | ⟨n, nx, h, h'⟩
          · rw [h]
          · rw [h]; simp only [if_neg h']
        clear hp
        go_wp2
        exact ⟨rfl, .inl ⟨_, rfl, HREC.out⟩, B4⟩
      · have HREC : Hid (recOf b = some ⟨66, c, n, b.extract nx b.size, []⟩) := by unfold Hid; rw [HPR.out, hnum]; simp only [if_pos (And.intro hn0 hts)]
        have HR4 : Hid (RAt w4 w.heap.size b b.size) := r4
        clear r4 hnum hts
        generalize b.extract nx b.size = t at *
        go_wp2_with fail
        refine (end_none w.heap.size b b.size _ HR4.out (by omega) (by omega)).mono ?_
        rintro e w5 ⟨rfl, m5⟩
        have B5 : Below w.heap.size w w5 := B4.trans (m5.below (Nat.le_refl _) B4.size)

        clear m5
        go_wp2
        go_ret
        exact ⟨.inr ⟨⟨66, c, n, t, []⟩, _, rfl, HREC.out, .inr (.inr (.inl ⟨rfl, rfl⟩))⟩, B5⟩
    have hk66 := hk
    clear hk
    by_cases hk : L.toNat = 80
    · have hI : (L.toNat : Int) = 80 := by omega
      rw [hI] at k0
      have HL : L = 80 := letter_eq hk (by decide)
      have HN70 : ¬ L = 70 := fun h => by rw [h] at hk; exact absurd hk (by decide)
      have HN68 : ¬ L = 68 := fun h => by rw [h] at hk; exact absurd hk (by decide)
      have HN66 : ¬ L = 66 := fun h => by rw [h] at hk; exact absurd hk (by decide)
      cases hnum : numF b a with
      | inl p =>
        have HREC : Hid (recOf b = none) := by unfold Hid; rw [HA.out, if_neg HN70, if_neg HN68, if_pos (.inr HL), hnum]
        have HX : Hid (Calls Tryz.prog 152 #[.pointer (some ⟨w.heap.size, 0, none⟩), .agg #[.int .u8 80, .int .i64 c]] W3 fun e w' => e = gaveUp p ∧ Below w.heap.size W3 w' ∧ Clear w.heap.size W3 w') := by rw [← hI]; exact readprune_bad w.heap.size b a w.heap.size L c p W3 HR2.out (Nat.le_refl _) (fun W hW => (number_any w.heap.size b a W hW ha (by omega)).mono fun e w' ⟨h1, h2⟩ => by
          rcases h1 with ⟨p', x, y⟩ | ⟨n, nx, x, _⟩
          · rw [hnum] at x; simp only [Sum.inl.injEq] at x; subst x; exact ⟨y, h2.frames (Nat.le_refl _) (Nat.le_of_lt (lt_of_block hW))⟩
          · rw [hnum] at x; cases x)
        clear hnum HL HN70 HN68 HN66 hI hk
        go_wp2_with fail
        refine HX.out.mono ?_
        rintro e w4 ⟨rfl, b4, c4⟩
        go_wp2
        exact ⟨rfl, .inl ⟨_, rfl, HREC.out⟩, HB2.out.trans b4⟩
      | inr v =>
        obtain ⟨n, nx⟩ := v
        obtain ⟨hn31, _, hnx⟩ := numF_ok ha hnum
        have HX : Hid (Calls Tryz.prog 152 #[.pointer (some ⟨w.heap.size, 0, none⟩), .agg #[.int .u8 80, .int .i64 c]] W3 fun e w' => ∃ m : Nat, e = .returned (.iface 147 (.agg #[.int .u8 80, .int .i64 c, .int .i64 m])) ∧ (m = n ∧ RAt w' w.heap.size b nx) ∧ Below w.heap.size W3 w' ∧ Clear w.heap.size W3 w') := by rw [← hI]; exact readprune_ok w.heap.size b a w.heap.size L c W3 HR2.out (Nat.le_refl _) (fun m w' => m = n ∧ RAt w' w.heap.size b nx) (fun W hW => (number_any w.heap.size b a W hW ha (by omega)).mono fun e w' ⟨h1, h2⟩ => by
          rcases h1 with ⟨p', x, y⟩ | ⟨n', nx', x, y, z⟩
          · rw [hnum] at x; cases x
          · rw [hnum] at x
            simp only [Sum.inr.injEq, Prod.mk.injEq] at x
            obtain ⟨rfl, rfl⟩ := x
            exact ⟨n, y, ⟨rfl, z⟩, h2.frames (Nat.le_refl _) (Nat.le_of_lt (lt_of_block hW))⟩)
        have HPR : Hid (recOf b = if nx = b.size then some ⟨80, c, n, ⟨#[]⟩, []⟩ else none) := by unfold Hid; rw [HA.out, if_neg HN70, if_neg HN68, if_pos (.inr HL), hnum]; simp only [if_neg HN66]
        clear hnum HL HN70 HN68 HN66 hI hk
        go_wp2_with fail
        refine HX.out.mono ?_
        rintro e w4 ⟨m, rfl, hR, b4, c4⟩
        obtain ⟨rfl, r4⟩ := hR
        have HR4 : Hid (RAt w4 w.heap.size b nx) := r4
        have B4 : Below w.heap.size w w4 := HB2.out.trans b4
        clear r4 b4 c4 HX
        by_cases hend : nx < b.size
        · have HREC : Hid (recOf b = none) := by unfold Hid; rw [HPR.out, if_neg (by omega)]
          go_wp2_with fail
          refine (end_more w.heap.size b nx _ HR4.out hend).mono ?_
          rintro e w5 ⟨rfl, m5⟩
          have B5 : Below w.heap.size w w5 := B4.trans (m5.below (Nat.le_refl _) B4.size)
          go_wp2
          exact ⟨rfl, .inl ⟨_, rfl, HREC.out⟩, B5⟩
        · have HREC : Hid (recOf b = some ⟨80, c, m, ⟨#[]⟩, []⟩) := by unfold Hid; rw [HPR.out, if_pos (by omega)]
          go_wp2_with fail
          refine (end_none w.heap.size b nx _ HR4.out (by omega) (by omega)).mono ?_
          rintro e w5 ⟨rfl, m5⟩
          have B5 : Below w.heap.size w w5 := B4.trans (m5.below (Nat.le_refl _) B4.size)

          clear m5
          go_wp2
          go_ret
          exact ⟨.inr ⟨⟨80, c, m, ⟨#[]⟩, []⟩, _, rfl, HREC.out, .inr (.inr (.inr ⟨rfl, rfl⟩))⟩, B5⟩
    have hk80 := hk
    clear hk
    have hb70 : ((L.toNat : Int) == 70) = false := beq_false_of_ne (by omega)
    have hb68 : ((L.toNat : Int) == 68) = false := beq_false_of_ne (by omega)
    have hb66 : ((L.toNat : Int) == 66) = false := beq_false_of_ne (by omega)
    have hb80 : ((L.toNat : Int) == 80) = false := beq_false_of_ne (by omega)
    have HREC : Hid (recOf b = none) := by
      unfold Hid
      rw [HA.out, if_neg (fun h => hk70 (by rw [h]; rfl)), if_neg (fun h => hk68 (by rw [h]; rfl)), if_neg (fun h => h.elim (fun h => hk66 (by rw [h]; rfl)) (fun h => hk80 (by rw [h]; rfl)))]
    go_wp2_with fail
    refine (giveup_any 0 _).mono ?_
    rintro e w4 ⟨rfl, rfl⟩
    go_wp2
    exact ⟨rfl, .inl ⟨0, rfl, HREC.out⟩, HB2.out⟩
end Go.Proofs.YtabpiaaknjcnkaaGreat
