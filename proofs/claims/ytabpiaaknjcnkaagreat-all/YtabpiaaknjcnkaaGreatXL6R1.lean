/- The texts L6, R1, one behind the other. -/
import Derived.Test.YtabpiaaknjcnkaaGreatL5
import Derived.LoopTactic
import Derived.Test.YtabpiaaknjcnkaaGreatXP3WAWCL1L2
import Derived.Test.YtabpiaaknjcnkaaGreatXP1W1W3W4
import Derived.Deep.QuietTactic
import Derived.BigQuiet
/-
  The book is looked at: every list reads as its owner wrote it.
-/
namespace Go.Proofs.YtabpiaaknjcnkaaGreat
open Go.RowKit
set_option linter.unusedVariables false
set_option linter.unusedSimpArgs false
set_option maxRecDepth 100000

theorem entry_get (es : List Entry) (i : Nat) (e : Entry) (h : es[i]? = some e) :
    (entryCells es)[i * 5]? = some e.l ∧ (entryCells es)[i * 5 + 1]? = some e.a ∧ (entryCells es)[i * 5 + 2]? = some e.b ∧ (entryCells es)[i * 5 + 3]? = some e.c ∧ (entryCells es)[i * 5 + 4]? = some (.int .i64 e.m) := by
  induction es generalizing i with
  | nil => simp at h
  | cons x r ih =>
    have hx : entryCells (x :: r) = x.l :: x.a :: x.b :: x.c :: .int .i64 x.m :: entryCells r := by simp [entryCells]
    cases i with
    | zero =>
      obtain rfl : x = e := by simpa using h
      rw [hx]; simp
    | succ i =>
      have := ih i (by simpa using h)
      rw [hx, show (i + 1) * 5 = i * 5 + 5 from by omega, show i * 5 + 5 + 1 = i * 5 + 1 + 5 from by omega, show i * 5 + 5 + 2 = i * 5 + 2 + 5 from by omega, show i * 5 + 5 + 3 = i * 5 + 3 + 5 from by omega, show i * 5 + 5 + 4 = i * 5 + 4 + 5 from by omega]
      simpa using this

theorem slice_n {w : World} {b : Nat} {v : Value} {n : Nat} {m : Int} (h : OwnOps w b v (marks n m)) : ∃ ao cap, v = .slice ao n cap := by
  obtain ⟨ao, cap, h⟩ := h.slice
  rw [show (marks n m).length = n from List.length_replicate] at h
  exact ⟨ao, cap, h⟩

/-- A list of marks reads full, whatever came behind it. -/
theorem full_kept {w wr : World} {v : Value} {n : Nat} {m : Int} (h : OwnOps w 0 v (marks n m)) (hb : Below w.heap.size w wr) (hn : n ≤ 1000000) :
    Calls Tryz.prog 41 #[v, .int .i64 m] wr fun e w' => e = .returned (.bool true) ∧ wr = w' :=
  full_any (by omega) ((View.of_own h).kept hb)

set_option maxHeartbeats 2000000 in
theorem looks_any (w : World) (B0 Wb : Nat) (xv yv bv : Value) (es : List Entry) (S : Nat → Prop) (hbook : BookAt w B0 Wb xv yv bv es S) (hes : es.length ≤ 1300000000000) (hB : Wb < w.heap.size) :
    Calls Tryz.prog 18 #[.pointer (some ⟨Wb, 2, none⟩)] w fun e w' => e = .returned (.bool true) ∧ Below w.heap.size w w' := by
  obtain ⟨ao, bn, bc, hbv, hbn⟩ : ∃ ao n c, bv = .slice ao n c ∧ n = es.length := by
    rcases hbook.row.2 with ⟨h, h0⟩ | ⟨g', cap', cur, h, _⟩
    · exact ⟨_, _, _, h, h0.symm⟩
    · exact ⟨_, _, _, h, rfl⟩
  subst hbn
  have hwb : w.cell? ⟨Wb, 2, none⟩ = some (.slice ao es.length bc) := by rw [Lib.cell_of_heap hbook.blk, hbv]; rfl
  have hWlt : Wb < w.heap.size := hB
  have HBK : Hid (BookAt w B0 Wb xv yv bv es S) := hbook
  clear hbook
  go_enter Tryz.func18, Tryz.ntmps18
  go_wp2
  go_loopw [3] (fun c wr => ∃ k : Nat, k ≤ es.length ∧ c = .int .i64 k ∧ Below w.heap.size w wr) (fun c _ => es.length + 1 - (intOf c).toNat)
  case atStart => exact ⟨0, by omega, rfl, Below.refl _ _⟩
  case round =>
    obtain ⟨k, hk, rfl, hb⟩ := hrel
    have hsz := hb.size
    have hwr : wr.cell? ⟨Wb, 2, none⟩ = some (.slice ao es.length bc) := (hb.cell (p := ⟨Wb, 2, none⟩) hWlt).trans hwb
    by_cases hlt : k < es.length
    · obtain ⟨e, he⟩ : ∃ e, es[k]? = some e := ⟨es[k], by simp [hlt]⟩
      have hm := HBK.out.each e (List.mem_of_getElem? he)
      obtain ⟨g0, g1, g2, g3, g4⟩ := entry_get es k e he
      obtain ⟨g, hao, hgl⟩ : ∃ g, ao = some ⟨g, 0, none⟩ ∧ g < w.heap.size := by
        rcases HBK.out.row.2 with ⟨h, h0⟩ | ⟨g, cap', cur, h, _, hbk, _⟩
        · omega
        · rw [hbv] at h
          injection h with h1 h2 h3
          refine ⟨g, h1, ?_⟩
          rcases Nat.lt_or_ge g w.heap.size with h' | h'
          · exact h'
          · simp [Array.getElem?_eq_none h'] at hbk
      subst hao
      have hcell : ∀ j u, (entryCells es)[j]? = some u → wr.cell? ⟨g, j, none⟩ = some u := by
        intro j u hu
        have h1 := HBK.out.row
        rw [hbv] at h1
        have h2 := World.ownsRow.cells h1 (g := g) rfl j u hu
        have hadd : (⟨g, 0, none⟩ : Addr).add j = ⟨g, j, none⟩ := by unfold Addr.add; split <;> simp_all
        rw [hadd] at h2
        exact (hb.cell (p := ⟨g, j, none⟩) hgl).trans h2
      have d0 := hcell _ _ g0
      have d1 := hcell _ _ g1
      have d2 := hcell _ _ g2
      have d3 := hcell _ _ g3
      have d4 := hcell _ _ g4
      have HM : Hid (Marked w e S) := hm
      obtain ⟨l0, l1, hl⟩ := slice_n hm.l
      obtain ⟨q0, q1, hq⟩ := slice_n hm.a
      obtain ⟨r0, r1, hr⟩ := slice_n hm.b
      obtain ⟨s0, s1, hs⟩ := slice_n hm.c
      have hn1 := hm.n
      have HF : Hid (∀ W, Below w.heap.size w W → Calls Tryz.prog 41 #[e.l, .int .i64 e.m] W fun x w' => x = .returned (.bool true) ∧ W = w') := fun W h => full_kept hm.l h (by omega)
      have HG : Hid (∀ W, Below w.heap.size w W → Calls Tryz.prog 41 #[e.a, .int .i64 e.m] W fun x w' => x = .returned (.bool true) ∧ W = w') := fun W h => full_kept hm.a h (by omega)
      have HH : Hid (∀ W, Below w.heap.size w W → Calls Tryz.prog 41 #[e.b, .int .i64 e.m] W fun x w' => x = .returned (.bool true) ∧ W = w') := fun W h => full_kept hm.b h (by omega)
      have HI : Hid (∀ W, Below w.heap.size w W → Calls Tryz.prog 41 #[e.c, .int .i64 e.m] W fun x w' => x = .returned (.bool true) ∧ W = w') := fun W h => full_kept hm.c h (by omega)
      rw [hl] at d0 HF
      rw [hq] at d1 HG
      rw [hr] at d2 HH
      rw [hs] at d3 HI
      have hgw : g < wr.heap.size := by omega
      clear hcell g0 g1 g2 g3 g4 hm he HM hl hq hr hs
      generalize e.m = m at *
      generalize e.n = n at *
      have hb2 : Below w.heap.size w (wr.alloc (.cells #[.slice l0 n l1, .slice q0 (n + 1) q1, .slice r0 (n + 2) r1, .slice s0 (n + 3) s1, .int .i64 m] 89)) := hb.alloc (by omega) _
      replace HF := HF.out _ hb2
      replace HG := HG.out _ hb2
      replace HH := HH.out _ hb2
      replace HI := HI.out _ hb2
      go_wp2_with fail
      refine HF.mono ?_
      rintro x1 w1 ⟨rfl, rfl⟩
      go_wp2_with fail
      refine HG.mono ?_
      rintro x1 w1 ⟨rfl, rfl⟩
      go_wp2_with fail
      refine HH.mono ?_
      rintro x1 w1 ⟨rfl, rfl⟩
      go_wp2_with fail
      refine HI.mono ?_
      rintro x1 w1 ⟨rfl, rfl⟩
      go_wp2
      go_roundw
      case rel => exact ⟨k + 1, by omega, by go_num, hb2⟩
      case measure => simp [intOf]; omega
    · go_wp2
      go_ret
      exact ⟨rfl, hb⟩
end Go.Proofs.YtabpiaaknjcnkaaGreat

/-
  The document's answer: find, made.
-/
namespace Go.Proofs.YtabpiaaknjcnkaaGreat
open Go.RowKit
set_option linter.unusedVariables false
set_option linter.unusedSimpArgs false
set_option maxRecDepth 100000

theorem bytes_app (a b : ByteArray) : (a ++ b).data.toList = a.data.toList ++ b.data.toList := by
  rw [ByteArray.data_append, Array.toList_append]

def foundI (base key : List UInt8) : Int := match findFirst base key with | some j => (j : Int) | none => -1

set_option maxHeartbeats 1000000 in
theorem find_any (s t : ByteArray) (w : World) (hs : s.size ≤ 100000) (ht : t.size = 8) :
    Calls Tryz.prog 94 #[.string s, .string t] w fun e w' => e = .returned (.int .i64 (foundI s.data.toList t.data.toList)) ∧ w = w' := by
  have HT : Hid (t.size = 8) := ht
  have ht8 : (t.size : Int) = 8 := by omega
  have hle : t.size ≤ 8 := by omega
  have hge : 8 ≤ t.size := by omega
  clear ht ht8
  go_enter Tryz.func94, Tryz.ntmps94
  go_wp2
  go_loop [5] (fun i => ∃ k : Nat, k ≤ s.size + 1 ∧ i = .int .i64 k ∧ Hid (∀ j, j < k → ¬ occ s.data.toList t.data.toList j)) (fun i => s.size + 1 - (intOf i).toNat)
  case atStart => exact ⟨0, by omega, rfl, fun j hj => by omega⟩
  case round =>
    obtain ⟨k, hk, rfl, HK⟩ := hrel
    by_cases hlt : k + t.size ≤ s.size
    · have HE : Hid (((s.extract k (k + t.size)).toList == t.toList) = true → occ s.data.toList t.data.toList k) := by
        intro h
        have e := eq_of_beq_toList h
        refine ⟨by rw [← Lib.size_eq]; omega, ?_⟩
        have e2 := congrArg (fun x : ByteArray => x.data.toList) e
        simp only [Lib.extract_data] at e2
        rw [show k + t.size - k = 8 from by omega] at e2
        exact e2
      have HN : Hid (((s.extract k (k + t.size)).toList == t.toList) = false → ¬ occ s.data.toList t.data.toList k) := by
        intro h ho
        have : s.extract k (k + t.size) = t := bytes_ext (by rw [Lib.extract_data, show k + t.size - k = 8 from by omega]; exact ho.2)
        rw [this] at h
        simp at h
      go_wp2
      · have hoc := HE.out (by assumption)
        go_ret
        refine ⟨ret_int ?_, rfl⟩
        rw [foundI, findFirst_of ⟨Nat.zero_le _, hoc, fun i _ hi => HK.out i hi⟩]
      · have hoc := HN.out (by assumption)
        go_round
        case rel => exact ⟨k + 1, by omega, by go_num, fun j hj => by
          by_cases e : j = k
          · subst e; exact hoc
          · exact HK.out j (by omega)⟩
        case measure => simp [intOf]; omega
    · go_wp2
      go_ret
      refine ⟨ret_int ?_, rfl⟩
      have hno : ∀ j, ¬ occ s.data.toList t.data.toList j := by
        intro j ho
        rcases Nat.lt_or_ge j k with h | h
        · exact HK.out j h ho
        · have := ho.1; rw [← Lib.size_eq] at this; have := HT.out; omega
      rw [foundI, findFirst_of_none hno]

set_option maxHeartbeats 2000000 in
theorem made_two (base : ByteArray) (b off cap : Nat) (xs : List DOp) (w : World) (h : base.size ≤ 2000) (hx : xs.length ≤ 5000000000000) (hr : ReadsAt w b off xs) (hall : ∀ o ∈ xs, isOpB o.fr o.len o.tx base.size = true)
    (hmade : (madeL base.data.toList xs).length ≤ 2000) :
    Calls Tryz.prog 97 #[.string base, .slice (some ⟨b, off, none⟩) xs.length cap] w fun e w' => e = .returned (.string ⟨(madeL base.data.toList xs).toArray⟩) ∧ ∃ n, w' = w.drewN n := by
  have HR : Hid (ReadsAt w b off xs) := hr
  have HA : Hid (∀ o ∈ xs, isOpB o.fr o.len o.tx base.size = true) := hall
  clear hr hall
  go_enter Tryz.func97, Tryz.ntmps97
  go_wp2
  go_loopw [5, 6] (fun s i wr => ∃ (k n : Nat) (S : ByteArray), k ≤ xs.length ∧ i = .int .i64 k ∧ s = .string S ∧ Hid (S.data.toList = madeL base.data.toList (xs.take k)) ∧ wr = w.drewN n) (fun _ i _ => xs.length + 1 - (intOf i).toNat)
  case atStart => exact ⟨0, 0, ⟨#[]⟩, by omega, rfl, rfl, rfl, rfl⟩
  case round =>
    obtain ⟨k, n, S, hk, rfl, rfl, HS, hwr⟩ := hrel
    subst hwr
    by_cases hlt : k < xs.length
    · obtain ⟨⟨f, l, t⟩, ho⟩ : ∃ o, xs[k]? = some o := ⟨xs[k], by simp [hlt]⟩
      obtain ⟨r0, r1, r2⟩ := HR.out k _ ho
      have c0 : (w.drewN n).cell? ⟨b, off + k * 3, none⟩ = some (.int .i64 f) := r0
      have c1 : (w.drewN n).cell? ⟨b, off + k * 3 + 1, none⟩ = some (.int .i64 l) := r1
      have c2 : (w.drewN n).cell? ⟨b, off + k * 3 + 2, none⟩ = some (.string t) := r2
      have hop := HA.out _ (List.mem_of_getElem? ho)
      simp only at hop
      have hsucc := madeL_take_succ base.data.toList xs k _ ho
      have hle := madeL_take_le base.data.toList xs (k + 1)
      rw [hsucc, List.length_append, ← HS.out, ← Lib.size_eq] at hle
      have HC : Hid (madeL base.data.toList (xs.take (k + 1)) = S.data.toList ++ opBytes base.data.toList ⟨f, l, t⟩) := by
        show _ = _
        rw [hsucc, HS.out]
      clear hsucc ho
      have q1 : (k : Int) < (xs.length : Int) := by omega
      have q2 : (0 : Int) ≤ (k : Int) := by omega
      by_cases hl0 : 0 < l
      · obtain ⟨hf0, hfl⟩ := isOpB_copy hop hl0
        obtain ⟨fn, rfl⟩ := Int.eq_ofNat_of_zero_le hf0
        obtain ⟨ln, rfl⟩ := Int.eq_ofNat_of_zero_le (Int.le_of_lt hl0)
        have hfl' : fn + ln ≤ base.size := by omega
        have HB : Hid (opBytes base.data.toList ⟨fn, ln, t⟩ = (base.extract fn (fn + ln)).data.toList) := by
          show opBytes _ _ = _
          rw [opBytes, if_pos hl0, Lib.extract_data]; simp
        rw [HB.out, ← Lib.size_eq] at hle
        have q3 : IntKind.i64.wrap ((fn : Int) + (ln : Int)) = (fn : Int) + (ln : Int) := by rw [IntKind.wrap_i64]; omega
        have q4 : (fn : Int) + (ln : Int) ≤ (base.size : Int) := by omega
        have q5 : (0 : Int) ≤ (fn : Int) := by omega
        have q6 : (fn : Int) ≤ (fn : Int) + (ln : Int) := by omega
        have q7 : (0 : Int) ≤ (fn : Int) + (ln : Int) := by omega
        have hadd : ∀ W : World, (Op.stringOp .add S (base.extract fn (fn + ln))).run Tryz.prog W = .ok (.string (S ++ base.extract fn (fn + ln))) W := fun W => run_string_add_sum W _ _ (by omega)
        clear hop
        go_wp2
        go_quiet (fail)
        go_wp2
        go_roundw
        case rel => exact ⟨k + 1, n + nq, _, by omega, by go_num, rfl, by
            show _ = _
            rw [bytes_app, HC.out, HB.out], rfl⟩
        case measure => simp [intOf]; omega
      · have HB : Hid (opBytes base.data.toList ⟨f, l, t⟩ = t.data.toList) := by
          show opBytes _ _ = _
          rw [opBytes, if_neg hl0]
        rw [HB.out, ← Lib.size_eq] at hle
        clear hop
        go_wp2
        go_roundw
        case rel => exact ⟨k + 1, n, _, by omega, by go_num, rfl, by
            show _ = _
            rw [bytes_app, HC.out, HB.out], rfl⟩
        case measure => simp [intOf]; omega
    · have HE : Hid (S = ⟨(madeL base.data.toList xs).toArray⟩) := by
        show S = _
        rw [← Lib.mk_data S, HS.out, List.take_of_length_le (by omega)]
      go_wp2
      go_ret
      exact ⟨ret_str HE.out, n, rfl⟩
end Go.Proofs.YtabpiaaknjcnkaaGreat
