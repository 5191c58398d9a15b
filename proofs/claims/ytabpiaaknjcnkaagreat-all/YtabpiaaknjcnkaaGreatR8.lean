/-
  The walk over the document's Decode.
-/
import Derived.Test.YtabpiaaknjcnkaaGreatXD5D6R7D7
import Derived.Test.YtabpiaaknjcnkaaGreatD8
import Derived.LoopTactic
namespace Go.Proofs.YtabpiaaknjcnkaaGreat
open Go.RowKit
set_option linter.unusedVariables false
set_option linter.unusedSimpArgs false
set_option maxRecDepth 100000

theorem rdec_bad {s : ByteArray} {w w' : World} {p : Nat} (h : decF s = .inl p) (hb : Below w.heap.size w w') : DecPost s w (.returned (.tuple #[.slice none 0 0, .int .i64 3, .int .i64 p])) w' := by
  refine ⟨⟨.slice none 0 0, ?_, ?_⟩, hb⟩
  · unfold decE decP; rw [h]
  · unfold decL; rw [h]; exact OwnOps.nil _ _
theorem decF_num {s : ByteArray} {p : Nat} (h : numF s 0 = .inl p) : decF s = .inl p := by unfold decF; rw [h]
theorem decF_many {s : ByteArray} {c a : Nat} (h : numF s 0 = .inr (c, a)) (hc : 200 < c) : decF s = .inl 0 := by unfold decF; rw [h]; simp only [if_pos hc]
theorem decF_ops {s : ByteArray} {c a p : Nat} (h : numF s 0 = .inr (c, a)) (hc : ¬ 200 < c) (hd : decGo s c [] 0 a = .inl p) : decF s = .inl p := by unfold decF; rw [h]; simp only [if_neg hc]; rw [hd]
theorem decF_left {s : ByteArray} {c a at' : Nat} {out : List DOp} (h : numF s 0 = .inr (c, a)) (hc : ¬ 200 < c) (hd : decGo s c [] 0 a = .inr (out, at')) (he : at' < s.size) : decF s = .inl at' := by unfold decF; rw [h]; simp only [if_neg hc]; rw [hd]; simp only [if_pos he]
theorem decF_all {s : ByteArray} {c a at' : Nat} {out : List DOp} (h : numF s 0 = .inr (c, a)) (hc : ¬ 200 < c) (hd : decGo s c [] 0 a = .inr (out, at')) (he : ¬ at' < s.size) : decF s = .inr out := by unfold decF; rw [h]; simp only [if_neg hc]; rw [hd]; simp only [if_neg he]

set_option maxHeartbeats 4000000 in
theorem rdec_any (s : ByteArray) (w : World) (hs : s.size ≤ 9223372036854770000) :
    Calls Tryz.prog 69 #[.string s] w (DecPost s w) := by
  obtain ⟨i0, hi, hz0, hz1, hz2⟩ := info_parts Tryz.infoOp
  go_enter Tryz.func69, Tryz.ntmps69
  go_wp2_with fail
  refine (rnum_any s 0 200 w (by omega) (by omega) (by omega)).mono ?_
  rintro e w1 ⟨rfl, rfl⟩
  cases hn : numF s 0 with
  | inl p =>
    have HD : Hid (decF s = .inl p) := decF_num hn
    rw [numR_bad hn]
    unfold three
    clear hn
    go_wp2
    go_ret3
    exact rdec_bad HD.out (Below.refl _ _)
  | inr q =>
    obtain ⟨c, a⟩ := q
    obtain ⟨hc, _, ha⟩ := numF_ok (by omega) hn
    by_cases h200 : 200 < c
    · have HD : Hid (decF s = .inl 0) := decF_many hn h200
      rw [numR_most hn h200]
      unfold three
      clear hn
      go_wp2
      go_ret3
      exact rdec_bad HD.out (Below.refl _ _)
    · rw [numR_ok hn h200]
      have HN : Hid (numF s 0 = .inr (c, a)) := hn
      unfold three
      clear hn
      go_wp2
      go_loopw [6, 8, 9, 10] (fun q v m i wr => ∃ (j total at' : Nat) (out : List DOp), j ≤ c ∧ i = .int .i64 j ∧ m = .int .i64 total ∧ q = .int .i64 at' ∧ out.length = j ∧ total ≤ 2000 ∧ at' ≤ s.size ∧ Hid (decGo s c [] 0 a = decGo s (c - j) out total at') ∧ Hid (OwnOps wr w.heap.size v out) ∧ Hid (Seen out) ∧ Below w.heap.size w wr) (fun _ _ _ i _ => c + 1 - (intOf i).toNat)
      case atStart => exact ⟨0, 0, a, [], by omega, rfl, rfl, rfl, rfl, by omega, ha, rfl, OwnOps.nil _ _, fun p hp => by (cases hp), Below.refl _ _⟩
      case round =>
        obtain ⟨j, total, at', out, hj, rfl, rfl, rfl, hlen, htot, hat, HG, HO, HS, hb⟩ := hrel
        have hsz := hb.size
        by_cases hlt : j < c
        · go_wp2_with fail
          refine (rnum_any s at' 2147483647 _ hat (by omega) (by omega)).mono ?_
          rintro e w2 ⟨rfl, rfl⟩
          cases hn1 : numF s at' with
          | inl p =>
            have HD : Hid (decF s = .inl p) := decF_ops HN.out h200 (by rw [HG.out, show c - j = (c - j - 1) + 1 by omega, decGo_bad (readF_num hn1)])
            rw [numR_bad hn1]
            unfold three
            clear hn1
            go_wp2
            go_ret3
            exact rdec_bad HD.out hb
          | inr q =>
            obtain ⟨n, nx⟩ := q
            obtain ⟨hn, hgt, hnx⟩ := numF_ok hat hn1
            rw [numR_ok hn1 (by omega)]
            have HP : Hid (numF s at' = .inr (n, nx)) := hn1
            unfold three
            obtain ⟨m, hm⟩ : ∃ m : Nat, (n : Int) / 2 = m := ⟨n / 2, by omega⟩
            have HMN : Hid (n / 2 = m) := by show _ = _; omega
            clear hn1
            by_cases hodd : n % 2 = 0
            · have HE : Hid (n % 2 = 0) := hodd
              have hr : (n : Int) % 2 = 0 := by omega
              clear hodd
              rcases List.eq_nil_or_concat out with rfl | ⟨A, o, rfl⟩
              · obtain ⟨ao, cap, hv⟩ := HO.out.slice
                subst hv
                have hj0 : j = 0 := by simpa using hlen.symm
                subst hj0
                have hlt0 : lastText [] = false := rfl
                by_cases hbad : n / 2 = 0 ∨ 2000 < total + n / 2
                · have HD : Hid (decF s = .inl at') := decF_ops HN.out h200 (by rw [HG.out, show c - 0 = (c - 0 - 1) + 1 by omega, decGo_bad (readF_len HP.out hbad)])
                  by_cases h0 : m = 0
                  · have h0' : (n : Int) / 2 = 0 := by omega
                    clear hm
                    go_wp2
                    go_ret3
                    exact rdec_bad HD.out hb
                  · have h1 : (2000 : Int) < (total : Int) + (m : Int) := by omega
                    have h2 : ((m : Int) == 0) = false := by simp; omega
                    go_wp2
                    go_ret3
                    exact rdec_bad HD.out hb
                · have HB : Hid (¬ (n / 2 = 0 ∨ 2000 < total + n / 2)) := hbad
                  have h1 : ¬ (2000 : Int) < (total : Int) + (m : Int) := by omega
                  have h2 : ((m : Int) == 0) = false := by simp; omega
                  have hm0 : 0 < m := by omega
                  have hm2 : total + m ≤ 2000 := by omega
                  clear hbad
                  by_cases hend : s.size < nx + m
                  · have HD : Hid (decF s = .inl s.size) := decF_ops HN.out h200 (by rw [HG.out, show c - 0 = (c - 0 - 1) + 1 by omega, decGo_bad (by rw [readF_text HP.out HB.out HE.out, if_neg (by rw [hlt0]; simp), HMN.out, if_pos hend])])
                    have hend' : (s.size : Int) < (nx : Int) + (m : Int) := by omega
                    go_wp2
                    go_ret3
                    exact rdec_bad HD.out hb
                  · have hend' : ¬ (s.size : Int) < (nx : Int) + (m : Int) := by omega
                    have hex : (s.extract nx (nx + m)).size = m := by rw [size_ext _ _ _ (by omega)]; omega
                    have hsz2 : sizeN ⟨0, 0, s.extract nx (nx + m)⟩ = m := by unfold sizeN sizeI; simp [hex]
                    have hrd : readF s [] total at' = .inr (⟨0, 0, s.extract nx (nx + m)⟩, nx + m) := by rw [readF_text HP.out HB.out HE.out, if_neg (by rw [hlt0]; simp), HMN.out, if_neg hend]
                    obtain ⟨p1, p2, p3, p4, p5, p6, p7⟩ := readF_props hat htot hrd
                    have HE2 : Hid (decGo s c [] 0 a = decGo s (c - (0 + 1)) ([] ++ [⟨0, 0, s.extract nx (nx + m)⟩]) (total + m) (nx + m)) := by
                      show _ = _
                      rw [HG.out, show c - 0 = (c - (0 + 1)) + 1 by omega, decGo_ok hrd, hsz2]
                    have HS2 : Hid (Seen ([] ++ [⟨0, 0, s.extract nx (nx + m)⟩])) := fun q hq => by
                      rcases List.mem_append.1 hq with hq | hq
                      · exact HS.out q hq
                      · rw [List.mem_singleton.1 hq]; exact ⟨p1, p2, p3, p4⟩
                    clear hrd p1 p2 p3 p4 p5 p7
                    have hnx2 : nx + m ≤ s.size := by omega
                    clear hsz2
                    go_wp2_with (first | (at_builtin; refine wpList_append_own _ rfl _ _ 59 rfl w.heap.size 63 i0 (.agg #[.int .i64 0, .int .i64 0, .string ⟨#[]⟩]) 3 32 Tryz.underlying59 hi hz0 hz1 hz2 rfl (by decide) _ _ _ rfl (HO.out.alloc _) ⟨wr.heap.size, 0, none⟩ 1 1 (opCells [⟨0, 0, s.extract nx (nx + m)⟩]) rfl rfl (cells_op_new _ _ _ _ _) (opCells_oneCell _ _ _) ?c3 ?c4 ?c5 ?_))
                    case c3 => (try simp only [List.length_nil, List.length_append, List.length_cons]); unfold maxLen; omega
                    case c4 => (try simp only [List.length_nil, List.length_append, List.length_cons]); omega
                    case c5 => first | (simp; done) | (simp; omega) | omega
                    intro v4 w4 ho4 hg4 _
                    have HO4 : Hid (OwnOps w4 w.heap.size v4 ([] ++ [⟨0, 0, s.extract nx (nx + m)⟩])) := by
                      show OwnOps w4 w.heap.size v4 ([] ++ [⟨0, 0, s.extract nx (nx + m)⟩])
                      unfold OwnOps
                      rw [opCells_append, List.length_append]
                      simpa [opCells_nil] using ho4
                    have B4 : Below w.heap.size w w4 := (hb.alloc (by first | (simp; done) | (simp; omega) | omega) _).grown hg4 (by first | (simp; done) | (simp; omega) | omega) (fun k hk => row_own_ge HO.out hk)
                    clear ho4 hg4
                    go_wp2
                    go_roundw
                    case rel => exact ⟨0 + 1, total + m, nx + m, [] ++ [⟨0, 0, s.extract nx (nx + m)⟩], by omega, by go_num, by go_num, by go_num, by simp, by omega, by omega, HE2, HO4, HS2, B4⟩
                    case measure => first | (simp [intOf]; done) | (simp [intOf]; omega)
              · rw [List.concat_eq_append] at *
                have hlen2 : (A ++ [o]).length = A.length + 1 := by simp
                have hjA : A.length + 1 = j := by omega
                obtain ⟨g, cap, hv, hg⟩ : ∃ g cap, u8 = .slice (some ⟨g, 0, none⟩) (A.length + 1) cap ∧ g < wr.heap.size := by
                  rcases HO.out.2 with ⟨_, h⟩ | ⟨g, cap', cur, h, _⟩
                  · simp at h
                  · exact ⟨g, cap', by rw [h, hlen2], row_own_lt HO.out (by rw [h]; rfl)⟩
                subst hv
                subst hjA
                obtain ⟨c0, c1, c2, _⟩ := own_cells (B := []) HO.out
                obtain ⟨s1, s2, s3, s4⟩ := HS.out.small o (by simp)
                obtain ⟨of, ol, ot⟩ := o
                simp only at c0 c1 c2 s1 s2 s3 s4
                have q2 : A.length < A.length + 1 := by omega
                have q9 : (A.length : Int) < (A.length : Int) + 1 := by omega
                have q3 : (0 : Int) ≤ (A.length : Int) := by omega
                have q4 : (0 : Int) < (A.length : Int) + 1 := by omega
                by_cases hl0 : ol = 0
                · have hlt0 : lastText (A ++ [(⟨of, ol, ot⟩ : DOp)]) = true := by simp [lastText, hl0]
                  have HD : Hid (decF s = .inl at') := decF_ops HN.out h200 (by
                    rw [HG.out, show c - (A.length + 1) = (c - (A.length + 1) - 1) + 1 by omega]
                    refine decGo_bad ?_
                    by_cases hbad : n / 2 = 0 ∨ 2000 < total + n / 2
                    · exact readF_len HP.out hbad
                    · rw [readF_text HP.out hbad HE.out, if_pos hlt0])
                  subst hl0
                  clear hlt0
                  by_cases h1 : m = 0
                  · have h0' : (n : Int) / 2 = 0 := by omega
                    clear hm
                    go_wp2
                    go_ret3
                    exact rdec_bad HD.out hb
                  · have h2 : ((m : Int) == 0) = false := by simp; omega
                    by_cases h3 : (2000 : Int) < (total : Int) + (m : Int)
                    all_goals
                      go_wp2
                      go_ret3
                      exact rdec_bad HD.out hb
                · have hlt0 : lastText (A ++ [(⟨of, ol, ot⟩ : DOp)]) = false := by simp [lastText]; omega
                  have hl1 : (ol == 0) = false := by simpa using hl0
                  by_cases hbad : n / 2 = 0 ∨ 2000 < total + n / 2
                  · have HD : Hid (decF s = .inl at') := decF_ops HN.out h200 (by rw [HG.out, show c - (A.length + 1) = (c - (A.length + 1) - 1) + 1 by omega, decGo_bad (readF_len HP.out hbad)])
                    by_cases h0 : m = 0
                    · have h0' : (n : Int) / 2 = 0 := by omega
                      clear hm
                      go_wp2
                      go_ret3
                      exact rdec_bad HD.out hb
                    · have h1 : (2000 : Int) < (total : Int) + (m : Int) := by omega
                      have h2 : ((m : Int) == 0) = false := by simp; omega
                      go_wp2
                      go_ret3
                      exact rdec_bad HD.out hb
                  · have HB : Hid (¬ (n / 2 = 0 ∨ 2000 < total + n / 2)) := hbad
                    have h1 : ¬ (2000 : Int) < (total : Int) + (m : Int) := by omega
                    have h2 : ((m : Int) == 0) = false := by simp; omega
                    have hm0 : 0 < m := by omega
                    have hm2 : total + m ≤ 2000 := by omega
                    clear hbad
                    by_cases hend : s.size < nx + m
                    · have HD : Hid (decF s = .inl s.size) := decF_ops HN.out h200 (by rw [HG.out, show c - (A.length + 1) = (c - (A.length + 1) - 1) + 1 by omega, decGo_bad (by rw [readF_text HP.out HB.out HE.out, if_neg (by rw [hlt0]; simp), HMN.out, if_pos hend])])
                      have hend' : (s.size : Int) < (nx : Int) + (m : Int) := by omega
                      go_wp2
                      go_ret3
                      exact rdec_bad HD.out hb
                    · have hend' : ¬ (s.size : Int) < (nx : Int) + (m : Int) := by omega
                      have hex : (s.extract nx (nx + m)).size = m := by rw [size_ext _ _ _ (by omega)]; omega
                      have hsz2 : sizeN ⟨0, 0, s.extract nx (nx + m)⟩ = m := by unfold sizeN sizeI; simp [hex]
                      have hrd : readF s (A ++ [(⟨of, ol, ot⟩ : DOp)]) total at' = .inr (⟨0, 0, s.extract nx (nx + m)⟩, nx + m) := by rw [readF_text HP.out HB.out HE.out, if_neg (by rw [hlt0]; simp), HMN.out, if_neg hend]
                      obtain ⟨p1, p2, p3, p4, p5, p6, p7⟩ := readF_props hat htot hrd
                      have HE2 : Hid (decGo s c [] 0 a = decGo s (c - ((A.length + 1) + 1)) ((A ++ [(⟨of, ol, ot⟩ : DOp)]) ++ [⟨0, 0, s.extract nx (nx + m)⟩]) (total + m) (nx + m)) := by
                        show _ = _
                        rw [HG.out, show c - (A.length + 1) = (c - ((A.length + 1) + 1)) + 1 by omega, decGo_ok hrd, hsz2]
                      have HS2 : Hid (Seen ((A ++ [(⟨of, ol, ot⟩ : DOp)]) ++ [⟨0, 0, s.extract nx (nx + m)⟩])) := fun q hq => by
                        rcases List.mem_append.1 hq with hq | hq
                        · exact HS.out q hq
                        · rw [List.mem_singleton.1 hq]; exact ⟨p1, p2, p3, p4⟩
                      clear hrd p1 p2 p3 p4 p5 p7
                      have hnx2 : nx + m ≤ s.size := by omega
                      clear hsz2
                      go_wp2_with (first | (at_builtin; refine wpList_append_own _ rfl _ _ 59 rfl w.heap.size 63 i0 (.agg #[.int .i64 0, .int .i64 0, .string ⟨#[]⟩]) 3 32 Tryz.underlying59 hi hz0 hz1 hz2 rfl (by decide) _ _ _ rfl (HO.out.alloc _) ⟨wr.heap.size, 0, none⟩ 1 1 (opCells [⟨0, 0, s.extract nx (nx + m)⟩]) rfl rfl (cells_op_new _ _ _ _ _) (opCells_oneCell _ _ _) ?c3 ?c4 ?c5 ?_))
                      case c3 => (try simp only [List.length_nil, List.length_append, List.length_cons]); unfold maxLen; omega
                      case c4 => (try simp only [List.length_nil, List.length_append, List.length_cons]); omega
                      case c5 => first | (simp; done) | (simp; omega) | omega
                      intro v4 w4 ho4 hg4 _
                      have HO4 : Hid (OwnOps w4 w.heap.size v4 ((A ++ [(⟨of, ol, ot⟩ : DOp)]) ++ [⟨0, 0, s.extract nx (nx + m)⟩])) := by
                        show OwnOps w4 w.heap.size v4 ((A ++ [(⟨of, ol, ot⟩ : DOp)]) ++ [⟨0, 0, s.extract nx (nx + m)⟩])
                        unfold OwnOps
                        rw [opCells_append, List.length_append]
                        simpa [opCells_nil] using ho4
                      have B4 : Below w.heap.size w w4 := (hb.alloc (by first | (simp; done) | (simp; omega) | omega) _).grown hg4 (by first | (simp; done) | (simp; omega) | omega) (fun k hk => row_own_ge HO.out hk)
                      clear ho4 hg4
                      go_wp2
                      go_roundw
                      case rel => exact ⟨(A.length + 1) + 1, total + m, nx + m, (A ++ [(⟨of, ol, ot⟩ : DOp)]) ++ [⟨0, 0, s.extract nx (nx + m)⟩], by omega, by go_num, by go_num, by go_num, by simp, by omega, by omega, HE2, HO4, HS2, B4⟩
                      case measure => first | (simp [intOf]; done) | (simp [intOf]; omega)
            · have HE : Hid (¬ n % 2 = 0) := hodd
              have hr : (n : Int) % 2 = 1 := by omega
              clear hodd
              rcases List.eq_nil_or_concat out with rfl | ⟨A, o, rfl⟩
              · obtain ⟨ao, cap, hv⟩ := HO.out.slice
                subst hv
                have hj0 : j = 0 := by simpa using hlen.symm
                subst hj0
                by_cases hbad : n / 2 = 0 ∨ 2000 < total + n / 2
                · have HD : Hid (decF s = .inl at') := decF_ops HN.out h200 (by rw [HG.out, show c - 0 = (c - 0 - 1) + 1 by omega, decGo_bad (readF_len HP.out hbad)])
                  by_cases h0 : m = 0
                  · have h0' : (n : Int) / 2 = 0 := by omega
                    clear hm
                    go_wp2
                    go_ret3
                    exact rdec_bad HD.out hb
                  · have h1 : (2000 : Int) < (total : Int) + (m : Int) := by omega
                    have h2 : ((m : Int) == 0) = false := by simp; omega
                    go_wp2
                    go_ret3
                    exact rdec_bad HD.out hb
                · have HB : Hid (¬ (n / 2 = 0 ∨ 2000 < total + n / 2)) := hbad
                  have h1 : ¬ (2000 : Int) < (total : Int) + (m : Int) := by omega
                  have h2 : ((m : Int) == 0) = false := by simp; omega
                  have hm0 : 0 < m := by omega
                  have hm2 : total + m ≤ 2000 := by omega
                  clear hbad
                  have w5 : (2000 : Int) - (m : Int) = ((2000 - m : Nat) : Int) := by omega
                  go_wp2_with fail
                  refine (rnum_any s nx (2000 - m) _ hnx (by omega) (by omega)).mono ?_
                  rintro e w3 ⟨rfl, rfl⟩
                  cases hn2 : numF s nx with
                  | inl p =>
                    have HD : Hid (decF s = .inl p) := decF_ops HN.out h200 (by rw [HG.out, show c - 0 = (c - 0 - 1) + 1 by omega, decGo_bad (readF_copy_num HP.out HB.out HE.out hn2)])
                    rw [numR_bad hn2]
                    unfold three
                    clear hn2
                    go_wp2
                    go_ret3
                    exact rdec_bad HD.out hb
                  | inr q =>
                    obtain ⟨f, b⟩ := q
                    obtain ⟨hf, _, hbs⟩ := numF_ok hnx hn2
                    by_cases hmost : 2000 - m < f
                    · have HD : Hid (decF s = .inl nx) := decF_ops HN.out h200 (by rw [HG.out, show c - 0 = (c - 0 - 1) + 1 by omega, decGo_bad (readF_copy_bad HP.out HB.out HE.out hn2 (.inl (by omega)))])
                      rw [numR_most hn2 hmost]
                      unfold three
                      clear hn2
                      go_wp2
                      go_ret3
                      exact rdec_bad HD.out hb
                    · rw [numR_ok hn2 hmost]
                      have HN2 : Hid (numF s nx = .inr (f, b)) := hn2
                      unfold three
                      clear hn2
                      have hgo : goesOn [] (f : Int) (m : Int) = false := rfl
                      have hsz2 : sizeN ⟨(f : Int), (m : Int), ⟨#[]⟩⟩ = m := by unfold sizeN sizeI; simp only; rw [if_pos (by omega)]; omega
                      have hrd : readF s [] total at' = .inr (⟨(f : Int), (m : Int), ⟨#[]⟩⟩, b) := by
                        have := readF_copy_ok HP.out HB.out HE.out HN2.out (by rw [HMN.out]; rintro (h | h); omega; rw [hgo] at h; cases h)
                        rwa [HMN.out] at this
                      obtain ⟨p1, p2, p3, p4, p5, p6, p7⟩ := readF_props hat htot hrd
                      have HE2 : Hid (decGo s c [] 0 a = decGo s (c - (0 + 1)) ([] ++ [⟨(f : Int), (m : Int), ⟨#[]⟩⟩]) (total + m) (b)) := by
                        show _ = _
                        rw [HG.out, show c - 0 = (c - (0 + 1)) + 1 by omega, decGo_ok hrd, hsz2]
                      have HS2 : Hid (Seen ([] ++ [⟨(f : Int), (m : Int), ⟨#[]⟩⟩])) := fun q hq => by
                        rcases List.mem_append.1 hq with hq | hq
                        · exact HS.out q hq
                        · rw [List.mem_singleton.1 hq]; exact ⟨p1, p2, p3, p4⟩
                      clear hrd p1 p2 p3 p4 p5 p7
                      go_wp2
                      go_quiet (fail)
                      go_wp2_with (first | (at_builtin; refine wpList_append_own _ rfl _ _ 59 rfl w.heap.size 63 i0 (.agg #[.int .i64 0, .int .i64 0, .string ⟨#[]⟩]) 3 32 Tryz.underlying59 hi hz0 hz1 hz2 rfl (by decide) _ _ _ rfl ((show OwnOps (wr.drewN nq) w.heap.size _ _ from HO.out).alloc _) ⟨wr.heap.size, 0, none⟩ 1 1 (opCells [⟨(f : Int), (m : Int), ⟨#[]⟩⟩]) rfl rfl (cells_op_new _ _ _ _ _) (opCells_oneCell _ _ _) ?c3 ?c4 ?c5 ?_))
                      case c3 => (try simp only [List.length_nil, List.length_append, List.length_cons]); unfold maxLen; omega
                      case c4 => (try simp only [List.length_nil, List.length_append, List.length_cons]); omega
                      case c5 => first | (simp; done) | (simp; omega) | omega
                      intro v4 w4 ho4 hg4 _
                      have HO4 : Hid (OwnOps w4 w.heap.size v4 ([] ++ [⟨(f : Int), (m : Int), ⟨#[]⟩⟩])) := by
                        show OwnOps w4 w.heap.size v4 ([] ++ [⟨(f : Int), (m : Int), ⟨#[]⟩⟩])
                        unfold OwnOps
                        rw [opCells_append, List.length_append]
                        simpa [opCells_nil] using ho4
                      have B4 : Below w.heap.size w w4 := ((hb.trans (below_drewN0 _ _ nq)).alloc (by first | (simp; done) | (simp; omega) | omega) _).grown hg4 (by first | (simp; done) | (simp; omega) | omega) (fun k hk => row_own_ge HO.out hk)
                      clear ho4 hg4
                      go_wp2
                      go_roundw
                      case rel => exact ⟨0 + 1, total + m, b, [] ++ [⟨(f : Int), (m : Int), ⟨#[]⟩⟩], by omega, by go_num, by go_num, by go_num, by simp, by omega, by omega, HE2, HO4, HS2, B4⟩
                      case measure => first | (simp [intOf]; done) | (simp [intOf]; omega)
              · rw [List.concat_eq_append] at *
                have hlen2 : (A ++ [o]).length = A.length + 1 := by simp
                have hjA : A.length + 1 = j := by omega
                obtain ⟨g, cap, hv, hg⟩ : ∃ g cap, u8 = .slice (some ⟨g, 0, none⟩) (A.length + 1) cap ∧ g < wr.heap.size := by
                  rcases HO.out.2 with ⟨_, h⟩ | ⟨g, cap', cur, h, _⟩
                  · simp at h
                  · exact ⟨g, cap', by rw [h, hlen2], row_own_lt HO.out (by rw [h]; rfl)⟩
                subst hv
                subst hjA
                obtain ⟨c0, c1, c2, _⟩ := own_cells (B := []) HO.out
                obtain ⟨s1, s2, s3, s4⟩ := HS.out.small o (by simp)
                obtain ⟨of, ol, ot⟩ := o
                simp only at c0 c1 c2 s1 s2 s3 s4
                have q2 : A.length < A.length + 1 := by omega
                have q9 : (A.length : Int) < (A.length : Int) + 1 := by omega
                have q3 : (0 : Int) ≤ (A.length : Int) := by omega
                have q4 : (0 : Int) < (A.length : Int) + 1 := by omega
                by_cases hbad : n / 2 = 0 ∨ 2000 < total + n / 2
                · have HD : Hid (decF s = .inl at') := decF_ops HN.out h200 (by rw [HG.out, show c - (A.length + 1) = (c - (A.length + 1) - 1) + 1 by omega, decGo_bad (readF_len HP.out hbad)])
                  by_cases h0 : m = 0
                  · have h0' : (n : Int) / 2 = 0 := by omega
                    clear hm
                    go_wp2
                    go_ret3
                    exact rdec_bad HD.out hb
                  · have h1 : (2000 : Int) < (total : Int) + (m : Int) := by omega
                    have h2 : ((m : Int) == 0) = false := by simp; omega
                    go_wp2
                    go_ret3
                    exact rdec_bad HD.out hb
                · have HB : Hid (¬ (n / 2 = 0 ∨ 2000 < total + n / 2)) := hbad
                  have h1 : ¬ (2000 : Int) < (total : Int) + (m : Int) := by omega
                  have h2 : ((m : Int) == 0) = false := by simp; omega
                  have hm0 : 0 < m := by omega
                  have hm2 : total + m ≤ 2000 := by omega
                  clear hbad
                  have w5 : (2000 : Int) - (m : Int) = ((2000 - m : Nat) : Int) := by omega
                  go_wp2_with fail
                  refine (rnum_any s nx (2000 - m) _ hnx (by omega) (by omega)).mono ?_
                  rintro e w3 ⟨rfl, rfl⟩
                  cases hn2 : numF s nx with
                  | inl p =>
                    have HD : Hid (decF s = .inl p) := decF_ops HN.out h200 (by rw [HG.out, show c - (A.length + 1) = (c - (A.length + 1) - 1) + 1 by omega, decGo_bad (readF_copy_num HP.out HB.out HE.out hn2)])
                    rw [numR_bad hn2]
                    unfold three
                    clear hn2
                    go_wp2
                    go_ret3
                    exact rdec_bad HD.out hb
                  | inr q =>
                    obtain ⟨f, b⟩ := q
                    obtain ⟨hf, _, hbs⟩ := numF_ok hnx hn2
                    by_cases hmost : 2000 - m < f
                    · have HD : Hid (decF s = .inl nx) := decF_ops HN.out h200 (by rw [HG.out, show c - (A.length + 1) = (c - (A.length + 1) - 1) + 1 by omega, decGo_bad (readF_copy_bad HP.out HB.out HE.out hn2 (.inl (by omega)))])
                      rw [numR_most hn2 hmost]
                      unfold three
                      clear hn2
                      go_wp2
                      go_ret3
                      exact rdec_bad HD.out hb
                    · rw [numR_ok hn2 hmost]
                      have HN2 : Hid (numF s nx = .inr (f, b)) := hn2
                      unfold three
                      clear hn2
                      have hgq : goesOn (A ++ [(⟨of, ol, ot⟩ : DOp)]) (f : Int) (m : Int) = !followB of ol f m := by simp [goesOn]
                      have hfo : followB of ol f m = !(decide (0 < ol) && (f : Int) == of + ol) := by
                        unfold followB
                        have : decide ((0 : Int) < (m : Int)) = true := by simp; omega
                        rw [this]
                        by_cases h : 0 < ol <;> simp [h, bne]
                      have q10 : IntKind.i64.wrap (of + ol) = of + ol := by rw [IntKind.wrap_i64]; omega
                      have q11 : IntKind.i64.wrap ((A.length : Int) + 1 - 1) = (A.length : Int) := by rw [IntKind.wrap_i64]; omega
                      have q12 : IntKind.i64.wrap (A.length : Int) = (A.length : Int) := by rw [IntKind.wrap_i64]; omega
                      by_cases hon : 0 < ol ∧ of + ol = (f : Int)
                      · have HD : Hid (decF s = .inl nx) := decF_ops HN.out h200 (by rw [HG.out, show c - (A.length + 1) = (c - (A.length + 1) - 1) + 1 by omega, decGo_bad (readF_copy_bad HP.out HB.out HE.out HN2.out (.inr (by rw [HMN.out, hgq, hfo]; simp [hon.1, hon.2])))])
                        obtain ⟨hon1, hon2⟩ := hon
                        clear hgq hfo
                        go_wp2
                        go_quiet (fail)
                        go_wp2
                        go_ret3
                        exact rdec_bad HD.out (hb.trans (below_drewN0 _ _ nq))
                      · have hgo : goesOn (A ++ [(⟨of, ol, ot⟩ : DOp)]) (f : Int) (m : Int) = false := by
                          rw [hgq, hfo]
                          by_cases h : 0 < ol
                          · have : ¬ of + ol = (f : Int) := fun e => hon ⟨h, e⟩
                            have h' : ((f : Int) == of + ol) = false := by simp; omega
                            simp [h']
                          · simp [h]
                        have hsz2 : sizeN ⟨(f : Int), (m : Int), ⟨#[]⟩⟩ = m := by unfold sizeN sizeI; simp only; rw [if_pos (by omega)]; omega
                        have hrd : readF s (A ++ [(⟨of, ol, ot⟩ : DOp)]) total at' = .inr (⟨(f : Int), (m : Int), ⟨#[]⟩⟩, b) := by
                          have := readF_copy_ok HP.out HB.out HE.out HN2.out (by rw [HMN.out]; rintro (h | h); omega; rw [hgo] at h; cases h)
                          rwa [HMN.out] at this
                        obtain ⟨p1, p2, p3, p4, p5, p6, p7⟩ := readF_props hat htot hrd
                        have HE2 : Hid (decGo s c [] 0 a = decGo s (c - ((A.length + 1) + 1)) ((A ++ [(⟨of, ol, ot⟩ : DOp)]) ++ [⟨(f : Int), (m : Int), ⟨#[]⟩⟩]) (total + m) (b)) := by
                          show _ = _
                          rw [HG.out, show c - (A.length + 1) = (c - ((A.length + 1) + 1)) + 1 by omega, decGo_ok hrd, hsz2]
                        have HS2 : Hid (Seen ((A ++ [(⟨of, ol, ot⟩ : DOp)]) ++ [⟨(f : Int), (m : Int), ⟨#[]⟩⟩])) := fun q hq => by
                          rcases List.mem_append.1 hq with hq | hq
                          · exact HS.out q hq
                          · rw [List.mem_singleton.1 hq]; exact ⟨p1, p2, p3, p4⟩
                        clear hrd p1 p2 p3 p4 p5 p7
                        have hon' : (0 < ol ∧ ¬ of + ol = (f : Int)) ∨ ol = 0 := by
                          by_cases h : 0 < ol
                          · exact .inl ⟨h, fun e => hon ⟨h, e⟩⟩
                          · exact .inr (by omega)
                        clear hgq hfo hon hgo hsz2
                        rcases hon' with ⟨hon1, hon2⟩ | hon1
                        · have hon3 : ((of + ol) == (f : Int)) = false := by simpa using hon2
                          go_wp2
                          go_quiet (fail)
                          go_wp2_with (first | (at_builtin; refine wpList_append_own _ rfl _ _ 59 rfl w.heap.size 63 i0 (.agg #[.int .i64 0, .int .i64 0, .string ⟨#[]⟩]) 3 32 Tryz.underlying59 hi hz0 hz1 hz2 rfl (by decide) _ _ _ rfl ((show OwnOps (wr.drewN nq) w.heap.size _ _ from HO.out).alloc _) ⟨wr.heap.size, 0, none⟩ 1 1 (opCells [⟨(f : Int), (m : Int), ⟨#[]⟩⟩]) rfl rfl (cells_op_new _ _ _ _ _) (opCells_oneCell _ _ _) ?c3 ?c4 ?c5 ?_))
                          case c3 => (try simp only [List.length_nil, List.length_append, List.length_cons]); unfold maxLen; omega
                          case c4 => (try simp only [List.length_nil, List.length_append, List.length_cons]); omega
                          case c5 => first | (simp; done) | (simp; omega) | omega
                          intro v4 w4 ho4 hg4 _
                          have HO4 : Hid (OwnOps w4 w.heap.size v4 ((A ++ [(⟨of, ol, ot⟩ : DOp)]) ++ [⟨(f : Int), (m : Int), ⟨#[]⟩⟩])) := by
                            show OwnOps w4 w.heap.size v4 ((A ++ [(⟨of, ol, ot⟩ : DOp)]) ++ [⟨(f : Int), (m : Int), ⟨#[]⟩⟩])
                            unfold OwnOps
                            rw [opCells_append, List.length_append]
                            simpa [opCells_nil] using ho4
                          have B4 : Below w.heap.size w w4 := ((hb.trans (below_drewN0 _ _ nq)).alloc (by first | (simp; done) | (simp; omega) | omega) _).grown hg4 (by first | (simp; done) | (simp; omega) | omega) (fun k hk => row_own_ge HO.out hk)
                          clear ho4 hg4
                          go_wp2
                          go_roundw
                          case rel => exact ⟨(A.length + 1) + 1, total + m, b, (A ++ [(⟨of, ol, ot⟩ : DOp)]) ++ [⟨(f : Int), (m : Int), ⟨#[]⟩⟩], by omega, by go_num, by go_num, by go_num, by simp, by omega, by omega, HE2, HO4, HS2, B4⟩
                          case measure => first | (simp [intOf]; done) | (simp [intOf]; omega)
                        · subst hon1
                          go_wp2
                          go_quiet (fail)
                          go_wp2_with (first | (at_builtin; refine wpList_append_own _ rfl _ _ 59 rfl w.heap.size 63 i0 (.agg #[.int .i64 0, .int .i64 0, .string ⟨#[]⟩]) 3 32 Tryz.underlying59 hi hz0 hz1 hz2 rfl (by decide) _ _ _ rfl ((show OwnOps (wr.drewN nq) w.heap.size _ _ from HO.out).alloc _) ⟨wr.heap.size, 0, none⟩ 1 1 (opCells [⟨(f : Int), (m : Int), ⟨#[]⟩⟩]) rfl rfl (cells_op_new _ _ _ _ _) (opCells_oneCell _ _ _) ?c3 ?c4 ?c5 ?_))
                          case c3 => (try simp only [List.length_nil, List.length_append, List.length_cons]); unfold maxLen; omega
                          case c4 => (try simp only [List.length_nil, List.length_append, List.length_cons]); omega
                          case c5 => first | (simp; done) | (simp; omega) | omega
                          intro v4 w4 ho4 hg4 _
                          have HO4 : Hid (OwnOps w4 w.heap.size v4 ((A ++ [(⟨of, 0, ot⟩ : DOp)]) ++ [⟨(f : Int), (m : Int), ⟨#[]⟩⟩])) := by
                            show OwnOps w4 w.heap.size v4 ((A ++ [(⟨of, 0, ot⟩ : DOp)]) ++ [⟨(f : Int), (m : Int), ⟨#[]⟩⟩])
                            unfold OwnOps
                            rw [opCells_append, List.length_append]
                            simpa [opCells_nil] using ho4
                          have B4 : Below w.heap.size w w4 := ((hb.trans (below_drewN0 _ _ nq)).alloc (by first | (simp; done) | (simp; omega) | omega) _).grown hg4 (by first | (simp; done) | (simp; omega) | omega) (fun k hk => row_own_ge HO.out hk)
                          clear ho4 hg4
                          go_wp2
                          go_roundw
                          case rel => exact ⟨(A.length + 1) + 1, total + m, b, (A ++ [(⟨of, 0, ot⟩ : DOp)]) ++ [⟨(f : Int), (m : Int), ⟨#[]⟩⟩], by omega, by go_num, by go_num, by go_num, by simp, by omega, by omega, HE2, HO4, HS2, B4⟩
                          case measure => first | (simp [intOf]; done) | (simp [intOf]; omega)
        · have HE : Hid (decGo s c [] 0 a = .inr (out, at')) := by
            show _ = _
            rw [HG.out, show c - j = 0 by omega]; rfl
          obtain ⟨ao, cap, hv⟩ := HO.out.slice
          subst hv
          by_cases hend : at' < s.size
          · have HD : Hid (decF s = .inl at') := decF_left HN.out h200 HE.out hend
            have hend' : (at' : Int) < (s.size : Int) := by omega
            go_wp2
            go_ret3
            exact rdec_bad HD.out hb
          · have HD : Hid (decF s = .inr out) := decF_all HN.out h200 HE.out hend
            have hend' : ¬ (at' : Int) < (s.size : Int) := by omega
            go_wp2
            go_ret3
            have d1 : decE s = 0 := by unfold decE; rw [HD.out]
            have d2 : decP s = 0 := by unfold decP; rw [HD.out]
            have d3 : decL s = out := by unfold decL; rw [HD.out]
            refine ⟨⟨.slice ao out.length cap, ?_, by rw [d3]; exact HO.out⟩, hb⟩
            rw [d1, d2, hlen]
            try rfl
end Go.Proofs.YtabpiaaknjcnkaaGreat
