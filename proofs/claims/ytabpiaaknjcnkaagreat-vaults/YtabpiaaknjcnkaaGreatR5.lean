/-
  The walk over the document's cells.
-/
import Derived.Test.YtabpiaaknjcnkaaGreatC3
import Derived.Test.YtabpiaaknjcnkaaGreatXLCPE
import Derived.LoopTactic
namespace Go.Proofs.YtabpiaaknjcnkaaGreat
open Go.RowKit
set_option linter.unusedVariables false
set_option linter.unusedSimpArgs false
set_option maxRecDepth 100000

theorem Tryz.infoCell : (Tryz.prog.info? 138).map (fun i => (i.zero, i.size, i.bytes)) = some (some (.agg #[.int .i64 0, .int .u8 0]), 2, 16) := by kernel_rfl
def clCells (xs : List Cl) : List Value := xs.flatMap fun c => [.int .i64 c.1, .int .u8 c.2.toNat]
theorem clCells_length (xs : List Cl) : (clCells xs).length = xs.length * 2 := by
  induction xs with
  | nil => rfl
  | cons a r ih => simp only [clCells, List.flatMap_cons, List.length_append, List.length_cons, List.length_nil] at ih ⊢; omega
theorem clCells_append (xs ys : List Cl) : clCells (xs ++ ys) = clCells xs ++ clCells ys := by simp [clCells]
def OwnCl (w : World) (base : Nat) (v : Value) (xs : List Cl) : Prop := w.ownsRow base 138 2 v xs.length (clCells xs)
theorem OwnCl.slice {w : World} {b : Nat} {v : Value} {bs : List Cl} (h : OwnCl w b v bs) : ∃ ao cap, v = .slice ao bs.length cap := by
  rcases h.2 with ⟨h, h0⟩ | ⟨g', cap', cur, h, _⟩
  · exact ⟨none, 0, by rw [h, h0]⟩
  · exact ⟨_, _, h⟩
theorem OwnCl.kept {w w1 : World} {base : Nat} {v : Value} {bs : List Cl} (h : OwnCl w base v bs) (hb : Below w.heap.size w w1) : OwnCl w1 base v bs := row_kept h hb
theorem cl_new (w : World) (z : Int) (c : Int) (d : UInt8) (h : c = d.toNat) : ∀ j u, (clCells [(z, d)])[j]? = some u → (w.alloc (.cells #[.int .i64 z, .int .u8 c] 138)).cell? ((⟨w.heap.size, 0, none⟩ : Addr).add j) = some u := by
  intro j u hu
  match j, hu with
  | 0, hu => simp [clCells] at hu; subst hu; simp [Addr.add]
  | 1, hu => simp [clCells] at hu; subst hu; simp [Addr.add, h]
  | n + 2, hu => simp [clCells] at hu
theorem cl_one (z : Int) (d : UInt8) : ∀ u ∈ clCells [(z, d)], u.oneCell' = true := by
  intro u hu
  simp [clCells] at hu
  rcases hu with rfl | rfl <;> rfl
theorem cl_cells {w : World} {base : Nat} {v : Value} {xs : List Cl} (h : OwnCl w base v xs) {i : Nat} {c : Cl} (hi : xs[i]? = some c) : ∃ g cap, v = .slice (some ⟨g, 0, none⟩) xs.length cap ∧ g < w.heap.size ∧ w.cell? ⟨g, i * 2, none⟩ = some (.int .i64 c.1) ∧ w.cell? ⟨g, i * 2 + 1, none⟩ = some (.int .u8 c.2.toNat) := by
  have hlt := (List.getElem?_eq_some_iff.1 hi).1
  rcases h.2 with ⟨_, h0⟩ | ⟨g, cap, cur, hv, _, hbk, h1, h2, h3, h4⟩
  · omega
  · refine ⟨g, cap, hv, row_own_lt h (by rw [hv]; rfl), ?_⟩
    have hget : ∀ (ys : List Cl) (k : Nat) (d : Cl), ys[k]? = some d → (clCells ys)[k * 2]? = some (.int .i64 d.1) ∧ (clCells ys)[k * 2 + 1]? = some (.int .u8 d.2.toNat) := by
      intro ys
      induction ys with
      | nil => intro k d hd; simp at hd
      | cons a r ih =>
        intro k d hd
        cases k with
        | zero => simp at hd; subst hd; simp [clCells]
        | succ k =>
          simp only [List.getElem?_cons_succ] at hd
          obtain ⟨e1, e2⟩ := ih k d hd
          have e : clCells (a :: r) = .int .i64 a.1 :: .int .u8 a.2.toNat :: clCells r := by simp [clCells]
          rw [e, show (k + 1) * 2 = k * 2 + 1 + 1 by omega, show k * 2 + 1 + 1 + 1 = (k * 2 + 1) + 1 + 1 by omega]
          simp only [List.getElem?_cons_succ]
          exact ⟨e1, e2⟩
    obtain ⟨e1, e2⟩ := hget xs i c hi
    have hc : ∀ j, j < xs.length * 2 → w.cell? ⟨g, j, none⟩ = (clCells xs)[j]? := by
      intro j hj
      rw [Lib.cell_of_heap hbk, ← h4, List.getElem?_take_of_lt hj, Array.getElem?_toList]
    exact ⟨(hc _ (by omega)).trans e1, (hc _ (by omega)).trans e2⟩

set_option maxHeartbeats 4000000 in
theorem rcells_two (b off cap : Nat) (xs : List DOp) (w : World) (hr : ReadsAt w b off xs) (hbw : b < w.heap.size) (hD : ∀ o ∈ xs, Nice o ∧ o.fr ≤ 2000 ∧ o.len ≤ 2000 ∧ o.tx.size ≤ 2000) (hl : xs.length ≤ 200) (hsum : sumI xs ≤ 2000) :
    Calls Tryz.prog 100 #[.slice (some ⟨b, off, none⟩) xs.length cap] w fun e w' => (∃ v, e = .returned v ∧ OwnCl w' w.heap.size v (cellsL xs)) ∧ Below w.heap.size w w' := by
  obtain ⟨i0, hi, hz0, hz1, hz2⟩ := info_parts Tryz.infoCell
  have HR : Hid (ReadsAt w b off xs) := hr
  have HD : Hid (∀ o ∈ xs, Nice o ∧ o.fr ≤ 2000 ∧ o.len ≤ 2000 ∧ o.tx.size ≤ 2000) := hD
  clear hr hD
  go_enter Tryz.func100, Tryz.ntmps100
  go_wp2
  go_loopw [3, 4] (fun v c wr => ∃ j : Nat, j ≤ xs.length ∧ c = .int .i64 j ∧ Hid (OwnCl wr w.heap.size v (cellsL (xs.take j))) ∧ Below w.heap.size w wr) (fun _ c _ => xs.length + 1 - (intOf c).toNat)
  case atStart => exact ⟨0, by omega, rfl, World.ownsRow_nil _ _ _ _, Below.refl _ _⟩
  case round =>
    obtain ⟨j, hj, rfl, HO, hb⟩ := hrel
    have hsz := hb.size
    by_cases hlt : j < xs.length
    · obtain ⟨⟨f, l, t⟩, ho⟩ : ∃ o, xs[j]? = some o := ⟨xs[j], by simp [hlt]⟩
      have hnice := HD.out _ (List.mem_of_getElem? ho)
      have HNx : Hid (cellsL (xs.take (j + 1)) = cellsL (xs.take j) ++ cellsOp ⟨f, l, t⟩) := by
        show _ = _
        rw [List.take_add_one, ho, cellsL_append]; simp [cellsL]
      have htot : (cellsL (xs.take j)).length + (cellsOp ⟨f, l, t⟩).length ≤ 2000 := by
        have h1 := cellsL_length (xs := xs.take (j + 1)) (fun o ho => (HD.out o (List.mem_of_mem_take ho)).1)
        have h2 := sumI_take_le xs (j + 1)
        rw [HNx.out, List.length_append] at h1
        omega
      have hco : (cellsOp ⟨f, l, t⟩).length = l.toNat + t.size := by unfold cellsOp; simp
      obtain ⟨hn, g1, g2, g3⟩ := hnice
      simp only at g1 g2 g3
      have h0 : 0 ≤ f ∧ 0 ≤ l := by rcases hn with ⟨a, b, _⟩ | ⟨a, b, _⟩ <;> simp only at a b <;> omega
      obtain ⟨hf0, hl0⟩ := h0
      obtain ⟨r0, r1, r2⟩ := HR.out j _ ho
      have HC : Hid (∀ W, Below w.heap.size w W → W.cell? ⟨b, off + j * 3, none⟩ = some (.int .i64 f) ∧ W.cell? ⟨b, off + j * 3 + 1, none⟩ = some (.int .i64 l) ∧ W.cell? ⟨b, off + j * 3 + 2, none⟩ = some (.string t)) := fun W hW =>
        ⟨(hW.cell (p := ⟨b, _, none⟩) hbw).trans r0, (hW.cell (p := ⟨b, _, none⟩) hbw).trans r1, (hW.cell (p := ⟨b, _, none⟩) hbw).trans r2⟩
      have HOp : Hid (cellsOp ⟨f, l, t⟩ = (List.range l.toNat).map (fun k : Nat => ((f + (k : Int), (0 : UInt8)) : Cl)) ++ t.data.toList.map fun c => (((-1 : Int), c) : Cl)) := rfl
      have q1 : (j : Int) < (xs.length : Int) := by omega
      have q2 : (0 : Int) ≤ (j : Int) := by omega
      rw [hco] at htot
      generalize hPP : cellsL (xs.take j) = P at *
      clear r0 r1 r2 ho hn hPP hco
      go_wp2
      go_loopw [3, 5] (fun v c wx => ∃ k : Nat, k ≤ l.toNat ∧ c = .int .i64 k ∧ Hid (OwnCl wx w.heap.size v (P ++ (List.range k).map (fun k : Nat => ((f + (k : Int), (0 : UInt8)) : Cl)))) ∧ Below w.heap.size w wx) (fun _ c _ => l.toNat + 1 - (intOf c).toNat)
      case atStart => exact ⟨0, by omega, rfl, by simpa [Hid] using HO.out, hb⟩
      case round =>
        obtain ⟨k, hk, rfl, HO1, hb1⟩ := hrel
        have hsz1 := hb1.size
        obtain ⟨c0, c1, c2⟩ := HC.out _ hb1
        by_cases hkl : k < l.toNat
        · have hkl' : (k : Int) < l := by omega
          have hlen1 : (P ++ (List.range k).map (fun k : Nat => ((f + (k : Int), (0 : UInt8)) : Cl))).length = P.length + k := by simp
          generalize hLL : (P ++ (List.range k).map (fun k : Nat => ((f + (k : Int), (0 : UInt8)) : Cl))) = L at *
          have HL : Hid (P ++ (List.range k).map (fun k : Nat => ((f + (k : Int), (0 : UInt8)) : Cl)) = L) := hLL
          clear hLL
          go_wp2_with (first | (at_builtin; refine wpList_append_own _ rfl _ _ 135 rfl w.heap.size 138 i0 (.agg #[.int .i64 0, .int .u8 0]) 2 16 Tryz.underlying135 hi hz0 hz1 hz2 rfl (by decide) _ _ _ rfl (HO1.out.alloc _) ⟨wr.heap.size, 0, none⟩ 1 1 (clCells [(f + (k : Int), 0)]) rfl rfl (cl_new _ _ _ _ rfl) (cl_one _ _) ?c3 ?c4 ?c5 ?_))
          case c3 => unfold maxLen; omega
          case c4 => omega
          case c5 => simp; omega
          intro v2 w2 ho2 hg2 _
          have HO2 : Hid (OwnCl w2 w.heap.size v2 (P ++ (List.range (k + 1)).map (fun k : Nat => ((f + (k : Int), (0 : UInt8)) : Cl)))) := by
            show OwnCl w2 w.heap.size v2 _
            rw [List.range_succ, List.map_append, ← List.append_assoc, HL.out]
            unfold OwnCl
            rw [clCells_append, List.length_append, hlen1]
            simpa [hlen1] using ho2
          have B2 : Below w.heap.size w w2 := (hb1.alloc (by omega) _).grown hg2 (by simp; omega) (fun k hk => row_own_ge HO1.out hk)
          clear ho2 hg2
          go_wp2
          go_roundw
          case rel => exact ⟨k + 1, by omega, by go_num, HO2, B2⟩
          case measure => simp [intOf]; omega
        · have hkl' : ¬ (k : Int) < l := by omega
          obtain rfl : k = l.toNat := by omega
          go_wp2
          go_loopw [3, 6] (fun v c wy => ∃ k : Nat, k ≤ t.size ∧ c = .int .i64 k ∧ Hid (OwnCl wy w.heap.size v (P ++ (List.range l.toNat).map (fun k : Nat => ((f + (k : Int), (0 : UInt8)) : Cl)) ++ (t.data.toList.take k).map fun c => (((-1 : Int), c) : Cl))) ∧ Below w.heap.size w wy) (fun _ c _ => t.size + 1 - (intOf c).toNat)
          case atStart => exact ⟨0, by omega, rfl, by simpa [Hid] using HO1.out, hb1⟩
          case round =>
            obtain ⟨k, hk2, rfl, HO3, hb3⟩ := hrel
            have hsz3 := hb3.size
            obtain ⟨d0, d1, d2⟩ := HC.out _ hb3
            by_cases hkt : k < t.size
            · have hlen3 : (P ++ (List.range l.toNat).map (fun k : Nat => ((f + (k : Int), (0 : UInt8)) : Cl)) ++ (t.data.toList.take k).map fun c => (((-1 : Int), c) : Cl)).length = P.length + l.toNat + k := by
                simp; omega
              generalize hLL : (P ++ (List.range l.toNat).map (fun k : Nat => ((f + (k : Int), (0 : UInt8)) : Cl)) ++ (t.data.toList.take k).map fun c => (((-1 : Int), c) : Cl)) = L at *
              have HL : Hid (P ++ (List.range l.toNat).map (fun k : Nat => ((f + (k : Int), (0 : UInt8)) : Cl)) ++ (t.data.toList.take k).map (fun c => (((-1 : Int), c) : Cl)) = L) := hLL
              have HT : Hid (t.data.toList.take (k + 1) = t.data.toList.take k ++ [t[k]]) := by show _ = _; rw [List.take_succ_eq_append_getElem (by simpa using hkt)]; rfl
              clear hLL
              go_wp2_with (first | (at_builtin; refine wpList_append_own _ rfl _ _ 135 rfl w.heap.size 138 i0 (.agg #[.int .i64 0, .int .u8 0]) 2 16 Tryz.underlying135 hi hz0 hz1 hz2 rfl (by decide) _ _ _ rfl (HO3.out.alloc _) ⟨wr.heap.size, 0, none⟩ 1 1 (clCells [(-1, t[k])]) rfl rfl (cl_new _ _ _ _ rfl) (cl_one _ _) ?c3 ?c4 ?c5 ?_))
              case c3 => unfold maxLen; omega
              case c4 => omega
              case c5 => simp; omega
              intro v2 w2 ho2 hg2 _
              have HO2 : Hid (OwnCl w2 w.heap.size v2 (P ++ (List.range l.toNat).map (fun k : Nat => ((f + (k : Int), (0 : UInt8)) : Cl)) ++ (t.data.toList.take (k + 1)).map fun c => (((-1 : Int), c) : Cl))) := by
                show OwnCl w2 w.heap.size v2 _
                rw [HT.out, List.map_append, ← List.append_assoc, HL.out]
                unfold OwnCl
                rw [clCells_append, List.length_append, hlen3]
                simpa [hlen3] using ho2
              have B2 : Below w.heap.size w w2 := (hb3.alloc (by omega) _).grown hg2 (by simp; omega) (fun k hk => row_own_ge HO3.out hk)
              clear ho2 hg2
              go_wp2
              go_roundw
              case rel => exact ⟨k + 1, by omega, by go_num, HO2, B2⟩
              case measure => simp [intOf]; omega
            · obtain rfl : k = t.size := by omega
              have h4 := HO3.out
              rw [List.take_of_length_le (by rw [← Lib.size_eq]; exact Nat.le_refl _), List.append_assoc, ← HOp.out, ← HNx.out] at h4
              have HO4 : Hid (OwnCl wr w.heap.size u3 (cellsL (xs.take (j + 1)))) := h4
              clear h4
              go_wp2
              go_roundw
              case rel => exact ⟨j + 1, by omega, by go_num, HO4, hb3⟩
              case measure => simp [intOf]; omega
    · obtain rfl : j = xs.length := by omega
      rw [List.take_length] at HO
      go_wp2
      go_ret
      exact ⟨⟨_, rfl, HO.out⟩, hb⟩

set_option maxHeartbeats 1000000 in
theorem rcells_nil (ao : Option Addr) (cap : Nat) (w : World) :
    Calls Tryz.prog 100 #[.slice ao 0 cap] w fun e w' => e = .returned (.slice none 0 0) ∧ w = w' := by
  go_enter Tryz.func100, Tryz.ntmps100
  go_wp2
  go_loopw [3, 4] (fun v c wr => v = .slice none 0 0 ∧ c = .int .i64 0 ∧ w = wr) (fun _ _ _ => 0)
  case atStart => exact ⟨rfl, rfl, rfl⟩
  case round =>
    obtain ⟨rfl, rfl, rfl⟩ := hrel
    go_wp2
    go_ret
    exact ⟨rfl, rfl⟩
theorem rcells_view {v : Value} {xs : List DOp} {w : World} {b : Int} (hv : View w v xs) (hD : Delta xs b) (hb : b ≤ 2000) :
    Calls Tryz.prog 100 #[v] w fun e w' => (∃ v, e = .returned v ∧ OwnCl w' w.heap.size v (cellsL xs)) ∧ Below w.heap.size w w' := by
  rcases hv with ⟨rfl, ao, cap, rfl⟩ | ⟨g, off, cap, rfl, hg, hr⟩
  · refine (rcells_nil ao cap w).mono ?_
    rintro e w' ⟨rfl, rfl⟩
    exact ⟨⟨_, rfl, World.ownsRow_nil _ _ _ _⟩, Below.refl _ _⟩
  · exact rcells_two g off cap xs w hr hg (hD.parts hb) hD.len hD.sum
end Go.Proofs.YtabpiaaknjcnkaaGreat
