/-
  The walk over Twice.
-/
import Derived.Test.YtabpiaaknjcnkaaTP
import Derived.Test.YtabpiaaknjcnkaaK1
import Derived.Test.YtabpiaaknjcnkaaWK
import Derived.LoopTactic
namespace Go.Proofs.Ytabpiaaknjcnkaa
open Go.RowKit
set_option linter.unusedVariables false
set_option linter.unusedSimpArgs false
set_option maxRecDepth 100000

theorem View.drewN {w : World} {v : Value} {xs : List DOp} (h : View w v xs) (n : Nat) : View (w.drewN n) v xs := h.kept (below_drewN0 _ _ _)

set_option maxHeartbeats 8000000 in
theorem twice_any (a : ByteArray) (r1 r2 r3 : Value) (w : World) (ha : a.size ≤ 9223372036854775807) (t1 : Turns r1 w) (t2 : Turns r2 w) (t3 : Turns r3 w) :
    Calls Try.prog 5 #[.string a, r1, r2, r3] w fun e w' => e = .returned (.bool true) ∧ Below w.heap.size w w' := by
  have T1 : Hid (Turns r1 w) := t1
  have T2 : Hid (Turns r2 w) := t2
  have T3 : Hid (Turns r3 w) := t3
  clear t1 t2 t3
  go_enter Try.func5, Try.ntmps5
  go_wp2_with fail
  refine (short_eq a 200 _ (by omega) ha).mono ?_
  rintro e w0 ⟨rfl, rfl⟩
  have hS := shortB_size a 200
  generalize shortB a 200 = S at *
  go_wp2_with fail
  have hA : (S ++ ⟨#[116, 104, 101, 32, 98, 101, 103, 105, 110, 110, 105, 110, 103]⟩ : ByteArray).size = S.size + 13 := by rw [ByteArray.size_append]; rfl
  generalize (S ++ ⟨#[116, 104, 101, 32, 98, 101, 103, 105, 110, 110, 105, 110, 103]⟩ : ByteArray) = A at *
  have hA1 : 0 < A.size := by omega
  have hA2 : A.size ≤ 213 := by omega
  clear hA
  refine (T1.out A 200 _ (by omega) (by omega) (Below.refl _ _)).mono ?_
  rintro e w1 ⟨⟨B, rfl, hB⟩, B1⟩
  clear T1
  go_wp2_with fail
  have hBm : (B ++ ⟨#[109, 111, 114, 101]⟩ : ByteArray).size = B.size + 4 := by rw [ByteArray.size_append]; rfl
  generalize (B ++ ⟨#[109, 111, 114, 101]⟩ : ByteArray) = BM at *
  have hBm2 : BM.size ≤ 204 := by omega
  clear hBm
  refine (T2.out BM 200 _ (by omega) (by omega) B1).mono ?_
  rintro e w2 ⟨⟨C, rfl, hC⟩, b2⟩
  have B2 : Below w.heap.size w w2 := B1.trans (b2.mono B1.size)
  clear T2 b2 B1
  go_wp2_with fail
  have hCA : (C ++ A).size = C.size + A.size := ByteArray.size_append
  generalize C ++ A = CA at *
  have hCA2 : CA.size ≤ 413 := by omega
  clear hCA
  refine (T3.out CA 200 _ (by omega) (by omega) B2).mono ?_
  rintro e w3 ⟨⟨D, rfl, hD⟩, b3⟩
  have B3 : Below w.heap.size w w3 := B2.trans (b3.mono B2.size)
  clear T3 b3 B2
  have F : Hid (TwiceF A C D (diffF A B) (diffF B C) (diffF C D)) := twice_facts A B C D (by omega) (by omega) hB hC hD
  go_wp2_with fail
  refine (cdiff_ok A B _ (by omega) (by omega)).mono ?_
  rintro e w4 ⟨vx, rfl, o4, b4⟩
  have X4 : Hid (View w4 vx (diffF A B)) := View.of_own o4
  have B4 : Below w.heap.size w w4 := B3.trans (b4.mono B3.size)
  clear o4 b4 B3
  go_wp2_with fail
  refine (cdiff_ok B C _ (by omega) (by omega)).mono ?_
  rintro e w5 ⟨vy, rfl, o5, b5⟩
  have X5 : Hid (View w5 vx (diffF A B)) := X4.out.kept b5
  have Y5 : Hid (View w5 vy (diffF B C)) := View.of_own o5
  have B5 : Below w.heap.size w w5 := B4.trans (b5.mono B4.size)
  clear o5 b5 B4 X4
  go_wp2_with fail
  refine (cdiff_ok C D _ (by omega) (by omega)).mono ?_
  rintro e w6 ⟨vz, rfl, o6, b6⟩
  have X6 : Hid (View w6 vx (diffF A B)) := X5.out.kept b6
  have Y6 : Hid (View w6 vy (diffF B C)) := Y5.out.kept b6
  have Z6 : Hid (View w6 vz (diffF C D)) := View.of_own o6
  have B6 : Below w.heap.size w w6 := B5.trans (b6.mono B5.size)
  clear o6 b6 B5 X5 Y5
  generalize diffF A B = x at *
  generalize diffF B C = y at *
  generalize diffF C D = z at *
  go_wp2_with fail
  refine (ccomp_any X6.out Y6.out F.out.ix F.out.iy).mono ?_
  rintro e w7 ⟨⟨vxy, rfl, o7⟩, b7⟩
  rw [F.out.exy]
  have X7 : Hid (View w7 vx x) := X6.out.kept b7
  have Y7 : Hid (View w7 vy y) := Y6.out.kept b7
  have Z7 : Hid (View w7 vz z) := Z6.out.kept b7
  have XY7 : Hid (View w7 vxy (cmpL x y)) := View.of_own o7
  have B7 : Below w.heap.size w w7 := B6.trans (b7.mono B6.size)
  clear o7 b7 B6 X6 Y6 Z6
  generalize cmpP x y = p1
  go_wp2_with fail
  refine (ccomp_any Y7.out Z7.out F.out.iy F.out.iz).mono ?_
  rintro e w8 ⟨⟨vyz, rfl, o8⟩, b8⟩
  rw [F.out.eyz]
  have X8 : Hid (View w8 vx x) := X7.out.kept b8
  have Z8 : Hid (View w8 vz z) := Z7.out.kept b8
  have XY8 : Hid (View w8 vxy (cmpL x y)) := XY7.out.kept b8
  have YZ8 : Hid (View w8 vyz (cmpL y z)) := View.of_own o8
  have B8 : Below w.heap.size w w8 := B7.trans (b8.mono B7.size)
  clear o8 b8 B7 X7 Y7 Z7 XY7
  generalize cmpP y z = p2
  go_wp2_with fail
  refine (ccomp_any XY8.out Z8.out F.out.ixy F.out.iz).mono ?_
  rintro e w9 ⟨⟨vl, rfl, o9⟩, b9⟩
  rw [F.out.el]
  have X9 : Hid (View w9 vx x) := X8.out.kept b9
  have XY9 : Hid (View w9 vxy (cmpL x y)) := XY8.out.kept b9
  have YZ9 : Hid (View w9 vyz (cmpL y z)) := YZ8.out.kept b9
  have L9 : Hid (View w9 vl (cmpL (cmpL x y) z)) := View.of_own o9
  have B9 : Below w.heap.size w w9 := B8.trans (b9.mono B8.size)
  clear o9 b9 B8 X8 Z8 XY8 YZ8
  generalize cmpP (cmpL x y) z = p3
  go_wp2_with fail
  refine (ccomp_any X9.out YZ9.out F.out.ix F.out.iyz).mono ?_
  rintro e wA ⟨⟨vr, rfl, oA⟩, bA⟩
  rw [F.out.er]
  rw [F.out.same] at oA
  have XA : Hid (View wA vx x) := X9.out.kept bA
  have XYA : Hid (View wA vxy (cmpL x y)) := XY9.out.kept bA
  have LA : Hid (View wA vl (cmpL (cmpL x y) z)) := L9.out.kept bA
  have RA : Hid (View wA vr (cmpL (cmpL x y) z)) := View.of_own oA
  have BA : Below w.heap.size w wA := B9.trans (bA.mono B9.size)
  clear oA bA B9 X9 XY9 YZ9 L9
  generalize cmpP x (cmpL y z) = p4
  go_wp2_with fail
  refine (capply_any (by omega) F.out.ixy.1 XYA.out F.out.ixy.2.1).mono ?_
  rintro e wB ⟨rfl, bB⟩
  rw [F.out.ea, F.out.sa]
  have XB : Hid (View wB vx x) := XA.out.kept bB
  have LB : Hid (View wB vl (cmpL (cmpL x y) z)) := LA.out.kept bB
  have RB : Hid (View wB vr (cmpL (cmpL x y) z)) := RA.out.kept bB
  have BB : Below w.heap.size w wB := BA.trans (bB.mono BA.size)
  clear bB BA XA XYA LA RA
  generalize appP A (cmpL x y) = p5
  go_wp2_with fail
  refine (capply_any (by omega) F.out.il.1 LB.out F.out.il.2.1).mono ?_
  rintro e wC ⟨rfl, bC⟩
  rw [F.out.ed, F.out.sd]
  have XC : Hid (View wC vx x) := XB.out.kept bC
  have LC : Hid (View wC vl (cmpL (cmpL x y) z)) := LB.out.kept bC
  have RC : Hid (View wC vr (cmpL (cmpL x y) z)) := RB.out.kept bC
  have BC : Below w.heap.size w wC := BB.trans (bC.mono BB.size)
  clear bC BB XB LB RB
  generalize appP A (cmpL (cmpL x y) z) = p6
  go_wp2_with fail
  refine (ksame_any (by have := F.out.il.1; omega) LC.out RC.out).mono ?_
  rintro e wD ⟨rfl, nD, rfl⟩
  have BD : Below w.heap.size w (wC.drewN nD) := BC.trans (below_drewN0 _ _ _)
  have XD : Hid (View (wC.drewN nD) vx x) := XC.out.drewN nD
  clear LC RC XC BC
  generalize wC.drewN nD = wD at *
  have hsD := BD.size
  have O : Hid (View (wD.alloc (.cells #[.int .i64 0, .int .i64 A.size, .string ⟨#[]⟩] 33)) (.slice (some ⟨wD.heap.size, 0, none⟩) 1 1) [⟨0, A.size, ⟨#[]⟩⟩]) :=
    .inr ⟨wD.heap.size, 0, 1, rfl, by simp, fun i o ho => by
      match i, ho with
      | 0, ho => simp at ho; subst ho; simp
      | i + 1, ho => simp at ho⟩
  have XE : Hid (View (wD.alloc (.cells #[.int .i64 0, .int .i64 A.size, .string ⟨#[]⟩] 33)) vx x) := XD.out.kept ((Below.refl _ _).alloc (Nat.le_refl _) _)
  have HC : Hid (Calls Try.prog 17 #[.slice (some ⟨wD.heap.size, 0, none⟩) 1 1, vx] (wD.alloc (.cells #[.int .i64 0, .int .i64 A.size, .string ⟨#[]⟩] 33)) fun e w' => (∃ v', e = .returned (.tuple #[v', .int .i64 (cmpE [⟨0, A.size, ⟨#[]⟩⟩] x), .int .i64 (cmpP [⟨0, A.size, ⟨#[]⟩⟩] x)]) ∧ OwnOps w' (wD.alloc (.cells #[.int .i64 0, .int .i64 A.size, .string ⟨#[]⟩] 33)).heap.size v' (cmpL [⟨0, A.size, ⟨#[]⟩⟩] x)) ∧ Below (wD.alloc (.cells #[.int .i64 0, .int .i64 A.size, .string ⟨#[]⟩] 33)).heap.size (wD.alloc (.cells #[.int .i64 0, .int .i64 A.size, .string ⟨#[]⟩] 33)) w') := ccomp_any O.out XE.out F.out.i1 F.out.ix
  go_wp2_with fail
  refine HC.out.mono ?_
  rintro e wF ⟨⟨va, rfl, oF⟩, bF⟩
  rw [F.out.e1]
  rw [F.out.l1] at oF
  have XF : Hid (View wF vx x) := XE.out.kept bF
  have AF : Hid (View wF va x) := View.of_own oF
  have BF : Below w.heap.size w wF := (BD.alloc hsD _).trans (bF.mono (by simp; omega))
  clear HC oF bF XE XD O BD
  generalize cmpP [⟨0, A.size, ⟨#[]⟩⟩] x = p7
  go_wp2_with fail
  refine (ksame_any (by have := F.out.ix.1; omega) AF.out XF.out).mono ?_
  rintro e wG ⟨rfl, nG, rfl⟩
  have BG : Below w.heap.size w (wF.drewN nG) := BF.trans (below_drewN0 _ _ _)
  clear AF XF BF
  generalize wF.drewN nG = wG at *
  go_wp2
  go_ret
  exact ⟨rfl, BG⟩
end Go.Proofs.Ytabpiaaknjcnkaa
