/-
  The walk over Coded.
-/
import Derived.Test.YtabpiaaknjcnkaaPR
import Derived.Test.YtabpiaaknjcnkaaD8
import Derived.Test.YtabpiaaknjcnkaaK1
import Derived.Test.YtabpiaaknjcnkaaTP
import Derived.Test.YtabpiaaknjcnkaaWK
import Derived.LoopTactic
namespace Go.Proofs.Ytabpiaaknjcnkaa
open Go.RowKit
set_option linter.unusedVariables false
set_option linter.unusedSimpArgs false
set_option maxRecDepth 100000

/-- A delta that Diff finds has its code. -/
theorem enc_of {xs : List DOp} (h : faultF xs 2000 = xs.length) : encS xs = ⟨(encL xs).toArray⟩ ∧ encE xs = 0 ∧ encP xs = 0 := by
  unfold encS encE encP
  rw [if_neg (by omega), if_neg (by omega), if_neg (by omega)]
  exact ⟨rfl, rfl, rfl⟩
/-- All that Coded asks of a delta's code. -/
structure CodedF (x : List DOp) (S : ByteArray) : Prop where
  e0 : encE x = 0
  p0 : encP x = 0
  e1 : decE S = 0
  p1 : decP S = 0
  l1 : decL S = x
  pos : 0 < S.size
  size : S.size ≤ 5000
  cut : ∀ k, k < S.size → decE (S.extract 0 k) = 3 ∧ decP (S.extract 0 k) = k ∧ decL (S.extract 0 k) = []
  more : ∀ c : UInt8, decE (S ++ ⟨#[c]⟩) = 3 ∧ decP (S ++ ⟨#[c]⟩) = S.size ∧ decL (S ++ ⟨#[c]⟩) = []
theorem dec_inl {s : ByteArray} {p : Nat} (h : decF s = .inl p) : decE s = 3 ∧ decP s = p ∧ decL s = [] := by
  unfold decE decP decL; rw [h]; exact ⟨rfl, rfl, rfl⟩
theorem coded_facts {x : List DOp} (h : faultF x 2000 = x.length) : CodedF x (encS x) := by
  obtain ⟨h1, h2, h3⟩ := enc_of h
  have hd : (encS x).data.toList = encL x := by rw [h1]
  have hsz : (encS x).size = (encL x).length := by rw [Lib.size_eq, hd]
  have f1 := decF_fwd (s := encS x) (rest := []) h (by rw [hd]; simp)
  rw [if_pos rfl] at f1
  have hlen : (encL x).length ≤ 4000 := by
    have := encTo_length (delta_of h) x.length
    unfold encTo at this
    rw [List.take_length] at this
    exact this
  refine ⟨h2, h3, ?_, ?_, ?_, ?_, by omega, fun k hk => ?_, fun c => ?_⟩
  · unfold decE; rw [f1]
  · unfold decP; rw [f1]
  · unfold decL; rw [f1]
  · rw [hsz]; exact encL_pos x
  · have hd2 : ((encS x).extract 0 k).data.toList = (encL x).take k := by
      rw [ByteArray.data_extract, Array.toList_extract, List.extract_eq_take_drop, hd]; simp
    have hk2 : ((encS x).extract 0 k).size = k := by rw [size_ext _ _ _ (by omega)]; omega
    have := decF_cut (s := (encS x).extract 0 k) (suf := (encL x).drop k) h (by rw [hd2, List.take_append_drop]) (by intro e; have := List.drop_eq_nil_iff.1 e; omega)
    rw [hk2] at this
    exact dec_inl this
  · have := decF_fwd (s := encS x ++ ⟨#[c]⟩) (rest := [c]) h (by rw [app_bytes, hd])
    rw [if_neg (by simp), ← hsz] at this
    exact dec_inl this

set_option maxHeartbeats 8000000 in
theorem coded_any (base : ByteArray) (rv : Value) (any : ByteArray) (at_ : Int) (w : World) (hb : base.size ≤ 9223372036854775807) (ht : Turns rv w) (ha : any.size ≤ 9223372036854775000) (hat0 : -9223372036854775808 ≤ at_) (hat1 : at_ ≤ 9223372036854775807) :
    Calls Try.prog 6 #[.string base, rv, .string any, .int .i64 at_] w fun e w' => e = .returned (.bool true) ∧ Below w.heap.size w w' := by
  have HT : Hid (Turns rv w) := ht
  clear ht
  go_enter Try.func6, Try.ntmps6
  go_wp2_with fail
  refine (short_eq base 300 _ (by omega) hb).mono ?_
  rintro e w0 ⟨rfl, rfl⟩
  have hB := shortB_size base 300
  generalize shortB base 300 = B at *
  go_wp2_with fail
  refine (HT.out B 400 _ (by omega) (by omega) (Below.refl _ _)).mono ?_
  rintro e w1 ⟨⟨T, rfl, hT⟩, B1⟩
  clear HT
  go_wp2_with fail
  refine (cdiff_ok B T _ (by omega) (by omega)).mono ?_
  rintro e w2 ⟨vx, rfl, o2, b2⟩
  have X2 : Hid (View w2 vx (diffF B T)) := View.of_own o2
  have B2 : Below w.heap.size w w2 := B1.trans (b2.mono B1.size)
  have mk := diff_makes B T (by omega) (by omega)
  have HI : Hid (Ints (diffF B T)) := mk.ints (by omega)
  have HF : Hid (faultF (diffF B T) 2000 = (diffF B T).length) := by
    have hd := descF_fault B T (by omega)
    rw [← diffF_desc B T (by omega)] at hd
    exact mk.fault (by omega) (fault_len hd) (by omega)
  have F : Hid (CodedF (diffF B T) (encS (diffF B T))) := coded_facts HF.out
  clear o2 b2 B1 mk
  generalize diffF B T = x at *
  go_wp2_with fail
  refine (cenc_any X2.out HI.out).mono ?_
  rintro e w3 ⟨rfl, b3⟩
  rw [F.out.e0, F.out.p0]
  have X3 : Hid (View w3 vx x) := X2.out.kept b3
  have B3 : Below w.heap.size w w3 := B2.trans (b3.mono B2.size)
  have hSp := F.out.pos
  have hSs := F.out.size
  clear b3 B2 X2
  generalize encS x = S at *
  go_wp2_with fail
  refine (cdec_any S _ (by omega)).mono ?_
  rintro e w4 ⟨⟨vl, rfl, o4⟩, b4⟩
  rw [F.out.e1, F.out.p1]
  rw [F.out.l1] at o4
  have X4 : Hid (View w4 vx x) := X3.out.kept b4
  have L4 : Hid (View w4 vl x) := View.of_own o4
  have B4 : Below w.heap.size w w4 := B3.trans (b4.mono B3.size)
  clear o4 b4 B3 X3
  go_wp2_with fail
  refine (ksame_any (by have := HI.out.1; omega) L4.out X4.out).mono ?_
  rintro e w5 ⟨rfl, n5, rfl⟩
  have B5 : Below w.heap.size w (w4.drewN n5) := B4.trans (below_drewN0 _ _ _)
  clear X4 L4 B4
  generalize w4.drewN n5 = w5 at *
  have hne : S.toList.isEmpty = false := by
    cases h : S.toList.isEmpty
    · rfl
    · have := (isEmpty_iff S).1 h; omega
  go_wp2_with fail
  refine (pick_eq at_ S.size _ hat0 hat1 hSp (by omega)).mono ?_
  rintro e w6 ⟨rfl, rfl⟩
  have hk := pickN_lt at_ S.size hSp
  generalize pickN at_ S.size = k at *
  obtain ⟨k1, k2, k3⟩ := F.out.cut k hk
  have hks : (S.extract 0 k).size ≤ 9223372036854775000 := by rw [size_ext _ _ _ (by omega)]; omega
  go_wp2_with fail
  refine (cdec_any (S.extract 0 k) _ hks).mono ?_
  rintro e w7 ⟨⟨vm, rfl, o7⟩, b7⟩
  rw [k1, k2]
  rw [k3] at o7
  obtain ⟨mo, mc, hvm⟩ := o7.slice
  have B7 : Below w.heap.size w w7 := B5.trans (b7.mono B5.size)
  subst hvm
  clear o7 b7 B5 k1 k2 k3 hks
  go_wp2_with fail
  obtain ⟨j1, j2, j3⟩ := F.out.more 120
  have hms : (S ++ (⟨#[120]⟩ : ByteArray)).size ≤ 9223372036854775000 := by rw [ByteArray.size_append]; have : (⟨#[120]⟩ : ByteArray).size = 1 := rfl; omega
  generalize (S ++ (⟨#[120]⟩ : ByteArray)) = SX at *
  refine (cdec_any SX _ hms).mono ?_
  rintro e w8 ⟨⟨vo, rfl, o8⟩, b8⟩
  rw [j1, j2]
  rw [j3] at o8
  obtain ⟨oo, oc, hvo⟩ := o8.slice
  have B8 : Below w.heap.size w w8 := B7.trans (b8.mono B7.size)
  subst hvo
  clear o8 b8 B7 j1 j2 j3 hms
  have hkk : ((k : Int) != (k : Int)) = false := by simp
  cases hdec : decF any with
  | inl p =>
    obtain ⟨q1, q2, q3⟩ := dec_inl hdec
    have hp := decF_bad hdec
    go_wp2_with fail
    refine (cdec_any any _ ha).mono ?_
    rintro e w9 ⟨⟨vz, rfl, o9⟩, b9⟩
    rw [q1, q2]
    rw [q3] at o9
    obtain ⟨zo, zc, hvz⟩ := o9.slice
    have B9 : Below w.heap.size w w9 := B8.trans (b9.mono B8.size)
    subst hvz
    clear o9 b9 B8 q1 q2 q3 hdec
    have h1 : (0 : Int) ≤ (p : Int) := by omega
    have h2 : (p : Int) ≤ (any.size : Int) := by omega
    go_wp2
    go_ret
    exact ⟨rfl, B9⟩
  | inr out =>
    obtain ⟨g1, g2⟩ := decF_back hdec
    have q1 : decE any = 0 := by unfold decE; rw [hdec]
    have q2 : decP any = 0 := by unfold decP; rw [hdec]
    have q3 : decL any = out := by unfold decL; rw [hdec]
    obtain ⟨h1, h2, h3⟩ := enc_of g1
    have h4 : encS out = any := by rw [h1]; exact bytes_ext (by rw [g2])
    have hD := delta_of g1
    have HIo : Hid (Ints out) := ⟨by have := hD.len; omega, fun o ho => by have := (hD.parts (by omega) o ho).2.2.1; omega, fun o ho => by have := (hD.parts (by omega) o ho).2.2.2; omega⟩
    clear h1 h3 g1 g2 hdec hD
    go_wp2_with fail
    refine (cdec_any any _ ha).mono ?_
    rintro e w9 ⟨⟨vz, rfl, o9⟩, b9⟩
    rw [q1, q2]
    rw [q3] at o9
    have X9 : Hid (View w9 vz out) := View.of_own o9
    have B9 : Below w.heap.size w w9 := B8.trans (b9.mono B8.size)
    clear o9 b9 B8 q1 q2 q3
    go_wp2_with fail
    refine (cenc_any X9.out HIo.out).mono ?_
    rintro e wA ⟨rfl, bA⟩
    rw [h2, h4]
    have BA : Below w.heap.size w wA := B9.trans (bA.mono B9.size)
    clear bA B9 X9 h2 h4
    generalize encP out = pz
    go_wp2
    go_ret
    exact ⟨rfl, BA⟩
end Go.Proofs.Ytabpiaaknjcnkaa
