/-
  Plain facts: the deltas of Twice.
-/
import Derived.Test.YtabpiaaknjcnkaaC3
import Derived.Test.YtabpiaaknjcnkaaPE
namespace Go.Proofs.Ytabpiaaknjcnkaa
set_option linter.unusedVariables false
set_option linter.unusedSimpArgs false

theorem diff_makes (s t : ByteArray) (hs : s.size ≤ 2000) (ht : t.size ≤ 700) : Makes (diffF s t) s.size t.size := by
  rw [diffF_desc s t ht]
  have h := descF_fault s t ht
  have hm := makes_of h
  have hl := madeL_length (B := s.data.toList) (xs := descF s t) (fun o ho => by
    rw [← Lib.size_eq]
    exact isOp_of (hm.each o ho).1 (hm.each o ho).2)
  rw [descF_made, ← Lib.size_eq] at hl
  rw [hl]; exact hm
theorem Makes.ints {xs : List DOp} {b n : Int} (h : Makes xs b n) (hn : n ≤ 2000) : Ints xs := by
  have hc := h.count
  refine ⟨by omega, fun o ho => ?_, fun o ho => ?_⟩
  all_goals
    have h1 := sumI_mem ho
    rw [h.sum] at h1
    unfold sizeI at h1
    rcases h.nice o ho with ⟨a, b', c⟩ | ⟨a, b', c⟩
    · rw [if_pos a] at h1; omega
    · rw [if_neg (by omega)] at h1; omega
theorem Makes.ok {xs ys : List DOp} {b n m : Int} (hx : Makes xs b n) (hy : Makes ys n m) (hb : 0 ≤ b) (hb2 : b ≤ 2000) (hn : n ≤ 2000) (hm : m ≤ 200) (hl : xs.length ≤ 200) : cmpL xs ys = compOps xs ys ∧ cmpE xs ys = 0 ∧ Makes (compOps xs ys) b m := by
  have hc := (hx.comp hy hb).1
  have h1 := hy.count
  have h2 := hc.count
  have ok : cmpOk xs ys := ⟨by rw [hx.fault hb2 hl hn]; omega, by rw [hx.sum, hy.fault (Int.le_refl n) (by omega) (by omega)]; omega, by omega⟩
  exact ⟨if_pos ok, if_pos ok, hc⟩
theorem Makes.app {xs : List DOp} {A : ByteArray} {n : Int} (hx : Makes xs A.size n) (hA : A.size ≤ 2000) (hl : xs.length ≤ 200) (hn : n ≤ 2000) : appE A xs = 0 ∧ appS A xs = ⟨(madeL A.data.toList xs).toArray⟩ := by
  have hf := hx.fault (Int.le_refl _) hl hn
  unfold appE appS
  rw [if_neg (by omega), if_neg (by omega), if_neg (by omega), if_neg (by omega)]
  exact ⟨rfl, rfl⟩
theorem diff_made (s t : ByteArray) (ht : t.size ≤ 700) : madeL s.data.toList (diffF s t) = t.data.toList := by rw [diffF_desc s t ht, descF_made]

/-- All that Twice asks. -/
structure TwiceF (A C D : ByteArray) (x y z : List DOp) : Prop where
  ix : Ints x
  iy : Ints y
  iz : Ints z
  ixy : Ints (cmpL x y)
  iyz : Ints (cmpL y z)
  il : Ints (cmpL (cmpL x y) z)
  i1 : Ints [⟨0, A.size, ⟨#[]⟩⟩]
  exy : cmpE x y = 0
  eyz : cmpE y z = 0
  el : cmpE (cmpL x y) z = 0
  er : cmpE x (cmpL y z) = 0
  same : cmpL x (cmpL y z) = cmpL (cmpL x y) z
  ea : appE A (cmpL x y) = 0
  sa : appS A (cmpL x y) = C
  ed : appE A (cmpL (cmpL x y) z) = 0
  sd : appS A (cmpL (cmpL x y) z) = D
  e1 : cmpE [⟨0, A.size, ⟨#[]⟩⟩] x = 0
  l1 : cmpL [⟨0, A.size, ⟨#[]⟩⟩] x = x
theorem twice_facts (A B C D : ByteArray) (h0 : 0 < A.size) (hA : A.size ≤ 213) (hB : B.size ≤ 200) (hC : C.size ≤ 200) (hD : D.size ≤ 200) : TwiceF A C D (diffF A B) (diffF B C) (diffF C D) := by
  have mx := diff_makes A B (by omega) (by omega)
  have my := diff_makes B C (by omega) (by omega)
  have mz := diff_makes C D (by omega) (by omega)
  have dx := diff_made A B (by omega)
  have dy := diff_made B C (by omega)
  have dz := diff_made C D (by omega)
  generalize diffF A B = x at *
  generalize diffF B C = y at *
  generalize diffF C D = z at *
  have cx := mx.count
  have cy := my.count
  have cz := mz.count
  obtain ⟨a1, a2, a3⟩ := mx.ok my (by omega) (by omega) (by omega) (by omega) (by omega)
  obtain ⟨b1, b2, b3⟩ := my.ok mz (by omega) (by omega) (by omega) (by omega) (by omega)
  have ca := a3.count
  have cb := b3.count
  obtain ⟨l1, l2, l3⟩ := a3.ok mz (by omega) (by omega) (by omega) (by omega) (by omega)
  obtain ⟨r1, r2, r3⟩ := mx.ok b3 (by omega) (by omega) (by omega) (by omega) (by omega)
  have cl := l3.count
  have m1 := all_makes h0
  obtain ⟨o1, o2, o3⟩ := m1.ok mx (by omega) (by omega) (by omega) (by omega) (by simp)
  have ga := a3.app (by omega) (by omega) (by omega)
  have gl := l3.app (by omega) (by omega) (by omega)
  have e1 := (show Makes x A.data.toList.length B.size by rw [← Lib.size_eq]; exact mx).made my
  rw [dx, dy] at e1
  have e2 := (show Makes (compOps x y) A.data.toList.length C.size by rw [← Lib.size_eq]; exact a3).made mz
  rw [e1, dz] at e2
  rw [e1] at ga
  rw [e2] at gl
  have hass := mx.assoc my mz (by omega) (by omega)
  have hall := mx.all h0
  refine ⟨mx.ints (by omega), my.ints (by omega), mz.ints (by omega), ?_, ?_, ?_, m1.ints (by omega), a2, b2, ?_, ?_, ?_, ?_, ?_, ?_, ?_, o2, ?_⟩
  · rw [a1]; exact a3.ints (by omega)
  · rw [b1]; exact b3.ints (by omega)
  · rw [a1, l1]; exact l3.ints (by omega)
  · rw [a1]; exact l2
  · rw [b1]; exact r2
  · rw [a1, b1, l1, r1, hass]
  · rw [a1]; exact ga.1
  · rw [a1, ga.2]
  · rw [a1, l1]; exact gl.1
  · rw [a1, l1, gl.2]
  · rw [o1]; exact hall
end Go.Proofs.Ytabpiaaknjcnkaa
