/-
  Plain facts: a log of own records, and what behind it can't be.
-/
import Derived.Test.YtabpiaaknjcnkabPK
import Derived.Test.YtabpiaaknjcnkabXPXVN
namespace Go.Proofs.Ytabpiaaknjcnkab
set_option linter.unusedVariables false
set_option linter.unusedSimpArgs false

theorem get_at {s : ByteArray} {start k : Nat} {l : List UInt8} (h : s.data.toList.drop start = l) {x : UInt8} (hx : l[k]? = some x) : ∃ hlt : start + k < s.size, s[start + k] = x := by
  rw [← h, List.getElem?_drop] at hx
  have hlt := (List.getElem?_eq_some_iff.1 hx).1
  rw [← Lib.size_eq] at hlt
  refine ⟨hlt, ?_⟩
  have e := (List.getElem?_eq_some_iff.1 hx).2
  rw [← e]; rfl
theorem numF_zero {s : ByteArray} {start : Nat} {x : UInt8} {r : List UInt8} (h : s.data.toList.drop start = x :: 0 :: r) (hx : 128 ≤ x.toNat) : numF s start = .inl start := by
  obtain ⟨h0, e0⟩ := get_at (k := 0) h rfl
  obtain ⟨h1, e1⟩ := get_at (k := 1) h rfl
  unfold numF
  rw [numGo_more (k := 0) h0 (by rw [e0]; omega), numGo_bad (k := 0 + 1) h1 (by show (s[start + 1]).toNat < 128; rw [e1]; decide) (.inr ⟨by show (s[start + 1]).toNat = 0; rw [e1]; decide, by omega⟩)]
theorem numF_none {s : ByteArray} {start : Nat} (h : s.size ≤ start) : numF s start = .inl s.size := by
  unfold numF; exact numGo_end (by omega)

/-- What a body does, by its letter and its chain. -/
theorem does_at {ch : Nat → Chn} {b : ByteArray} {L : UInt8} {c : Nat} {rest : List UInt8} (hb : b.data.toList = L :: (uN c ++ rest)) (hc : c ≤ 2147483647) :
    doesF ch b = if 3 < c then none else if L = 70 then moreF ch c ⟨rest.toArray⟩ else if L = 68 then codeF ch c ⟨rest.toArray⟩ else match numF b (1 + (uN c).length) with
      | .inl _ => none
      | .inr (n, nx) => if L = 66 then baseF ch c n (b.extract nx b.size) else if L = 80 ∧ nx = b.size then pruneF ch c n else none := by
  have h1 : numF b 1 = .inr (c, 1 + (uN c).length) := numF_fwd (rest := rest) (by rw [hb]; rfl) hc
  have h2 : b.extract (1 + (uN c).length) b.size = ⟨rest.toArray⟩ := rest_eq (x := L :: uN c) (by rw [hb]; simp) (by simp; omega)
  unfold doesF
  rw [hb]
  simp only [List.head?_cons]
  rw [h1]
  simp only [h2]
  rfl
theorem does_num {ch : Nat → Chn} {b : ByteArray} {L : UInt8} {c n : Nat} {rest : List UInt8} (hb : b.data.toList = L :: (uN c ++ (uN n ++ rest))) (hL : L ≠ 70 ∧ L ≠ 68) (hc : c ≤ 3) (hn : n ≤ 2147483647) :
    doesF ch b = if L = 66 then baseF ch c n ⟨rest.toArray⟩ else if L = 80 ∧ rest = [] then pruneF ch c n else none := by
  have h2 : numF b (1 + (uN c).length) = .inr (n, 1 + (uN c).length + (uN n).length) := numF_fwd (rest := rest) (by rw [hb, Nat.add_comm]; simp) hn
  have h3 : b.extract (1 + (uN c).length + (uN n).length) b.size = ⟨rest.toArray⟩ := rest_eq (x := L :: (uN c ++ uN n)) (by rw [hb]; simp) (by simp; omega)
  have h4 : (1 + (uN c).length + (uN n).length = b.size) ↔ rest = [] := by
    rw [Lib.size_eq, hb]
    simp only [List.length_cons, List.length_append]
    constructor
    · intro h; exact List.eq_nil_of_length_eq_zero (by omega)
    · intro h; subst h; simp; omega
  rw [does_at hb (by omega), if_neg (by omega), if_neg hL.1, if_neg hL.2, h2]
  simp only [h3, h4]
theorem code_none {ch : Nat → Chn} {c : Nat} {code : ByteArray} (h : (ch c).texts.getLast? = none) : codeF ch c code = none := by
  unfold codeF
  rw [h]
  split
  · rename_i h2; cases h2
  · rfl

/-- The texts. -/
def tAbc (t : ByteArray) : ByteArray := ⟨#[97, 98, 99, 100, 101, 102]⟩ ++ t
def tAnd (t : ByteArray) : ByteArray := ⟨#[97, 110, 100, 32]⟩ ++ t
def tMade (t : ByteArray) : ByteArray := ⟨#[98, 99, 100, 101, 97, 110, 100, 32]⟩ ++ t
def ownOps (t : ByteArray) : List DOp := [⟨1, 4, ⟨#[]⟩⟩, ⟨0, 0, tAnd t⟩]
theorem tAbc_data (t : ByteArray) : (tAbc t).data.toList = [97, 98, 99, 100, 101, 102] ++ t.data.toList := by simp [tAbc]
theorem tAnd_data (t : ByteArray) : (tAnd t).data.toList = [97, 110, 100, 32] ++ t.data.toList := by simp [tAnd]
theorem tMade_data (t : ByteArray) : (tMade t).data.toList = [98, 99, 100, 101, 97, 110, 100, 32] ++ t.data.toList := by simp [tMade]
theorem tAbc_size (t : ByteArray) : (tAbc t).size = t.size + 6 := by rw [Lib.size_eq, tAbc_data, Lib.size_eq]; simp
theorem tAnd_size (t : ByteArray) : (tAnd t).size = t.size + 4 := by rw [Lib.size_eq, tAnd_data, Lib.size_eq]; simp
theorem tMade_size (t : ByteArray) : (tMade t).size = t.size + 8 := by rw [Lib.size_eq, tMade_data, Lib.size_eq]; simp
theorem some_bytes {t : ByteArray} (h : 0 < t.size) : t.toList.isEmpty = false := by
  rw [Lib.toList_data]
  cases e : t.data.toList with
  | nil => rw [Lib.size_eq, e] at h; simp at h
  | cons x r => rfl
theorem ownOps_fault {t : ByteArray} (ht : t.size ≤ 500) {b : Int} (hb : 5 ≤ b) : faultF (ownOps t) b = (ownOps t).length := by
  have h := tAnd_size t
  have h1 : isOpB 1 4 ⟨#[]⟩ b = true := by
    have e : (⟨#[]⟩ : ByteArray).toList.isEmpty = true := by rw [Lib.toList_data]; rfl
    unfold isOpB; rw [if_pos (by decide), e]; simp; omega
  have h2 : isOpB 0 0 (tAnd t) b = true := by
    unfold isOpB; rw [if_neg (by decide), some_bytes (by omega)]; rfl
  unfold faultF ownOps
  simp only [faultGo]
  rw [if_neg (by decide), h1, if_neg (by decide), if_neg (by simp [behind]), if_neg (by unfold sizeI; simp), if_neg (by decide), h2, if_neg (by decide), if_neg (by simp [behind, followB]), if_neg (by unfold sizeI; simp; omega)]
  rfl
theorem no_bytes : (⟨#[]⟩ : ByteArray).toList.isEmpty = true := by rw [Lib.toList_data]; rfl
theorem one_fault : faultF [⟨0, 1, ⟨#[]⟩⟩] 2000 = 1 ∧ faultF [⟨0, 1, ⟨#[]⟩⟩] 0 = 0 := by
  unfold faultF
  simp only [faultGo, isOpB, no_bytes, behind, sizeI]
  exact ⟨by decide, by decide⟩
theorem ownOps_made (x y : ByteArray) : madeL (tAbc x).data.toList (ownOps y) = (tMade y).data.toList := by
  rw [tAbc_data, tMade_data]
  simp only [madeL, ownOps, opBytes, List.flatMap_cons, List.flatMap_nil, List.append_nil]
  rw [if_pos (by decide), if_neg (by decide), tAnd_data]
  rfl
/-- The log, and the chains that it makes. -/
def ownLog (x y : ByteArray) (n : Nat) : List UInt8 := recL (bodyF 0 x.data.toList) ++ recL (bodyB 3 n (tAbc x).data.toList) ++ recL (bodyD 3 (ownOps y)) ++ recL (bodyF 3 y.data.toList) ++ recL (bodyP 3 (n + 1)) ++ recL (bodyF 0 [])
def ownCh (x y : ByteArray) (n : Nat) : Nat → Chn := fun i => if i = 0 then ⟨0, [x, ⟨#[]⟩]⟩ else if i = 3 then ⟨n, [tMade y, y]⟩ else ⟨0, []⟩
theorem lead_code {ch : Nat → Chn} {l t : ByteArray} {c : Nat} {xs : List DOp} (hc : c < 4) (hs : (bodyD c xs).length ≤ 2147483647) (hx : faultF xs 2000 = xs.length) (hlast : (ch c).texts.getLast? = some l) (hf : faultF xs l.size = xs.length)
    (hm : madeL l.data.toList xs = t.data.toList) (ht : t.size ≤ 2000) (hl : (ch c).last < 2147483647) : Leads (recL (bodyD c xs)) ch (setCh ch c ⟨(ch c).gone, (ch c).texts ++ [t]⟩) :=
  Leads.one (bytes_of _) hs (does_code (bytes_of _) hc hx hlast hf hm ht hl)
theorem ownD_len {y : ByteArray} (hy : y.size ≤ 500) : (bodyD 3 (ownOps y)).length ≤ 600 := by
  have h := tAnd_size y
  have h1 := uN_length (n := 3) (by omega)
  have h2 := uN_length (n := 2) (by omega)
  have h3 := uN_length (n := 9) (by omega)
  have h4 := uN_length (n := 1) (by omega)
  have h5 := uN_length (n := 2 * (tAnd y).size) (by omega)
  have h6 : (tAnd y).data.toList.length = y.size + 4 := by rw [← Lib.size_eq]; exact h
  simp only [bodyD, encL, ownOps, encOp, List.flatMap_cons, List.flatMap_nil, List.append_nil, List.length_cons, List.length_append, List.length_nil]
  rw [if_pos (by decide), if_neg (by decide)]
  simp only [List.length_append]
  rw [show (2 * (4 : Int) + 1).toNat = 9 by decide, show (1 : Int).toNat = 1 by decide, show 0 + 1 + 1 = 2 from rfl]
  omega
theorem own_leads {x y : ByteArray} {n : Nat} (hx : x.size ≤ 500) (hy : y.size ≤ 500) (hn : 0 < n) (hn2 : n ≤ 2147483638) : Leads (ownLog x y n) noCh (ownCh x y n) := by
  have ha := tAbc_size x
  have hm := tMade_size y
  have h1 := lead_full (ch := noCh) (c := 0) (t := x) (by omega) (by omega) (by simp [noCh, Chn.last])
  obtain ⟨c1, e1⟩ : ∃ c1, c1 = setCh noCh 0 ⟨(noCh 0).gone, (noCh 0).texts ++ [x]⟩ := ⟨_, rfl⟩
  rw [← e1] at h1
  have h2 := lead_base (ch := c1) (c := 3) (n := n) (t := tAbc x) (by omega) hn (by omega) (by omega) (by rw [e1]; rfl)
  obtain ⟨c2, e2⟩ : ∃ c2, c2 = setCh c1 3 ⟨n - 1, [tAbc x]⟩ := ⟨_, rfl⟩
  rw [← e2] at h2
  have h3 := lead_code (ch := c2) (c := 3) (xs := ownOps y) (l := tAbc x) (t := tMade y) (by omega) (by have := ownD_len hy; omega) (ownOps_fault hy (by omega)) (by rw [e2]; rfl) (ownOps_fault hy (by omega)) (ownOps_made x y) (by omega) (by rw [e2]; simp [setCh, Chn.last]; omega)
  obtain ⟨c3, e3⟩ : ∃ c3, c3 = setCh c2 3 ⟨(c2 3).gone, (c2 3).texts ++ [tMade y]⟩ := ⟨_, rfl⟩
  rw [← e3] at h3
  have f3 : c3 3 = ⟨n - 1, [tAbc x, tMade y]⟩ := by rw [e3, e2]; rfl
  have h4 := lead_full (ch := c3) (c := 3) (t := y) (by omega) (by omega) (by rw [f3]; simp [Chn.last]; omega)
  obtain ⟨c4, e4⟩ : ∃ c4, c4 = setCh c3 3 ⟨(c3 3).gone, (c3 3).texts ++ [y]⟩ := ⟨_, rfl⟩
  rw [← e4] at h4
  have f4 : c4 3 = ⟨n - 1, [tAbc x, tMade y, y]⟩ := by rw [e4, f3]; rfl
  have h5 := lead_prune (ch := c4) (c := 3) (n := n + 1) (by omega) (by omega) (by rw [f4]; simp [Chn.last]; omega)
  obtain ⟨c5, e5⟩ : ∃ c5, c5 = setCh c4 3 ⟨n + 1 - 1, (c4 3).texts.drop (n + 1 - (c4 3).gone - 1)⟩ := ⟨_, rfl⟩
  rw [← e5] at h5
  have f5 : c5 0 = ⟨0, [x]⟩ := by rw [e5, e4, e3, e2, e1]; rfl
  have h6 := lead_full (ch := c5) (c := 0) (t := ⟨#[]⟩) (by omega) (by decide) (by rw [f5]; simp [Chn.last])
  have := ((((h1.trans h2).trans h3).trans h4).trans h5).trans h6
  have e : setCh c5 0 ⟨(c5 0).gone, (c5 0).texts ++ [⟨#[]⟩]⟩ = ownCh x y n := by
    funext i
    rw [f5]
    unfold ownCh
    by_cases hi : i = 0
    · subst hi; rfl
    · rw [if_neg hi]
      by_cases h3 : i = 3
      · subst h3
        show c5 3 = _
        rw [e5, f4]
        simp only [setCh, if_true]
        rw [show n + 1 - (n - 1) - 1 = 1 by omega]
        rfl
      · rw [if_neg h3]
        simp only [setCh, if_neg hi]
        rw [e5, e4, e3, e2, e1]
        simp only [setCh, if_neg h3, if_neg hi]
        rfl
  rw [e] at this
  exact this

/-- What can't stand behind it. -/
def ownBad (n : Nat) : List (List UInt8) :=
  [recL (70 :: (uN 4 ++ [120])), recL (71 :: (uN 0 ++ [])), recL (68 :: (uN 1 ++ uN 0)), recL (68 :: (uN 0 ++ (uN 1 ++ (uN 3 ++ uN 0)))), recL (66 :: (uN 0 ++ (uN 1 ++ [120]))), recL (66 :: (uN 1 ++ (uN 0 ++ [120]))),
   recL (80 :: (uN 3 ++ (uN n ++ []))), recL (80 :: (uN 3 ++ (uN (n + 3) ++ []))), recL (80 :: (uN 3 ++ (uN (n + 2) ++ [120]))), recL (80 :: (uN 1 ++ (uN 0 ++ []))), recL [], recL [70], recL [70, 128, 0, 120], [120], (recL (70 :: uN 1)).take 5, [130, 0] ++ (recL (70 :: uN 1)).drop 1]
theorem bad_stop {log : ByteArray} {at_ : Nat} {b : List UInt8} {ch : Nat → Chn} (h : log.data.toList.drop at_ = recL b) (hb : b.length ≤ 100) (hd : ∀ x : ByteArray, x.data.toList = b → doesF ch x = none) : Stops0 log at_ ch :=
  stop_there (b := ⟨b.toArray⟩) (rest := []) (by rw [h, bytes_of, List.append_nil]) (by rw [Lib.size_eq, bytes_of]; omega) (hd _ (bytes_of _))
theorem own_stops {x y log : ByteArray} {n k at_ : Nat} {l : List UInt8} (hn : 0 < n) (hn2 : n ≤ 2147483638) (hk : (ownBad n)[k]? = some l) (h : log.data.toList.drop at_ = l) : Stops0 log at_ (ownCh x y n) := by
  have c0 : ownCh x y n 0 = ⟨0, [x, ⟨#[]⟩]⟩ := rfl
  have c1 : ownCh x y n 1 = ⟨0, []⟩ := rfl
  have c3 : ownCh x y n 3 = ⟨n, [tMade y, y]⟩ := rfl
  have hu : ∀ m, m < 34359738368 → (uN m).length ≤ 5 := fun m hm => uN_length5 hm
  have u0 := hu 0 (by omega)
  have u1 := hu 1 (by omega)
  have u3 := hu 3 (by omega)
  have u4 := hu 4 (by omega)
  have un := hu n (by omega)
  have un2 := hu (n + 2) (by omega)
  have un3 := hu (n + 3) (by omega)
  match k, hk with
  | 0, hk =>
    obtain rfl : _ = l := by simpa [ownBad] using hk
    exact bad_stop h (by simp; omega) (fun b hb => by rw [does_at hb (by omega)]; rfl)
  | 1, hk =>
    obtain rfl : recL (71 :: (uN 0 ++ [])) = l := by simpa [ownBad] using hk
    exact bad_stop h (by simp; omega) (fun b hb => by
      rw [does_at hb (by omega), if_neg (by omega), if_neg (by decide), if_neg (by decide)]
      split
      · rfl
      · rw [if_neg (by decide), if_neg (by simp)])
  | 2, hk =>
    obtain rfl : _ = l := by simpa [ownBad] using hk
    exact bad_stop h (by simp; omega) (fun b hb => by
      rw [does_at hb (by omega), if_neg (by omega), if_neg (by decide), if_pos rfl]
      exact code_none (by rw [c1]; rfl))
  | 3, hk =>
    obtain rfl : _ = l := by simpa [ownBad] using hk
    exact bad_stop h (by simp; omega) (fun b hb => by
      rw [does_at hb (by omega), if_neg (by omega), if_neg (by decide), if_pos rfl]
      have hf : faultF [⟨0, 1, ⟨#[]⟩⟩] 2000 = ([⟨0, 1, ⟨#[]⟩⟩] : List DOp).length := one_fault.1
      have hd : decF ⟨(uN 1 ++ (uN 3 ++ uN 0)).toArray⟩ = .inr [⟨0, 1, ⟨#[]⟩⟩] := by
        rw [decF_fwd hf (rest := []) (by rw [bytes_of, List.append_nil]; rfl)]; rfl
      unfold codeF
      rw [hd, c0]
      simp only [List.getLast?_cons_cons, List.getLast?_singleton]
      rw [if_pos (by show faultF [⟨0, 1, ⟨#[]⟩⟩] 0 < 1; rw [one_fault.2]; decide)])
  | 4, hk =>
    obtain rfl : _ = l := by simpa [ownBad] using hk
    exact bad_stop h (by simp; omega) (fun b hb => by
      rw [does_num hb (by decide) (by omega) (by omega), if_pos rfl]
      unfold baseF
      rw [c0, if_neg (by simp [Chn.last])])
  | 5, hk =>
    obtain rfl : _ = l := by simpa [ownBad] using hk
    exact bad_stop h (by simp; omega) (fun b hb => by
      rw [does_num hb (by decide) (by omega) (by omega), if_pos rfl]
      unfold baseF
      rw [if_neg (by omega)])
  | 6, hk =>
    obtain rfl : recL (80 :: (uN 3 ++ (uN n ++ []))) = l := by simpa [ownBad] using hk
    exact bad_stop h (by simp; omega) (fun b hb => by
      rw [does_num hb (by decide) (by omega) (by omega), if_neg (by decide), if_pos ⟨rfl, rfl⟩]
      unfold pruneF
      rw [c3, if_neg (by simp)])
  | 7, hk =>
    obtain rfl : recL (80 :: (uN 3 ++ (uN (n + 3) ++ []))) = l := by simpa [ownBad] using hk
    exact bad_stop h (by simp; omega) (fun b hb => by
      rw [does_num hb (by decide) (by omega) (by omega), if_neg (by decide), if_pos ⟨rfl, rfl⟩]
      unfold pruneF
      rw [c3, if_neg (by simp [Chn.last])])
  | 8, hk =>
    obtain rfl : _ = l := by simpa [ownBad] using hk
    exact bad_stop h (by simp; omega) (fun b hb => by
      rw [does_num hb (by decide) (by omega) (by omega), if_neg (by decide), if_neg (by simp)])
  | 9, hk =>
    obtain rfl : recL (80 :: (uN 1 ++ (uN 0 ++ []))) = l := by simpa [ownBad] using hk
    exact bad_stop h (by simp; omega) (fun b hb => by
      rw [does_num hb (by decide) (by omega) (by omega), if_neg (by decide), if_pos ⟨rfl, rfl⟩]
      unfold pruneF
      rw [if_neg (by omega)])
  | 10, hk =>
    obtain rfl : _ = l := by simpa [ownBad] using hk
    exact bad_stop h (by simp) (fun b hb => by unfold doesF; rw [hb]; rfl)
  | 11, hk =>
    obtain rfl : _ = l := by simpa [ownBad] using hk
    exact bad_stop h (by simp) (fun b hb => by
      unfold doesF; rw [hb]
      simp only [List.head?_cons]
      rw [numF_none (by rw [Lib.size_eq, hb]; simp)])
  | 12, hk =>
    obtain rfl : _ = l := by simpa [ownBad] using hk
    exact bad_stop h (by simp) (fun b hb => by
      unfold doesF; rw [hb]
      simp only [List.head?_cons]
      rw [numF_zero (x := 128) (r := [120]) (by rw [hb]; rfl) (by decide)])
  | 13, hk =>
    obtain rfl : _ = l := by simpa [ownBad] using hk
    have e := numF_fwd (s := log) (start := at_) (m := 120) (rest := []) (by rw [h]; rfl) (by omega)
    have hl := congrArg List.length h
    rw [List.length_drop, ← Lib.size_eq] at hl
    simp at hl
    exact stop_short e (by have : (uN 120).length = 1 := rfl; omega)
  | 14, hk =>
    obtain rfl : _ = l := by simpa [ownBad] using hk
    refine stop_cut (b := 70 :: uN 1) (suf := (recL (70 :: uN 1)).drop 5) h (List.take_append_drop 5 _).symm ?_ (by simp; omega)
    have := recL_length (70 :: uN 1)
    intro e
    have e2 := congrArg List.length e
    rw [List.length_drop] at e2
    have : (uN 1).length = 1 := rfl
    have := uN_pos (70 :: uN 1).length
    simp at *
    omega
  | 15, hk =>
    obtain rfl : _ = l := by simpa [ownBad] using hk
    exact stop_num (numF_zero h (by decide))
  | k + 16, hk => simp [ownBad] at hk
theorem own_opens {x y log : ByteArray} {n k : Nat} {l : List UInt8} (hx : x.size ≤ 500) (hy : y.size ≤ 500) (hn : 0 < n) (hn2 : n ≤ 2147483638) (hk : (ownBad n)[k]? = some l) (h : log.data.toList = ownLog x y n ++ l) : openF log = (ownCh x y n, (ownLog x y n).length) :=
  open_leads h (own_leads hx hy hn hn2) (own_stops hn hn2 hk (by rw [h, List.drop_left]))
end Go.Proofs.Ytabpiaaknjcnkab
