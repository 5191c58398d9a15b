/-
  Plain facts: texts that go by steps of their own, and the vault that they fill.
-/
import Derived.Test.YtabpiaaknjcnkaaPK
import Derived.Test.YtabpiaaknjcnkaaV7
namespace Go.Proofs.Ytabpiaaknjcnkaa
set_option linter.unusedVariables false
set_option linter.unusedSimpArgs false

def tNum (c n i : Nat) : Nat := (c + i * (2 * n + 1) + i / 256 * (n + 7)) % 256
def tText (c n : Nat) : ByteArray := ⟨((List.range 2000).map fun i => UInt8.ofNat (tNum c n i)).toArray⟩
theorem tText_data (c n : Nat) : (tText c n).data.toList = (List.range 2000).map fun i => UInt8.ofNat (tNum c n i) := by simp [tText]
theorem tText_size (c n : Nat) : (tText c n).size = 2000 := by rw [Lib.size_eq, tText_data]; simp
theorem tNum_step {c n i : Nat} (h : i % 256 ≠ 255) : tNum c n (i + 1) = (tNum c n i + (2 * n + 1)) % 256 := by
  unfold tNum
  have h1 : (i + 1) / 256 = i / 256 := by omega
  rw [h1, Nat.succ_mul]
  omega
theorem tNum_lt (c n i : Nat) : tNum c n i < 256 := Nat.mod_lt _ (by omega)
theorem get_stretch {c n i k : Nat} (hi : i + 8 ≤ 2000) (hk : k < 8) : (((tText c n).data.toList.drop i).take 8)[k]? = some (UInt8.ofNat (tNum c n (i + k))) := by
  rw [List.getElem?_take_of_lt hk, List.getElem?_drop, tText_data, List.getElem?_map, List.getElem?_range (by omega)]
  rfl
theorem u8_nat {a b : Nat} (ha : a < 256) (hb : b < 256) (h : UInt8.ofNat a = UInt8.ofNat b) : a = b := by
  have := congrArg UInt8.toNat h
  rwa [UInt8.toNat_ofNat_of_lt' ha, UInt8.toNat_ofNat_of_lt' hb] at this
/-- No stretch of one stands in the next one. -/
theorem no_stretch {c n i j : Nat} (hi : i + 8 ≤ 2000) (hj : j + 8 ≤ 2000) : ((tText c n).data.toList.drop i).take 8 ≠ ((tText c (n + 1)).data.toList.drop j).take 8 := by
  intro e
  have key : ∀ k, k < 8 → tNum c n (i + k) = tNum c (n + 1) (j + k) := fun k hk => by
    have h1 := get_stretch (c := c) (n := n) hi hk
    rw [e, get_stretch hj hk] at h1
    exact (u8_nat (tNum_lt _ _ _) (tNum_lt _ _ _) (by simpa using h1)).symm
  obtain ⟨k, hk, h1, h2⟩ : ∃ k, k < 7 ∧ (i + k) % 256 ≠ 255 ∧ (j + k) % 256 ≠ 255 := by
    by_cases a0 : i % 256 ≠ 255 ∧ j % 256 ≠ 255
    · exact ⟨0, by omega, a0.1, a0.2⟩
    · by_cases a1 : (i + 1) % 256 ≠ 255 ∧ (j + 1) % 256 ≠ 255
      · exact ⟨1, by omega, a1.1, a1.2⟩
      · exact ⟨2, by omega, by omega, by omega⟩
  have e0 := key k (by omega)
  have e1 := key (k + 1) (by omega)
  rw [show i + (k + 1) = i + k + 1 by omega, show j + (k + 1) = j + k + 1 by omega, tNum_step h1, tNum_step h2, e0] at e1
  omega
theorem desc_none {base next : ByteArray} (h : ∀ p, p + 8 ≤ next.size → findFirst base.data.toList (next.extract p (p + 8)).data.toList = none) : ∀ (f ts at_ : Nat), descGo base next f ts at_ = addT (next.extract ts next.size)
  | 0, ts, at_ => rfl
  | f + 1, ts, at_ => by
    rw [descGo]
    split
    · rename_i hp
      rw [h at_ hp]
      exact desc_none h f ts (at_ + 1)
    · rfl
theorem fill_diff (c n : Nat) : diffF (tText c n) (tText c (n + 1)) = [⟨0, 0, tText c (n + 1)⟩] := by
  have hs := tText_size c (n + 1)
  have hd : descF (tText c n) (tText c (n + 1)) = [⟨0, 0, tText c (n + 1)⟩] := by
    unfold descF
    rw [desc_none]
    · rw [show (tText c (n + 1)).extract 0 (tText c (n + 1)).size = tText c (n + 1) by simp, addT_of_pos (by omega)]
    · intro p hp
      refine findFirst_of_none (fun i ho => ?_)
      obtain ⟨h1, h2⟩ := ho
      rw [← Lib.size_eq, tText_size] at h1
      rw [key_data] at h2
      exact no_stretch h1 (by omega) h2
  unfold diffF
  rw [hd]
  simp
theorem uN_one {n : Nat} (h : n < 128) : (uN n).length = 1 := by rw [uN_lt h]; rfl
theorem uN_two {n : Nat} (h : ¬ n < 128) (h2 : n < 16384) : (uN n).length = 2 := by rw [uN_ge h]; simp [uN_one (n := n / 128) (by omega)]
theorem fill_full (c n : Nat) : (recL (bodyF 0 (tText c n).data.toList)).length = 2008 := by
  have hs : (tText c n).data.toList.length = 2000 := by rw [← Lib.size_eq, tText_size]
  have h0 := uN_one (n := 0) (by omega)
  have hb : (bodyF 0 (tText c n).data.toList).length = 2002 := by simp only [bodyF, List.length_cons, List.length_append]; omega
  have := recL_length (bodyF 0 (tText c n).data.toList)
  have h2 := uN_two (n := 2002) (by omega) (by omega)
  rw [hb] at this
  omega
theorem fill_added (c n : Nat) : addedL 0 (some (tText c n)) (tText c (n + 1)) = recL (bodyF 0 (tText c (n + 1)).data.toList) := by
  unfold addedL
  simp only
  rw [if_neg]
  rw [fill_full, fill_diff]
  have hs : (tText c (n + 1)).data.toList.length = 2000 := by rw [← Lib.size_eq, tText_size]
  have h0 := uN_one (n := 0) (by omega)
  have h1 := uN_one (n := 1) (by omega)
  have h4 := uN_two (n := 4000) (by omega) (by omega)
  have hb : (bodyD 0 [⟨0, 0, tText c (n + 1)⟩]).length = 2005 := by
    simp only [bodyD, encL, encOp, List.flatMap_cons, List.flatMap_nil, List.append_nil, List.length_cons, List.length_append, List.length_nil]
    rw [if_neg (by simp), tText_size]
    simp only [List.length_append]
    rw [show 0 + 1 = 1 from rfl, show 2 * 2000 = 4000 from rfl]
    omega
  have := recL_length (bodyD 0 [⟨0, 0, tText c (n + 1)⟩])
  have h2 := uN_two (n := 2005) (by omega) (by omega)
  rw [hb] at this
  omega
/-- The vault behind so many Backups. -/
def fillV (c : Nat) : Nat → Vlt
  | 0 => noVault
  | k + 1 => (fillV c k).put 0 (tText c (k + 1))
theorem fill_ch (c : Nat) : ∀ k, (fillV c k).ch 0 = ⟨0, (List.range k).map fun i => tText c (i + 1)⟩
  | 0 => rfl
  | k + 1 => by
    simp only [fillV, Vlt.put, if_true]
    rw [fill_ch c k, List.range_succ, List.map_append]
    rfl
theorem fill_other (c : Nat) : ∀ k i, i ≠ 0 → (fillV c k).ch i = ⟨0, []⟩
  | 0, i, _ => rfl
  | k + 1, i, h => by
    simp only [fillV, Vlt.put, if_neg h]
    exact fill_other c k i h
theorem fill_last (c k : Nat) : ((fillV c (k + 1)).ch 0).texts.getLast? = some (tText c (k + 1)) := by
  rw [fill_ch, List.range_succ, List.map_append]; simp
theorem fill_log (c : Nat) : ∀ k, (fillV c k).log.length = 2008 * k
  | 0 => rfl
  | k + 1 => by
    simp only [fillV, Vlt.put]
    rw [List.length_append, fill_log c k]
    cases k with
    | zero => rw [show ((fillV c 0).ch 0).texts.getLast? = none from rfl]; show _ + (recL _).length = _; rw [fill_full]
    | succ k => rw [fill_last, fill_added, fill_full]; omega
theorem fill_num (c k : Nat) : ((fillV c k).ch 0).last = k := by rw [fill_ch]; simp [Chn.last]
theorem fill_ok (c : Nat) : ∀ k, k ≤ 9 → (fillV c k).Ok
  | 0, _ => noVault_ok
  | k + 1, hk => by
    refine put_ok (fill_ok c k (by omega)) (by rw [tText_size]; omega) ?_
    rintro (h | h)
    · rw [fill_log, fill_full] at h; omega
    · rw [fill_num] at h; omega
theorem fill_put (c k : Nat) (hk : k ≤ 8) : putE (fillV c k) 0 (tText c (k + 1)) = 0 ∧ putN (fillV c k) 0 (tText c (k + 1)) = (k : Int) + 1 ∧ putS (fillV c k) 0 (tText c (k + 1)) = fillV c (k + 1) := by
  have e0 : (0 : Int).toNat = 0 := rfl
  have hE : putE (fillV c k) 0 (tText c (k + 1)) = 0 := by
    unfold putE
    rw [if_neg (by omega), if_neg (by rw [tText_size]; omega), if_neg]
    rintro (h | h)
    · rw [e0, fill_log, fill_full] at h; omega
    · rw [e0, fill_num] at h; omega
  refine ⟨hE, ?_, ?_⟩
  · unfold putN; rw [if_pos hE, e0, fill_num]; omega
  · unfold putS; rw [if_pos hE, e0]; rfl
theorem fill_get (c k : Nat) (hk : k ≤ 8) : getE (fillV c (k + 1)) 0 ((k : Int) + 1) = 0 ∧ getT (fillV c (k + 1)) 0 ((k : Int) + 1) = tText c (k + 1) := by
  have e0 : (0 : Int).toNat = 0 := rfl
  have hE : getE (fillV c (k + 1)) 0 ((k : Int) + 1) = 0 := by
    unfold getE
    rw [if_neg (by omega), if_pos]
    rw [hasB_iff, e0]
    unfold Chn.has
    rw [fill_num, fill_ch]
    simp
  refine ⟨hE, ?_⟩
  unfold getT
  rw [if_pos hE, e0, fill_ch]
  simp only
  rw [show ((k : Int) + 1 - ((0 : Nat) : Int) - 1).toNat = k by omega, List.getElem?_map, List.getElem?_range (by omega)]
  rfl
theorem fill_none (c : Nat) : putE (fillV c 9) 0 (tText c 9) = 6 := by
  have e0 : (0 : Int).toNat = 0 := rfl
  unfold putE
  rw [if_neg (by omega), if_neg (by rw [tText_size]; omega), if_pos]
  left
  rw [e0, fill_log, fill_full]; omega
def tX : ByteArray := ⟨#[120]⟩
theorem tX_full : (recL (bodyF 1 tX.data.toList)).length = 8 := by
  have h0 := uN_one (n := 1) (by omega)
  have hb : (bodyF 1 tX.data.toList).length = 3 := by simp only [bodyF, List.length_cons, List.length_append, h0]; rfl
  have := recL_length (bodyF 1 tX.data.toList)
  have h2 := uN_one (n := 3) (by omega)
  rw [hb] at this
  omega
theorem fill_x (c : Nat) : putE (fillV c 9) 1 tX = 0 ∧ putN (fillV c 9) 1 tX = 1 ∧ putS (fillV c 9) 1 tX = (fillV c 9).put 1 tX ∧ ((fillV c 9).put 1 tX).Ok ∧ ((fillV c 9).put 1 tX).log.length = 18080 := by
  have e1 : (1 : Int).toNat = 1 := rfl
  have hs : tX.size = 1 := rfl
  have ho := fill_other c 9 1 (by omega)
  have hE : putE (fillV c 9) 1 tX = 0 := by
    unfold putE
    rw [if_neg (by omega), if_neg (by omega), if_neg]
    rintro (h | h)
    · rw [e1, fill_log, tX_full] at h; omega
    · rw [e1, ho] at h; simp [Chn.last] at h
  refine ⟨hE, ?_, ?_, ?_, ?_⟩
  · unfold putN; rw [if_pos hE, e1, ho]; rfl
  · unfold putS; rw [if_pos hE, e1]
  · refine put_ok (fill_ok c 9 (by omega)) (by omega) ?_
    rintro (h | h)
    · rw [fill_log, tX_full] at h; omega
    · rw [ho] at h; simp [Chn.last] at h
  · simp only [Vlt.put]
    rw [List.length_append, fill_log, ho]
    show _ + (recL _).length = _
    rw [tX_full]
theorem fill_after (c : Nat) : getE ((fillV c 9).put 1 tX) 0 9 = 0 ∧ getT ((fillV c 9).put 1 tX) 0 9 = tText c 9 := by
  have e0 : (0 : Int).toNat = 0 := rfl
  have hch : ((fillV c 9).put 1 tX).ch 0 = (fillV c 9).ch 0 := by simp [Vlt.put]
  have hE : getE ((fillV c 9).put 1 tX) 0 9 = 0 := by
    unfold getE
    rw [if_neg (by omega), if_pos]
    rw [hasB_iff, e0, hch]
    unfold Chn.has
    rw [fill_num, fill_ch]
    simp
  refine ⟨hE, ?_⟩
  unfold getT
  rw [if_pos hE, e0, hch, fill_ch]
  simp only
  rw [show ((9 : Int) - ((0 : Nat) : Int) - 1).toNat = 8 by decide, List.getElem?_map, List.getElem?_range (by omega)]
  rfl
theorem fill_end {c k : Nat} (h : k = 9) : putE (fillV c k) 0 (tText c k) = 6 ∧ putN (fillV c k) 0 (tText c k) = 0 ∧ putS (fillV c k) 0 (tText c k) = fillV c k ∧ putE (fillV c k) 1 tX = 0 ∧ putN (fillV c k) 1 tX = 1 ∧ putS (fillV c k) 1 tX = (fillV c k).put 1 tX ∧ ((fillV c k).put 1 tX).Ok ∧ ((fillV c k).put 1 tX).log.length = 18080 ∧ getE ((fillV c k).put 1 tX) 0 (k : Int) = 0 ∧ getT ((fillV c k).put 1 tX) 0 (k : Int) = tText c k := by
  subst h
  have h1 := fill_none c
  obtain ⟨x1, x2, x3, x4, x5⟩ := fill_x c
  obtain ⟨y1, y2⟩ := fill_after c
  refine ⟨h1, ?_, ?_, x1, x2, x3, x4, x5, y1, y2⟩
  · unfold putN; rw [if_neg (by rw [h1]; decide)]
  · unfold putS; rw [if_neg (by rw [h1]; decide)]
end Go.Proofs.Ytabpiaaknjcnkaa
