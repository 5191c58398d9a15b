/- The texts W9, K2, one behind the other. -/
import Derived.Test.YtabpiaaknjcnkabGreatXW1W3W4
import Derived.LoopTactic
import Derived.Test.YtabpiaaknjcnkabGreatXPVW2
import Derived.Test.YtabpiaaknjcnkabGreatXE2S1S2
import Derived.Deep.RegionHeld3
import Derived.Deep.RegionLaw
/-
  The walk over turned.
-/
namespace Go.Proofs.YtabpiaaknjcnkabGreat
open Go.RowKit
set_option linter.unusedVariables false
set_option linter.unusedSimpArgs false
set_option maxRecDepth 100000

def byteOf (z : Int) : UInt8 := UInt8.ofNat (z % 256).toNat
theorem byteOf_toNat (z : Int) : ((byteOf z).toNat : Int) = z % 256 := by
  have h : (z % 256).toNat < 256 := by omega
  rw [byteOf, UInt8.toNat_ofNat_of_lt' (by simpa using h)]
  omega
theorem conv1 (w : World) (z : Int) : (convert 41 9 (.slice (some ⟨w.heap.size, 0, none⟩) 1 1)).run Tryz.prog (w.alloc (.cells #[.int .u8 (z % 256)] 5)) = .ok (.string ⟨#[byteOf z]⟩) (w.alloc (.cells #[.int .u8 (z % 256)] 5)) := by
  have := run_convert_bytes_back (P := Tryz.prog) (w.alloc (.cells #[.int .u8 (z % 256)] 5)) 41 9 5 ⟨w.heap.size, 0, none⟩ 1 [byteOf z] Tryz.underlying41 Tryz.underlying5 Tryz.underlying9 (fun j hj => by
    have : j = 0 := by simpa using hj
    subst this
    simp [Addr.add, byteOf_toNat])
  exact this

theorem size_push1 (o : ByteArray) (c : UInt8) (h : o.size ≤ 1999) : (o ++ ⟨#[c]⟩).size ≤ 2000 := by
  rw [ByteArray.size_append]
  have : (⟨#[c]⟩ : ByteArray).size = 1 := rfl
  omega

set_option maxHeartbeats 2000000 in
/-- turned hands some text of at most so many bytes back. -/
theorem turned_any (s : ByteArray) (b off cap : Nat) (zs : List Int) (most : Nat) (w : World) (hs : s.size ≤ 700) (hm : most ≤ 700) (hz : zs.length ≤ 1000000000000000) (hbw : b < w.heap.size)
    (hr : ∀ i z, zs[i]? = some z → w.cell? ⟨b, off + i, none⟩ = some (.int .i64 z)) (hw : ∀ z ∈ zs, -9223372036854775808 ≤ z ∧ z ≤ 9223372036854775807) :
    Calls Tryz.prog 23 #[.string s, .slice (some ⟨b, off, none⟩) zs.length cap, .int .i64 most] w fun e w' => (∃ t : ByteArray, e = .returned (.string t) ∧ t.size ≤ most) ∧ Below w.heap.size w w' := by
  have HR : Hid (∀ i z, zs[i]? = some z → w.cell? ⟨b, off + i, none⟩ = some (.int .i64 z)) := hr
  have HW : Hid (∀ z ∈ zs, -9223372036854775808 ≤ z ∧ z ≤ 9223372036854775807) := hw
  clear hr hw
  go_enter Tryz.func23, Tryz.ntmps23
  go_wp2
  go_loopw [7, 8] (fun o i wr => ∃ (k : Nat) (out : ByteArray), k ≤ zs.length + 3 ∧ i = .int .i64 k ∧ o = .string out ∧ out.size ≤ 2000 ∧ Below w.heap.size w wr)
    (fun _ i _ => zs.length + 4 - (intOf i).toNat)
  case atStart => exact ⟨0, ⟨#[]⟩, by omega, rfl, rfl, Nat.zero_le _, Below.refl _ _⟩
  case round =>
    obtain ⟨k, out, hk, rfl, rfl, ho, hb⟩ := hrel
    by_cases hlt : k + 2 < zs.length
    · by_cases hlt2 : out.size < most
      · have hsz := hb.size
        obtain ⟨z0, hz0⟩ : ∃ z, zs[k]? = some z := ⟨zs[k], by simp⟩
        obtain ⟨z1, hz1⟩ : ∃ z, zs[k + 1]? = some z := ⟨zs[k + 1], by simp⟩
        obtain ⟨z2, hz2⟩ : ∃ z, zs[k + 2]? = some z := ⟨zs[k + 2], by simp⟩
        have c0 : wr.cell? ⟨b, off + k, none⟩ = some (.int .i64 z0) := (hb.cell (p := ⟨b, _, none⟩) hbw).trans (HR.out k _ hz0)
        have c1 : wr.cell? ⟨b, off + (k + 1), none⟩ = some (.int .i64 z1) := (hb.cell (p := ⟨b, _, none⟩) hbw).trans (HR.out (k + 1) _ hz1)
        have c2 : wr.cell? ⟨b, off + (k + 2), none⟩ = some (.int .i64 z2) := (hb.cell (p := ⟨b, _, none⟩) hbw).trans (HR.out (k + 2) _ hz2)
        obtain ⟨w0a, w0b⟩ := HW.out z0 (List.mem_of_getElem? hz0)
        obtain ⟨w1a, w1b⟩ := HW.out z1 (List.mem_of_getElem? hz1)
        obtain ⟨w2a, w2b⟩ := HW.out z2 (List.mem_of_getElem? hz2)
        clear hz0 hz1 hz2
        by_cases hs0 : 0 < s.size
        · go_wp2_with fail
          refine (pick_eq z0 s.size _ w0a w0b hs0 (by omega)).mono ?_
          rintro e w2 ⟨rfl, rfl⟩
          have hf := pickN_lt z0 s.size hs0
          generalize pickN z0 s.size = fr at *
          go_wp2_with fail
          rw [show ((s.size : Int) - (fr : Int) + 1) = ((s.size - fr + 1 : Nat) : Int) from by omega]
          refine (pick_eq z1 (s.size - fr + 1) _ w1a w1b (by omega) (by omega)).mono ?_
          rintro e w2 ⟨rfl, rfl⟩
          have hn := pickN_lt z1 (s.size - fr + 1) (by omega)
          generalize pickN z1 (s.size - fr + 1) = n at *
          have hcv := conv1 wr z2
          have hx : (out ++ s.extract fr (fr + n)).size ≤ 1500 := by rw [ByteArray.size_append, ByteArray.size_extract]; omega
          go_wp2
          · go_roundw
            case rel => exact ⟨k + 3, _, by omega, by go_num, rfl, size_push1 _ _ (by omega), hb.alloc (by omega) _⟩
            case measure => simp [intOf]; omega
          · go_roundw
            case rel => exact ⟨k + 3, _, by omega, by go_num, rfl, by omega, hb⟩
            case measure => simp [intOf]; omega
        · have hcv := conv1 wr z2
          go_wp2
          · go_roundw
            case rel => exact ⟨k + 3, _, by omega, by go_num, rfl, size_push1 _ _ (by omega), hb.alloc (by omega) _⟩
            case measure => simp [intOf]; omega
          · go_roundw
            case rel => exact ⟨k + 3, _, by omega, by go_num, rfl, by omega, hb⟩
            case measure => simp [intOf]; omega
      · go_wp2_with fail
        refine (short_eq out most _ (by omega) (by omega)).mono ?_
        rintro e w2 ⟨rfl, rfl⟩
        have hsh := shortB_size out most
        generalize shortB out most = t at *
        go_wp2
        go_ret
        exact ⟨⟨t, rfl, hsh⟩, hb⟩
    · go_wp2_with fail
      refine (short_eq out most _ (by omega) (by omega)).mono ?_
      rintro e w2 ⟨rfl, rfl⟩
      have hsh := shortB_size out most
      generalize shortB out most = t at *
      go_wp2
      go_ret
      exact ⟨⟨t, rfl, hsh⟩, hb⟩
set_option maxHeartbeats 1000000 in
theorem turned_nil (s : ByteArray) (ao : Option Addr) (cap : Nat) (most : Nat) (w : World) (hm : most ≤ 700) :
    Calls Tryz.prog 23 #[.string s, .slice ao 0 cap, .int .i64 most] w fun e w' => (∃ t : ByteArray, e = .returned (.string t) ∧ t.size ≤ most) ∧ Below w.heap.size w w' := by
  go_enter Tryz.func23, Tryz.ntmps23
  go_wp2
  go_loopw [7, 8] (fun o i wr => i = .int .i64 0 ∧ o = .string ⟨#[]⟩ ∧ w = wr) (fun _ _ _ => 0)
  case atStart => exact ⟨rfl, rfl, rfl⟩
  case round =>
    obtain ⟨rfl, rfl, rfl⟩ := hrel
    go_wp2_with fail
    refine (short_eq ⟨#[]⟩ most _ (by omega) (by decide)).mono ?_
    rintro e w2 ⟨rfl, rfl⟩
    have hsh := shortB_size ⟨#[]⟩ most
    generalize shortB ⟨#[]⟩ most = t at *
    go_wp2
    go_ret
    exact ⟨⟨t, rfl, hsh⟩, Below.refl _ _⟩
end Go.Proofs.YtabpiaaknjcnkabGreat

/-
  The walks over u and record of cofferkeep.
-/
namespace Go.Proofs.YtabpiaaknjcnkabGreat
open Go.RowKit
set_option linter.unusedVariables false
set_option linter.unusedSimpArgs false
set_option maxRecDepth 100000

theorem kconv_byte (w : World) (z : Int) (n : Nat) (hz : z = n) (hn : n < 256) : (convert 41 9 (.slice (some ⟨w.heap.size, 0, none⟩) 1 1)).run Tryz.prog (w.alloc (.cells #[.int .u8 z] 5)) = .ok (.string ⟨#[UInt8.ofNat n]⟩) (w.alloc (.cells #[.int .u8 z] 5)) := by
  have := conv1 w z
  rw [show z % 256 = z by omega] at this
  rw [this, show byteOf z = UInt8.ofNat n by unfold byteOf; rw [show (z % 256).toNat = n by omega]]

set_option maxHeartbeats 2000000 in
theorem ku_small (n : Nat) (w : World) (hn : n < 128) :
    Calls Tryz.prog 37 #[.int .i64 n] w fun e w' => e = .returned (.string ⟨(uN n).toArray⟩) ∧ Below w.heap.size w w' := by
  have hcv := kconv_byte w (n : Int) n rfl (by omega)
  have HE : Hid ((⟨(uN n).toArray⟩ : ByteArray) = ⟨#[UInt8.ofNat n]⟩) := by show _ = _; rw [uN_lt hn]
  go_enter Tryz.func37, Tryz.ntmps37
  go_wp2
  go_ret
  rw [HE.out]
  exact ⟨rfl, (Below.refl _ _).alloc (Nat.le_refl _) _⟩

theorem kconv_at (W : World) (g : Nat) (z : Int) (c : UInt8) (hz : z = c.toNat) (h : W.cell? ⟨g, 0, none⟩ = some (.int .u8 z)) : (convert 41 9 (.slice (some ⟨g, 0, none⟩) 1 1)).run Tryz.prog W = .ok (.string ⟨#[c]⟩) W := by
  have := run_convert_bytes_back (P := Tryz.prog) W 41 9 5 ⟨g, 0, none⟩ 1 [c] Tryz.underlying41 Tryz.underlying5 Tryz.underlying9 (fun j hj => by
    have : j = 0 := by simpa using hj
    subst this
    have e : (⟨g, 0, none⟩ : Addr).add 0 = ⟨g, 0, none⟩ := by simp [Addr.add]
    rw [e, h, hz]; rfl)
  exact this

set_option maxHeartbeats 4000000 in
theorem ku_more (n : Nat) (t : ByteArray) (w : World) (hn : ¬ n < 128) (hb : n ≤ 9000000000000000000) (ht : t.size ≤ 100)
    (H : Hid (∀ W : World, Calls Tryz.prog 37 #[.int .i64 (n / 128 : Nat)] W fun e w' => e = .returned (.string t) ∧ Below W.heap.size W w')) :
    Calls Tryz.prog 37 #[.int .i64 n] w fun e w' => e = .returned (.string (⟨#[UInt8.ofNat (n % 128 + 128)]⟩ ++ t)) ∧ Below w.heap.size w w' := by
  have hz := byte_toNat (n := n % 128 + 128) (by omega)
  generalize hc : UInt8.ofNat (n % 128 + 128) = c at *
  have e1 : (n : Int).tmod 128 = ((n % 128 : Nat) : Int) := by rw [Int.tmod_eq_emod_of_nonneg (by omega)]; omega
  have e2 : IntKind.i64.wrap (((n % 128 : Nat) : Int) + 128) = ((n % 128 + 128 : Nat) : Int) := by rw [IntKind.wrap_i64]; omega
  have e3 : IntKind.u8.wrap ((n % 128 + 128 : Nat) : Int) = (c.toNat : Int) := by rw [hz, IntKind.wrap_u8]; omega
  have e4 : IntKind.i64.wrap ((n : Int) / 128) = ((n / 128 : Nat) : Int) := by rw [IntKind.wrap_i64]; omega
  have hcv := fun (W : World) (g : Nat) => kconv_at W g c.toNat c rfl
  have hsz : ¬ 9223372036854775807 < (⟨#[c]⟩ : ByteArray).size + t.size := by have : (⟨#[c]⟩ : ByteArray).size = 1 := rfl; omega
  clear hc hz
  generalize n % 128 = m at *
  generalize m + 128 = m' at *
  go_enter Tryz.func37, Tryz.ntmps37
  go_wp2
  go_region_with (first | (go_at_call 37; refine (H.out _).mono ?_; rintro e w3 ⟨rfl, hb3⟩; have k3 := fun (q j : Nat) (hq : q < _) => hb3.cell (p := ⟨q, j, none⟩) hq))
  all_goals go_wp2
  all_goals go_ret
  all_goals refine ⟨rfl, ?_⟩
  all_goals first
    | exact (((Below.refl w.heap.size w).alloc (Nat.le_refl _) _).drew).trans (hb3.mono (by simp))
    | exact ((Below.refl w.heap.size w).drew.trans (hb3.mono (by simp))).alloc (by have := hb3.size; simpa using this) _
theorem ku_any : ∀ (n : Nat) (w : World) (hn : n < 34359738368),
    Calls Tryz.prog 37 #[.int .i64 n] w fun e w' => e = .returned (.string ⟨(uN n).toArray⟩) ∧ Below w.heap.size w w' := by
  intro n
  induction n using Nat.strongRecOn with
  | ind n ih =>
    intro w hn
    by_cases h : n < 128
    · exact ku_small n w h
    · have e : (⟨(uN n).toArray⟩ : ByteArray) = ⟨#[UInt8.ofNat (n % 128 + 128)]⟩ ++ ⟨(uN (n / 128)).toArray⟩ := by
        apply bytes_ext; rw [app_bytes, uN_ge h]; rfl
      have hl := uN_length5 (n := n / 128) (by omega)
      have hz : (⟨(uN (n / 128)).toArray⟩ : ByteArray).size ≤ 100 := by rw [Lib.size_eq]; simp only; omega
      rw [e]
      exact ku_more n _ w h (by omega) hz (fun W => ih (n / 128) (by omega) W (by omega))
theorem kconv4 (W : World) (g : Nat) (a b c d : UInt8) (h0 : W.cell? ⟨g, 0, none⟩ = some (.int .u8 a.toNat)) (h1 : W.cell? ⟨g, 1, none⟩ = some (.int .u8 b.toNat)) (h2 : W.cell? ⟨g, 2, none⟩ = some (.int .u8 c.toNat)) (h3 : W.cell? ⟨g, 3, none⟩ = some (.int .u8 d.toNat)) :
    (convert 41 9 (.slice (some ⟨g, 0, none⟩) 4 4)).run Tryz.prog W = .ok (.string ⟨#[a, b, c, d]⟩) W := by
  have := run_convert_bytes_back (P := Tryz.prog) W 41 9 5 ⟨g, 0, none⟩ 4 [a, b, c, d] Tryz.underlying41 Tryz.underlying5 Tryz.underlying9 (fun j hj => by
    have e : (⟨g, 0, none⟩ : Addr).add j = ⟨g, j, none⟩ := by
      simp only [Addr.add, Nat.zero_add]
      by_cases hj0 : j = 0
      · rw [if_pos hj0, hj0]
      · rw [if_neg hj0]
    rw [e]
    simp only [List.length_cons, List.length_nil] at hj
    match j, hj with
    | 0, _ => exact h0
    | 1, _ => exact h1
    | 2, _ => exact h2
    | 3, _ => exact h3)
  exact this

set_option maxHeartbeats 8000000 in
theorem krecord_any (b : ByteArray) (w : World) (hb : b.size ≤ 100000) :
    Calls Tryz.prog 36 #[.string b] w fun e w' => e = .returned (.string ⟨(recL b.data.toList).toArray⟩) ∧ Below w.heap.size w w' := by
  have hx := sumL_lt b.data.toList
  have HE : Hid ((⟨(recL b.data.toList).toArray⟩ : ByteArray) = ⟨(uN b.size).toArray⟩ ++ b ++ ⟨#[UInt8.ofNat (sumL b.data.toList), UInt8.ofNat (sumL b.data.toList / 256), UInt8.ofNat (sumL b.data.toList / 65536), UInt8.ofNat (sumL b.data.toList / 16777216)]⟩) := by
    apply bytes_ext; rw [app_bytes, app_bytes, Lib.size_eq]; simp [recL, le4]
  have HU : Hid (∀ W : World, Calls Tryz.prog 37 #[.int .i64 b.size] W fun e w' => e = .returned (.string ⟨(uN b.size).toArray⟩) ∧ Below W.heap.size W w') := fun W => ku_any b.size W (by omega)
  have hul : (⟨(uN b.size).toArray⟩ : ByteArray).size ≤ 5 := by rw [Lib.size_eq]; exact uN_length5 (by omega)
  go_enter Tryz.func36, Tryz.ntmps36
  go_wp2_with fail
  refine (ksum_any b _ (by omega)).mono ?_
  rintro e w1 ⟨rfl, rfl⟩
  generalize (⟨(uN b.size).toArray⟩ : ByteArray) = U at *
  generalize sumL b.data.toList = x at *
  have q : ∀ n : Nat, IntKind.u8.wrap (n : Int) = ((UInt8.ofNat n).toNat : Int) := fun n => by rw [UInt8.toNat_ofNat', IntKind.wrap_u8]; omega
  have e0 : IntKind.u8.wrap (x : Int) = ((UInt8.ofNat x).toNat : Int) := q x
  have e1 : IntKind.u8.wrap ((x : Int) / 256) = ((UInt8.ofNat (x / 256)).toNat : Int) := q (x / 256)
  have e2 : IntKind.u8.wrap ((x : Int) / 65536) = ((UInt8.ofNat (x / 65536)).toNat : Int) := q (x / 65536)
  have e3 : IntKind.u8.wrap ((x : Int) / 16777216) = ((UInt8.ofNat (x / 16777216)).toNat : Int) := q (x / 16777216)
  clear q
  generalize UInt8.ofNat x = c0 at *
  generalize UInt8.ofNat (x / 256) = c1 at *
  generalize UInt8.ofNat (x / 65536) = c2 at *
  generalize UInt8.ofNat (x / 16777216) = c3 at *
  have hcv := fun (W : World) (g : Nat) => kconv4 W g c0 c1 c2 c3
  have hz1 : ¬ 9223372036854775807 < U.size + b.size := by omega
  have hz2 : ¬ 9223372036854775807 < U.size + b.size + 4 := by omega
  go_wp2
  go_region_with (first | (go_at_call 37; refine (HU.out _).mono ?_; rintro e w3 ⟨rfl, hb3⟩; have k3 := fun (q j : Nat) (hq : q < _) => hb3.cell (p := ⟨q, j, none⟩) hq))
  all_goals go_wp2
  all_goals go_ret
  all_goals rw [HE.out]
  all_goals refine ⟨rfl, ?_⟩
  all_goals first
    | exact (((Below.refl w.heap.size w).alloc (Nat.le_refl _) _).drew).trans (hb3.mono (by simp))
    | exact ((Below.refl w.heap.size w).drew.trans (hb3.mono (by simp))).alloc (by have := hb3.size; simpa using this) _
end Go.Proofs.YtabpiaaknjcnkabGreat
