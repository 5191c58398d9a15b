/-
  The walk over turned.
-/
import Derived.Test.YtabpiaaknjcnkaaXW1W3
import Derived.LoopTactic
namespace Go.Proofs.Ytabpiaaknjcnkaa
open Go.RowKit
set_option linter.unusedVariables false
set_option linter.unusedSimpArgs false
set_option maxRecDepth 100000

def byteOf (z : Int) : UInt8 := UInt8.ofNat (z % 256).toNat
theorem byteOf_toNat (z : Int) : ((byteOf z).toNat : Int) = z % 256 := by
  have h : (z % 256).toNat < 256 := by omega
  rw [byteOf, UInt8.toNat_ofNat_of_lt' (by simpa using h)]
  omega
theorem conv1 (w : World) (z : Int) : (convert 39 9 (.slice (some ⟨w.heap.size, 0, none⟩) 1 1)).run Try.prog (w.alloc (.cells #[.int .u8 (z % 256)] 5)) = .ok (.string ⟨#[byteOf z]⟩) (w.alloc (.cells #[.int .u8 (z % 256)] 5)) := by
  have := run_convert_bytes_back (P := Try.prog) (w.alloc (.cells #[.int .u8 (z % 256)] 5)) 39 9 5 ⟨w.heap.size, 0, none⟩ 1 [byteOf z] Try.underlying39 Try.underlying5 Try.underlying9 (fun j hj => by
    have : j = 0 := by simpa using hj
    subst this
    simp [Addr.add, byteOf_toNat])
  exact this

theorem size_push1 (o : ByteArray) (c : UInt8) (h : o.size ≤ 1999) : (o ++ ⟨#[c]⟩).size ≤ 2000 := by
  rw [ByteArray.size_append]
  have : (⟨#[c]⟩ : ByteArray).size = 1 := rfl
  omega

set_option maxHeartbeats 2000000 in
/-- turned hands some text of at most so many bytes back. -/
theorem turned_any (s : ByteArray) (b off cap : Nat) (zs : List Int) (most : Nat) (w : World) (hs : s.size ≤ 700) (hm : most ≤ 700) (hz : zs.length ≤ 1000000000000000) (hbw : b < w.heap.size)
    (hr : ∀ i z, zs[i]? = some z → w.cell? ⟨b, off + i, none⟩ = some (.int .i64 z)) (hw : ∀ z ∈ zs, -9223372036854775808 ≤ z ∧ z ≤ 9223372036854775807) :
    Calls Try.prog 10 #[.string s, .slice (some ⟨b, off, none⟩) zs.length cap, .int .i64 most] w fun e w' => (∃ t : ByteArray, e = .returned (.string t) ∧ t.size ≤ most) ∧ Below w.heap.size w w' := by
  have HR : Hid (∀ i z, zs[i]? = some z → w.cell? ⟨b, off + i, none⟩ = some (.int .i64 z)) := hr
  have HW : Hid (∀ z ∈ zs, -9223372036854775808 ≤ z ∧ z ≤ 9223372036854775807) := hw
  clear hr hw
  go_enter Try.func10, Try.ntmps10
  go_wp2
  go_loopw [7, 8] (fun o i wr => ∃ (k : Nat) (out : ByteArray), k ≤ zs.length + 3 ∧ i = .int .i64 k ∧ o = .string out ∧ out.size ≤ 2000 ∧ Below w.heap.size w wr)
    (fun _ i _ => zs.length + 4 - (intOf i).toNat)
  case atStart => exact ⟨0, ⟨#[]⟩, by omega, rfl, rfl, Nat.zero_le _, Below.refl _ _⟩
  case round =>
    obtain ⟨k, out, hk, rfl, rfl, ho, hb⟩ := hrel
    by_cases hlt : k + 2 < zs.length
    · by_cases hlt2 : out.size < most
      · have hsz := hb.size
        obtain ⟨z0, hz0⟩ : ∃ z, zs[k]? = some z := ⟨zs[k], by simp⟩
        obtain ⟨z1, hz1⟩ : ∃ z, zs[k + 1]? = some z := ⟨zs[k + 1], by simp⟩
        obtain ⟨z2, hz2⟩ : ∃ z, zs[k + 2]? = some z := ⟨zs[k + 2], by simp⟩
        have c0 : wr.cell? ⟨b, off + k, none⟩ = some (.int .i64 z0) := (hb.cell (p := ⟨b, _, none⟩) hbw).trans (HR.out k _ hz0)
        have c1 : wr.cell? ⟨b, off + (k + 1), none⟩ = some (.int .i64 z1) := (hb.cell (p := ⟨b, _, none⟩) hbw).trans (HR.out (k + 1) _ hz1)
        have c2 : wr.cell? ⟨b, off + (k + 2), none⟩ = some (.int .i64 z2) := (hb.cell (p := ⟨b, _, none⟩) hbw).trans (HR.out (k + 2) _ hz2)
        obtain ⟨w0a, w0b⟩ := HW.out z0 (List.mem_of_getElem? hz0)
        obtain ⟨w1a, w1b⟩ := HW.out z1 (List.mem_of_getElem? hz1)
        obtain ⟨w2a, w2b⟩ := HW.out z2 (List.mem_of_getElem? hz2)
        clear hz0 hz1 hz2
        by_cases hs0 : 0 < s.size
        · go_wp2_with fail
          refine (pick_eq z0 s.size _ w0a w0b hs0 (by omega)).mono ?_
          rintro e w2 ⟨rfl, rfl⟩
          have hf := pickN_lt z0 s.size hs0
          generalize pickN z0 s.size = fr at *
          go_wp2_with fail
          rw [show ((s.size : Int) - (fr : Int) + 1) = ((s.size - fr + 1 : Nat) : Int) from by omega]
          refine (pick_eq z1 (s.size - fr + 1) _ w1a w1b (by omega) (by omega)).mono ?_
          rintro e w2 ⟨rfl, rfl⟩
          have hn := pickN_lt z1 (s.size - fr + 1) (by omega)
          generalize pickN z1 (s.size - fr + 1) = n at *
          have hcv := conv1 wr z2
          have hx : (out ++ s.extract fr (fr + n)).size ≤ 1500 := by rw [ByteArray.size_append, ByteArray.size_extract]; omega
          go_wp2
          · go_roundw
            case rel => exact ⟨k + 3, _, by omega, by go_num, rfl, size_push1 _ _ (by omega), hb.alloc (by omega) _⟩
            case measure => simp [intOf]; omega
          · go_roundw
            case rel => exact ⟨k + 3, _, by omega, by go_num, rfl, by omega, hb⟩
            case measure => simp [intOf]; omega
        · have hcv := conv1 wr z2
          go_wp2
          · go_roundw
            case rel => exact ⟨k + 3, _, by omega, by go_num, rfl, size_push1 _ _ (by omega), hb.alloc (by omega) _⟩
            case measure => simp [intOf]; omega
          · go_roundw
            case rel => exact ⟨k + 3, _, by omega, by go_num, rfl, by omega, hb⟩
            case measure => simp [intOf]; omega
      · go_wp2_with fail
        refine (short_eq out most _ (by omega) (by omega)).mono ?_
        rintro e w2 ⟨rfl, rfl⟩
        have hsh := shortB_size out most
        generalize shortB out most = t at *
        go_wp2
        go_ret
        exact ⟨⟨t, rfl, hsh⟩, hb⟩
    · go_wp2_with fail
      refine (short_eq out most _ (by omega) (by omega)).mono ?_
      rintro e w2 ⟨rfl, rfl⟩
      have hsh := shortB_size out most
      generalize shortB out most = t at *
      go_wp2
      go_ret
      exact ⟨⟨t, rfl, hsh⟩, hb⟩
set_option maxHeartbeats 1000000 in
theorem turned_nil (s : ByteArray) (ao : Option Addr) (cap : Nat) (most : Nat) (w : World) (hm : most ≤ 700) :
    Calls Try.prog 10 #[.string s, .slice ao 0 cap, .int .i64 most] w fun e w' => (∃ t : ByteArray, e = .returned (.string t) ∧ t.size ≤ most) ∧ Below w.heap.size w w' := by
  go_enter Try.func10, Try.ntmps10
  go_wp2
  go_loopw [7, 8] (fun o i wr => i = .int .i64 0 ∧ o = .string ⟨#[]⟩ ∧ w = wr) (fun _ _ _ => 0)
  case atStart => exact ⟨rfl, rfl, rfl⟩
  case round =>
    obtain ⟨rfl, rfl, rfl⟩ := hrel
    go_wp2_with fail
    refine (short_eq ⟨#[]⟩ most _ (by omega) (by decide)).mono ?_
    rintro e w2 ⟨rfl, rfl⟩
    have hsh := shortB_size ⟨#[]⟩ most
    generalize shortB ⟨#[]⟩ most = t at *
    go_wp2
    go_ret
    exact ⟨⟨t, rfl, hsh⟩, Below.refl _ _⟩
end Go.Proofs.Ytabpiaaknjcnkaa
