/- The texts VM, KT, PF, VQ, one behind the other. -/
import Derived.Test.YtabpiaaknjcnkabGreatVL
import Derived.Test.YtabpiaaknjcnkabGreatV7
import Derived.Defers
import Derived.Recover
import Derived.Test.YtabpiaaknjcnkabGreatXWKOIT8K3
import Derived.Test.YtabpiaaknjcnkabGreatXVPVD
import Derived.Test.YtabpiaaknjcnkabGreatC3
import Derived.Test.YtabpiaaknjcnkabGreatXE2S1S2
import Derived.Test.YtabpiaaknjcnkabGreatXL3L4L5R1R2R4
import Derived.Test.YtabpiaaknjcnkabGreatVC
/-
  The walks over replay, open and Open of package coffer.
-/
namespace Go.Proofs.YtabpiaaknjcnkabGreat
open Go.RowKit
set_option linter.unusedVariables false
set_option linter.unusedSimpArgs false
set_option maxRecDepth 100000

theorem assert_nil (xT : TypeId) (w : World) : (Instr.typeAssert .nilIface xT 109 true).run Tryz.prog w = .ok (.tuple #[.agg #[.int .i64 0], .bool false]) w := by
  kernel_rfl

set_option maxHeartbeats 2000000 in
theorem replay_idle (w : World) :
    CallsD Tryz.prog 66 #[] .returning w fun e u' w' => e = .returned (.tuple #[]) ∧ u' = .returning ∧ w' = w := by
  have hta := assert_nil
  refine callsD_of_wpS Tryz.func66 rfl fun c₀ cs hu => ?_
  apply wpS_seq
  apply wpS_region
  simp [wpOpsS, go_sem, recoverD, hu, Tryz.ntmps66, Exit.thenS]
  refine wpS_of_wp ?_
  go_wp2
  cases c₀
  simp_all [bodyPostS, results, Tryz.results66]

set_option maxHeartbeats 2000000 in
theorem replay_catch (p : Nat) (older : List PanicEntry) (w : World) :
    CallsD Tryz.prog 66 #[] (.panicking ({ v := .iface 109 (.agg #[.int .i64 p]), recovered := false } :: older)) w fun e u' w' =>
      e = .returned (.tuple #[]) ∧ u' = .panicking ({ v := .iface 109 (.agg #[.int .i64 p]), recovered := true } :: older) ∧ w' = w := by
  have hta := assert_fault
  refine callsD_of_wpS Tryz.func66 rfl fun c₀ cs hu => ?_
  apply wpS_seq
  apply wpS_region
  simp [wpOpsS, go_sem, recoverD, hu, Tryz.ntmps66, Exit.thenS]
  refine wpS_of_wp ?_
  go_wp2
  cases c₀
  simp_all [bodyPostS, results, Tryz.results66]

/-- What replay leaves. -/
def OpenedAt (log : ByteArray) (p : Nat) (lv : Value) (tv : Nat → Value) (w w' : World) : Prop := ∃ n ch, openF log = (ch, n) ∧ n ≤ log.size ∧ ChOk ch ∧ Moves p lv tv ⟨log.data.toList.take n, ch⟩ w w'

set_option maxHeartbeats 4000000 in
theorem creplay_any (log : ByteArray) (p : Nat) (lv : Value) (tv : Nat → Value) (w : World) (hv : VaultAt w p lv tv noVault) (hs : log.size ≤ 20000) :
    Calls Tryz.prog 39 #[.pointer (some ⟨p, 0, none⟩), .string log] w fun e w' => e = .returned (.tuple #[]) ∧ OpenedAt log p lv tv w w' := by
  have hmf : ∀ (fn : Fn) (first cap : Array Value) (w : World), (Instr.makeFunc fn first cap).run Tryz.prog w = .ok (.func fn first cap) w := fun _ _ _ _ => rfl
  have HC : Hid (Calls Tryz.prog 67 #[.pointer (some ⟨p, 0, none⟩), .string log] w (ReplayPost log p lv tv w)) := replay_any log p lv tv w hv hs
  clear hv
  go_enter_defers Tryz.func39, Tryz.ntmps39
  go_wp2_with fail
  refine HC.out.mono ?_
  rintro e w1 ⟨he, hO⟩
  have HO : Hid (OpenedAt log p lv tv w w1) := hO
  clear hO HC
  rcases he with rfl | ⟨q, rfl⟩
  · go_wp2
    refine leaves_cons (f := 66) (args := #[]) (by simp) (by simp [go_sem]) ?_
    refine (replay_idle _).mono ?_
    rintro e u' w'' ⟨rfl, rfl, rfl⟩
    simp [Leaves, settle, results, Tryz.results39, go_sem]
    exact HO.out
  · go_wp2
    refine leaves_cons (f := 66) (args := #[]) (by simp) (by simp [go_sem]) ?_
    refine (replay_catch q [] _).mono ?_
    rintro e u' w'' ⟨rfl, rfl, rfl⟩
    simp [Leaves, settle, results, Tryz.results39, go_sem]
    exact HO.out

/-- What Open does. -/
def OpenPost (log : ByteArray) (w : World) (e : Ending) (w' : World) : Prop :=
  ((20000 < log.size ∧ e = .returned (.tuple #[.pointer none, .int .i64 1, .int .i64 0])) ∨
    (log.size ≤ 20000 ∧ ∃ n ch lv tv, openF log = (ch, n) ∧ n ≤ log.size ∧ ChOk ch ∧ e = .returned (.tuple #[.pointer (some ⟨w.heap.size, 0, none⟩), .int .i64 0, .int .i64 n]) ∧ VaultAt w' w.heap.size lv tv ⟨log.data.toList.take n, ch⟩ ∧ ∀ q, foot w.heap.size lv tv q → w.heap.size ≤ q)) ∧ Below w.heap.size w w'

set_option maxHeartbeats 4000000 in
theorem open_any (log : ByteArray) (w : World) (hl : log.size ≤ 9223372036854775807) : Calls Tryz.prog 27 #[.string log] w (OpenPost log w) := by
  by_cases h : 20000 < log.size
  · go_enter Tryz.func27, Tryz.ntmps27
    go_wp2
    go_ret3
    exact ⟨.inl ⟨h, rfl⟩, Below.refl _ _⟩
  · have hs : log.size ≤ 20000 := by omega
    go_enter Tryz.func27, Tryz.ntmps27
    go_wp2_with fail
    refine (cnew_any _).mono ?_
    rintro e w1 ⟨rfl, hv1, b1⟩
    have HV1 : Hid (VaultAt w1 w.heap.size (.slice none 0 0) (fun _ => .slice none 0 0) noVault) := hv1
    have hs1 := b1.size
    clear hv1
    go_wp2_with fail
    refine (creplay_any log w.heap.size _ _ _ HV1.out hs).mono ?_
    rintro e w2 ⟨rfl, n, ch, hO, hn, hok, lv2, tv2, hv2, ho2, hn2⟩
    have hfoot : ∀ q, foot w.heap.size (.slice none 0 0) (fun _ => .slice none 0 0) q → w.heap.size ≤ q := by
      rintro q (e | e | ⟨i, hi, e⟩)
      · omega
      · cases e
      · cases e
    have HV2 : Hid (VaultAt w2 w.heap.size lv2 tv2 ⟨log.data.toList.take n, ch⟩) := hv2
    have HB2 : Hid (Below w.heap.size w w2) := ⟨ho2.os.trans b1.os, ho2.tape.trans b1.tape, ho2.output.trans b1.output, Nat.le_trans hs1 ho2.size, fun q hq => (ho2.block q (by omega) (fun hf => by have := hfoot q hf; omega)).trans (b1.block q hq)⟩
    have HF2 : Hid (∀ q, foot w.heap.size lv2 tv2 q → w.heap.size ≤ q) := fun q hq => by
      rcases hn2 q hq with y | y
      · exact hfoot q y
      · omega
    have HO : Hid (openF log = (ch, n) ∧ ChOk ch) := ⟨hO, hok⟩
    have HLG : Hid (Calls Tryz.prog 7 #[.pointer (some ⟨w.heap.size, 0, none⟩)] w2 fun e w' => e = .returned (.string ⟨(log.data.toList.take n).toArray⟩) ∧ w2 = w') := clog_any w.heap.size lv2 tv2 _ w2 hv2
    have hLz : (⟨(log.data.toList.take n).toArray⟩ : ByteArray).size = n := by rw [Lib.size_eq, bytes_of, List.length_take, ← Lib.size_eq]; omega
    generalize (⟨(log.data.toList.take n).toArray⟩ : ByteArray) = LL at *
    clear hv2 ho2 hn2 hO hok HV1 b1 hfoot
    go_wp2_with fail
    refine HLG.out.mono ?_
    rintro e w3 ⟨rfl, rfl⟩
    go_wp2
    go_ret3
    refine ⟨.inr ⟨hs, n, ch, lv2, tv2, HO.out.1, hn, HO.out.2, ?_, HV2.out, HF2.out⟩, HB2.out⟩
    simp [hLz]

set_option maxHeartbeats 2000000 in
theorem copen_any (log : ByteArray) (w : World) (hl : log.size ≤ 9223372036854775807) : Calls Tryz.prog 9 #[.string log] w (OpenPost log w) := by
  have HC : Hid (Calls Tryz.prog 27 #[.string log] w (OpenPost log w)) := open_any log w hl
  go_enter Tryz.func9, Tryz.ntmps9
  go_wp2_with fail
  refine HC.out.mono ?_
  rintro e w1 ⟨hcase, hb⟩
  rcases hcase with ⟨h1, rfl⟩ | ⟨h1, n, ch, lv, tv, h2, h3, h4, rfl, h5, h6⟩
  · go_wp2
    go_ret3
    exact ⟨.inl ⟨h1, rfl⟩, hb⟩
  · have HV : Hid (VaultAt w1 w.heap.size lv tv ⟨log.data.toList.take n, ch⟩ ∧ openF log = (ch, n) ∧ ChOk ch ∧ ∀ q, foot w.heap.size lv tv q → w.heap.size ≤ q) := ⟨h5, h2, h4, h6⟩
    clear h2 h4 h5 h6
    go_wp2
    go_ret3
    exact ⟨.inr ⟨h1, n, ch, lv, tv, HV.out.2.1, h3, HV.out.2.2.1, rfl, HV.out.1, HV.out.2.2.2⟩, hb⟩
end Go.Proofs.YtabpiaaknjcnkabGreat

/-
  A tale whose vault is squashed.
-/
namespace Go.Proofs.YtabpiaaknjcnkabGreat
open Go.RowKit
set_option linter.unusedVariables false
set_option linter.unusedSimpArgs false
set_option maxRecDepth 100000

section
variable {w0 w : World} {q p : Nat} {cur : Nat → Value} {a b c lv : Value} {tv : Nat → Value} {s : Vlt} {vs : List Vlt} {rs : List (Nat → Value)} (h : TaleAt w0 w q p cur a b c lv tv s vs rs)
include h
theorem tale_seen (hpos : 0 < vs.length) : ∃ ga ca, q < w.heap.size ∧ ga < w.heap.size ∧ w.cell? ⟨q, 0, none⟩ = some (.pointer (some ⟨p, 0, none⟩)) ∧ w.cell? ⟨q, 9, none⟩ = some (.slice (some ⟨ga, 0, none⟩) vs.length ca) ∧ ∀ (k : Nat) (v : Vlt), vs[k]? = some v → w.cell? ⟨ga, k, none⟩ = some (.string (logB v)) := by
  have k9 := h.st.cells.2.1
  obtain ⟨ga, ca, hav, hga, hcells⟩ := row_cell h.st.logs (by rw [List.length_map]; exact hpos)
  rw [List.length_map] at hav
  rw [hav] at k9
  exact ⟨ga, ca, h.st.lt, hga, h.st.cells.1, k9, fun k v hv => hcells k _ (by rw [List.getElem?_map, List.getElem?_map, hv]; rfl)⟩
/-- What holds is asked, of a tale whose vault has moved on. -/
theorem tale_holds2 (hm : vs.length ≤ 24) {p2 : Nat} {lv2 : Value} {tv2 : Nat → Value} {s2 : Vlt} (hv2 : VaultAt w p2 lv2 tv2 s2) (hok : s2.Ok)
    {k : Nat} {v : Vlt} (hv : vs[k]? = some v) (hch : ∀ i, i < 4 → s2.ch i = v.ch i) :
    Calls Tryz.prog 8 #[.pointer (some ⟨q, 0, none⟩), .pointer (some ⟨p2, 0, none⟩), .int .i64 k] w fun e w' => e = .returned (.bool true) ∧ Below w.heap.size w w' := by
  have hlt := (List.getElem?_eq_some_iff.1 hv).1
  have hl := h.len
  obtain ⟨r, hr⟩ : ∃ r, rs[k]? = some r := ⟨rs[k]'(by omega), List.getElem?_eq_getElem (by omega)⟩
  refine holds_any q p (firstsOf s) cur a b c lv tv s _ _ rs w h.st p2 lv2 tv2 s2 hv2 hok k (firstsOf v) r (by rw [List.getElem?_map, hv]; rfl) hr (by rw [List.length_map]; omega) (by omega) (fun i hi h0 => ?_) (fun i hi => ?_)
  · rw [hch i hi] at h0 ⊢
    unfold firstsOf firstN; rw [if_neg h0]
  · rw [hch i hi]
    have := h.ahead k v r hv hr i hi
    exact ⟨this.1, fun g hg => (this.2 g hg).1⟩
theorem TaleAt.squashed {w' : World} (hm : Moves p lv tv s.squash w w') : ∃ lv' tv', TaleAt w0 w' q p cur a b c lv' tv' s.squash vs rs := by
  obtain ⟨lv', tv', h1, h2, h3⟩ := h.st.moves hm
  exact ⟨lv', tv', h1, h.now.kept h2 h3, h.len, fun k v r hv hr => (h.ahead k v r hv hr).kept h2 h3, low_next h.below h.low h3, out_low h.below h2 h.low, h.nil⟩
end
theorem squash_lead {s : Vlt} {vs : List Vlt} (hk : TaleOk s vs) : Leads s.squash.log noCh s.ch := by
  unfold Vlt.squash
  simp only
  split
  · exact lead_squash (hk.ok s hk.mem).2
  · exact told_lead hk.told _ _ hk.last
theorem squash_opens {s : Vlt} {vs : List Vlt} (hk : TaleOk s vs) : openF (logB s.squash) = (s.ch, (logB s.squash).size) := open_whole (by rw [logB_data]; exact squash_lead hk)
end Go.Proofs.YtabpiaaknjcnkabGreat

/-
  Plain facts: lists of ops that are refused.
-/
namespace Go.Proofs.YtabpiaaknjcnkabGreat
set_option linter.unusedVariables false
set_option linter.unusedSimpArgs false

def E0 : ByteArray := ⟨#[]⟩
def S8 : ByteArray := ⟨#[49, 50, 51, 52, 53, 54, 55, 56]⟩
def eX : ByteArray := ⟨#[120]⟩
def eY : ByteArray := ⟨#[121]⟩
def bads (far : Int) (L : ByteArray) : List (List DOp) :=
  [[⟨0, 0, E0⟩], [⟨0, -1 - far, E0⟩], [⟨0, 9, E0⟩], [⟨8, 1, E0⟩], [⟨-1 - far, 1, E0⟩], [⟨4611686018427387904, 4611686018427387904, E0⟩], [⟨0, 3, eX⟩], [⟨1, 0, eX⟩], [⟨0, 0, L⟩], [⟨0, 8, E0⟩, ⟨0, 0, eX⟩, ⟨0, 0, eY⟩], [⟨0, 2, E0⟩, ⟨2, 2, E0⟩], [⟨0, 0, eX⟩, ⟨0, 9, E0⟩]]
def places : List Nat := [0, 0, 0, 0, 0, 0, 0, 0, 0, 2, 1, 1]
theorem e0_none : E0.toList.isEmpty = true := by rw [Lib.toList_data]; rfl
theorem eX_some : eX.toList.isEmpty = false := by rw [Lib.toList_data]; rfl
theorem eY_some : eY.toList.isEmpty = false := by rw [Lib.toList_data]; rfl
theorem eX_size : eX.size = 1 := rfl
theorem eY_size : eY.size = 1 := rfl
theorem E0_size : E0.size = 0 := rfl
/-- Of eight bytes none of them is a delta; of any text three are. -/
theorem bads_fault {far : Int} {L : ByteArray} (hf : 0 ≤ far) (hL : L.size = 2001) {j : Nat} {xs : List DOp} (hj : (bads far L)[j]? = some xs) :
    ∃ pl, places[j]? = some pl ∧ pl < xs.length ∧ faultF xs 8 = pl ∧ ((j = 2 ∨ j = 3 ∨ j = 11) → faultF xs 2000 = xs.length) ∧ (¬ (j = 2 ∨ j = 3 ∨ j = 11) → faultF xs 2000 = pl) := by
  have hLe : L.toList.isEmpty = false := by
    rw [Lib.toList_data]
    cases e : L.data.toList with
    | nil => rw [Lib.size_eq, e] at hL; simp at hL
    | cons x r => rfl
  have n1 : ¬ (0 : Int) < -1 - far := by omega
  have n2 : ¬ (0 : Int) ≤ -1 - far := by omega
  have n3 : (-1 - far == 0) = false := by simp; omega
  match j, hj with
  | 0, hj => obtain rfl : _ = xs := by simpa [bads] using hj
             exact ⟨0, rfl, by simp, by simp [faultF, faultGo, isOpB, e0_none], by simp, fun _ => by simp [faultF, faultGo, isOpB, e0_none]⟩
  | 1, hj => obtain rfl : _ = xs := by simpa [bads] using hj
             exact ⟨0, rfl, by simp, (by simp [faultF, faultGo, isOpB, e0_none, n1]; intro h; omega), by simp, fun _ => (by simp [faultF, faultGo, isOpB, e0_none, n1]; intro h; omega)⟩
  | 2, hj => obtain rfl : _ = xs := by simpa [bads] using hj
             exact ⟨0, rfl, by simp, by simp [faultF, faultGo, isOpB, e0_none], fun _ => by simp [faultF, faultGo, isOpB, e0_none, behind, sizeI], by simp⟩
  | 3, hj => obtain rfl : _ = xs := by simpa [bads] using hj
             exact ⟨0, rfl, by simp, by simp [faultF, faultGo, isOpB, e0_none], fun _ => by simp [faultF, faultGo, isOpB, e0_none, behind, sizeI], by simp⟩
  | 4, hj => obtain rfl : _ = xs := by simpa [bads] using hj
             exact ⟨0, rfl, by simp, (by simp [faultF, faultGo, isOpB, e0_none, n2]; intro h; omega), by simp, fun _ => (by simp [faultF, faultGo, isOpB, e0_none, n2]; intro h; omega)⟩
  | 5, hj => obtain rfl : _ = xs := by simpa [bads] using hj
             exact ⟨0, rfl, by simp, by simp [faultF, faultGo, isOpB, e0_none], by simp, fun _ => by simp [faultF, faultGo, isOpB, e0_none]⟩
  | 6, hj => obtain rfl : _ = xs := by simpa [bads] using hj
             exact ⟨0, rfl, by simp, by simp [faultF, faultGo, isOpB, eX_some], by simp, fun _ => by simp [faultF, faultGo, isOpB, eX_some]⟩
  | 7, hj => obtain rfl : _ = xs := by simpa [bads] using hj
             exact ⟨0, rfl, by simp, by simp [faultF, faultGo, isOpB, eX_some], by simp, fun _ => by simp [faultF, faultGo, isOpB, eX_some]⟩
  | 8, hj => obtain rfl : _ = xs := by simpa [bads] using hj
             exact ⟨0, rfl, by simp, by simp [faultF, faultGo, isOpB, hLe, behind, sizeI, hL], by simp, fun _ => by simp [faultF, faultGo, isOpB, hLe, behind, sizeI, hL]⟩
  | 9, hj => obtain rfl : _ = xs := by simpa [bads] using hj
             exact ⟨2, rfl, by simp, by simp [faultF, faultGo, isOpB, e0_none, eX_some, eY_some, behind, followB, sizeI, eX_size, eY_size], by simp, fun _ => by simp [faultF, faultGo, isOpB, e0_none, eX_some, eY_some, behind, followB, sizeI, eX_size, eY_size]⟩
  | 10, hj => obtain rfl : _ = xs := by simpa [bads] using hj
              exact ⟨1, rfl, by simp, by simp [faultF, faultGo, isOpB, e0_none, behind, followB, sizeI], by simp, fun _ => by simp [faultF, faultGo, isOpB, e0_none, behind, followB, sizeI]⟩
  | 11, hj => obtain rfl : _ = xs := by simpa [bads] using hj
              exact ⟨1, rfl, by simp, by simp [faultF, faultGo, isOpB, e0_none, eX_some, behind, followB, sizeI, eX_size], fun _ => by simp [faultF, faultGo, isOpB, e0_none, eX_some, behind, followB, sizeI, eX_size], by simp⟩
  | j + 12, hj => simp [bads] at hj
theorem one8_fault : faultF [⟨0, 0, S8⟩] 2000 = 1 ∧ sumI [⟨0, 0, S8⟩] = 8 := by
  have e : S8.toList.isEmpty = false := by rw [Lib.toList_data]; rfl
  have h : S8.size = 8 := rfl
  constructor
  · simp [faultF, faultGo, isOpB, e, behind, sizeI, h]
  · simp [sumI, sizeI, h]
theorem bads_apply {far : Int} {L : ByteArray} (hf : 0 ≤ far) (hL : L.size = 2001) {j : Nat} {xs : List DOp} (hj : (bads far L)[j]? = some xs) {pl : Nat} (hp : places[j]? = some pl) :
    appS S8 xs = ⟨#[]⟩ ∧ appE S8 xs = 2 ∧ appP S8 xs = pl ∧ cmpL [⟨0, 0, S8⟩] xs = [] ∧ cmpE [⟨0, 0, S8⟩] xs = 2 ∧ cmpP [⟨0, 0, S8⟩] xs = ((pl + 1 : Nat) : Int) ∧ ((j = 2 ∨ j = 3 ∨ j = 11) → encE xs = 0) ∧ (¬ (j = 2 ∨ j = 3 ∨ j = 11) → encS xs = ⟨#[]⟩ ∧ encE xs = 2 ∧ encP xs = pl) := by
  obtain ⟨pl', h1, h2, h3, h4, h5⟩ := bads_fault hf hL hj
  obtain rfl : pl' = pl := by rw [h1] at hp; simpa using hp
  have h8 : S8.size = 8 := rfl
  have hS : faultF xs S8.size < xs.length := by rw [h8]; show faultF xs 8 < _; rw [h3]; exact h2
  have hno : ¬ cmpOk [⟨0, 0, S8⟩] xs := by
    rintro ⟨_, b, _⟩
    rw [one8_fault.2, h3] at b
    exact b h2
  refine ⟨?_, ?_, ?_, ?_, ?_, ?_, ?_, ?_⟩
  · unfold appS; rw [if_neg (by rw [h8]; decide), if_pos hS]
  · unfold appE; rw [if_neg (by rw [h8]; decide), if_pos hS]
  · unfold appP; rw [if_neg (by rw [h8]; decide), if_pos hS, h8]; show ((faultF xs 8 : Nat) : Int) = _; rw [h3]
  · unfold cmpL; rw [if_neg hno]
  · unfold cmpE; rw [if_neg hno]
  · unfold cmpP; rw [if_neg hno]
    unfold cmpF
    rw [one8_fault.1, one8_fault.2, h3, if_neg (by simp), if_pos h2]
    simp; omega
  · intro h; unfold encE; rw [h4 h, if_neg (by omega)]
  · intro h
    have h6 := h5 h
    refine ⟨?_, ?_, ?_⟩
    · unfold encS; rw [if_pos (by rw [h6]; exact h2)]
    · unfold encE; rw [if_pos (by rw [h6]; exact h2)]
    · unfold encP; rw [if_pos (by rw [h6]; exact h2), h6]
theorem bads_ints {far : Int} {L : ByteArray} (hf : 0 ≤ far) (hL : L.size = 2001) {j : Nat} {xs : List DOp} (hj : (bads far L)[j]? = some xs) : Ints xs := by
  have hm : xs ∈ bads far L := List.mem_of_getElem? hj
  simp only [bads, List.mem_cons, List.not_mem_nil, or_false] at hm
  rcases hm with rfl | rfl | rfl | rfl | rfl | rfl | rfl | rfl | rfl | rfl | rfl | rfl <;>
    (refine ⟨by simp, fun o ho => ?_, fun o ho => ?_⟩ <;> simp only [List.mem_cons, List.not_mem_nil, or_false] at ho <;> (first | (rcases ho with rfl | rfl | rfl) | (rcases ho with rfl | rfl) | subst ho) <;> simp [E0_size, eX_size, eY_size, hL] <;> omega)
end Go.Proofs.YtabpiaaknjcnkabGreat

/-
  What is refused leaves all as it was: Backup and Prune of package coffer.
-/
namespace Go.Proofs.YtabpiaaknjcnkabGreat
open Go.RowKit
set_option linter.unusedVariables false
set_option linter.unusedSimpArgs false
set_option maxRecDepth 100000

theorem sbackup_none (p : Nat) (c : Int) (lv : Value) (tv : Nat → Value) (s : Vlt) (t : ByteArray) (w : World) (hv : VaultAt w p lv tv s) (hok : s.Ok) (ht : t.size ≤ 9223372036854775807) (h : putE s c t ≠ 0) :
    Calls Tryz.prog 32 #[.pointer (some ⟨p, 0, none⟩), .int .i64 c, .string t] w fun e w' => e = .returned (.tuple #[.int .i64 0, .int .i64 (putE s c t)]) ∧ Below w.heap.size w w' := by
  by_cases hc : 0 ≤ c ∧ c < 4
  · obtain ⟨n, rfl⟩ : ∃ n : Nat, c = n := ⟨c.toNat, by omega⟩
    have hn : n < 4 := by omega
    have en : ((n : Int)).toNat = n := by omega
    by_cases hl : 2000 < t.size
    · have hE : putE s n t = 1 := by unfold putE; rw [if_neg (by omega), if_pos hl]
      rw [hE]
      refine (sbackup_long p n t w hn hl ht).mono ?_
      rintro e w' ⟨rfl, rfl⟩
      exact ⟨rfl, Below.refl _ _⟩
    · by_cases hf : s.full n t
      · have hE : putE s n t = 6 := by unfold putE; rw [if_neg (by omega), if_neg hl, en]; exact if_pos hf
        rw [hE]
        refine (sbackup_full p n lv tv s t w hv hok hn (by omega) hf).mono ?_
        rintro e w' ⟨rfl, hb⟩
        exact ⟨rfl, hb⟩
      · have hE : putE s n t = 0 := by unfold putE; rw [if_neg (by omega), if_neg hl, en]; exact if_neg hf
        exact absurd hE h
  · have hE : putE s c t = 4 := by unfold putE; rw [if_pos hc]
    rw [hE]
    refine (sbackup_chain p c t w hc).mono ?_
    rintro e w' ⟨rfl, rfl⟩
    exact ⟨rfl, Below.refl _ _⟩
set_option maxHeartbeats 2000000 in
theorem cbackup_none (p : Nat) (c : Int) (lv : Value) (tv : Nat → Value) (s : Vlt) (t : ByteArray) (w : World) (hv : VaultAt w p lv tv s) (hok : s.Ok) (ht : t.size ≤ 9223372036854775807) (h : putE s c t ≠ 0) :
    Calls Tryz.prog 15 #[.pointer (some ⟨p, 0, none⟩), .int .i64 c, .string t] w fun e w' => e = .returned (.tuple #[.int .i64 0, .int .i64 (putE s c t)]) ∧ Below w.heap.size w w' := by
  have HC : Hid (Calls Tryz.prog 32 #[.pointer (some ⟨p, 0, none⟩), .int .i64 c, .string t] w fun e w' => e = .returned (.tuple #[.int .i64 0, .int .i64 (putE s c t)]) ∧ Below w.heap.size w w') := sbackup_none p c lv tv s t w hv hok ht h
  clear hv hok ht h
  generalize putE s c t = b at *
  go_enter Tryz.func15, Tryz.ntmps15
  go_wp2_with fail
  refine HC.out.mono ?_
  rintro e w1 ⟨rfl, b1⟩
  go_wp2
  go_ret2
  exact ⟨rfl, b1⟩
set_option maxHeartbeats 2000000 in
theorem cprune_none (p : Nat) (c z : Int) (lv : Value) (tv : Nat → Value) (s : Vlt) (w : World) (hv : VaultAt w p lv tv s) (hok : s.Ok) (h : cutE s c z ≠ 0) :
    Calls Tryz.prog 18 #[.pointer (some ⟨p, 0, none⟩), .int .i64 c, .int .i64 z] w fun e w' => e = .returned (.int .i64 (cutE s c z)) ∧ Below w.heap.size w w' := by
  have HC : Hid (Calls Tryz.prog 35 #[.pointer (some ⟨p, 0, none⟩), .int .i64 c, .int .i64 z] w fun e w' => e = .returned (.int .i64 (cutE s c z)) ∧ Below w.heap.size w w') := sprune_small p c z lv tv s w hv hok h
  clear hv hok h
  generalize cutE s c z = b at *
  go_enter Tryz.func18, Tryz.ntmps18
  go_wp2_with fail
  refine HC.out.mono ?_
  rintro e w1 ⟨rfl, b1⟩
  go_wp2
  go_ret
  exact ⟨rfl, b1⟩
end Go.Proofs.YtabpiaaknjcnkabGreat
