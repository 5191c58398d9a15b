/- The texts VM, KT, one behind the other. -/
import Derived.Test.YtabpiaaknjcnkabVL
import Derived.Test.YtabpiaaknjcnkabV7
import Derived.Defers
import Derived.Recover
import Derived.Test.YtabpiaaknjcnkabXWKOIT8K3
import Derived.Test.YtabpiaaknjcnkabXVPVD
/-
  The walks over replay, open and Open of package coffer.
-/
namespace Go.Proofs.Ytabpiaaknjcnkab
open Go.RowKit
set_option linter.unusedVariables false
set_option linter.unusedSimpArgs false
set_option maxRecDepth 100000

theorem assert_nil (xT : TypeId) (w : World) : (Instr.typeAssert .nilIface xT 86 true).run Try.prog w = .ok (.tuple #[.agg #[.int .i64 0], .bool false]) w := by
  kernel_rfl

set_option maxHeartbeats 2000000 in
theorem replay_idle (w : World) :
    CallsD Try.prog 45 #[] .returning w fun e u' w' => e = .returned (.tuple #[]) ∧ u' = .returning ∧ w' = w := by
  have hta := assert_nil
  refine callsD_of_wpS Try.func45 rfl fun c₀ cs hu => ?_
  apply wpS_seq
  apply wpS_region
  simp [wpOpsS, go_sem, recoverD, hu, Try.ntmps45, Exit.thenS]
  refine wpS_of_wp ?_
  go_wp2
  cases c₀
  simp_all [bodyPostS, results, Try.results45]

set_option maxHeartbeats 2000000 in
theorem replay_catch (p : Nat) (older : List PanicEntry) (w : World) :
    CallsD Try.prog 45 #[] (.panicking ({ v := .iface 86 (.agg #[.int .i64 p]), recovered := false } :: older)) w fun e u' w' =>
      e = .returned (.tuple #[]) ∧ u' = .panicking ({ v := .iface 86 (.agg #[.int .i64 p]), recovered := true } :: older) ∧ w' = w := by
  have hta := assert_fault
  refine callsD_of_wpS Try.func45 rfl fun c₀ cs hu => ?_
  apply wpS_seq
  apply wpS_region
  simp [wpOpsS, go_sem, recoverD, hu, Try.ntmps45, Exit.thenS]
  refine wpS_of_wp ?_
  go_wp2
  cases c₀
  simp_all [bodyPostS, results, Try.results45]

/-- What replay leaves. -/
def OpenedAt (log : ByteArray) (p : Nat) (lv : Value) (tv : Nat → Value) (w w' : World) : Prop := ∃ n ch, openF log = (ch, n) ∧ n ≤ log.size ∧ ChOk ch ∧ Moves p lv tv ⟨log.data.toList.take n, ch⟩ w w'

set_option maxHeartbeats 4000000 in
theorem creplay_any (log : ByteArray) (p : Nat) (lv : Value) (tv : Nat → Value) (w : World) (hv : VaultAt w p lv tv noVault) (hs : log.size ≤ 20000) :
    Calls Try.prog 31 #[.pointer (some ⟨p, 0, none⟩), .string log] w fun e w' => e = .returned (.tuple #[]) ∧ OpenedAt log p lv tv w w' := by
  have hmf : ∀ (fn : Fn) (first cap : Array Value) (w : World), (Instr.makeFunc fn first cap).run Try.prog w = .ok (.func fn first cap) w := fun _ _ _ _ => rfl
  have HC : Hid (Calls Try.prog 46 #[.pointer (some ⟨p, 0, none⟩), .string log] w (ReplayPost log p lv tv w)) := replay_any log p lv tv w hv hs
  clear hv
  go_enter_defers Try.func31, Try.ntmps31
  go_wp2_with fail
  refine HC.out.mono ?_
  rintro e w1 ⟨he, hO⟩
  have HO : Hid (OpenedAt log p lv tv w w1) := hO
  clear hO HC
  rcases he with rfl | ⟨q, rfl⟩
  · go_wp2
    refine leaves_cons (f := 45) (args := #[]) (by simp) (by simp [go_sem]) ?_
    refine (replay_idle _).mono ?_
    rintro e u' w'' ⟨rfl, rfl, rfl⟩
    simp [Leaves, settle, results, Try.results31, go_sem]
    exact HO.out
  · go_wp2
    refine leaves_cons (f := 45) (args := #[]) (by simp) (by simp [go_sem]) ?_
    refine (replay_catch q [] _).mono ?_
    rintro e u' w'' ⟨rfl, rfl, rfl⟩
    simp [Leaves, settle, results, Try.results31, go_sem]
    exact HO.out

/-- What Open does. -/
def OpenPost (log : ByteArray) (w : World) (e : Ending) (w' : World) : Prop :=
  ((20000 < log.size ∧ e = .returned (.tuple #[.pointer none, .int .i64 1, .int .i64 0])) ∨
    (log.size ≤ 20000 ∧ ∃ n ch lv tv, openF log = (ch, n) ∧ n ≤ log.size ∧ ChOk ch ∧ e = .returned (.tuple #[.pointer (some ⟨w.heap.size, 0, none⟩), .int .i64 0, .int .i64 n]) ∧ VaultAt w' w.heap.size lv tv ⟨log.data.toList.take n, ch⟩ ∧ ∀ q, foot w.heap.size lv tv q → w.heap.size ≤ q)) ∧ Below w.heap.size w w'

set_option maxHeartbeats 4000000 in
theorem open_any (log : ByteArray) (w : World) (hl : log.size ≤ 9223372036854775807) : Calls Try.prog 19 #[.string log] w (OpenPost log w) := by
  by_cases h : 20000 < log.size
  · go_enter Try.func19, Try.ntmps19
    go_wp2
    go_ret3
    exact ⟨.inl ⟨h, rfl⟩, Below.refl _ _⟩
  · have hs : log.size ≤ 20000 := by omega
    go_enter Try.func19, Try.ntmps19
    go_wp2_with fail
    refine (cnew_any _).mono ?_
    rintro e w1 ⟨rfl, hv1, b1⟩
    have HV1 : Hid (VaultAt w1 w.heap.size (.slice none 0 0) (fun _ => .slice none 0 0) noVault) := hv1
    have hs1 := b1.size
    clear hv1
    go_wp2_with fail
    refine (creplay_any log w.heap.size _ _ _ HV1.out hs).mono ?_
    rintro e w2 ⟨rfl, n, ch, hO, hn, hok, lv2, tv2, hv2, ho2, hn2⟩
    have hfoot : ∀ q, foot w.heap.size (.slice none 0 0) (fun _ => .slice none 0 0) q → w.heap.size ≤ q := by
      rintro q (e | e | ⟨i, hi, e⟩)
      · omega
      · cases e
      · cases e
    have HV2 : Hid (VaultAt w2 w.heap.size lv2 tv2 ⟨log.data.toList.take n, ch⟩) := hv2
    have HB2 : Hid (Below w.heap.size w w2) := ⟨ho2.os.trans b1.os, ho2.tape.trans b1.tape, ho2.output.trans b1.output, Nat.le_trans hs1 ho2.size, fun q hq => (ho2.block q (by omega) (fun hf => by have := hfoot q hf; omega)).trans (b1.block q hq)⟩
    have HF2 : Hid (∀ q, foot w.heap.size lv2 tv2 q → w.heap.size ≤ q) := fun q hq => by
      rcases hn2 q hq with y | y
      · exact hfoot q y
      · omega
    have HO : Hid (openF log = (ch, n) ∧ ChOk ch) := ⟨hO, hok⟩
    have HLG : Hid (Calls Try.prog 10 #[.pointer (some ⟨w.heap.size, 0, none⟩)] w2 fun e w' => e = .returned (.string ⟨(log.data.toList.take n).toArray⟩) ∧ w2 = w') := clog_any w.heap.size lv2 tv2 _ w2 hv2
    have hLz : (⟨(log.data.toList.take n).toArray⟩ : ByteArray).size = n := by rw [Lib.size_eq, bytes_of, List.length_take, ← Lib.size_eq]; omega
    generalize (⟨(log.data.toList.take n).toArray⟩ : ByteArray) = LL at *
    clear hv2 ho2 hn2 hO hok HV1 b1 hfoot
    go_wp2_with fail
    refine HLG.out.mono ?_
    rintro e w3 ⟨rfl, rfl⟩
    go_wp2
    go_ret3
    refine ⟨.inr ⟨hs, n, ch, lv2, tv2, HO.out.1, hn, HO.out.2, ?_, HV2.out, HF2.out⟩, HB2.out⟩
    simp [hLz]

set_option maxHeartbeats 2000000 in
theorem copen_any (log : ByteArray) (w : World) (hl : log.size ≤ 9223372036854775807) : Calls Try.prog 9 #[.string log] w (OpenPost log w) := by
  have HC : Hid (Calls Try.prog 19 #[.string log] w (OpenPost log w)) := open_any log w hl
  go_enter Try.func9, Try.ntmps9
  go_wp2_with fail
  refine HC.out.mono ?_
  rintro e w1 ⟨hcase, hb⟩
  rcases hcase with ⟨h1, rfl⟩ | ⟨h1, n, ch, lv, tv, h2, h3, h4, rfl, h5, h6⟩
  · go_wp2
    go_ret3
    exact ⟨.inl ⟨h1, rfl⟩, hb⟩
  · have HV : Hid (VaultAt w1 w.heap.size lv tv ⟨log.data.toList.take n, ch⟩ ∧ openF log = (ch, n) ∧ ChOk ch ∧ ∀ q, foot w.heap.size lv tv q → w.heap.size ≤ q) := ⟨h5, h2, h4, h6⟩
    clear h2 h4 h5 h6
    go_wp2
    go_ret3
    exact ⟨.inr ⟨h1, n, ch, lv, tv, HV.out.2.1, h3, HV.out.2.2.1, rfl, HV.out.1, HV.out.2.2.2⟩, hb⟩
end Go.Proofs.Ytabpiaaknjcnkab

/-
  A tale whose vault is squashed.
-/
namespace Go.Proofs.Ytabpiaaknjcnkab
open Go.RowKit
set_option linter.unusedVariables false
set_option linter.unusedSimpArgs false
set_option maxRecDepth 100000

section
variable {w0 w : World} {q p : Nat} {cur : Nat → Value} {a b c lv : Value} {tv : Nat → Value} {s : Vlt} {vs : List Vlt} {rs : List (Nat → Value)} (h : TaleAt w0 w q p cur a b c lv tv s vs rs)
include h
theorem tale_seen (hpos : 0 < vs.length) : ∃ ga ca, q < w.heap.size ∧ ga < w.heap.size ∧ w.cell? ⟨q, 0, none⟩ = some (.pointer (some ⟨p, 0, none⟩)) ∧ w.cell? ⟨q, 9, none⟩ = some (.slice (some ⟨ga, 0, none⟩) vs.length ca) ∧ ∀ (k : Nat) (v : Vlt), vs[k]? = some v → w.cell? ⟨ga, k, none⟩ = some (.string (logB v)) := by
  have k9 := h.st.cells.2.1
  obtain ⟨ga, ca, hav, hga, hcells⟩ := row_cell h.st.logs (by rw [List.length_map]; exact hpos)
  rw [List.length_map] at hav
  rw [hav] at k9
  exact ⟨ga, ca, h.st.lt, hga, h.st.cells.1, k9, fun k v hv => hcells k _ (by rw [List.getElem?_map, List.getElem?_map, hv]; rfl)⟩
/-- What holds is asked, of a tale whose vault has moved on. -/
theorem tale_holds2 (hm : vs.length ≤ 24) {p2 : Nat} {lv2 : Value} {tv2 : Nat → Value} {s2 : Vlt} (hv2 : VaultAt w p2 lv2 tv2 s2) (hok : s2.Ok)
    {k : Nat} {v : Vlt} (hv : vs[k]? = some v) (hch : ∀ i, i < 4 → s2.ch i = v.ch i) :
    Calls Try.prog 17 #[.pointer (some ⟨q, 0, none⟩), .pointer (some ⟨p2, 0, none⟩), .int .i64 k] w fun e w' => e = .returned (.bool true) ∧ Below w.heap.size w w' := by
  have hlt := (List.getElem?_eq_some_iff.1 hv).1
  have hl := h.len
  obtain ⟨r, hr⟩ : ∃ r, rs[k]? = some r := ⟨rs[k]'(by omega), List.getElem?_eq_getElem (by omega)⟩
  refine holds_any q p (firstsOf s) cur a b c lv tv s _ _ rs w h.st p2 lv2 tv2 s2 hv2 hok k (firstsOf v) r (by rw [List.getElem?_map, hv]; rfl) hr (by rw [List.length_map]; omega) (by omega) (fun i hi h0 => ?_) (fun i hi => ?_)
  · rw [hch i hi] at h0 ⊢
    unfold firstsOf firstN; rw [if_neg h0]
  · rw [hch i hi]
    have := h.ahead k v r hv hr i hi
    exact ⟨this.1, fun g hg => (this.2 g hg).1⟩
theorem TaleAt.squashed {w' : World} (hm : Moves p lv tv s.squash w w') : ∃ lv' tv', TaleAt w0 w' q p cur a b c lv' tv' s.squash vs rs := by
  obtain ⟨lv', tv', h1, h2, h3⟩ := h.st.moves hm
  exact ⟨lv', tv', h1, h.now.kept h2 h3, h.len, fun k v r hv hr => (h.ahead k v r hv hr).kept h2 h3, low_next h.below h.low h3, out_low h.below h2 h.low, h.nil⟩
end
theorem squash_lead {s : Vlt} {vs : List Vlt} (hk : TaleOk s vs) : Leads s.squash.log noCh s.ch := by
  unfold Vlt.squash
  simp only
  split
  · exact lead_squash (hk.ok s hk.mem).2
  · exact told_lead hk.told _ _ hk.last
theorem squash_opens {s : Vlt} {vs : List Vlt} (hk : TaleOk s vs) : openF (logB s.squash) = (s.ch, (logB s.squash).size) := open_whole (by rw [logB_data]; exact squash_lead hk)
end Go.Proofs.Ytabpiaaknjcnkab
