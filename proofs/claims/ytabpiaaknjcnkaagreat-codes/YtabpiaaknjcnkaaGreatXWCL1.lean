/- The texts WC, L1, one behind the other. -/
import Derived.Test.YtabpiaaknjcnkaaGreatXW7W2
import Derived.Test.YtabpiaaknjcnkaaGreatWA
import Derived.Deep.QuietTactic
import Derived.BigQuiet
import Derived.LoopTactic
/-
  What Diff finds, read and applied.
-/
namespace Go.Proofs.YtabpiaaknjcnkaaGreat
open Go.RowKit
set_option linter.unusedVariables false
set_option linter.unusedSimpArgs false
set_option maxRecDepth 100000

theorem opCells_get (D : List DOp) (i : Nat) (o : DOp) (h : D[i]? = some o) :
    (opCells D)[i * 3]? = some (.int .i64 o.fr) ∧ (opCells D)[i * 3 + 1]? = some (.int .i64 o.len) ∧ (opCells D)[i * 3 + 2]? = some (.string o.tx) := by
  induction D generalizing i with
  | nil => simp at h
  | cons q r ih =>
    have e : opCells (q :: r) = .int .i64 q.fr :: .int .i64 q.len :: .string q.tx :: opCells r := rfl
    cases i with
    | zero => simp at h; subst h; simp [e]
    | succ i =>
      have := ih i (by simpa using h)
      rw [e, show (i + 1) * 3 = i * 3 + 3 from by omega]
      simpa using this

theorem reads_of_own {w : World} {base : Nat} {v : Value} {D : List DOp} (h : OwnOps w base v D) :
    (v = .slice none 0 0 ∧ D = []) ∨ ∃ g cap, v = .slice (some ⟨g, 0, none⟩) D.length cap ∧ g < w.heap.size ∧ base ≤ g ∧ ReadsAt w g 0 D := by
  rcases h.2 with ⟨rfl, h0⟩ | ⟨g, cap, cur, rfl, hg, hbk, hr⟩
  · exact .inl ⟨rfl, List.eq_nil_of_length_eq_zero h0⟩
  · refine .inr ⟨g, cap, rfl, row_own_lt h rfl, hg, ?_⟩
    intro i o ho
    have hi : i < D.length := (List.getElem?_eq_some_iff.1 ho).1
    obtain ⟨a0, a1, a2⟩ := opCells_get D i o ho
    refine ⟨?_, ?_, ?_⟩
    · rw [Nat.zero_add]; exact (World.ownsRow.cellAt h (i * 3) (by omega)).trans a0
    · rw [Nat.zero_add]; exact (World.ownsRow.cellAt h (i * 3 + 1) (by omega)).trans a1
    · rw [Nat.zero_add]; exact (World.ownsRow.cellAt h (i * 3 + 2) (by omega)).trans a2

theorem diffF_desc (base next : ByteArray) (h : next.size ≤ 700) : diffF base next = descF base next := by
  have := descF_length (base := base) (next := next)
  rw [diffF, if_neg (by omega)]

/-- What differs makes it again. -/
theorem capply_back (base next : ByteArray) (v : Value) (bs : Nat) (w : World) (hb : base.size ≤ 2000) (hn : next.size ≤ 700) (hown : OwnOps w bs v (descF base next)) :
    Calls Tryz.prog 60 #[.string base, v] w fun e w' => e = .returned (.tuple #[.string next, .int .i64 0, .int .i64 0]) ∧ Below w.heap.size w w' := by
  have hm := descF_made base next
  rcases reads_of_own hown with ⟨rfl, hD⟩ | ⟨g, cap, rfl, hg, _, hr⟩
  · rw [hD] at hm
    have hnx : next = ⟨#[]⟩ := by rw [← Lib.mk_data next, ← hm]; rfl
    rw [hnx]
    exact capply_of (apply_nil base none 0 w hb)
  · have := apply_ok base g 0 cap (descF base next) w hb (by have := descF_length (base := base) (next := next); omega) hr
      (fun o ho => by have := (descF_good base next o ho).len; omega) hg (descF_fault base next hn)
    rw [hm, Lib.mk_data] at this
    exact capply_of this
end Go.Proofs.YtabpiaaknjcnkaaGreat

/-
  The statement's small functions over lists of ops: sameOps, full.
-/
namespace Go.Proofs.YtabpiaaknjcnkaaGreat
open Go.RowKit
set_option linter.unusedVariables false
set_option linter.unusedSimpArgs false
set_option maxRecDepth 100000

/-- A list of ops, wherever it lies. -/
def View (w : World) (v : Value) (xs : List DOp) : Prop :=
  (xs = [] ∧ ∃ ao cap, v = .slice ao 0 cap) ∨ ∃ b off cap, v = .slice (some ⟨b, off, none⟩) xs.length cap ∧ b < w.heap.size ∧ ReadsAt w b off xs

theorem View.kept {w w' : World} {v : Value} {xs : List DOp} (h : View w v xs) (hb : Below w.heap.size w w') : View w' v xs := by
  rcases h with h | ⟨b, off, cap, rfl, hlt, hr⟩
  · exact .inl h
  · refine .inr ⟨b, off, cap, rfl, by have := hb.size; omega, fun i o ho => ?_⟩
    obtain ⟨r0, r1, r2⟩ := hr i o ho
    exact ⟨(hb.cell (p := ⟨b, _, none⟩) hlt).trans r0, (hb.cell (p := ⟨b, _, none⟩) hlt).trans r1, (hb.cell (p := ⟨b, _, none⟩) hlt).trans r2⟩
theorem View.of_own {w : World} {base : Nat} {v : Value} {xs : List DOp} (h : OwnOps w base v xs) : View w v xs := by
  rcases reads_of_own h with ⟨rfl, rfl⟩ | ⟨g, cap, rfl, hg, _, hr⟩
  · exact .inl ⟨rfl, _, _, rfl⟩
  · exact .inr ⟨g, 0, cap, rfl, hg, hr⟩

set_option maxHeartbeats 2000000 in
theorem sameOps_two (b off cap b' off' cap' : Nat) (xs : List DOp) (w : World) (hx : xs.length ≤ 1000000000000000) (h1 : ReadsAt w b off xs) (h2 : ReadsAt w b' off' xs) :
    Calls Tryz.prog 58 #[.slice (some ⟨b, off, none⟩) xs.length cap, .slice (some ⟨b', off', none⟩) xs.length cap'] w fun e w' => e = .returned (.bool true) ∧ ∃ n, w' = w.drewN n := by
  have H1 : Hid (ReadsAt w b off xs) := h1
  have H2 : Hid (ReadsAt w b' off' xs) := h2
  clear h1 h2
  go_enter Tryz.func58, Tryz.ntmps58
  go_wp2
  go_loopw [5] (fun i wr => ∃ k n : Nat, k ≤ xs.length ∧ i = .int .i64 k ∧ wr = w.drewN n) (fun i _ => xs.length + 1 - (intOf i).toNat)
  case atStart => exact ⟨0, 0, by omega, rfl, rfl⟩
  case round =>
    obtain ⟨k, n, hk, rfl, hwr⟩ := hrel
    by_cases hlt : k < xs.length
    · obtain ⟨⟨f, l, t⟩, ho⟩ : ∃ o, xs[k]? = some o := ⟨xs[k], by simp [hlt]⟩
      obtain ⟨r0, r1, r2⟩ := H1.out k _ ho
      obtain ⟨s0, s1, s2⟩ := H2.out k _ ho
      subst hwr
      have c0 : (w.drewN n).cell? ⟨b, off + k * 3, none⟩ = some (.int .i64 f) := r0
      have c1 : (w.drewN n).cell? ⟨b, off + k * 3 + 1, none⟩ = some (.int .i64 l) := r1
      have c2 : (w.drewN n).cell? ⟨b, off + k * 3 + 2, none⟩ = some (.string t) := r2
      have d0 : (w.drewN n).cell? ⟨b', off' + k * 3, none⟩ = some (.int .i64 f) := s0
      have d1 : (w.drewN n).cell? ⟨b', off' + k * 3 + 1, none⟩ = some (.int .i64 l) := s1
      have d2 : (w.drewN n).cell? ⟨b', off' + k * 3 + 2, none⟩ = some (.string t) := s2
      clear ho
      have q1 : (k : Int) < (xs.length : Int) := by omega
      have q2 : (0 : Int) ≤ (k : Int) := by omega
      go_wp2
      go_quiet (fail)
      go_wp2
      go_roundw
      case rel => exact ⟨k + 1, n + nq, by omega, by go_num, rfl⟩
      case measure => simp [intOf]; omega
    · subst hwr
      go_wp2
      go_ret
      exact ⟨rfl, n, rfl⟩

set_option maxHeartbeats 1000000 in
theorem sameOps_nil (ao ao' : Option Addr) (cap cap' : Nat) (w : World) :
    Calls Tryz.prog 58 #[.slice ao 0 cap, .slice ao' 0 cap'] w fun e w' => e = .returned (.bool true) ∧ ∃ n, w' = w.drewN n := by
  go_enter Tryz.func58, Tryz.ntmps58
  go_wp2
  go_loopw [5] (fun i wr => i = .int .i64 0 ∧ w = wr) (fun _ _ => 0)
  case atStart => exact ⟨rfl, rfl⟩
  case round =>
    obtain ⟨rfl, rfl⟩ := hrel
    go_wp2
    go_ret
    exact ⟨rfl, 0, rfl⟩

/-- Two lists that read the same are the same. -/
theorem sameOps_any {va vb : Value} {xs : List DOp} {w : World} (hx : xs.length ≤ 1000000000000000) (h1 : View w va xs) (h2 : View w vb xs) :
    Calls Tryz.prog 58 #[va, vb] w fun e w' => e = .returned (.bool true) ∧ ∃ n, w' = w.drewN n := by
  rcases h1 with ⟨h0, ao, cap, rfl⟩ | ⟨b, off, cap, rfl, _, r1⟩
  · rcases h2 with ⟨_, ao', cap', rfl⟩ | ⟨b', off', cap', rfl, _, r2⟩
    · exact sameOps_nil ao ao' cap cap' w
    · subst h0; exact sameOps_nil ao _ cap cap' w
  · rcases h2 with ⟨h0, ao', cap', rfl⟩ | ⟨b', off', cap', rfl, _, r2⟩
    · subst h0; exact sameOps_nil _ ao' cap cap' w
    · exact sameOps_two b off cap b' off' cap' xs w hx r1 r2

/-- A mark of the book's. -/
def mark (m : Int) : DOp := ⟨m, 0, ⟨#[]⟩⟩

set_option maxHeartbeats 2000000 in
theorem full_two (b off cap n : Nat) (m : Int) (w : World) (hx : n ≤ 1000000000000000) (h1 : ReadsAt w b off (List.replicate n (mark m))) :
    Calls Tryz.prog 41 #[.slice (some ⟨b, off, none⟩) n cap, .int .i64 m] w fun e w' => e = .returned (.bool true) ∧ w = w' := by
  have H1 : Hid (ReadsAt w b off (List.replicate n (mark m))) := h1
  clear h1
  go_enter Tryz.func41, Tryz.ntmps41
  go_wp2
  go_loop [5] (fun i => ∃ k : Nat, k ≤ n ∧ i = .int .i64 k) (fun i => n + 1 - (intOf i).toNat)
  case atStart => exact ⟨0, by omega, rfl⟩
  case round =>
    obtain ⟨k, hk, rfl⟩ := hrel
    by_cases hlt : k < n
    · obtain ⟨r0, r1, r2⟩ := H1.out k (mark m) (by simp [hlt])
      have c0 : w.cell? ⟨b, off + k * 3, none⟩ = some (.int .i64 m) := r0
      have c1 : w.cell? ⟨b, off + k * 3 + 1, none⟩ = some (.int .i64 0) := r1
      have c2 : w.cell? ⟨b, off + k * 3 + 2, none⟩ = some (.string ⟨#[]⟩) := r2
      clear r0 r1 r2
      go_wp2
      go_round
      case rel => exact ⟨k + 1, by omega, by go_num⟩
      case measure => simp [intOf]; omega
    · go_wp2
      go_ret
      exact ⟨rfl, rfl⟩

set_option maxHeartbeats 1000000 in
theorem full_nil (ao : Option Addr) (cap : Nat) (m : Int) (w : World) :
    Calls Tryz.prog 41 #[.slice ao 0 cap, .int .i64 m] w fun e w' => e = .returned (.bool true) ∧ w = w' := by
  go_enter Tryz.func41, Tryz.ntmps41
  go_wp2
  go_loop [5] (fun i => i = .int .i64 0) (fun _ => 0)
  case atStart => rfl
  case round =>
    subst hrel
    go_wp2
    go_ret
    exact ⟨rfl, rfl⟩

theorem full_any {v : Value} {n : Nat} {m : Int} {w : World} (hx : n ≤ 1000000000000000) (h : View w v (List.replicate n (mark m))) :
    Calls Tryz.prog 41 #[v, .int .i64 m] w fun e w' => e = .returned (.bool true) ∧ w = w' := by
  rcases h with ⟨h0, ao, cap, rfl⟩ | ⟨b, off, cap, rfl, _, r1⟩
  · exact full_nil ao cap m w
  · have := full_two b off cap n m w hx r1
    simpa using this
end Go.Proofs.YtabpiaaknjcnkaaGreat
