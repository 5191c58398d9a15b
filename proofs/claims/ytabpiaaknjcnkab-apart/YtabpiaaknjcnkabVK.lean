/-
  A string's bytes behind a row of bytes, and where the new row lies.
-/
import Derived.Test.YtabpiaaknjcnkabXVIVJ
namespace Go.Proofs.Ytabpiaaknjcnkab
open Go.RowKit
set_option linter.unusedVariables false
set_option linter.unusedSimpArgs false
set_option maxRecDepth 100000

theorem run_str_lies (w : World) (base : Nat) (ty : TypeId) (v : Value) (bs : List UInt8) (s : ByteArray) (hown : OwnBytes w base v bs) (hs : 0 < s.size) (hl : bs.length + s.size ≤ 1000000) (hbase : base ≤ w.heap.size) :
    ∃ v' w', (Builtin.append_ #[26, 9] ty #[v, .string s]).run Try.prog w = .ok v' w' ∧ OwnBytes w' base v' (bs ++ s.data.toList) ∧ w.grownBy w' v.ownBlock ∧ (v'.ownBlock = v.ownBlock ∨ v'.ownBlock = some w.heap.size) := by
  obtain ⟨i0, hi, hz0, hz1, hz2⟩ := info_parts Try.infoByte
  obtain ⟨v', w', hr, h2, h3, h4⟩ := Lib.run_append_own_string (P := Try.prog) w base 26 9 ty 5 i0 Try.underlying26 Try.underlying9 hi hz0 hz1 hz2 v bs.length (bs.map byteV) hown s (by unfold maxLen; omega) (by omega) hbase
  refine ⟨v', w', hr, ?_, h3, ?_⟩
  · unfold OwnBytes
    rw [List.map_append, List.length_append, ← Lib.size_eq]
    exact h2
  · rcases hown.2 with ⟨rfl, h0⟩ | ⟨g, cap, cur, rfl, hbg, hg, hnc, hcm, hcs, htake⟩
    · have hr2 := run_append_nil_string (P := Try.prog) w 26 9 ty 5 i0 (.int .u8 0) Try.underlying26 Try.underlying9 hi hz0 s hs (by omega) (by rw [hz2]; omega)
      have e := hr.symm.trans hr2
      injection e with e1 e2
      rw [e1]; exact .inr rfl
    · by_cases hroom : bs.length + s.size ≤ cap
      · have hcs' : cur.size = cap := by simpa using hcs
        have hr2 := Lib.run_append_room_string (P := Try.prog) w 26 9 ty 5 i0 Try.underlying26 Try.underlying9 hi hz1 g bs.length cap cur hg s hroom (by omega)
        have e := hr.symm.trans hr2
        injection e with e1 e2
        rw [e1]; exact .inl rfl
      · have holds : ∀ j u, (bs.map byteV)[j]? = some u → w.cell? ((⟨g, 0, none⟩ : Addr).add j) = some u := hown.cells (g := g) rfl
        have hr2 := Lib.run_append_grow_string (P := Try.prog) w 26 9 ty 5 i0 (.int .u8 0) Try.underlying26 Try.underlying9 hi hz0 ⟨g, 0, none⟩ bs.length cap (bs.map byteV) (by rw [hz1]; simp) holds s (by omega) (by omega) (by rw [hz2]; exact growslice_fits (by omega) (by omega))
        have e := hr.symm.trans hr2
        injection e with e1 e2
        rw [e1]; exact .inr rfl

/-- At a step of a region that draws its order. -/
theorem step_str_lies {w : World} {ops : Array Oper} {o : Oper} {a : Act} {K : Act → World → Prop} {Q : Exit → Act → World → Prop} {E : Prop} (hgd : o.guard = none) (sl x : Operand)
    (ho : o.op = .call { callee := .builtin .append, args := #[sl, x], argTypes := #[26, 9] })
    (base : Nat) (v : Value) (bs : List UInt8) (hs : a.eval sl = v) (hown : OwnBytes w base v bs) (s : ByteArray) (hx : a.eval x = .string s) (hp : 0 < s.size) (hl : bs.length + s.size ≤ 1000000) (hbase : base ≤ w.heap.size)
    (h : ∀ v' w', OwnBytes w' base v' (bs ++ s.data.toList) → w.grownBy w' v.ownBlock → (v'.ownBlock = v.ownBlock ∨ v'.ownBlock = some w.heap.size) → K (a.put o.dst v') w') :
    if Region.wanted o (yielded ops a.tmps) = true then Oper.wp Try.prog o a w K Q else E := by
  have hw : Region.wanted o (yielded ops a.tmps) = true := by simp [Region.wanted, hgd]
  rw [if_pos hw]
  obtain ⟨v', w', hr, h2, h3, h4⟩ := run_str_lies w base o.type v bs s hown hp hl hbase
  unfold Oper.wp execOp
  simp only [ho, resolve, invoke, builtin, Sem.run_bind, Sem.run_pure, Result.andThen_ok, List.map_toArray, List.map_cons, List.map_nil, hs, hx, hr]
  exact h v' w' h2 h3 h4

/-- A reader lies in no block of a vault. -/
theorem RAt.far {w : World} {rb at_ p : Nat} {l : ByteArray} {lv : Value} {tv : Nat → Value} {s : Vlt} (hr : RAt w rb l at_) (hv : VaultAt w p lv tv s) : ¬ foot p lv tv rb := by
  rintro (e | e | ⟨i, hi, e⟩)
  · have := hv.blk; rw [← e] at this; unfold RAt at hr; rw [hr] at this; simp at this
  · exact row_type hv.log hr (by decide) e
  · exact row_type (hv.row i hi) hr (by decide) e
theorem VaultAt.moved {w w' : World} {rb at_ p : Nat} {l : ByteArray} {lv : Value} {tv : Nat → Value} {s : Vlt} (hv : VaultAt w p lv tv s) (hr : RAt w rb l at_) (hm : Moved rb w w') : VaultAt w' p lv tv s :=
  hv.kept (fun q hq => hm.block q (hv.foot_lt q hq) (fun e => hr.far hv (by rw [← e]; exact hq)))
theorem RAt.out {w w' : World} {rb at_ p : Nat} {l : ByteArray} {lv : Value} {tv : Nat → Value} {s : Vlt} (hr : RAt w rb l at_) (hv : VaultAt w p lv tv s) (ho : Out (foot p lv tv) w w') : RAt w' rb l at_ := (ho.block rb (lt_of_block hr) (hr.far hv)).trans hr
/-- Where a reader stands. -/
def atOf (w : World) (rb : Nat) : Nat := match w.cell? ⟨rb, 1, none⟩ with
  | some (.int _ z) => z.toNat
  | _ => 0
theorem RAt.at_of {w : World} {rb at_ : Nat} {l : ByteArray} (hr : RAt w rb l at_) : atOf w rb = at_ := by
  unfold atOf
  rw [hr.cells.2.1]
  simp

set_option maxHeartbeats 1000000 in
theorem hchain_any (z : Int) (c : Nat) (w : World) : Calls Try.prog 108 #[.agg #[.int .u8 z, .int .i64 c]] w fun e w' => e = .returned (.int .i64 c) ∧ Below w.heap.size w w' := by
  go_enter Try.func108, Try.ntmps108
  go_wp2
  go_ret
  exact ⟨rfl, (Below.refl _ _).alloc (Nat.le_refl _) _⟩

/-- A record that was read, as the interface's value that does it. -/
structure Doer (W0 : World) (r : Rec) (T : TypeId) (x : Value) (KD : FuncId) (z : Int) : Prop where
  chain : ∀ W : World, (method 263 T x "Chain").run Try.prog W = .ok (108, .agg #[.int .u8 z, .int .i64 r.c]) W
  do_ : ∀ W : World, (method 263 T x "Do").run Try.prog W = .ok (KD, x) W
  ahead : ∀ W : World, (nilAhead 263 T x "Do").run Try.prog W = .ok (some false) W
  enter : ∀ (W : World) (a : Value), (callFunc KD #[x, a]).run Try.prog W = .ok (.enter KD #[x, a]) W
  does : ∀ (W : World) (p : Nat) (lv : Value) (tv : Nat → Value) (s : Vlt), Below W0.heap.size W0 W → VaultAt W p lv tv s → s.Ok → Calls Try.prog KD #[x, .pointer (some ⟨p, 1 + r.c * 2, none⟩)] W (DoPost p lv tv s (r.does s.ch) W)
theorem rec_doer {W0 : World} {base : Nat} {v : Value} {r : Rec} (h : RecV W0 base v r) (hr : r.Ok) : ∃ T x KD z, v = .iface T x ∧ Doer W0 r T x KD z := by
  obtain ⟨hc, hn, ht, hx, hL⟩ := hr
  rcases h with ⟨h1, h2⟩ | ⟨h1, ao, n, cap, h2, h3⟩ | ⟨h1, h2⟩ | ⟨h1, h2⟩
  · refine ⟨_, _, 109, 70, h2, fun W => by kernel_rfl, fun W => by kernel_rfl, fun W => by kernel_rfl, fun W a => by kernel_rfl, fun W p lv tv s _ hv hok => ?_⟩
    have e : r.does s.ch = moreF s.ch r.c r.t := by unfold Rec.does; rw [if_pos h1]
    rw [e]
    exact fdo_any p r.c lv tv s r.t W hv hc (hok.last _) ht
  · refine ⟨_, _, 117, 68, h2, fun W => by kernel_rfl, fun W => by kernel_rfl, fun W => by kernel_rfl, fun W a => by kernel_rfl, fun W p lv tv s hW hv hok => ?_⟩
    have e : r.does s.ch = codeDo s.ch r.c r.xs := by
      unfold Rec.does codeDo
      rw [if_neg (by rw [h1]; decide), if_pos h1]
      rfl
    rw [e]
    exact ddo_any p r.c lv tv s ao n cap r.xs W hv hok hc ((View.of_own h3).kept hW) hx
  · have hn0 : 0 < r.n := by
      rcases hL with x | x | x | x
      · rw [h1] at x; exact absurd x (by decide)
      · rw [h1] at x; exact absurd x (by decide)
      · exact x.2
      · rw [h1] at x; exact absurd x (by decide)
    refine ⟨_, _, 114, 66, h2, fun W => by kernel_rfl, fun W => by kernel_rfl, fun W => by kernel_rfl, fun W a => by kernel_rfl, fun W p lv tv s _ hv hok => ?_⟩
    have e : r.does s.ch = baseF s.ch r.c r.n r.t := by
      unfold Rec.does
      rw [if_neg (by rw [h1]; decide), if_neg (by rw [h1]; decide), if_pos h1]
    rw [e]
    exact bdo_any p r.c r.n lv tv s r.t W hv hc (hok.last _) hn0 hn ht
  · refine ⟨_, _, 112, 80, h2, fun W => by kernel_rfl, fun W => by kernel_rfl, fun W => by kernel_rfl, fun W a => by kernel_rfl, fun W p lv tv s _ hv hok => ?_⟩
    have e : r.does s.ch = pruneF s.ch r.c r.n := by
      unfold Rec.does
      rw [if_neg (by rw [h1]; decide), if_neg (by rw [h1]; decide), if_neg (by rw [h1]; decide)]
    rw [e]
    exact pdo_any p r.c r.n lv tv s W hv hc (hok.last _)
end Go.Proofs.Ytabpiaaknjcnkab
