/- The texts ZY, ZP, YL, PX, VN, one behind the other. -/
import Derived.Test.YtabpiaaknjcnkaaGreatXZTZSZTaZTbZTcYA
import Derived.Test.YtabpiaaknjcnkaaGreatXYKZVZX
import Derived.Test.YtabpiaaknjcnkaaGreatXRALKLSLQZA
import Derived.LoopTactic
import Derived.Test.YtabpiaaknjcnkaaGreatR8
import Derived.Test.YtabpiaaknjcnkaaGreatXPPPKV6VB
/-
  Any step of the kinds up to 12.
-/
namespace Go.Proofs.YtabpiaaknjcnkaaGreat
open Go.RowKit
set_option linter.unusedVariables false
set_option linter.unusedSimpArgs false
set_option maxRecDepth 100000

def Holds (B0 Wb n : Nat) (w : World) : Prop := ∃ xv yv bv es xs ys κ, es.length ≤ n ∧ xs.map (·.s) = ys.map (·.s) ∧ xs.length ≤ 4 ∧ WorldAt w B0 Wb xv yv bv es xs ys κ
theorem Holds.below {B0 Wb n : Nat} {w w' : World} (h : Holds B0 Wb n w) (hb : Below w.heap.size w w') : Holds B0 Wb n w' := by
  obtain ⟨xv, yv, bv, es, xs, ys, κ, h1, h2, h3, h4⟩ := h
  exact ⟨xv, yv, bv, es, xs, ys, κ, h1, h2, h3, h4.below hb⟩
theorem Holds.low0 {B0 Wb n : Nat} {w : World} (h : Holds B0 Wb n w) : B0 ≤ w.heap.size := by
  obtain ⟨xv, yv, bv, es, xs, ys, κ, h1, h2, h3, h4⟩ := h
  exact h4.low0
theorem Holds.lt {B0 Wb n : Nat} {w : World} (h : Holds B0 Wb n w) : Wb < w.heap.size := by
  obtain ⟨xv, yv, bv, es, xs, ys, κ, h1, h2, h3, h4⟩ := h
  exact h4.lt
theorem Holds.looks {B0 Wb n : Nat} {w : World} (h : Holds B0 Wb n w) (hn : n ≤ 1300000000000) : Calls Tryz.prog 18 #[.pointer (some ⟨Wb, 2, none⟩)] w fun e w' => e = .returned (.bool true) ∧ Below w.heap.size w w' := by
  obtain ⟨xv, yv, bv, es, xs, ys, κ, h1, h2, h3, h4⟩ := h
  exact looks_any w B0 Wb xv yv bv es _ h4.book (by omega) h4.lt
theorem Went.holds {B0 Wb n : Nat} {w w' : World} {e : Ending} (h : Went B0 Wb n w e w') : e = .returned (.bool true) ∧ Hid (Holds B0 Wb n w') ∧ Below B0 w w' := h
theorem Went.mono {B0 Wb n m : Nat} {w w' : World} {e : Ending} (h : Went B0 Wb n w e w') (hn : n ≤ m) : Went B0 Wb m w e w' := by
  obtain ⟨he, ⟨xv, yv, bv, es, xs, ys, κ, h1, h2, h3, h4⟩, hb⟩ := h
  exact ⟨he, ⟨xv, yv, bv, es, xs, ys, κ, by omega, h2, h3, h4⟩, hb⟩
theorem went_read {B0 Wb n : Nat} {w w' : World} {e : Ending} (h : Holds B0 Wb n w) (he : e = .returned (.bool true)) (hb : Below w.heap.size w w') : Went B0 Wb n w e w' := ⟨he, h.below hb, hb.mono h.low0⟩

theorem step_any {w : World} {B0 Wb n : Nat} (h : Holds B0 Wb n w) (hn : n ≤ 1300000000000) (k a b c : Int) (ha : -9223372036854775808 ≤ a ∧ a ≤ 9223372036854775807) (s t : ByteArray) (vl vm : Value) (lx ly : List DOp) (hr : Raw B0 w s t vl vm lx ly) (hi2 : Ints ly) (hk : k ≤ 12) :
    Calls Tryz.prog 17 #[.pointer (some ⟨Wb, 0, none⟩), .agg #[.int .i64 k, .int .i64 a, .int .i64 b, .int .i64 c, .string s, .string t, vl, vm]] w (Went B0 Wb (n + 1) w) := by
  have hH := h
  obtain ⟨xv, yv, bv, es, xs, ys, κ, h1, h2, h3, h4⟩ := h
  have rd : ∀ {e : Ending} {w' : World}, e = .returned (.bool true) ∧ Below w.heap.size w w' → Went B0 Wb (n + 1) w e w' := fun hh => (went_read hH hh.1 hh.2).mono (by omega)
  obtain ⟨lo, lc, hvl⟩ := hr.hl.slice
  obtain ⟨mo, mc, hvm⟩ := hr.hm.slice
  have hss : s.size ≤ 9223372036854775807 := by have := hr.hs; omega
  by_cases h6 : 1 ≤ k ∧ k ≤ 6
  · refine (step_codesS w B0 Wb xv yv bv es (inCol κ (0, 0) w.heap.size) (fun q hq => hq.1) h4.book (by omega) h4.low0 k a b c s t vl vm lx ly hr hi2 h6.1 h6.2).mono ?_
    rintro e w' ⟨he, ⟨bv', es', hl, hb⟩, hB, hO⟩
    obtain ⟨κ', hat⟩ := h4.booked hb hO
    exact ⟨he, ⟨xv, yv, bv', es', xs, ys, κ', by omega, h2, h3, hat⟩, hB⟩
  · rw [hvl, hvm]
    by_cases h7 : k = 7
    · subst h7
      exact (step_new h4 h2 h3 a b c s t lo mo _ lc _ mc).mono fun e w' hh => hh.mono (by omega)
    · by_cases h0 : xs = []
      · subst h0
        exact (step_empty h4 k a b c h6 h7 (by omega) s t lo mo _ lc _ mc).mono fun e w' hh => rd hh
      · have hpos : 0 < xs.length := List.length_pos_iff.2 h0
        by_cases hlow : k < 1
        · exact (step_low h4 h2 hpos h3 k a b c hlow ha s t lo mo _ lc _ mc).mono fun e w' hh => rd hh
        · rcases (show k = 8 ∨ k = 9 ∨ k = 10 ∨ k = 11 ∨ k = 12 by omega) with rfl | rfl | rfl | rfl | rfl
          · exact (step_backup h4 h2 hpos h3 a b c ha s t hss lo mo _ lc _ mc).mono fun e w' hh => hh.mono (by omega)
          · exact (step_restore h4 h2 hpos h3 a b c ha s t lo mo _ lc _ mc).mono fun e w' hh => rd hh
          · exact (step_versions h4 h2 hpos h3 a b c ha s t lo mo _ lc _ mc).mono fun e w' hh => rd hh
          · exact (step_prune h4 h2 hpos h3 a b c ha s t hss lo mo _ lc _ mc).mono fun e w' hh => hh.mono (by omega)
          · exact (step_log h4 h2 hpos h3 a b c ha s t lo mo _ lc _ mc).mono fun e w' hh => rd hh

theorem raw_none (B0 : Nat) (w : World) (s : ByteArray) (hs : s.size ≤ 9223372036854770000) : Raw B0 w s ⟨#[]⟩ (.slice none 0 0) (.slice none 0 0) [] [] :=
  ⟨hs, by decide, by simp, by simp, .inl ⟨rfl, none, 0, rfl⟩, .inl ⟨rfl, none, 0, rfl⟩, by simp, by simp⟩
def newCol (n : Nat) : Nat → Col := fun q => if q < n then (5, 0) else (0, 0)
theorem world_new (w : World) : Holds w.heap.size w.heap.size 0 (w.alloc (.cells #[.slice none 0 0, .slice none 0 0, .slice none 0 0] 57)) := by
  refine ⟨.slice none 0 0, .slice none 0 0, .slice none 0 0, [], [], [], newCol w.heap.size, Nat.le_refl _, rfl, Nat.zero_le _, ⟨⟨heap_alloc_new _ _, Nat.le_refl _, ⟨by simp, if_neg (by omega)⟩, World.ownsRow_nil _ _ _ _, (fun g hg => by cases hg), (fun e he => by cases he)⟩, fun q hq => if_pos hq, World.ownsRow_nil _ _ _ _, (fun g hg => by cases hg), World.ownsRow_nil _ _ _ _, (fun g hg => by cases hg), fun i x hx => by simp at hx, fun i y hy => by simp at hy⟩⟩
end Go.Proofs.YtabpiaaknjcnkaaGreat

/-
  A whole script, of the kinds up to 12.
-/
namespace Go.Proofs.YtabpiaaknjcnkaaGreat
open Go.RowKit
set_option linter.unusedVariables false
set_option linter.unusedSimpArgs false
set_option maxRecDepth 100000

/-- The step of plays' own list. -/
theorem step_there {w : World} {B0 Wb n : Nat} (h : Holds B0 Wb n w) (hn : n ≤ 1300000000000) :
    Calls Tryz.prog 17 #[.pointer (some ⟨Wb, 0, none⟩), .agg #[.int .i64 5, .int .i64 0, .int .i64 0, .int .i64 0, .string ⟨#[]⟩, .string ⟨#[]⟩, .slice (some ⟨w.heap.size, 0, none⟩) 2 2, .slice none 0 0]] (w.alloc (.cells #[.int .i64 0, .int .i64 6, .string ⟨#[]⟩, .int .i64 0, .int .i64 0, .string ⟨#[116, 104, 101, 114, 101]⟩] 63)) fun e w' => e = .returned (.bool true) ∧ Hid (Holds B0 Wb n w') ∧ Below B0 w w' := by
  have hH := h
  obtain ⟨xv, yv, bv, es, xs, ys, κ, h1, h2, h3, h4⟩ := h
  have hb : Below w.heap.size w (w.alloc (.cells #[.int .i64 0, .int .i64 6, .string ⟨#[]⟩, .int .i64 0, .int .i64 0, .string ⟨#[116, 104, 101, 114, 101]⟩] 63)) := (Below.refl _ _).alloc (Nat.le_refl _) _
  refine (step_enc _ B0 (w.heap.size + 1) Wb xv yv bv es ((h4.below hb).book.kept (fun q _ => rfl) (fun q hq => hq.1)) (by omega) (by have := h4.low0; simp; omega) (by have := h4.low0; omega) (by simp) 0 0 0 _ _ _ _ thereOps [] (raw_there _ _ _) ints_nil).mono ?_
  rintro e w' ⟨he, _, hB⟩
  have hB2 : Below w.heap.size w w' := hb.trans (hB.mono (by omega))
  exact ⟨he, hH.below hB2, hB2.mono hH.low0⟩

theorem rng0 : (-9223372036854775808 : Int) ≤ 0 ∧ (0 : Int) ≤ 9223372036854775807 := by omega
theorem step_hold {w : World} {B0 Wb n : Nat} (h : Holds B0 Wb n w) (hn : n ≤ 1300000000000) (k a b c : Int) (ha : -9223372036854775808 ≤ a ∧ a ≤ 9223372036854775807) (s t : ByteArray) (vl vm : Value) (lx ly : List DOp) (hr : Raw B0 w s t vl vm lx ly) (hi2 : Ints ly) (hk : k ≤ 12) :
    Calls Tryz.prog 17 #[.pointer (some ⟨Wb, 0, none⟩), .agg #[.int .i64 k, .int .i64 a, .int .i64 b, .int .i64 c, .string s, .string t, vl, vm]] w fun e w' => e = .returned (.bool true) ∧ Hid (Holds B0 Wb (n + 1) w') ∧ Below B0 w w' :=
  (step_any h hn k a b c ha s t vl vm lx ly hr hi2 hk).mono fun e w' hh => hh.holds

end Go.Proofs.YtabpiaaknjcnkaaGreat

/-
  The document's bodies: a beginning; what a vault is behind one chain that turns.
-/
namespace Go.Proofs.YtabpiaaknjcnkaaGreat
open Go.RowKit
set_option linter.unusedVariables false
set_option linter.unusedSimpArgs false
set_option maxRecDepth 100000

set_option maxHeartbeats 2000000 in
theorem ybase_any (c n : Nat) (t : ByteArray) (w : World) (hc : c < 128) (hn : n < 34359738368) (ht : t.size ≤ 2000) :
    Calls Tryz.prog 82 #[.int .i64 c, .int .i64 n, .string t] w fun e w' => e = .returned (.string ⟨(bodyB c n t.data.toList).toArray⟩) ∧ Below w.heap.size w w' := by
  have HU : Hid (∀ W : World, Calls Tryz.prog 102 #[.int .i64 c] W fun e w' => e = .returned (.string ⟨(uN c).toArray⟩) ∧ Below W.heap.size W w') := fun W => ru_wide c W (by omega)
  have HU2 : Hid (∀ W : World, Calls Tryz.prog 102 #[.int .i64 n] W fun e w' => e = .returned (.string ⟨(uN n).toArray⟩) ∧ Below W.heap.size W w') := fun W => ru_wide n W hn
  have hul : (⟨(uN c).toArray⟩ : ByteArray).size ≤ 5 := by rw [Lib.size_eq]; exact uN_length5 (by omega)
  have hul2 : (⟨(uN n).toArray⟩ : ByteArray).size ≤ 5 := by rw [Lib.size_eq]; exact uN_length5 hn
  have HE : Hid ((⟨(bodyB c n t.data.toList).toArray⟩ : ByteArray) = ⟨#[66]⟩ ++ ⟨(uN c).toArray⟩ ++ ⟨(uN n).toArray⟩ ++ t) := by
    apply bytes_ext; rw [app_bytes, app_bytes, app_bytes]; simp [bodyB]
  generalize (⟨(uN c).toArray⟩ : ByteArray) = U at *
  generalize (⟨(uN n).toArray⟩ : ByteArray) = V at *
  have h1 : (⟨#[66]⟩ : ByteArray).size = 1 := rfl
  have a1 : ∀ W : World, (Op.stringOp .add ⟨#[66]⟩ U).run Tryz.prog W = .ok (.string (⟨#[66]⟩ ++ U)) W := fun W => run_string_add_sum W _ _ (by omega)
  have a2 : ∀ W : World, (Op.stringOp .add (⟨#[66]⟩ ++ U) V).run Tryz.prog W = .ok (.string (⟨#[66]⟩ ++ U ++ V)) W := fun W => run_string_add_sum W _ _ (by rw [ByteArray.size_append]; omega)
  have a3 : ∀ W : World, (Op.stringOp .add (⟨#[66]⟩ ++ U ++ V) t).run Tryz.prog W = .ok (.string (⟨#[66]⟩ ++ U ++ V ++ t)) W := fun W => run_string_add_sum W _ _ (by rw [ByteArray.size_append, ByteArray.size_append]; omega)
  clear h1
  rw [HE.out]
  go_enter Tryz.func82, Tryz.ntmps82
  go_wp2_with fail
  refine (HU.out _).mono ?_
  rintro e w1 ⟨rfl, b1⟩
  go_wp2_with fail
  refine (HU2.out _).mono ?_
  rintro e w2 ⟨rfl, b2⟩
  go_wp2
  go_ret
  exact ⟨rfl, b1.trans (b2.mono b1.size)⟩

theorem ych_moves {w w3 : World} {p n g' : Nat} {tv : Nat → Value} {s : Vlt} {v' : Value} {ts' : List ByteArray} {z : Int} (hv : YAt w p tv s) (hn : n < 4) (b3 : Below w.heap.size w w3) (hz : z = ((g' + 1 : Nat) : Int)) (hr : YView w3 v' ts') (hne : ts' ≠ []) (hp : ∀ b, rowBlock v' = some b → rowBlock (tv n) = some b ∨ w.heap.size ≤ b) :
    YMoves p tv ⟨s.log, setCh s.ch n ⟨g', ts'⟩⟩ w ((w3.setCell ⟨p, n * 2, none⟩ (.int .i64 z)).setCell ⟨p, n * 2 + 1, none⟩ v') := by
  have h3 := hv.below b3
  have hlt := hv.lt
  obtain ⟨h4, o4⟩ := h3.chained (c := n) (g' := g') hn hz hr hne (fun e => by
    rcases hp p e with h | h
    · exact hv.own n hn h
    · omega)
  refine ⟨_, h4, (Out.of_below b3).trans o4 (fun q hq => .inl hq), ?_⟩
  rintro b (rfl | ⟨i, hi, hb⟩)
  · exact .inl (.inl rfl)
  · by_cases e : i = n
    · simp only [e, if_true] at hb
      rcases hp b hb with h | h
      · exact .inl (.inr ⟨n, hn, h⟩)
      · exact .inr h
    · simp only [e, if_false] at hb
      exact .inl (.inr ⟨i, hi, hb⟩)
end Go.Proofs.YtabpiaaknjcnkaaGreat

/-
  Plain facts: a body is read, then done.
-/
namespace Go.Proofs.YtabpiaaknjcnkaaGreat
set_option linter.unusedVariables false
set_option linter.unusedSimpArgs false

/-- A record that was read: its letter, its chain, a number, a text, ops. -/
structure Rec where
  L : UInt8
  c : Nat
  n : Nat
  t : ByteArray
  xs : List DOp
def recOf (b : ByteArray) : Option Rec :=
  match b.data.toList.head? with
  | none => none
  | some L => match numF b 1 with
    | .inl _ => none
    | .inr (c, at_) =>
      if 3 < c then none
      else if L = 70 then (if (b.extract at_ b.size).size ≤ 2000 then some ⟨70, c, 0, b.extract at_ b.size, []⟩ else none)
      else if L = 68 then (match decF (b.extract at_ b.size) with
        | .inl _ => none
        | .inr ops => some ⟨68, c, 0, ⟨#[]⟩, ops⟩)
      else if L = 66 ∨ L = 80 then (match numF b at_ with
        | .inl _ => none
        | .inr (n, nx) => if L = 66 then (if 0 < n ∧ (b.extract nx b.size).size ≤ 2000 then some ⟨66, c, n, b.extract nx b.size, []⟩ else none) else if nx = b.size then some ⟨80, c, n, ⟨#[]⟩, []⟩ else none)
      else none
def Rec.does (ch : Nat → Chn) (r : Rec) : Option (Nat → Chn) :=
  if r.L = 70 then moreF ch r.c r.t
  else if r.L = 68 then (match (ch r.c).texts.getLast? with
    | none => none
    | some t => if faultF r.xs t.size < r.xs.length then none else moreF ch r.c ⟨(madeL t.data.toList r.xs).toArray⟩)
  else if r.L = 66 then baseF ch r.c r.n r.t
  else pruneF ch r.c r.n
/-- What a record that was read keeps to. -/
def Rec.Ok (r : Rec) : Prop := r.c < 4 ∧ r.n ≤ 2147483647 ∧ r.t.size ≤ 2000 ∧ faultF r.xs 2000 = r.xs.length ∧ (r.L = 70 ∨ r.L = 68 ∨ r.L = 66 ∧ 0 < r.n ∨ r.L = 80)

theorem doesF_rec (ch : Nat → Chn) (b : ByteArray) : doesF ch b = (recOf b).bind (fun r => r.does ch) := by
  unfold doesF recOf
  cases b.data.toList.head? with
  | none => rfl
  | some L =>
    simp only
    cases h1 : numF b 1 with
    | inl p => rfl
    | inr q =>
      obtain ⟨c, at_⟩ := q
      simp only
      by_cases h3 : 3 < c
      · rw [if_pos h3, if_pos h3]; rfl
      · rw [if_neg h3, if_neg h3]
        by_cases hF : L = 70
        · rw [if_pos hF, if_pos hF]
          by_cases hs : (b.extract at_ b.size).size ≤ 2000
          · rw [if_pos hs]; rfl
          · rw [if_neg hs]
            unfold moreF
            rw [if_neg (fun h => hs h.1)]; rfl
        · rw [if_neg hF, if_neg hF]
          by_cases hD : L = 68
          · rw [if_pos hD, if_pos hD]
            unfold codeF
            cases h4 : decF (b.extract at_ b.size) with
            | inl p => rfl
            | inr ops =>
              simp only [Option.bind_some]
              unfold Rec.does
              rw [if_neg (show ¬ (68 : UInt8) = 70 by decide), if_pos rfl]
              simp only
              cases (ch c).texts.getLast? <;> rfl
          · rw [if_neg hD, if_neg hD]
            by_cases hB : L = 66
            · rw [if_pos (.inl hB)]
              cases h4 : numF b at_ with
              | inl p => rfl
              | inr q =>
                obtain ⟨n, nx⟩ := q
                simp only
                rw [if_pos hB, if_pos hB]
                unfold baseF
                by_cases hh : 0 < n ∧ (b.extract nx b.size).size ≤ 2000
                · rw [if_pos hh]
                  simp only [Option.bind_some]
                  unfold Rec.does
                  rw [if_neg (show ¬ (66 : UInt8) = 70 by decide), if_neg (show ¬ (66 : UInt8) = 68 by decide), if_pos rfl]
                  unfold baseF
                  rfl
                · rw [if_neg hh, if_neg (fun h => hh ⟨h.1, h.2.2⟩)]; rfl
            · by_cases hP : L = 80
              · rw [if_pos (.inr hP)]
                cases h4 : numF b at_ with
                | inl p => rfl
                | inr q =>
                  obtain ⟨n, nx⟩ := q
                  simp only
                  rw [if_neg hB, if_neg hB]
                  by_cases hn : nx = b.size
                  · rw [if_pos ⟨hP, hn⟩, if_pos hn]
                    simp only [Option.bind_some]
                    unfold Rec.does
                    rw [if_neg (show ¬ (80 : UInt8) = 70 by decide), if_neg (show ¬ (80 : UInt8) = 68 by decide), if_neg (show ¬ (80 : UInt8) = 66 by decide)]
                  · rw [if_neg (fun h => hn h.2), if_neg hn]; rfl
              · rw [if_neg (fun h => h.elim hB hP)]
                cases h4 : numF b at_ with
                | inl p => rfl
                | inr q =>
                  obtain ⟨n, nx⟩ := q
                  simp only
                  rw [if_neg hB, if_neg (fun h => hP h.1)]; rfl

theorem recOf_ok {b : ByteArray} {r : Rec} (h : recOf b = some r) : r.Ok := by
  unfold recOf at h
  cases hh : b.data.toList.head? with
  | none => rw [hh] at h; cases h
  | some L =>
    rw [hh] at h
    have hb1 : 1 ≤ b.size := by
      rw [Lib.size_eq]
      cases hl : b.data.toList with
      | nil => rw [hl] at hh; cases hh
      | cons x r => simp
    simp only at h
    cases h1 : numF b 1 with
    | inl p => rw [h1] at h; cases h
    | inr q =>
      obtain ⟨c, at_⟩ := q
      rw [h1] at h
      have k1 := numF_ok hb1 h1
      simp only at h
      split at h
      · cases h
      · rename_i h3
        split at h
        · split at h
          · rename_i hs
            simp only [Option.some.injEq] at h
            subst h
            exact ⟨by simp; omega, by simp, hs, rfl, .inl rfl⟩
          · cases h
        · split at h
          · split at h
            · cases h
            · rename_i ops h4
              simp only [Option.some.injEq] at h
              subst h
              exact ⟨by simp; omega, by simp, Nat.zero_le _, (decF_back h4).1, .inr (.inl rfl)⟩
          · split at h
            · split at h
              · cases h
              · rename_i n nx h4
                have k2 := numF_ok k1.2.2 h4
                split at h
                · split at h
                  · rename_i hs
                    simp only [Option.some.injEq] at h
                    subst h
                    exact ⟨by simp; omega, by simp; omega, hs.2, rfl, .inr (.inr (.inl ⟨rfl, hs.1⟩))⟩
                  · cases h
                · split at h
                  · simp only [Option.some.injEq] at h
                    subst h
                    exact ⟨by simp; omega, by simp; omega, Nat.zero_le _, rfl, .inr (.inr (.inr rfl))⟩
                  · cases h
            · cases h

/-- A code that stands at a place of a body. -/
theorem code_fwd {b : ByteArray} {at_ c a at' : Nat} {ops : List DOp} (hat : at_ ≤ b.size) (h1 : numF b at_ = .inr (c, a)) (h2 : ¬ 200 < c) (h3 : decGo b c [] 0 a = .inr (ops, at')) (h4 : at' = b.size) : decF (b.extract at_ b.size) = .inr ops := by
  obtain ⟨a1, a2, a3⟩ := numF_ok hat h1
  obtain ⟨b1, b2⟩ := numF_back h1
  obtain ⟨i1, i2⟩ := dec_back (s := b) c [] 0 a a3 (by omega)
  obtain ⟨xs, e1, e2, e3, e4, e5⟩ := i2 ops at' h3
  simp only [List.nil_append] at e1
  subst e1
  have hf : faultF ops 2000 = ops.length := by
    have := fault_of_fits ops [] 0 0 e3 (by omega)
    unfold faultF; simpa using this
  have he : (b.extract at_ b.size).data.toList = encL ops ++ [] := by
    rw [toEnd_data, b1, e4, drop_none.2 (show b.size ≤ at' by omega)]
    unfold encL; rw [e2]; simp
  rw [decF_fwd hf he, if_pos rfl]
theorem code_back {b : ByteArray} {at_ : Nat} {ops : List DOp} (hat : at_ ≤ b.size) (h : decF (b.extract at_ b.size) = .inr ops) : ∃ a, numF b at_ = .inr (ops.length, a) ∧ ¬ 200 < ops.length ∧ decGo b ops.length [] 0 a = .inr (ops, b.size) := by
  obtain ⟨hf, he⟩ := decF_back h
  have hl := fault_len hf
  have hfit := fits_of_fault ops [] 0 0 (by unfold faultF at hf; simpa using hf)
  rw [toEnd_data] at he
  unfold encL at he
  have n1 := numF_fwd (s := b) (start := at_) he.symm (by omega)
  have d1 := dec_fwd (s := b) ops [] 0 (at_ + (uN ops.length).length) [] hfit (by rw [← List.drop_drop, ← he, List.drop_left, List.append_nil])
  refine ⟨_, n1, by omega, ?_⟩
  rw [d1]
  have hs : (uN ops.length).length + (ops.flatMap encOp).length = b.size - at_ := by
    have := congrArg List.length he
    rw [List.length_append, List.length_drop, ← Lib.size_eq] at this
    exact this
  simp only [List.nil_append]
  rw [show at_ + (uN ops.length).length + (ops.flatMap encOp).length = b.size by omega]
/-- Where no delta can be read, there is no code. -/
theorem code_num {b : ByteArray} {at_ p : Nat} (hat : at_ ≤ b.size) (h : numF b at_ = .inl p) : ∃ q, decF (b.extract at_ b.size) = .inl q := by
  cases hd : decF (b.extract at_ b.size) with
  | inl q => exact ⟨q, rfl⟩
  | inr ops => obtain ⟨a, h1, _⟩ := code_back hat hd; rw [h] at h1; cases h1
theorem code_many {b : ByteArray} {at_ c a : Nat} (hat : at_ ≤ b.size) (h : numF b at_ = .inr (c, a)) (hc : 200 < c) : ∃ q, decF (b.extract at_ b.size) = .inl q := by
  cases hd : decF (b.extract at_ b.size) with
  | inl q => exact ⟨q, rfl⟩
  | inr ops =>
    obtain ⟨a', h1, h2, _⟩ := code_back hat hd
    rw [h] at h1
    simp only [Sum.inr.injEq, Prod.mk.injEq] at h1
    omega
theorem code_go {b : ByteArray} {at_ c a p : Nat} (hat : at_ ≤ b.size) (h : numF b at_ = .inr (c, a)) (hg : decGo b c [] 0 a = .inl p) : ∃ q, decF (b.extract at_ b.size) = .inl q := by
  cases hd : decF (b.extract at_ b.size) with
  | inl q => exact ⟨q, rfl⟩
  | inr ops =>
    obtain ⟨a', h1, h2, h3⟩ := code_back hat hd
    rw [h] at h1
    simp only [Sum.inr.injEq, Prod.mk.injEq] at h1
    obtain ⟨rfl, rfl⟩ := h1
    rw [hg] at h3; cases h3
theorem code_more {b : ByteArray} {at_ c a at' : Nat} {ops : List DOp} (hat : at_ ≤ b.size) (h : numF b at_ = .inr (c, a)) (hg : decGo b c [] 0 a = .inr (ops, at')) (hne : at' < b.size) : ∃ q, decF (b.extract at_ b.size) = .inl q := by
  cases hd : decF (b.extract at_ b.size) with
  | inl q => exact ⟨q, rfl⟩
  | inr ops' =>
    obtain ⟨a', h1, h2, h3⟩ := code_back hat hd
    rw [h] at h1
    simp only [Sum.inr.injEq, Prod.mk.injEq] at h1
    obtain ⟨rfl, rfl⟩ := h1
    rw [hg] at h3
    simp only [Sum.inr.injEq, Prod.mk.injEq] at h3
    omega

/-- The sum that stands behind a body. -/
theorem rec_sum {log : ByteArray} {at_ n body : Nat} (h : numF log at_ = .inr (n, body)) (hs : body + n + 4 ≤ log.size) :
    recL (log.extract body (body + n)).data.toList = (log.extract at_ (body + n + 4)).data.toList ↔ (log.extract (body + n) (body + n + 4)).data.toList = le4 (sumL (log.extract body (body + n)).data.toList) := by
  obtain ⟨b1, b2⟩ := numF_back h
  have hl : (log.extract body (body + n)).data.toList.length = n := by
    rw [← Lib.size_eq]; simp; omega
  have e : (log.extract at_ (body + n + 4)).data.toList = uN n ++ ((log.extract body (body + n)).data.toList ++ (log.extract (body + n) (body + n + 4)).data.toList) := by
    have hu : body + n + 4 - at_ = (uN n).length + (n + 4) := by omega
    rw [mid_data, b1, hu, List.take_length_add_append, List.take_add, mid_data, mid_data, List.drop_drop]
    rw [show body + n - body = n by omega, show body + n + 4 - (body + n) = 4 by omega]
  rw [e]
  unfold recL
  rw [hl, List.append_assoc]
  constructor
  · intro h'
    exact (List.append_cancel_left (List.append_cancel_left h')).symm
  · intro h'
    rw [h']
end Go.Proofs.YtabpiaaknjcnkaaGreat

/-
  The walks over package record: the record of a first version.
-/
namespace Go.Proofs.YtabpiaaknjcnkaaGreat
open Go.RowKit
set_option linter.unusedVariables false
set_option linter.unusedSimpArgs false
set_option maxRecDepth 100000

theorem bodyB_len (c n : Nat) (t : ByteArray) (hc : c < 128) (hn : n < 34359738368) (ht : t.size ≤ 2000) : 0 < (bodyB c n t.data.toList).length ∧ (bodyB c n t.data.toList).length ≤ 2020 := by
  have h1 := uN_length (n := c) (by omega)
  have h2 := uN_length5 hn
  have h3 := Lib.size_eq t
  constructor <;> simp [bodyB] <;> omega

set_option maxHeartbeats 8000000 in
theorem bbody_any (c n : Nat) (t : ByteArray) (w : World) (hc : c < 128) (hn : n < 34359738368) (ht : t.size ≤ 2000) :
    Calls Tryz.prog 182 #[.agg #[.int .u8 66, .int .i64 c, .int .i64 n, .string t]] w fun e w' => ∃ v, e = .returned v ∧ OwnBytes w' w.heap.size v (bodyB c n t.data.toList) ∧ Below w.heap.size w w' := by
  have hu := uN_length (n := c) (by omega)
  have hu2 := uN_length5 hn
  have hq : w.heap.size < (w.alloc (.cells #[.int .u8 66, .int .i64 c, .int .i64 n, .string t] 191)).heap.size := by simp
  have k0 : (w.alloc (.cells #[.int .u8 66, .int .i64 c, .int .i64 n, .string t] 191)).cell? ⟨w.heap.size, 0, none⟩ = some (.int .u8 66) := by simp
  have k1 : (w.alloc (.cells #[.int .u8 66, .int .i64 c, .int .i64 n, .string t] 191)).cell? ⟨w.heap.size, 1, none⟩ = some (.int .i64 c) := by simp
  have k2 : (w.alloc (.cells #[.int .u8 66, .int .i64 c, .int .i64 n, .string t] 191)).cell? ⟨w.heap.size, 2, none⟩ = some (.int .i64 n) := by simp
  have k3 : (w.alloc (.cells #[.int .u8 66, .int .i64 c, .int .i64 n, .string t] 191)).cell? ⟨w.heap.size, 3, none⟩ = some (.string t) := by simp
  have HC : Hid (∀ W : World, Calls Tryz.prog 175 #[.agg #[.int .u8 66, .int .i64 c]] W fun e w' => ∃ v, e = .returned v ∧ OwnBytes w' W.heap.size v (66 :: uN c) ∧ Below W.heap.size W w') := fun W => begin_any 66 c W hc
  go_enter Tryz.func182, Tryz.ntmps182
  go_wp2
  go_region_held3 (fun w' => w'.cell? ⟨w.heap.size, 0, none⟩ = some (.int .u8 66) ∧ w'.cell? ⟨w.heap.size, 1, none⟩ = some (.int .i64 c) ∧ w'.cell? ⟨w.heap.size, 2, none⟩ = some (.int .i64 n) ∧ w'.cell? ⟨w.heap.size, 3, none⟩ = some (.string t)) (go_keep)
    (first | (go_at_call 175; refine (HC.out _).mono ?_; rintro e w3 ⟨v3, rfl, o3, hb3⟩; have e0 := (hb3.cell (p := ⟨w.heap.size, 0, none⟩) hq).trans k0; have e1 := (hb3.cell (p := ⟨w.heap.size, 1, none⟩) hq).trans k1; have e2 := (hb3.cell (p := ⟨w.heap.size, 2, none⟩) hq).trans k2; have e3 := (hb3.cell (p := ⟨w.heap.size, 3, none⟩) hq).trans k3) | (go_at_call 132; refine (addnum_any _ _ n _ _ o3 hb3.size (by simp; omega) hn).mono ?_; rintro e w4 ⟨v4, rfl, o4, hb4, _⟩; have hs4 := hb4.size; have e0 := (hb4.cell (p := ⟨w.heap.size, 0, none⟩) hq).trans e0; have e1 := (hb4.cell (p := ⟨w.heap.size, 1, none⟩) hq).trans e1; have e2 := (hb4.cell (p := ⟨w.heap.size, 2, none⟩) hq).trans e2; have e3 := (hb4.cell (p := ⟨w.heap.size, 3, none⟩) hq).trans e3) | (refine step_append_str rfl (.tmp 8) (.tmp 10) rfl _ _ _ (by simp [Act.eval, Act.put]) o4 t (by simp [Act.eval, Act.put]) (by simp; omega) (by have := hb3.size; have := hb4.size; simp at *; omega) ?_; intro v5 w5 o5 hg5; have hs5 := Nat.le_trans hb3.size hs4; have e0 := (grown_cell o4 hg5 hs5 _ 0 hq).trans e0; have e1 := (grown_cell o4 hg5 hs5 _ 1 hq).trans e1; have e2 := (grown_cell o4 hg5 hs5 _ 2 hq).trans e2; have e3 := (grown_cell o4 hg5 hs5 _ 3 hq).trans e3))
  all_goals
    have R1 : Below w.heap.size w w5 := by
      have h1 : Below w.heap.size w w3 := (((Below.refl w.heap.size w).alloc (Nat.le_refl _) (.cells #[.int .u8 66, .int .i64 c, .int .i64 n, .string t] 191)).drew).trans (hb3.mono (by simp))
      have h2 : Below w.heap.size w w4 := h1.trans (hb4.mono (by simp))
      exact h2.grown hg5 h2.size (fun k hk => by have := row_own_ge o4 hk; simp at this; omega)
    have R2 : Hid (OwnBytes w5 w.heap.size v5 (bodyB c n t.data.toList)) := by
      have := OwnBytes.wide (b := w.heap.size) o5 (by simp)
      simpa [bodyB, Hid] using this
    clear o3 o4 o5 hb3 hb4 hg5 hs5 hs4
    go_wp2
    go_ret
    exact ⟨v5, rfl, R2.out, R1⟩

theorem recbytes_base (c n : Nat) (t : ByteArray) (w : World) (hc : c < 128) (hn : n < 34359738368) (ht : t.size ≤ 2000) :
    Calls Tryz.prog 84 #[.iface 191 (.agg #[.int .u8 66, .int .i64 c, .int .i64 n, .string t])] w fun e w' => ∃ v, e = .returned v ∧ OwnBytes w' w.heap.size v (recL (bodyB c n t.data.toList)) ∧ Below w.heap.size w w' :=
  recbytes_of _ _ 182 _ w (bodyB_len c n t hc hn ht).1 (by have := (bodyB_len c n t hc hn ht).2; omega) (fun W => by kernel_rfl) (fun W => by kernel_rfl) (bbody_any c n t w hc hn ht)
set_option maxHeartbeats 1000000 in
theorem recbeg_any (c n : Nat) (t : ByteArray) (w : World) : Calls Tryz.prog 131 #[.int .i64 c, .int .i64 n, .string t] w fun e w' => e = .returned (.iface 191 (.agg #[.int .u8 66, .int .i64 c, .int .i64 n, .string t])) ∧ w = w' := by
  go_enter Tryz.func131, Tryz.ntmps131
  go_wp2
  go_ret
  exact ⟨rfl, rfl⟩
end Go.Proofs.YtabpiaaknjcnkaaGreat
