/-
  Plain facts: which part of a log counts.
-/
import Derived.Test.YtabpiaaknjcnkabGreatXPRPO
namespace Go.Proofs.YtabpiaaknjcnkabGreat
set_option linter.unusedVariables false
set_option linter.unusedSimpArgs false

theorem mid_data (s : ByteArray) (a b : Nat) : (s.extract a b).data.toList = (s.data.toList.drop a).take (b - a) := by
  rw [ByteArray.data_extract, Array.toList_extract, List.extract_eq_take_drop]
theorem le4_length (v : Nat) : (le4 v).length = 4 := rfl
theorem le4_inj {a b : Nat} (ha : a < 4294967296) (hb : b < 4294967296) (h : le4 a = le4 b) : a = b := by
  simp only [le4, List.cons.injEq, and_true] at h
  obtain ⟨h0, h1, h2, h3⟩ := h
  have g0 := congrArg UInt8.toNat h0
  have g1 := congrArg UInt8.toNat h1
  have g2 := congrArg UInt8.toNat h2
  have g3 := congrArg UInt8.toNat h3
  simp only [UInt8.toNat_ofNat'] at g0 g1 g2 g3
  omega

/-- Nothing counts from here on. -/
def Stops0 (log : ByteArray) (at_ : Nat) (ch : Nat → Chn) : Prop := ∀ f, openGo log f at_ ch = (ch, at_)
theorem stop_end {log : ByteArray} {at_ : Nat} {ch : Nat → Chn} (h : log.size ≤ at_) : Stops0 log at_ ch := by
  intro f
  cases f with
  | zero => rfl
  | succ f => rw [openGo, if_neg (by omega)]
theorem stop_num {log : ByteArray} {at_ p : Nat} {ch : Nat → Chn} (h : numF log at_ = .inl p) : Stops0 log at_ ch := by
  intro f
  cases f with
  | zero => rfl
  | succ f =>
    rw [openGo]
    split
    · rw [h]
    · rfl
theorem stop_short {log : ByteArray} {at_ n body : Nat} {ch : Nat → Chn} (h : numF log at_ = .inr (n, body)) (hs : log.size < body + n + 4) : Stops0 log at_ ch := by
  intro f
  cases f with
  | zero => rfl
  | succ f =>
    rw [openGo]
    split
    · rw [h]; simp only [if_pos hs]
    · rfl
theorem stop_sum {log : ByteArray} {at_ n body : Nat} {ch : Nat → Chn} (h : numF log at_ = .inr (n, body)) (hs : recL (log.extract body (body + n)).data.toList ≠ (log.extract at_ (body + n + 4)).data.toList) : Stops0 log at_ ch := by
  intro f
  cases f with
  | zero => rfl
  | succ f =>
    rw [openGo]
    split
    · rw [h]
      simp only
      split
      · rfl
      · simp only [if_pos hs]
    · rfl
theorem stop_does {log : ByteArray} {at_ n body : Nat} {ch : Nat → Chn} (h : numF log at_ = .inr (n, body)) (hs : doesF ch (log.extract body (body + n)) = none) : Stops0 log at_ ch := by
  intro f
  cases f with
  | zero => rfl
  | succ f =>
    rw [openGo]
    split
    · rw [h]
      simp only
      split
      · rfl
      · split
        · rfl
        · rw [hs]
    · rfl
theorem go_rec {log : ByteArray} {at_ n body f : Nat} {ch ch' : Nat → Chn} (hlt : at_ < log.size) (h : numF log at_ = .inr (n, body)) (hs : ¬ log.size < body + n + 4)
    (hr : recL (log.extract body (body + n)).data.toList = (log.extract at_ (body + n + 4)).data.toList) (hd : doesF ch (log.extract body (body + n)) = some ch') : openGo log (f + 1) at_ ch = openGo log f (body + n + 4) ch' := by
  rw [openGo, if_pos hlt, h]
  simp only
  rw [if_neg hs, if_neg (by rw [hr]; simp), hd]

/-- What stands at a place where the bytes of a record stand. -/
theorem rec_there {log : ByteArray} {at_ : Nat} {b : List UInt8} {rest : List UInt8} (h : log.data.toList.drop at_ = recL b ++ rest) (hb : b.length ≤ 2147483647) :
    numF log at_ = .inr (b.length, at_ + (uN b.length).length) ∧ at_ + (recL b).length ≤ log.size ∧ (recL b).length = (uN b.length).length + b.length + 4 ∧ (log.extract (at_ + (uN b.length).length) (at_ + (uN b.length).length + b.length)).data.toList = b ∧
    (log.extract at_ (at_ + (uN b.length).length + b.length + 4)).data.toList = recL b := by
  have hl := recL_length b
  have hd : log.data.toList.drop at_ = uN b.length ++ (b ++ (le4 (sumL b) ++ rest)) := by rw [h]; simp [recL]
  have hsz : at_ + (recL b).length ≤ log.size := by
    have := congrArg List.length h
    rw [List.length_drop, List.length_append, ← Lib.size_eq] at this
    have := uN_pos b.length
    omega
  refine ⟨numF_fwd hd hb, hsz, hl, ?_, ?_⟩
  · rw [mid_data, ← List.drop_drop, hd, List.drop_left, show at_ + (uN b.length).length + b.length - (at_ + (uN b.length).length) = b.length by omega, List.take_left]
  · rw [mid_data, h, show at_ + (uN b.length).length + b.length + 4 - at_ = (recL b).length by omega, List.take_left]
theorem go_there {log : ByteArray} {at_ f : Nat} {b : ByteArray} {rest : List UInt8} {ch ch' : Nat → Chn} (h : log.data.toList.drop at_ = recL b.data.toList ++ rest) (hb : b.size ≤ 2147483647) (hd : doesF ch b = some ch') :
    openGo log (f + 1) at_ ch = openGo log f (at_ + (recL b.data.toList).length) ch' := by
  obtain ⟨h1, h2, h3, h4, h5⟩ := rec_there h (by rw [← Lib.size_eq]; exact hb)
  have hp := uN_pos b.data.toList.length
  have e : log.extract (at_ + (uN b.data.toList.length).length) (at_ + (uN b.data.toList.length).length + b.data.toList.length) = b := bytes_ext h4
  rw [go_rec (by omega) h1 (by omega) (by rw [h4, h5]) (by rw [e]; exact hd)]
  congr 1; omega
theorem stop_there {log : ByteArray} {at_ : Nat} {b : ByteArray} {rest : List UInt8} {ch : Nat → Chn} (h : log.data.toList.drop at_ = recL b.data.toList ++ rest) (hb : b.size ≤ 2147483647) (hd : doesF ch b = none) : Stops0 log at_ ch := by
  obtain ⟨h1, h2, h3, h4, h5⟩ := rec_there h (by rw [← Lib.size_eq]; exact hb)
  have e : log.extract (at_ + (uN b.data.toList.length).length) (at_ + (uN b.data.toList.length).length + b.data.toList.length) = b := bytes_ext h4
  exact stop_does h1 (by rw [e]; exact hd)
/-- A record that is cut off. -/
theorem stop_cut {log : ByteArray} {at_ : Nat} {b pre suf : List UInt8} {ch : Nat → Chn} (h : log.data.toList.drop at_ = pre) (hr : recL b = pre ++ suf) (hs : suf ≠ []) (hb : b.length ≤ 2147483647) : Stops0 log at_ ch := by
  have hr' : uN b.length ++ (b ++ le4 (sumL b)) = pre ++ suf := by rw [← hr]; simp [recL]
  rcases cut_parts hr' hs with ⟨suf', hu, hs'⟩ | ⟨pre', hp, hu⟩
  · exact stop_num (numF_cut h hu hs' hb)
  · rw [hp] at h
    refine stop_short (numF_fwd h hb) ?_
    have h1 := congrArg List.length h
    rw [List.length_drop, List.length_append, ← Lib.size_eq] at h1
    have h2 := congrArg List.length hu
    rw [List.length_append, List.length_append, le4_length] at h2
    have := List.length_pos_iff.2 hs
    have := uN_pos b.length
    omega
/-- One whose sum is another one. -/
theorem stop_other {log : ByteArray} {at_ : Nat} {b s rest : List UInt8} {ch : Nat → Chn} (h : log.data.toList.drop at_ = uN b.length ++ (b ++ (s ++ rest))) (hs : s.length = 4) (hne : s ≠ le4 (sumL b)) (hb : b.length ≤ 2147483647) : Stops0 log at_ ch := by
  refine stop_sum (numF_fwd h hb) ?_
  have e1 : (log.extract (at_ + (uN b.length).length) (at_ + (uN b.length).length + b.length)).data.toList = b := by
    rw [mid_data, ← List.drop_drop, h, List.drop_left, show at_ + (uN b.length).length + b.length - (at_ + (uN b.length).length) = b.length by omega, List.take_left]
  have e2 : (log.extract at_ (at_ + (uN b.length).length + b.length + 4)).data.toList = uN b.length ++ (b ++ s) := by
    rw [mid_data, h, show at_ + (uN b.length).length + b.length + 4 - at_ = (uN b.length ++ (b ++ s)).length by simp; omega]
    rw [show uN b.length ++ (b ++ (s ++ rest)) = (uN b.length ++ (b ++ s)) ++ rest by simp, List.take_left]
  rw [e1, e2]
  intro he
  unfold recL at he
  rw [List.append_assoc] at he
  have := List.append_cancel_left (List.append_cancel_left he)
  exact hne this.symm

theorem recL_pos (b : List UInt8) : 5 ≤ (recL b).length := by have := recL_length b; have := uN_pos b.length; omega
theorem recsL_cons (b : ByteArray) (r : List ByteArray) : recsL (b :: r) = recL b.data.toList ++ recsL r := by simp [recsL]
theorem recsL_len (bs : List ByteArray) : bs.length ≤ (recsL bs).length := by
  induction bs with
  | nil => simp
  | cons b r ih => rw [recsL_cons, List.length_append, List.length_cons]; have := recL_pos b.data.toList; omega
theorem go_folds {log : ByteArray} : ∀ (bs : List ByteArray) (at_ f : Nat) (rest : List UInt8) (ch ch' : Nat → Chn), log.data.toList.drop at_ = recsL bs ++ rest → folds bs ch = some ch' → (∀ b ∈ bs, b.size ≤ 2147483647) → bs.length ≤ f →
    openGo log f at_ ch = openGo log (f - bs.length) (at_ + (recsL bs).length) ch'
  | [], at_, f, rest, ch, ch', h, hf, hs, hl => by
    simp only [folds, Option.some.injEq] at hf
    subst hf
    rfl
  | b :: r, at_, f, rest, ch, ch', h, hf, hs, hl => by
    unfold folds at hf
    cases hd : doesF ch b with
    | none => rw [hd] at hf; cases hf
    | some c1 =>
      rw [hd] at hf
      simp only at hf
      rw [recsL_cons, List.append_assoc] at h
      cases f with
      | zero => simp at hl
      | succ f =>
        rw [go_there h (hs b (by simp)) hd, go_folds r (at_ + (recL b.data.toList).length) f rest c1 ch' (by rw [← List.drop_drop, h, List.drop_left]) hf (fun x hx => hs x (by simp [hx])) (by simp at hl; omega)]
        rw [recsL_cons, List.length_append, List.length_cons, show f + 1 - (r.length + 1) = f - r.length by omega, Nat.add_assoc]
/-- Records that lead somewhere, and then nothing that counts. -/
theorem open_leads {log : ByteArray} {l rest : List UInt8} {ch : Nat → Chn} (h : log.data.toList = l ++ rest) (hl : Leads l noCh ch) (hst : Stops0 log l.length ch) : openF log = (ch, l.length) := by
  obtain ⟨bs, rfl, hf, hs⟩ := hl
  unfold openF
  have hlen : bs.length ≤ log.size := by
    have := recsL_len bs
    have h2 := congrArg List.length h
    rw [List.length_append, ← Lib.size_eq] at h2
    omega
  rw [go_folds bs 0 log.size rest noCh ch (by simpa using h) hf hs hlen, Nat.zero_add]
  exact hst _
theorem open_whole {log : ByteArray} {ch : Nat → Chn} (hl : Leads log.data.toList noCh ch) : openF log = (ch, log.size) := by
  rw [open_leads (rest := []) (by simp) hl (stop_end (by rw [← Lib.size_eq]; exact Nat.le_refl _)), ← Lib.size_eq]

/-- What every vault that is opened keeps to. -/
structure ChOk (ch : Nat → Chn) : Prop where
  last : ∀ i, (ch i).last ≤ 2147483647
  size : ∀ i, ∀ t ∈ (ch i).texts, t.size ≤ 2000
  none : ∀ i, (ch i).texts = [] → (ch i).gone = 0
  out : ∀ i, 4 ≤ i → ch i = ⟨0, []⟩
theorem noCh_ok : ChOk noCh := ⟨fun i => by simp [noCh, Chn.last], fun i t h => by simp [noCh] at h, fun i _ => rfl, fun i _ => rfl⟩
theorem ChOk.ok {log : List UInt8} {ch : Nat → Chn} (h : ChOk ch) (hl : log.length ≤ 20000) : Vlt.Ok ⟨log, ch⟩ := ⟨hl, h.last, h.size, h.none⟩
theorem set_ok {ch : Nat → Chn} (h : ChOk ch) {c : Nat} (hc : c < 4) {x : Chn} (h1 : x.last ≤ 2147483647) (h2 : ∀ t ∈ x.texts, t.size ≤ 2000) (h3 : x.texts = [] → x.gone = 0) : ChOk (setCh ch c x) := by
  refine ⟨fun i => ?_, fun i t ht => ?_, fun i hi => ?_, fun i hi => ?_⟩
  · unfold setCh; split
    · exact h1
    · exact h.last i
  · unfold setCh at ht; split at ht
    · exact h2 t ht
    · exact h.size i t ht
  · unfold setCh at hi ⊢
    by_cases hh : i = c
    · rw [if_pos hh] at hi ⊢; exact h3 hi
    · rw [if_neg hh] at hi ⊢; exact h.none i hi
  · unfold setCh; rw [if_neg (by omega)]; exact h.out i hi
theorem more_ok {ch ch' : Nat → Chn} (h : ChOk ch) {c : Nat} (hc : c < 4) {t : ByteArray} (hd : moreF ch c t = some ch') : ChOk ch' := by
  unfold moreF at hd
  split at hd
  · rename_i hh
    simp only [Option.some.injEq] at hd
    subst hd
    refine set_ok h hc ?_ ?_ ?_
    · unfold Chn.last at *; simp; omega
    · intro u hu
      simp only [List.mem_append, List.mem_singleton] at hu
      rcases hu with hu | rfl
      · exact h.size c u hu
      · exact hh.1
    · intro h0; simp at h0
  · cases hd
theorem does_ok {ch ch' : Nat → Chn} (h : ChOk ch) {b : ByteArray} (hb1 : 1 ≤ b.size) (hd : doesF ch b = some ch') : ChOk ch' := by
  unfold doesF at hd
  split at hd
  · cases hd
  · split at hd
    · cases hd
    · rename_i c at_ h1
      have k1 := numF_ok hb1 h1
      split at hd
      · cases hd
      · rename_i h3
        split at hd
        · exact more_ok h (by omega) hd
        · split at hd
          · unfold codeF at hd
            split at hd
            · split at hd
              · cases hd
              · exact more_ok h (by omega) hd
            · cases hd
          · split at hd
            · cases hd
            · rename_i n nx h4
              have k2 := numF_ok k1.2.2 h4
              split at hd
              · unfold baseF at hd
                split at hd
                · rename_i hh
                  simp only [Option.some.injEq] at hd
                  subst hd
                  refine set_ok h (by omega) ?_ ?_ ?_
                  · unfold Chn.last; simp; omega
                  · intro u hu
                    obtain rfl : u = _ := by simpa using hu
                    exact hh.2.2
                  · intro h0; simp at h0
                · cases hd
              · split at hd
                · unfold pruneF at hd
                  split at hd
                  · rename_i hh
                    simp only [Option.some.injEq] at hd
                    subst hd
                    have := h.last c
                    unfold Chn.last at hh this
                    refine set_ok h (by omega) ?_ ?_ ?_
                    · unfold Chn.last; simp; omega
                    · intro u hu
                      exact h.size c u (List.mem_of_mem_drop hu)
                    · intro h0; simp at h0; omega
                  · cases hd
                · cases hd
theorem does_size {ch ch' : Nat → Chn} {b : ByteArray} (hd : doesF ch b = some ch') : 1 ≤ b.size := by
  unfold doesF at hd
  split at hd
  · cases hd
  · rename_i L hh
    rw [Lib.size_eq]
    cases hl : b.data.toList with
    | nil => rw [hl] at hh; cases hh
    | cons x r => simp
theorem open_ok {log : ByteArray} : ∀ (f at_ : Nat) (ch : Nat → Chn), ChOk ch → ChOk (openGo log f at_ ch).1
  | 0, at_, ch, h => h
  | f + 1, at_, ch, h => by
    rw [openGo]
    split
    · split
      · exact h
      · split
        · exact h
        · split
          · exact h
          · split
            · exact h
            · rename_i ch' hd
              exact open_ok f _ ch' (does_ok h (does_size hd) hd)
    · exact h
theorem open_at {log : ByteArray} : ∀ (f at_ : Nat) (ch : Nat → Chn), at_ ≤ log.size → (openGo log f at_ ch).2 ≤ log.size
  | 0, at_, ch, h => h
  | f + 1, at_, ch, h => by
    rw [openGo]
    split
    · split
      · exact h
      · split
        · exact h
        · split
          · exact h
          · split
            · exact h
            · exact open_at f _ _ (by omega)
    · exact h

/-- The log that is squashed. -/
def restL (c : Nat) : ByteArray → List ByteArray → List UInt8
  | _, [] => []
  | p, t :: r => addedL c (some p) t ++ restL c t r
def chainL (c : Nat) (x : Chn) : List UInt8 :=
  match x.texts with
  | [] => []
  | t :: r => recL (bodyB c (x.gone + 1) t.data.toList) ++ restL c t r
def squashL (ch : Nat → Chn) : List UInt8 := chainL 0 (ch 0) ++ chainL 1 (ch 1) ++ chainL 2 (ch 2) ++ chainL 3 (ch 3)
def Vlt.squash (s : Vlt) : Vlt := ⟨if (squashL s.ch).length ≤ s.log.length then squashL s.ch else s.log, s.ch⟩
theorem squash_twice (s : Vlt) : s.squash.squash = s.squash := by
  unfold Vlt.squash
  simp only
  split
  · simp
  · rfl
theorem squash_le (s : Vlt) : s.squash.log.length ≤ s.log.length := by
  unfold Vlt.squash
  simp only
  split
  · assumption
  · exact Nat.le_refl _
theorem squash_ok {s : Vlt} (h : s.Ok) : s.squash.Ok := ⟨Nat.le_trans (squash_le s) h.log, h.last, h.size, h.none⟩

theorem setCh_set (ch : Nat → Chn) (c : Nat) (x y : Chn) : setCh (setCh ch c x) c y = setCh ch c y := by
  funext i; unfold setCh; split <;> rfl
theorem setCh_at (ch : Nat → Chn) (c : Nat) (x : Chn) : setCh ch c x c = x := by simp [setCh]
theorem lead_rest {c : Nat} (hc : c < 4) : ∀ (r : List ByteArray) (ch : Nat → Chn) (g : Nat) (ahead : List ByteArray) (p : ByteArray), ch c = ⟨g, ahead ++ [p]⟩ → (∀ t ∈ ahead ++ [p] ++ r, t.size ≤ 2000) → g + (ahead ++ [p] ++ r).length ≤ 2147483647 →
    Leads (restL c p r) ch (setCh ch c ⟨g, ahead ++ [p] ++ r⟩)
  | [], ch, g, ahead, p, he, hs, hn => by
    have : setCh ch c ⟨g, ahead ++ [p] ++ []⟩ = ch := by
      funext i; unfold setCh; split
      · rename_i h; rw [h, he]; simp
      · rfl
    rw [this]; exact Leads.refl _
  | t :: r, ch, g, ahead, p, he, hs, hn => by
    have hlast : (ch c).texts.getLast? = some p := by rw [he]; simp
    have h1 : Leads (addedL c (some p) t) ch (setCh ch c ⟨g, ahead ++ [p] ++ [t]⟩) := by
      have := lead_added (ch := ch) (t := t) hc (hs t (by simp)) (fun x hx => hs x (by rw [he] at hx; simp only [List.mem_append, List.mem_cons, List.not_mem_nil, or_false] at hx ⊢; exact .inl hx)) (by rw [he]; unfold Chn.last; simp at hn ⊢; omega)
      rw [hlast, he] at this; exact this
    have h2 := lead_rest hc r (setCh ch c ⟨g, ahead ++ [p] ++ [t]⟩) g (ahead ++ [p]) t (setCh_at _ _ _) (fun x hx => hs x (by simpa using hx)) (by simpa using hn)
    rw [setCh_set] at h2
    have := h1.trans h2
    simpa [restL] using this
theorem lead_chain {c : Nat} (hc : c < 4) {x : Chn} {ch : Nat → Chn} (h0 : (ch c).last = 0) (hx : ch c = ⟨0, []⟩) (hs : ∀ t ∈ x.texts, t.size ≤ 2000) (hn : x.last ≤ 2147483647) (hnone : x.texts = [] → x.gone = 0) : Leads (chainL c x) ch (setCh ch c x) := by
  obtain ⟨g, ts⟩ := x
  cases ts with
  | nil =>
    have e : setCh ch c ⟨g, []⟩ = ch := by
      funext i; unfold setCh; split
      · rename_i h; rw [h, hx]; have := hnone rfl; simp at this; rw [this]
      · rfl
    rw [e]; exact Leads.refl _
  | cons t r =>
    unfold Chn.last at hn
    simp only [List.length_cons] at hn
    have h1 := lead_base (ch := ch) (t := t) (c := c) (n := g + 1) hc (by omega) (by omega) (hs t (by simp)) h0
    have h2 := lead_rest hc r (setCh ch c ⟨g, [t]⟩) g [] t (setCh_at _ _ _) (fun u hu => hs u (by simpa using hu)) (by simp; omega)
    rw [setCh_set] at h2
    have := h1.trans h2
    simpa [chainL] using this
/-- A log that is squashed leads to the same chains. -/
theorem lead_squash {ch : Nat → Chn} (h : ChOk ch) : Leads (squashL ch) noCh ch := by
  have key : ∀ (c : Nat) (hc : c < 4) (d : Nat → Chn), d c = ⟨0, []⟩ → Leads (chainL c (ch c)) d (setCh d c (ch c)) := fun c hc d hd => lead_chain hc (by rw [hd]; rfl) hd (h.size c) (h.last c) (h.none c)
  have h0 := key 0 (by omega) noCh rfl
  have h1 := key 1 (by omega) _ (show setCh noCh 0 (ch 0) 1 = ⟨0, []⟩ from rfl)
  have h2 := key 2 (by omega) _ (show setCh (setCh noCh 0 (ch 0)) 1 (ch 1) 2 = ⟨0, []⟩ from rfl)
  have h3 := key 3 (by omega) _ (show setCh (setCh (setCh noCh 0 (ch 0)) 1 (ch 1)) 2 (ch 2) 3 = ⟨0, []⟩ from rfl)
  have := ((h0.trans h1).trans h2).trans h3
  have e : setCh (setCh (setCh (setCh noCh 0 (ch 0)) 1 (ch 1)) 2 (ch 2)) 3 (ch 3) = ch := by
    funext i
    match i with
    | 0 => rfl
    | 1 => rfl
    | 2 => rfl
    | 3 => rfl
    | i + 4 => rw [h.out (i + 4) (by omega)]; rfl
  rw [e] at this
  exact this
end Go.Proofs.YtabpiaaknjcnkabGreat
