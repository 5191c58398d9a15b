/-
  A tale: a story whose rows are as they were told.
-/
import Derived.Test.YtabpiaaknjcnkabGreatXT4T5
namespace Go.Proofs.YtabpiaaknjcnkabGreat
open Go.RowKit
set_option linter.unusedVariables false
set_option linter.unusedSimpArgs false
set_option maxRecDepth 100000

def firstsOf (v : Vlt) : Nat → Nat := fun i => firstN (v.ch i)
structure TaleAt (w0 w : World) (q p : Nat) (cur : Nat → Value) (a b c lv : Value) (tv : Nat → Value) (s : Vlt) (vs : List Vlt) (rs : List (Nat → Value)) : Prop where
  st : StoryAt w q p (firstsOf s) cur a b c lv tv s (vs.map Vlt.log) (vs.map firstsOf) rs
  now : Views w (live q p a b c lv tv) cur (fun i => (s.ch i).texts)
  len : rs.length = vs.length
  ahead : ∀ (k : Nat) (v : Vlt) (r : Nat → Value), vs[k]? = some v → rs[k]? = some r → Views w (live q p a b c lv tv) r (fun i => (v.ch i).texts)
  low : ∀ g, live q p a b c lv tv g → w0.heap.size ≤ g
  below : Below w0.heap.size w0 w
  nil : ∀ i, i < 4 → (s.ch i).texts = [] → cur i = .slice none 0 0
structure TaleOk (s : Vlt) (vs : List Vlt) : Prop where
  told : Told vs
  last : vs[vs.length - 1]? = some s
  many : vs.length ≤ 24
  ok : ∀ v ∈ vs, v.Ok ∧ ChOk v.ch
  logs : s.log.length ≤ 450 * vs.length
  nums : ∀ v ∈ vs, ∀ i, (v.ch i).last ≤ vs.length
  sizes : ∀ i, ∀ t ∈ (s.ch i).texts, t.size ≤ 400
theorem TaleOk.pos {s : Vlt} {vs : List Vlt} (h : TaleOk s vs) : 0 < vs.length := by have := (List.getElem?_eq_some_iff.1 h.last).1; omega
theorem TaleOk.mem {s : Vlt} {vs : List Vlt} (h : TaleOk s vs) : s ∈ vs := List.mem_of_getElem? h.last
theorem tale_first : TaleOk noVault [noVault] := by
  refine ⟨told_first, rfl, by simp, fun v hv => ?_, by simp [noVault], fun v hv i => by
    obtain rfl : v = noVault := by simpa using hv
    simp [noVault, Chn.last], fun i t ht => by simp [noVault] at ht⟩
  obtain rfl : v = noVault := by simpa using hv
  exact ⟨noVault_ok, noCh_ok⟩
/-- What is not touched stays. -/
theorem out_low {L : Nat → Prop} {w0 w w' : World} (hb : Below w0.heap.size w0 w) (ho : Out L w w') (hl : ∀ g, L g → w0.heap.size ≤ g) : Below w0.heap.size w0 w' :=
  ⟨ho.os.trans hb.os, ho.tape.trans hb.tape, ho.output.trans hb.output, Nat.le_trans hb.size ho.size, fun g hg => (ho.block g (Nat.lt_of_lt_of_le hg hb.size) (fun h => by have := hl g h; omega)).trans (hb.block g hg)⟩
theorem low_next {L L' : Nat → Prop} {w0 w : World} (hb : Below w0.heap.size w0 w) (hl : ∀ g, L g → w0.heap.size ≤ g) (hn : ∀ g, L' g → L g ∨ w.heap.size ≤ g) : ∀ g, L' g → w0.heap.size ≤ g := fun g hg => by
  rcases hn g hg with x | x
  · exact hl g x
  · have := hb.size; omega

section
variable {w0 w : World} {q p : Nat} {cur : Nat → Value} {a b c lv : Value} {tv : Nat → Value} {s : Vlt} {vs : List Vlt} {rs : List (Nat → Value)} (h : TaleAt w0 w q p cur a b c lv tv s vs rs)
include h
theorem TaleAt.belowed {w' : World} (hb : Below w.heap.size w w') : TaleAt w0 w' q p cur a b c lv tv s vs rs :=
  ⟨h.st.below hb, h.now.kept (Out.of_below hb) (fun g hg => .inl hg), h.len, fun k v r hv hr => (h.ahead k v r hv hr).kept (Out.of_below hb) (fun g hg => .inl hg), h.low, h.below.trans (hb.mono h.below.size), h.nil⟩
/-- It is noted. -/
theorem TaleAt.noted {w' : World} {a' b' c' : Value} (hs : StoryAt w' q p (firstsOf s) cur a' b' c' lv tv s (vs.map Vlt.log ++ [s.log]) (vs.map firstsOf ++ [firstsOf s]) (rs ++ [cur])) (ho : Out (live q p a b c lv tv) w w') (hl : ∀ g, live q p a' b' c' lv tv g → live q p a b c lv tv g ∨ w.heap.size ≤ g) :
    TaleAt w0 w' q p cur a' b' c' lv tv s (vs ++ [s]) (rs ++ [cur]) := by
  refine ⟨by rw [List.map_append, List.map_append]; exact hs, h.now.kept ho hl, by simp [h.len], fun k v r hv hr => ?_, low_next h.below h.low hl, out_low h.below ho h.low, h.nil⟩
  by_cases hk : k < vs.length
  · rw [List.getElem?_append_left hk] at hv
    rw [List.getElem?_append_left (by rw [h.len]; exact hk)] at hr
    exact (h.ahead k v r hv hr).kept ho hl
  · have hk2 := (List.getElem?_eq_some_iff.1 hv).1
    simp only [List.length_append, List.length_cons, List.length_nil] at hk2
    obtain rfl : k = vs.length := by omega
    rw [List.getElem?_append_right (Nat.le_refl _), Nat.sub_self] at hv
    rw [List.getElem?_append_right (by rw [h.len]; exact Nat.le_refl _), h.len, Nat.sub_self] at hr
    simp only [List.getElem?_cons_zero, Option.some.injEq] at hv hr
    subst hv; subst hr
    exact h.now.kept ho hl
end

theorem firstN_drop {s : Vlt} {n k : Nat} (hk : k < (s.ch n).texts.length) : firstsOf (s.drop n ((s.ch n).gone + 1 + k)) = fun i => if i = n then firstsOf s n + k else firstsOf s i := by
  funext i
  unfold firstsOf firstN Vlt.drop
  by_cases e : i = n
  · subst e
    simp only [if_true]
    have h1 : (s.ch i).texts ≠ [] := List.ne_nil_of_length_pos (by omega)
    rw [if_neg h1, if_neg (by intro e; have := congrArg List.length e; simp at this; omega)]
    omega
  · simp only [if_neg e]
theorem firstN_put {s : Vlt} {n : Nat} {t : ByteArray} (hok : s.Ok) : firstsOf (s.put n t) = fun i => if i = n then (if (s.ch n).texts = [] then 1 else firstsOf s n) else firstsOf s i := by
  funext i
  unfold firstsOf firstN Vlt.put
  by_cases e : i = n
  · subst e
    simp only [if_true]
    rw [if_neg (by simp)]
    by_cases h0 : (s.ch i).texts = []
    · rw [if_pos h0, hok.none i h0]
    · rw [if_neg h0, if_neg h0]
  · simp only [if_neg e]
theorem chok_put {s : Vlt} (h : s.Ok) (hch : ChOk s.ch) {c : Nat} {t : ByteArray} (hc : c < 4) (ht : t.size ≤ 2000) (hf : ¬ s.full c t) : ChOk (s.put c t).ch := by
  have h3 := h.last c
  unfold Vlt.full at hf
  refine set_ok hch hc ?_ ?_ ?_
  · unfold Chn.last at *; simp; omega
  · intro u hu
    simp only [List.mem_append, List.mem_singleton] at hu
    rcases hu with hu | rfl
    · exact h.size c u hu
    · exact ht
  · intro h0; simp at h0
theorem chok_drop {s : Vlt} (h : s.Ok) (hch : ChOk s.ch) {c n : Nat} (hc : c < 4) (hh : (s.ch c).has n) : ChOk (s.drop c n).ch := by
  have h3 := h.last c
  unfold Chn.has Chn.last at hh
  refine set_ok hch hc ?_ ?_ ?_
  · unfold Chn.last at *; simp; omega
  · intro u hu; exact h.size c u (List.mem_of_mem_drop hu)
  · intro h0; simp at h0; omega

/-- A tale goes on by a Backup. -/
theorem tale_full {s : Vlt} {vs : List Vlt} (h : TaleOk s vs) (hm : vs.length < 24) {c : Nat} {t : ByteArray} (hc : c < 4) (ht : t.size ≤ 400) : ¬ s.full c t := by
  have hl := (recL_len (b := bodyF c t.data.toList) (by have := (bodyF_len c t (by omega) (by omega)).2; omega)).1
  have hu := uN_length (n := c) (by omega)
  have hz : t.data.toList.length = t.size := (Lib.size_eq t).symm
  have hb : (bodyF c t.data.toList).length ≤ 404 := by simp only [bodyF, List.length_cons, List.length_append]; omega
  have h1 := h.logs
  have h2 := h.nums s h.mem c
  unfold Vlt.full
  rintro (x | x) <;> omega
theorem tale_put {s : Vlt} {vs : List Vlt} (h : TaleOk s vs) (hm : vs.length < 24) {c : Nat} {t : ByteArray} (hc : c < 4) (ht : t.size ≤ 400) : TaleOk (s.put c t) (vs ++ [s.put c t]) := by
  have hf := tale_full h hm hc ht
  have hok := h.ok s h.mem
  have hl := (recL_len (b := bodyF c t.data.toList) (by have := (bodyF_len c t (by omega) (by omega)).2; omega)).1
  have hu := uN_length (n := c) (by omega)
  have hz : t.data.toList.length = t.size := (Lib.size_eq t).symm
  have hb : (bodyF c t.data.toList).length ≤ 404 := by simp only [bodyF, List.length_cons, List.length_append]; omega
  have h1 := h.logs
  have ha := addedL_le c (s.ch c).texts.getLast? t
  refine ⟨told_snoc h.told h.last (next_put hok.1 hc (by omega) hf), by simp, by simp; omega, fun v hv => ?_, ?_, fun v hv i => ?_, fun i u hu' => ?_⟩
  · rcases List.mem_append.1 hv with x | x
    · exact h.ok v x
    · obtain rfl : v = s.put c t := by simpa using x
      exact ⟨put_ok hok.1 (by omega) hf, chok_put hok.1 hok.2 hc (by omega) hf⟩
  · simp only [Vlt.put, List.length_append, List.length_cons, List.length_nil]; omega
  · rw [List.length_append, List.length_cons, List.length_nil]
    rcases List.mem_append.1 hv with x | x
    · have := h.nums v x i; omega
    · obtain rfl : v = s.put c t := by simpa using x
      have := h.nums s h.mem i
      have := h.nums s h.mem c
      simp only [Vlt.put]
      split
      · unfold Chn.last at *; simp only [List.length_append, List.length_cons, List.length_nil]; omega
      · omega
  · simp only [Vlt.put] at hu'
    split at hu'
    · rcases List.mem_append.1 hu' with x | x
      · exact h.sizes _ _ x
      · obtain rfl : u = t := by simpa using x
        exact ht
    · exact h.sizes _ _ hu'
theorem tale_has {s : Vlt} {c k : Nat} (hk : k < (s.ch c).texts.length) : (s.ch c).has (((s.ch c).gone + 1 + k : Nat) : Int) := by
  unfold Chn.has Chn.last; omega
theorem tale_room {s : Vlt} {vs : List Vlt} (h : TaleOk s vs) (hm : vs.length < 24) {c k : Nat} (hc : c < 4) (hk : k < (s.ch c).texts.length) : s.log.length + (recL (bodyP c ((s.ch c).gone + 1 + k))).length ≤ 20000 ∧ (recL (bodyP c ((s.ch c).gone + 1 + k))).length ≤ 450 := by
  have h2 := h.nums s h.mem c
  unfold Chn.last at h2
  have hb := (bodyP_len c ((s.ch c).gone + 1 + k) (by omega) (by omega)).2
  have hl := (recL_len (b := bodyP c ((s.ch c).gone + 1 + k)) (by omega)).1
  have h1 := h.logs
  omega
theorem tale_drop {s : Vlt} {vs : List Vlt} (h : TaleOk s vs) (hm : vs.length < 24) {c k : Nat} (hc : c < 4) (hk : k < (s.ch c).texts.length) : TaleOk (s.drop c ((s.ch c).gone + 1 + k)) (vs ++ [s.drop c ((s.ch c).gone + 1 + k)]) := by
  have hok := h.ok s h.mem
  have hh := tale_has hk
  obtain ⟨hr1, hr2⟩ := tale_room h hm hc hk
  have h1 := h.logs
  refine ⟨told_snoc h.told h.last (next_drop hok.1 hc hh), by simp, by simp; omega, fun v hv => ?_, ?_, fun v hv i => ?_, fun i u hu' => ?_⟩
  · rcases List.mem_append.1 hv with x | x
    · exact h.ok v x
    · obtain rfl : v = s.drop c ((s.ch c).gone + 1 + k) := by simpa using x
      exact ⟨drop_ok hok.1 hh (by unfold Vlt.noRoom; omega), chok_drop hok.1 hok.2 hc hh⟩
  · simp only [Vlt.drop, List.length_append, List.length_cons, List.length_nil]; omega
  · rw [List.length_append, List.length_cons, List.length_nil]
    rcases List.mem_append.1 hv with x | x
    · have := h.nums v x i; omega
    · obtain rfl : v = s.drop c ((s.ch c).gone + 1 + k) := by simpa using x
      have := h.nums s h.mem i
      have := h.nums s h.mem c
      simp only [Vlt.drop]
      split
      · unfold Chn.last at *; simp only [List.length_drop]; omega
      · omega
  · simp only [Vlt.drop] at hu'
    split at hu'
    · exact h.sizes _ _ (List.mem_of_mem_drop hu')
    · exact h.sizes _ _ hu'

/-- A Prune in the midst of a tale: behind the call, and with the numbers and the row turned. -/
theorem TaleAt.pruned {w0 w w3 : World} {q p : Nat} {cur : Nat → Value} {a b c lv : Value} {tv : Nat → Value} {s : Vlt} {vs : List Vlt} {rs : List (Nat → Value)} (h : TaleAt w0 w q p cur a b c lv tv s vs rs) {n k : Nat} (hn : n < 4) (hk : k < (s.ch n).texts.length)
    (hm : Moves p lv tv (s.drop n ((s.ch n).gone + 1 + k)) w w3) {g j m cap : Nat} (hcur : cur n = .slice (some ⟨g, j, none⟩) m cap) :
    ∃ lv' tv', TaleAt w0 ((w3.setCell ⟨q, 1 + n, none⟩ (.int .i64 ((firstsOf s n + k : Nat) : Int))).setCell ⟨q, 5 + n, none⟩ (.slice (some ⟨g, j + k, none⟩) (m - k) (cap - k))) q p (fun i => if i = n then .slice (some ⟨g, j + k, none⟩) (m - k) (cap - k) else cur i) a b c lv' tv' (s.drop n ((s.ch n).gone + 1 + k)) vs rs ∧ StoryAt w3 q p (firstsOf s) cur a b c lv' tv' (s.drop n ((s.ch n).gone + 1 + k)) (vs.map Vlt.log) (vs.map firstsOf) rs := by
  obtain ⟨lv', tv', h3, o3, l3⟩ := h.st.moves hm
  obtain ⟨h4, o4⟩ := h3.setF n (firstsOf s n + k) hn
  obtain ⟨h5, o5⟩ := h4.setR n (.slice (some ⟨g, j + k, none⟩) (m - k) (cap - k)) hn
  have o34 : Out (live q p a b c lv tv) w (w3.setCell ⟨q, 1 + n, none⟩ (.int .i64 ((firstsOf s n + k : Nat) : Int))) := o3.trans o4 l3
  have o35 := o34.trans o5 l3
  refine ⟨lv', tv', ⟨?_, ?_, h.len, fun k' v r hv hr => (h.ahead k' v r hv hr).kept o35 l3, low_next h.below h.low l3, out_low h.below o35 h.low, fun i hi h0 => ?_⟩, h3⟩
  · rw [firstN_drop hk]; exact h5
  · intro i hi
    by_cases e : i = n
    · subst e
      simp only [if_true]
      have hv := h.now i hi
      rw [hcur] at hv
      obtain ⟨g', j', e1, hv'⟩ := SView.drop hv.1 hk
      injection e1 with e1
      injection e1 with e2 e3
      subst e2; subst e3
      have hb : ∀ g', (Value.slice (some ⟨g, j + k, none⟩) (m - k) (cap - k)).ownBlock = some g' → g' < w.heap.size ∧ ¬ live q p a b c lv tv g' := fun g' hg' => hv.2 g' hg'
      have := Views.kept (L := live q p a b c lv tv) (r := fun _ => .slice (some ⟨g, j + k, none⟩) (m - k) (cap - k)) (tx := fun _ => (s.ch i).texts.drop k) (fun _ _ => ⟨hv', hb⟩) o35 l3 i hi
      have e4 : ((s.drop i ((s.ch i).gone + 1 + k)).ch i).texts = (s.ch i).texts.drop k := by
        simp only [Vlt.drop, if_true]; congr 1; omega
      rw [e4]; exact this
    · simp only [if_neg e]
      have e4 : ((s.drop n ((s.ch n).gone + 1 + k)).ch i).texts = (s.ch i).texts := by simp only [Vlt.drop, if_neg e]
      rw [e4]
      exact h.now.kept o35 l3 i hi
  · by_cases e : i = n
    · subst e
      simp only [Vlt.drop, if_true] at h0
      have := congrArg List.length h0
      simp at this; omega
    · simp only [Vlt.drop, if_neg e] at h0
      simp only [if_neg e]
      exact h.nil i hi h0

/-- A Backup in the midst of a tale. -/
theorem TaleAt.putted {w0 w w3 w4 : World} {q p : Nat} {cur : Nat → Value} {a b c lv : Value} {tv : Nat → Value} {s : Vlt} {vs : List Vlt} {rs : List (Nat → Value)} (h : TaleAt w0 w q p cur a b c lv tv s vs rs) {n : Nat} {t : ByteArray} (hn : n < 4) (hok : s.Ok)
    (hm : Moves p lv tv (s.put n t) w w3) (h4 : (w4 = w3 ∧ (s.ch n).texts ≠ []) ∨ (w4 = w3.setCell ⟨q, 1 + n, none⟩ (.int .i64 1) ∧ (s.ch n).texts = [])) :
    ∃ lv' tv', StoryAt w4 q p (firstsOf (s.put n t)) cur a b c lv' tv' (s.put n t) (vs.map Vlt.log) (vs.map firstsOf) rs ∧ Views w4 (live q p a b c lv' tv') cur (fun i => (s.ch i).texts) ∧
      ∀ w6 v, Below w4.heap.size w4 w6 → OwnStrs w6 w4.heap.size v ((s.ch n).texts ++ [t]) → TaleAt w0 (w6.setCell ⟨q, 5 + n, none⟩ v) q p (fun i => if i = n then v else cur i) a b c lv' tv' (s.put n t) vs rs := by
  obtain ⟨lv', tv', h3, o3, l3⟩ := h.st.moves hm
  have key : StoryAt w4 q p (firstsOf (s.put n t)) cur a b c lv' tv' (s.put n t) (vs.map Vlt.log) (vs.map firstsOf) rs ∧ Out (live q p a b c lv tv) w w4 := by
    rcases h4 with ⟨rfl, hne⟩ | ⟨rfl, h0⟩
    · refine ⟨?_, o3⟩
      have e : firstsOf (s.put n t) = firstsOf s := by
        rw [firstN_put hok]; funext i; rw [if_neg hne]; split
        · rename_i e; rw [e]
        · rfl
      rw [e]; exact h3
    · obtain ⟨h5, o5⟩ := h3.setF n 1 hn
      refine ⟨?_, o3.trans o5 l3⟩
      have e : firstsOf (s.put n t) = fun i => if i = n then 1 else firstsOf s i := by
        rw [firstN_put hok]; funext i; rw [if_pos h0]
      rw [e]; exact h5
  obtain ⟨hst, o4⟩ := key
  refine ⟨lv', tv', hst, h.now.kept o4 l3, fun w6 v hb hv => ?_⟩
  have h6 := hst.below hb
  obtain ⟨h7, o7⟩ := h6.setR n v hn
  have o46 : Out (live q p a b c lv tv) w w6 := o4.trans (Out.of_below (F := fun _ => False) hb) (fun g hg => hg.elim)
  have o47 := o46.trans o7 l3
  have hnew : ∀ g, v.ownBlock = some g → ¬ live q p a b c lv' tv' g := fun g hg hl => by
    have h1 := row_own_ge hv hg
    have h2 := hst.live_lt g hl
    omega
  refine ⟨h7, ?_, h.len, fun k' x r hx hr => (h.ahead k' x r hx hr).kept o47 l3, low_next h.below h.low l3, out_low h.below o47 h.low, fun i hi h0 => ?_⟩
  · intro i hi
    by_cases e : i = n
    · subst e
      simp only [if_true]
      have e4 : ((s.put i t).ch i).texts = (s.ch i).texts ++ [t] := by simp only [Vlt.put, if_true]
      rw [e4]
      refine ⟨(SView.of_own hv).block (fun g hg => Below.heap_setCell _ _ _ _ (fun e => hnew g hg (by rw [e]; exact .inl rfl))), fun g hg => ⟨?_, hnew g hg⟩⟩
      have := row_own_lt hv hg
      simpa [World.setCell] using this
    · simp only [if_neg e]
      have e4 : ((s.put n t).ch i).texts = (s.ch i).texts := by simp only [Vlt.put, if_neg e]
      rw [e4]
      exact h.now.kept o47 l3 i hi
  · by_cases e : i = n
    · subst e
      simp only [Vlt.put, if_true] at h0
      simp at h0
    · simp only [Vlt.put, if_neg e] at h0
      simp only [if_neg e]
      exact h.nil i hi h0
end Go.Proofs.YtabpiaaknjcnkabGreat
