/- Pure mathematics: sorted selections, merged in one go, are what is normalised; and a stable sort ahead of it changes nothing. No walk. -/
import Derived.Test.YtdpmkfjomkemhaaSort
import Derived.Test.YtdpmkfjomkemhaaPost
namespace Go.Proofs.Ytdpmkfjomkemhaa
open Go.Sort Go.Proofs

/-- Two selections made one, as the program does. -/
def joinF (x y : Sl) : Sl := if (if x.a = x.h then y else x).h < (if x.a = x.h then y else x).a then ⟨if x.hi < y.hi then y.hi else x.hi, x.lo⟩ else ⟨x.lo, if x.hi < y.hi then y.hi else x.hi⟩
def gk (k : Nat) (s : Sl) : Gp := ⟨s.lo, s.hi, if s.a = s.h then -1 else (k : Int)⟩
/-- Selections in order. -/
def Asc (own : List Sl) : Prop := ∀ (i j : Nat) (s t : Sl), i < j → own[i]? = some s → own[j]? = some t → s.lo < t.lo ∨ s.lo = t.lo ∧ s.hi ≤ t.hi
theorem firsts_get {own : List Sl} {n k : Nat} {s : Sl} (h : own[k]? = some s) (hk : k < n) (hn : n ≤ own.length) : (firsts own n)[k]? = some (gk k s) := by
  induction n with
  | zero => omega
  | succ n ih =>
    have e := List.getElem?_eq_getElem (show n < own.length by omega)
    rw [firsts_snoc e]
    have hl := firsts_len (own := own) (show n ≤ own.length by omega)
    by_cases c : k = n
    · subst c
      rw [List.getElem?_append_right (by omega), hl, Nat.sub_self]
      have := e.symm.trans h
      cases this
      rfl
    · rw [List.getElem?_append_left (by omega)]
      exact ih (by omega) (by omega)
theorem rest_cons {own : List Sl} {k : Nat} {s : Sl} (h : own[k]? = some s) : (firsts own own.length).drop k = gk k s :: (firsts own own.length).drop (k + 1) := by
  have hk := (List.getElem?_eq_some_iff.1 h).1
  have hl := firsts_len (own := own) (Nat.le_refl _)
  have g := firsts_get h hk (Nat.le_refl _)
  obtain ⟨h1, h2⟩ := List.getElem?_eq_some_iff.1 g
  rw [List.drop_eq_getElem_cons h1, h2]

structure St (own : List Sl) (k : Nat) (A : List Gp) : Prop where
  groups : Groups own (A ++ (firsts own own.length).drop k)
  gaps : A.Pairwise fun x y => x.hi < y.lo
  who : ∀ x ∈ A, x.who < 0 ↔ x.lo = x.hi
  los : ∀ x ∈ A, ∀ (j : Nat) (t : Sl), k ≤ j → own[j]? = some t → x.lo ≤ t.lo
  idx : ∀ x ∈ A, x.who < (k : Int)
theorem St.proper {own : List Sl} {k : Nat} {A : List Gp} (h : St own k A) : ∀ x ∈ A, x.lo ≤ x.hi := fun x hx => h.groups.proper x (List.mem_append_left _ hx)

theorem sel_gk {own : List Sl} {k : Nat} {s : Sl} (h : own[k]? = some s) : sel own (gk k s) = s := by
  obtain ⟨a, b⟩ := s
  unfold sel gk
  by_cases c : a = b
  · subst c
    simp [Sl.lo, Sl.hi]
  · simp only [c, if_false]
    rw [if_pos (by omega), show ((k : Int)).toNat = k by omega, h]
    simp only [Sl.lo, Sl.hi]
    split <;> rfl

theorem St.apart {own : List Sl} {k : Nat} {A : List Gp} {s : Sl} (h : St own k A) (ha : Asc own) (hs : own[k]? = some s) (hl : ∀ x, A.getLast? = some x → x.hi < s.lo) : St own (k + 1) (A ++ [gk k s]) := by
  have hp := h.proper
  have hall : ∀ x ∈ A, x.hi < s.lo := by
    intro x hx
    obtain ⟨z, hz⟩ : ∃ z, A.getLast? = some z := by
      cases hA : A.getLast? with
      | none => rw [List.getLast?_eq_none_iff] at hA; subst hA; cases hx
      | some z => exact ⟨z, rfl⟩
    have h1 := hl z hz
    obtain ⟨A0, rfl⟩ := List.getLast?_eq_some_iff.1 hz
    rcases List.mem_append.1 hx with hx' | hx'
    · have := (List.pairwise_append.1 h.gaps).2.2 x hx' z List.mem_cons_self
      have := hp z (by simp)
      omega
    · obtain rfl := List.mem_singleton.1 hx'
      exact h1
  refine ⟨?_, List.pairwise_append.2 ⟨h.gaps, List.pairwise_singleton _ _, fun x hx y hy => ?_⟩, fun x hx => ?_, fun x hx j t hj ht => ?_, fun x hx => ?_⟩
  · have := h.groups
    rw [rest_cons hs] at this
    simpa using this
  · obtain rfl := List.mem_singleton.1 hy
    exact hall x hx
  · rcases List.mem_append.1 hx with hx | hx
    · exact h.who x hx
    · obtain rfl := List.mem_singleton.1 hx
      have := s.lt_iff
      have := s.lo_hi
      unfold gk
      simp only
      split <;> omega
  · rcases List.mem_append.1 hx with hx | hx
    · exact h.los x hx j t (by omega) ht
    · obtain rfl := List.mem_singleton.1 hx
      have := ha k j s t (by omega) hs ht
      show s.lo ≤ t.lo
      omega
  · rcases List.mem_append.1 hx with hx | hx
    · have := h.idx x hx
      omega
    · obtain rfl := List.mem_singleton.1 hx
      unfold gk
      simp only
      split <;> omega

theorem sel_none {own : List Sl} {x : Gp} (h : x.who < 0) : sel own x = ⟨x.lo, x.hi⟩ := by
  unfold sel
  rw [if_neg (by omega)]
theorem sel_some {own : List Sl} {x : Gp} {i : Nat} {t : Sl} (h : x.who = i) (ht : own[i]? = some t) : sel own x = if t.h < t.a then ⟨x.hi, x.lo⟩ else ⟨x.lo, x.hi⟩ := by
  unfold sel
  rw [if_pos (by omega), show x.who.toNat = i by omega, ht]
theorem joinF_empty {x y : Sl} (h : x.a = x.h) : joinF x y = if y.h < y.a then ⟨if x.hi < y.hi then y.hi else x.hi, x.lo⟩ else ⟨x.lo, if x.hi < y.hi then y.hi else x.hi⟩ := by
  unfold joinF
  rw [if_pos h]
theorem joinF_full {x y : Sl} (h : ¬ x.a = x.h) : joinF x y = if x.h < x.a then ⟨if x.hi < y.hi then y.hi else x.hi, x.lo⟩ else ⟨x.lo, if x.hi < y.hi then y.hi else x.hi⟩ := by
  unfold joinF
  rw [if_neg h]
theorem St.join {own : List Sl} {k : Nat} {A : List Gp} {a : Gp} {s : Sl} (h : St own k (A ++ [a])) (ha : Asc own) (hs : own[k]? = some s) (ht : s.lo ≤ a.hi) : ∃ m, St own (k + 1) (A ++ [m]) ∧ joinF (sel own a) s = sel own m := by
  have hin : a ∈ A ++ [a] := by simp
  have pa := h.proper a hin
  have wa := h.who a hin
  have la := h.los a hin k s (Nat.le_refl _) hs
  have ia := h.idx a hin
  have ps := s.lo_hi
  have sl := s.lt_iff
  have G := h.groups
  rw [rest_cons hs, List.append_assoc] at G
  obtain ⟨w, hw, hw2, hw3⟩ : ∃ w : Int, (w = (gk k s).who ∧ Ahead own (gk k s).who a.who ∨ w = a.who ∧ ¬ Ahead own (gk k s).who a.who) ∧ (a.who < 0 → w = (gk k s).who) ∧ (¬ a.who < 0 → w = a.who) := by
    by_cases c : a.who < 0
    · exact ⟨(gk k s).who, .inl ⟨rfl, .inl c⟩, fun _ => rfl, fun c' => absurd c c'⟩
    · refine ⟨a.who, .inr ⟨rfl, ?_⟩, fun c' => absurd c' c, fun _ => rfl⟩
      rintro (c' | ⟨h0, i, j, u, v, e1, e2, hu, hv, hl⟩)
      · exact c c'
      · have hi : i = k := by
          unfold gk at e1 h0
          simp only at e1 h0
          split at e1
          · omega
          · omega
        subst hi
        have := hs.symm.trans hu
        cases this
        have hj : j < i := by omega
        have := ha j i v s hj hv hs
        unfold Lex at hl
        omega
  have G2 := Groups.merge (A := A) (B := []) (C := (firsts own own.length).drop (k + 1)) (x := a) (y := gk k s) (w := w) (by simpa using G) (by show a.lo ≤ s.hi; omega) (by show s.lo ≤ a.hi; omega) hw
  have mlo : (both a (gk k s) w).lo = a.lo := by unfold both gk; simp only; rw [if_neg (by omega)]
  have mhi : (both a (gk k s) w).hi = if a.hi < s.hi then s.hi else a.hi := rfl
  have mw : (both a (gk k s) w).who = w := rfl
  have gw : (gk k s).who = if s.a = s.h then -1 else (k : Int) := rfl
  refine ⟨both a (gk k s) w, ⟨by simpa using G2, ?_, fun x hx => ?_, fun x hx j t hj ht' => ?_, fun x hx => ?_⟩, ?_⟩
  · obtain ⟨g1, g2, g3⟩ := List.pairwise_append.1 h.gaps
    refine List.pairwise_append.2 ⟨g1, List.pairwise_singleton _ _, fun x hx y hy => ?_⟩
    obtain rfl := List.mem_singleton.1 hy
    rw [mlo]
    exact g3 x hx a List.mem_cons_self
  · rcases List.mem_append.1 hx with hx | hx
    · exact h.who x (List.mem_append_left _ hx)
    · obtain rfl := List.mem_singleton.1 hx
      rw [mw, mlo, mhi]
      by_cases c : a.who < 0
      · rw [hw2 c, gw]
        have := wa.1 c
        split <;> split <;> omega
      · rw [hw3 c]
        have : ¬ a.lo = a.hi := fun e => c (wa.2 e)
        split <;> omega
  · rcases List.mem_append.1 hx with hx | hx
    · exact h.los x (List.mem_append_left _ hx) j t (by omega) ht'
    · obtain rfl := List.mem_singleton.1 hx
      rw [mlo]
      exact h.los a hin j t (by omega) ht'
  · rcases List.mem_append.1 hx with hx | hx
    · have := h.idx x (List.mem_append_left _ hx)
      omega
    · obtain rfl := List.mem_singleton.1 hx
      rw [mw]
      by_cases c : a.who < 0
      · rw [hw2 c, gw]
        split <;> omega
      · rw [hw3 c]
        omega
  · obtain ⟨e1, e2⟩ := sel_span (own := own) pa
    have m1 : (both a (gk k s) w).lo = (sel own a).lo := by rw [mlo, e1]
    have m2 : (both a (gk k s) w).hi = if (sel own a).hi < s.hi then s.hi else (sel own a).hi := by rw [mhi, e2]
    by_cases c : a.who < 0
    · have hww := hw2 c
      have he : (sel own a).a = (sel own a).h := by rw [sel_none c]; exact wa.1 c
      rw [joinF_empty he]
      by_cases cs : s.a = s.h
      · rw [gw, if_pos cs] at hww
        rw [sel_none (x := both a (gk k s) w) (by rw [mw]; omega), m1, m2, if_neg (by omega)]
      · rw [gw, if_neg cs] at hww
        rw [sel_some (x := both a (gk k s) w) (by rw [mw]; exact hww) hs, m1, m2]
    · have hww := hw3 c
      obtain ⟨i, t, ei, hi, _⟩ := (h.groups.whose a (by simp)).resolve_left c
      have hne : ¬ a.lo = a.hi := fun e => c (wa.2 e)
      have hsel := sel_some ei hi
      rw [sel_some (x := both a (gk k s) w) (by rw [mw, hww]; exact ei) hi, m1, m2, joinF_full (x := sel own a) (by rw [hsel]; split <;> simp only <;> omega)]
      by_cases ct : t.h < t.a
      · rw [if_pos (show (sel own a).h < (sel own a).a by rw [hsel, if_pos ct]; simp only; omega), if_pos ct]
      · rw [if_neg (show ¬ (sel own a).h < (sel own a).a by rw [hsel, if_neg ct]; simp only; omega), if_neg ct]

/-- What is merged so far. -/
def Acc (own : List Sl) (k : Nat) (out : List Sl) : Prop := ∃ A, St own k A ∧ out = A.map (sel own)
theorem acc_start (own : List Sl) : Acc own 0 [] := ⟨[], ⟨by simpa using Groups.first own, List.Pairwise.nil, (fun _ h => by cases h), (fun _ h => by cases h), (fun _ h => by cases h)⟩, rfl⟩
theorem acc_apart {own : List Sl} {k : Nat} {out : List Sl} {s : Sl} (h : Acc own k out) (ha : Asc own) (hs : own[k]? = some s) (hl : ∀ x, out.getLast? = some x → x.hi < s.lo) : Acc own (k + 1) (out ++ [s]) := by
  obtain ⟨A, hA, rfl⟩ := h
  refine ⟨A ++ [gk k s], hA.apart ha hs fun x hx => ?_, by rw [List.map_append, List.map_singleton, sel_gk hs]⟩
  have := hl (sel own x) (by rw [List.getLast?_map, hx]; rfl)
  rwa [(sel_span (hA.proper x (List.mem_of_getLast? hx))).2] at this
theorem acc_join {own : List Sl} {k : Nat} {out : List Sl} {x s : Sl} (h : Acc own k (out ++ [x])) (ha : Asc own) (hs : own[k]? = some s) (ht : s.lo ≤ x.hi) : Acc own (k + 1) (out ++ [joinF x s]) := by
  obtain ⟨A, hA, he⟩ := h
  obtain ⟨B, a, rfl, h1, h2⟩ : ∃ B a, A = B ++ [a] ∧ out = B.map (sel own) ∧ x = sel own a := by
    have hne : A ≠ [] := fun e => by subst e; simp at he
    obtain ⟨B, a, rfl⟩ : ∃ B a, A = B ++ [a] := ⟨A.dropLast, A.getLast hne, (List.dropLast_concat_getLast hne).symm⟩
    rw [List.map_append, List.map_singleton] at he
    have := List.append_inj' he rfl
    exact ⟨B, a, rfl, this.1, by simpa using this.2⟩
  subst h1 h2
  obtain ⟨m, hm, e⟩ := hA.join ha hs (by rwa [(sel_span (hA.proper a (by simp))).2] at ht)
  exact ⟨B ++ [m], hm, by rw [List.map_append, List.map_singleton, e]⟩
theorem acc_end {own out : List Sl} (h : Acc own own.length out) : Norm own out := by
  obtain ⟨A, hA, rfl⟩ := h
  have G := hA.groups
  rw [List.drop_of_length_le (by rw [firsts_len (Nat.le_refl _)]; exact Nat.le_refl _), List.append_nil] at G
  have hap : Apart A := hA.gaps.imp fun h => .inl h
  have hsp : spans (A.map (sel own)) = gspans A := by
    unfold spans gspans
    rw [List.map_map]
    refine List.map_congr_left fun x hx => ?_
    have := sel_span (own := own) (hA.proper x hx)
    simp only [Function.comp, this.1, this.2]
  refine ⟨fun p => by rw [hsp]; exact G.cov p, fun p => by rw [hsp]; exact G.edg p, ?_, fun x hx => ?_⟩
  · rw [hsp]
    unfold Gaps gspans
    rw [List.pairwise_map]
    exact hA.gaps
  · obtain ⟨y, hy, rfl⟩ := List.mem_map.1 hx
    have := sel_span (own := own) (hA.proper y hy)
    rw [this.1, this.2]
    exact sel_back (hA.proper y hy) (G.sure hap y hy)
theorem asc_of_sorted {d : Array Sl} (h : SortedIn ltS 0 d.size d) : Asc d.toList := fun i j s t hij hs ht => by
  have hi : i < d.size := by simpa using (List.getElem?_eq_some_iff.1 hs).1
  have hj : j < d.size := by simpa using (List.getElem?_eq_some_iff.1 ht).1
  have := h i j (Nat.zero_le _) hij hj
  rw [ltS_not] at this
  have e1 : d[i]! = s := by
    have := hs
    simp [hi] at this
    simpa [hi] using this
  have e2 : d[j]! = t := by
    have := ht
    simp [hj] at this
    simpa [hj] using this
  rw [e1, e2] at this
  omega

/-- The first one that is not empty, by its span: without places. -/
theorem first_iff {own : List Sl} {lo hi : Int} {s : Sl} : (∃ i, First own lo hi i s) ↔ (own.filter (sameKey s.lo s.hi)).head? = some s ∧ s.lo < s.hi ∧ lo ≤ s.lo ∧ s.hi ≤ hi ∧ ∀ t ∈ own, t.lo < t.hi → lo ≤ t.lo → t.hi ≤ hi → s.lo < t.lo ∨ s.lo = t.lo ∧ s.hi ≤ t.hi := by
  rw [List.head?_filter, List.find?_eq_some_iff_getElem]
  constructor
  · rintro ⟨i, hf⟩
    obtain ⟨hi', he⟩ := List.getElem?_eq_some_iff.1 hf.1
    refine ⟨⟨by simp [sameKey], i, hi', he, fun j hj => ?_⟩, hf.2.1, hf.2.2.1, hf.2.2.2.1, fun t ht h1 h2 h3 => ?_⟩
    · rw [Bool.not_eq_true', sameKey, decide_eq_false_iff_not]
      rintro ⟨h1, h2⟩
      have h0 := hf.2.1
      have h3 := hf.2.2.1
      have h4 := hf.2.2.2.1
      rcases hf.2.2.2.2 j (own[j]'(by omega)) (List.getElem?_eq_getElem _) (by omega) (by omega) (by omega) with e | e
      · omega
      · unfold Lex at e
        omega
    · obtain ⟨j, hj⟩ := List.mem_iff_getElem?.1 ht
      rcases hf.2.2.2.2 j t hj h1 h2 h3 with e | e
      · subst e
        have := hf.1.symm.trans hj
        cases this
        omega
      · unfold Lex at e
        omega
  · rintro ⟨⟨_, i, hi', he, hb⟩, h0, h1, h2, h3⟩
    refine ⟨i, by rw [List.getElem?_eq_getElem hi', he], h0, h1, h2, fun j t hj k0 k1 k2 => ?_⟩
    by_cases c : j = i
    · exact .inl c
    · refine .inr ?_
      have m := h3 t (List.mem_of_getElem? hj) k0 k1 k2
      obtain ⟨hj', he'⟩ := List.getElem?_eq_some_iff.1 hj
      unfold Lex
      by_cases c2 : j < i
      · have := hb j c2
        rw [he', Bool.not_eq_true', sameKey, decide_eq_false_iff_not] at this
        omega
      · omega
theorem stab_mem {d d' : Array Sl} (h : Stab d d') (s : Sl) : s ∈ d'.toList ↔ s ∈ d.toList := by
  have e := h s.lo s.hi
  have m : ∀ l : List Sl, s ∈ l ↔ s ∈ l.filter (sameKey s.lo s.hi) := fun l => by simp [sameKey]
  rw [m, m d.toList, e]
theorem stab_cov {d d' : Array Sl} (h : Stab d d') (x : Int × Int) : x ∈ spans d'.toList ↔ x ∈ spans d.toList := by
  rw [mem_spans, mem_spans]
  constructor
  · rintro ⟨s, hs, e⟩
    exact ⟨s, (stab_mem h s).1 hs, e⟩
  · rintro ⟨s, hs, e⟩
    exact ⟨s, (stab_mem h s).2 hs, e⟩
theorem stab_back {d d' : Array Sl} (h : Stab d d') (lo hi : Int) : Back d'.toList lo hi ↔ Back d.toList lo hi := by
  have key : ∀ s, (∃ i, First d'.toList lo hi i s) ↔ ∃ i, First d.toList lo hi i s := fun s => by
    rw [first_iff, first_iff, h s.lo s.hi]
    simp only [stab_mem h]
  unfold Back
  constructor
  · rintro ⟨i, s, hf, hb⟩
    obtain ⟨j, hj⟩ := (key s).1 ⟨i, hf⟩
    exact ⟨j, s, hj, hb⟩
  · rintro ⟨i, s, hf, hb⟩
    obtain ⟨j, hj⟩ := (key s).2 ⟨i, hf⟩
    exact ⟨j, s, hj, hb⟩
theorem norm_stab {d d' : Array Sl} {out : List Sl} (h : Stab d d') (hn : Norm d'.toList out) : Norm d.toList out := by
  refine ⟨fun p => ?_, fun p => ?_, hn.gaps, fun x hx => (hn.dir x hx).trans (stab_back h _ _)⟩
  · rw [← hn.cov p]
    unfold Cov
    simp only [stab_cov h]
  · rw [← hn.edg p]
    unfold Edg
    simp only [stab_cov h]
end Go.Proofs.Ytdpmkfjomkemhaa
