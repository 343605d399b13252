/- Pure mathematics of selections made normal: what is left when all that touch have become one is determined. No walk. -/
namespace Go.Proofs.Ytdpmkfjomkemhaa

/-- A selection. -/
structure Sl where
  a : Int
  h : Int
def Sl.lo (s : Sl) : Int := if s.h < s.a then s.h else s.a
def Sl.hi (s : Sl) : Int := if s.h < s.a then s.a else s.h
theorem Sl.lo_hi (s : Sl) : s.lo ≤ s.hi := by unfold Sl.lo Sl.hi; split <;> omega
theorem Sl.same {s t : Sl} (h1 : s.lo = t.lo) (h2 : s.hi = t.hi) (h3 : s.h < s.a ↔ t.h < t.a) : s = t := by
  obtain ⟨a, h⟩ := s
  obtain ⟨a', h'⟩ := t
  simp only [Sl.lo, Sl.hi] at h1 h2 h3
  have : a = a' ∧ h = h' := by
    by_cases c : h < a
    · have c' := h3.1 c
      rw [if_pos c, if_pos c'] at h1 h2
      exact ⟨h2, h1⟩
    · have c' : ¬ h' < a' := fun z => c (h3.2 z)
      rw [if_neg c, if_neg c'] at h1 h2
      exact ⟨h1, h2⟩
  rw [this.1, this.2]

/-- A span (a group's). -/
def Cov (l : List (Int × Int)) (p : Int) : Prop := ∃ x ∈ l, x.1 ≤ p ∧ p ≤ x.2
def Edg (l : List (Int × Int)) (p : Int) : Prop := ∃ x ∈ l, x.1 ≤ p ∧ p < x.2
def Gaps (l : List (Int × Int)) : Prop := l.Pairwise fun x y => x.2 < y.1
def Proper (l : List (Int × Int)) : Prop := ∀ x ∈ l, x.1 ≤ x.2

theorem spans_same : ∀ (a b : List (Int × Int)), Proper a → Proper b → Gaps a → Gaps b → (∀ p, Cov a p ↔ Cov b p) → (∀ p, Edg a p ↔ Edg b p) → a = b
  | [], [], _, _, _, _, _, _ => rfl
  | [], y :: b, _, hb, _, _, hc, _ => by
    obtain ⟨x, hx, _⟩ := (hc y.1).2 ⟨y, List.mem_cons_self, Int.le_refl _, hb y List.mem_cons_self⟩
    cases hx
  | x :: a, [], ha, _, _, _, hc, _ => by
    obtain ⟨y, hy, _⟩ := (hc x.1).1 ⟨x, List.mem_cons_self, Int.le_refl _, ha x List.mem_cons_self⟩
    cases hy
  | x :: a, y :: b, pa, pb, ga, gb, hc, he => by
    have ga1 := (List.pairwise_cons.1 ga).1
    have gb1 := (List.pairwise_cons.1 gb).1
    have px := pa x List.mem_cons_self
    have py := pb y List.mem_cons_self
    have l1 : x.1 = y.1 := by
      obtain ⟨t, ht, t1, t2⟩ := (hc x.1).1 ⟨x, List.mem_cons_self, Int.le_refl _, px⟩
      obtain ⟨s, hs, s1, s2⟩ := (hc y.1).2 ⟨y, List.mem_cons_self, Int.le_refl _, py⟩
      have ht' : y.1 ≤ t.1 := by
        rcases List.mem_cons.1 ht with rfl | h
        · exact Int.le_refl _
        · have := gb1 t h
          omega
      have hs' : x.1 ≤ s.1 := by
        rcases List.mem_cons.1 hs with rfl | h
        · exact Int.le_refl _
        · have := ga1 s h
          omega
      omega
    have l2 : ¬ x.2 < y.2 := fun h => by
      obtain ⟨t, ht, t1, t2⟩ := (he x.2).2 ⟨y, List.mem_cons_self, by omega, h⟩
      rcases List.mem_cons.1 ht with rfl | h'
      · omega
      · have := ga1 t h'
        omega
    have l3 : ¬ y.2 < x.2 := fun h => by
      obtain ⟨t, ht, t1, t2⟩ := (he y.2).1 ⟨x, List.mem_cons_self, by omega, h⟩
      rcases List.mem_cons.1 ht with rfl | h'
      · omega
      · have := gb1 t h'
        omega
    have hxy : x = y := Prod.ext l1 (by omega)
    subst hxy
    congr 1
    refine spans_same a b (fun z hz => pa z (List.mem_cons_of_mem _ hz)) (fun z hz => pb z (List.mem_cons_of_mem _ hz)) (List.pairwise_cons.1 ga).2 (List.pairwise_cons.1 gb).2 (fun p => ⟨?_, ?_⟩) (fun p => ⟨?_, ?_⟩)
    · rintro ⟨t, ht, t1, t2⟩
      have := ga1 t ht
      obtain ⟨s, hs, s1, s2⟩ := (hc p).1 ⟨t, List.mem_cons_of_mem _ ht, t1, t2⟩
      rcases List.mem_cons.1 hs with rfl | h'
      · omega
      · exact ⟨s, h', s1, s2⟩
    · rintro ⟨t, ht, t1, t2⟩
      have := gb1 t ht
      obtain ⟨s, hs, s1, s2⟩ := (hc p).2 ⟨t, List.mem_cons_of_mem _ ht, t1, t2⟩
      rcases List.mem_cons.1 hs with rfl | h'
      · omega
      · exact ⟨s, h', s1, s2⟩
    · rintro ⟨t, ht, t1, t2⟩
      have := ga1 t ht
      obtain ⟨s, hs, s1, s2⟩ := (he p).1 ⟨t, List.mem_cons_of_mem _ ht, t1, t2⟩
      rcases List.mem_cons.1 hs with rfl | h'
      · omega
      · exact ⟨s, h', s1, s2⟩
    · rintro ⟨t, ht, t1, t2⟩
      have := gb1 t ht
      obtain ⟨s, hs, s1, s2⟩ := (he p).2 ⟨t, List.mem_cons_of_mem _ ht, t1, t2⟩
      rcases List.mem_cons.1 hs with rfl | h'
      · omega
      · exact ⟨s, h', s1, s2⟩

/-- What is covered without a break lies in one. -/
theorem inside {l : List (Int × Int)} (hg : Gaps l) (hp : Proper l) {u v : Int} (huv : u ≤ v) (hc : ∀ p, u ≤ p → p ≤ v → Cov l p) (he : ∀ p, u ≤ p → p < v → Edg l p) : ∃ x ∈ l, x.1 ≤ u ∧ v ≤ x.2 := by
  obtain ⟨x, hx, x1, x2⟩ := hc u (Int.le_refl _) huv
  refine ⟨x, hx, x1, Int.not_lt.1 fun h => ?_⟩
  obtain ⟨t, ht, t1, t2⟩ := he x.2 x2 h
  obtain ⟨i, hi⟩ := List.mem_iff_getElem?.1 hx
  obtain ⟨j, hj⟩ := List.mem_iff_getElem?.1 ht
  obtain ⟨hi', rfl⟩ := List.getElem?_eq_some_iff.1 hi
  obtain ⟨hj', rfl⟩ := List.getElem?_eq_some_iff.1 hj
  have pi := hp _ hx
  have pj := hp _ ht
  rcases Nat.lt_trichotomy i j with h' | rfl | h'
  · have := List.pairwise_iff_getElem.1 hg i j hi' hj' h'
    omega
  · omega
  · have := List.pairwise_iff_getElem.1 hg j i hj' hi' h'
    omega

def spans (l : List Sl) : List (Int × Int) := l.map fun s => (s.lo, s.hi)
theorem spans_proper (l : List Sl) : Proper (spans l) := by
  intro x hx
  obtain ⟨s, _, rfl⟩ := List.mem_map.1 hx
  exact s.lo_hi
theorem mem_spans {l : List Sl} {x : Int × Int} : x ∈ spans l ↔ ∃ s ∈ l, (s.lo, s.hi) = x := List.mem_map
theorem spans_get {l : List Sl} {i : Nat} {s : Sl} (h : l[i]? = some s) : (s.lo, s.hi) ∈ spans l := List.mem_map.2 ⟨s, List.mem_of_getElem? h, rfl⟩

/-- Does a selection stand ahead of another one, by where they begin, end, and by their order? -/
def Lex (s t : Sl) (i j : Nat) : Prop := s.lo < t.lo ∨ s.lo = t.lo ∧ (s.hi < t.hi ∨ s.hi = t.hi ∧ i < j)
theorem Lex.trans {s t u : Sl} {i j k : Nat} (h : Lex s t i j) (h' : Lex t u j k) : Lex s u i k := by unfold Lex at *; omega
theorem Lex.not {s t : Sl} {i j : Nat} (h : Lex s t i j) : ¬ Lex t s j i := by unfold Lex at *; omega
theorem Lex.total (s t : Sl) {i j : Nat} (h : i ≠ j) : Lex s t i j ∨ Lex t s j i := by unfold Lex; omega

/-- Number i is the first one that is not empty within a span. -/
def First (own : List Sl) (lo hi : Int) (i : Nat) (s : Sl) : Prop :=
  own[i]? = some s ∧ s.lo < s.hi ∧ lo ≤ s.lo ∧ s.hi ≤ hi ∧ ∀ j t, own[j]? = some t → t.lo < t.hi → lo ≤ t.lo → t.hi ≤ hi → j = i ∨ Lex s t i j
theorem First.one {own : List Sl} {lo hi : Int} {i j : Nat} {s t : Sl} (h : First own lo hi i s) (h' : First own lo hi j t) : i = j ∧ s = t := by
  by_cases e : i = j
  · subst e
    exact ⟨rfl, by have := h.1.symm.trans h'.1; cases this; rfl⟩
  · rcases h.2.2.2.2 j t h'.1 h'.2.1 h'.2.2.1 h'.2.2.2.1 with r | r
    · exact absurd r.symm e
    · rcases h'.2.2.2.2 i s h.1 h.2.1 h.2.2.1 h.2.2.2.1 with r' | r'
      · exact absurd r' e
      · exact absurd r' r.not
/-- Which way goes what became of a span? -/
def Back (own : List Sl) (lo hi : Int) : Prop := ∃ i s, First own lo hi i s ∧ s.h < s.a

/-- Selections made normal. -/
structure Norm (own out : List Sl) : Prop where
  cov : ∀ p, Cov (spans own) p ↔ Cov (spans out) p
  edg : ∀ p, Edg (spans own) p ↔ Edg (spans out) p
  gaps : Gaps (spans out)
  dir : ∀ x ∈ out, (x.h < x.a ↔ Back own x.lo x.hi)

theorem Norm.one {own a b : List Sl} (ha : Norm own a) (hb : Norm own b) : a = b := by
  have hs := spans_same _ _ (spans_proper a) (spans_proper b) ha.gaps hb.gaps (fun p => (ha.cov p).symm.trans (hb.cov p)) (fun p => (ha.edg p).symm.trans (hb.edg p))
  refine List.ext_getElem? fun i => ?_
  have hi : (spans a)[i]? = (spans b)[i]? := by rw [hs]
  simp only [spans, List.getElem?_map] at hi
  cases hx : a[i]? with
  | none =>
    rw [hx] at hi
    cases hy : b[i]? with
    | none => rfl
    | some y => rw [hy] at hi; cases hi
  | some x =>
    rw [hx] at hi
    cases hy : b[i]? with
    | none => rw [hy] at hi; cases hi
    | some y =>
      rw [hy] at hi
      simp only [Option.map_some, Option.some.injEq, Prod.mk.injEq] at hi
      congr 1
      refine Sl.same hi.1 hi.2 ?_
      rw [ha.dir x (List.mem_of_getElem? hx), hb.dir y (List.mem_of_getElem? hy), hi.1, hi.2]

theorem gaps_index {l : List Sl} (hg : Gaps (spans l)) {i j : Nat} {s t : Sl} (hs : l[i]? = some s) (ht : l[j]? = some t) (h1 : s.lo ≤ t.lo) (h2 : t.hi ≤ s.hi) : i = j ∧ s = t := by
  obtain ⟨hi', rfl⟩ := List.getElem?_eq_some_iff.1 hs
  obtain ⟨hj', rfl⟩ := List.getElem?_eq_some_iff.1 ht
  have pi := (l[i]).lo_hi
  have pj := (l[j]).lo_hi
  rcases Nat.lt_trichotomy i j with h' | rfl | h'
  · have := List.pairwise_iff_getElem.1 hg i j (by simpa [spans] using hi') (by simpa [spans] using hj') h'
    simp [spans] at this
    omega
  · exact ⟨rfl, rfl⟩
  · have := List.pairwise_iff_getElem.1 hg j i (by simpa [spans] using hj') (by simpa [spans] using hi') h'
    simp [spans] at this
    omega

/-- What is normal stays. -/
theorem norm_self {l : List Sl} (hg : Gaps (spans l)) : Norm l l := by
  refine ⟨fun _ => Iff.rfl, fun _ => Iff.rfl, hg, fun x hx => ⟨fun hb => ?_, ?_⟩⟩
  · obtain ⟨i, hi⟩ := List.mem_iff_getElem?.1 hx
    refine ⟨i, x, ⟨hi, ?_, Int.le_refl _, Int.le_refl _, fun j t ht _ h1 h2 => .inl (gaps_index hg hi ht h1 h2).1.symm⟩, hb⟩
    unfold Sl.lo Sl.hi
    rw [if_pos hb, if_pos hb]
    exact hb
  · rintro ⟨i, s, hf, hb⟩
    obtain ⟨k, hk⟩ := List.mem_iff_getElem?.1 hx
    rw [(gaps_index hg hk hf.1 hf.2.2.1 hf.2.2.2.1).2]
    exact hb

/-- Are selections normal, for a length? -/
def Right (l : List Sl) (n : Int) : Prop := l ≠ [] ∧ (∀ s ∈ l, 0 ≤ s.lo ∧ s.hi ≤ n) ∧ Gaps (spans l)

theorem Norm.bounds {own out : List Sl} (h : Norm own out) {n : Int} (hb : ∀ s ∈ own, 0 ≤ s.lo ∧ s.hi ≤ n) : ∀ s ∈ out, 0 ≤ s.lo ∧ s.hi ≤ n := by
  intro s hs
  have hm : (s.lo, s.hi) ∈ spans out := mem_spans.2 ⟨s, hs, rfl⟩
  obtain ⟨x, hx, x1, x2⟩ := (h.cov s.lo).2 ⟨_, hm, Int.le_refl _, s.lo_hi⟩
  obtain ⟨y, hy, y1, y2⟩ := (h.cov s.hi).2 ⟨_, hm, s.lo_hi, Int.le_refl _⟩
  obtain ⟨u, hu, rfl⟩ := mem_spans.1 hx
  obtain ⟨v, hv, rfl⟩ := mem_spans.1 hy
  have := hb u hu
  have := hb v hv
  simp only at x1 x2 y1 y2
  omega
theorem Norm.nil {own : List Sl} (h : Norm own []) : own = [] := by
  cases own with
  | nil => rfl
  | cons s l =>
    obtain ⟨x, hx, _⟩ := (h.cov s.lo).1 ⟨(s.lo, s.hi), List.mem_cons_self, Int.le_refl _, s.lo_hi⟩
    cases hx
theorem Norm.within {own out : List Sl} (h : Norm own out) {s : Sl} (hs : s ∈ own) : ∃ x ∈ out, x.lo ≤ s.lo ∧ s.hi ≤ x.hi := by
  have hm : (s.lo, s.hi) ∈ spans own := mem_spans.2 ⟨s, hs, rfl⟩
  obtain ⟨x, hx, x1, x2⟩ := inside h.gaps (spans_proper _) s.lo_hi (fun p p1 p2 => (h.cov p).1 ⟨_, hm, p1, p2⟩) (fun p p1 p2 => (h.edg p).1 ⟨_, hm, p1, p2⟩)
  obtain ⟨u, hu, rfl⟩ := mem_spans.1 hx
  exact ⟨u, hu, x1, x2⟩

/-- Two neighbours apart: all apart. -/
theorem gaps_of_next {l : List Sl} (h : ∀ i s t, l[i]? = some s → l[i + 1]? = some t → s.hi < t.lo) : Gaps (spans l) := by
  induction l with
  | nil => exact List.Pairwise.nil
  | cons s l ih =>
    have ih' := ih fun i u v hu hv => h (i + 1) u v (by simpa using hu) (by simpa using hv)
    refine List.pairwise_cons.2 ⟨fun y hy => ?_, ih'⟩
    cases l with
    | nil => cases hy
    | cons t r =>
      have h0 := h 0 s t (by simp) (by simp)
      rcases List.mem_cons.1 hy with rfl | hy'
      · exact h0
      · have h1 := (List.pairwise_cons.1 ih').1 y hy'
        have := t.lo_hi
        simp only at h1 ⊢
        omega
theorem next_of_gaps {l : List Sl} (h : Gaps (spans l)) {i : Nat} {s t : Sl} (hs : l[i]? = some s) (ht : l[i + 1]? = some t) : s.hi < t.lo := by
  obtain ⟨hi', rfl⟩ := List.getElem?_eq_some_iff.1 hs
  obtain ⟨hj', rfl⟩ := List.getElem?_eq_some_iff.1 ht
  have := List.pairwise_iff_getElem.1 h i (i + 1) (by simpa [spans] using hi') (by simpa [spans] using hj') (by omega)
  simpa [spans] using this

end Go.Proofs.Ytdpmkfjomkemhaa
