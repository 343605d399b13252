/- Pure mathematics of the reference's groups: merging two that touch keeps what they are; when none touch, choosing the lowest again and again gives the selections made normal. No walk. -/
import Derived.Test.YtdpmkfjomkemhaaNorm
namespace Go.Proofs.Ytdpmkfjomkemhaa

/-- A group: its ends, and who tells where it goes (below 0: nobody). -/
structure Gp where
  lo : Int
  hi : Int
  who : Int
def gspans (g : List Gp) : List (Int × Int) := g.map fun x => (x.lo, x.hi)
theorem mem_gspans {g : List Gp} {x : Int × Int} : x ∈ gspans g ↔ ∃ y ∈ g, (y.lo, y.hi) = x := List.mem_map

/-- 'ahead', at places of the list or below 0. -/
def Ahead (own : List Sl) (a b : Int) : Prop :=
  b < 0 ∨ 0 ≤ a ∧ ∃ (i j : Nat) (s t : Sl), a = i ∧ b = j ∧ own[i]? = some s ∧ own[j]? = some t ∧ Lex s t i j

/-- Who tells where a group goes: nobody, or one that is within it and is not empty. -/
def Own (own : List Sl) (x : Gp) : Prop := x.who < 0 ∨ ∃ (i : Nat) (s : Sl), x.who = i ∧ own[i]? = some s ∧ s.lo < s.hi ∧ x.lo ≤ s.lo ∧ s.hi ≤ x.hi
/-- A selection that is not empty is within a group that goes as it says, or as one ahead of it says. -/
def Told (own : List Sl) (i : Nat) (s : Sl) (x : Gp) : Prop := x.lo ≤ s.lo ∧ s.hi ≤ x.hi ∧ 0 ≤ x.who ∧ (x.who = i ∨ Ahead own x.who i)

structure Groups (own : List Sl) (g : List Gp) : Prop where
  proper : ∀ x ∈ g, x.lo ≤ x.hi
  cov : ∀ p, Cov (spans own) p ↔ Cov (gspans g) p
  edg : ∀ p, Edg (spans own) p ↔ Edg (gspans g) p
  whose : ∀ x ∈ g, Own own x
  told : ∀ i s, own[i]? = some s → s.lo < s.hi → ∃ x ∈ g, Told own i s x

/-- Two groups made one. -/
def both (x y : Gp) (w : Int) : Gp := ⟨if y.lo < x.lo then y.lo else x.lo, if x.hi < y.hi then y.hi else x.hi, w⟩

theorem Ahead.trans' {own : List Sl} {a b : Int} {k : Nat} (h : Ahead own a b) (h0 : 0 ≤ b) (h' : b = k ∨ Ahead own b k) : a = k ∨ Ahead own a k := by
  rcases h' with rfl | h'
  · exact .inr h
  · rcases h with h | ⟨ha, i, j, s, t, rfl, rfl, hs, ht, hl⟩
    · omega
    · rcases h' with h' | ⟨_, j', k', t', u, e, e', ht', hu, hl'⟩
      · omega
      · have : j = j' := by omega
        subst this
        have := ht.symm.trans ht'
        cases this
        exact .inr (.inr ⟨ha, i, k', s, u, rfl, e', hs, hu, hl.trans hl'⟩)

theorem Ahead.total {own : List Sl} {i j : Nat} {s t : Sl} (hs : own[i]? = some s) (ht : own[j]? = some t) (h : ¬ Ahead own j i) : i = j ∨ Ahead own i j := by
  by_cases e : i = j
  · exact .inl e
  · rcases Lex.total s t e with r | r
    · exact .inr (.inr ⟨by omega, i, j, s, t, rfl, rfl, hs, ht, r⟩)
    · exact absurd (.inr ⟨by omega, j, i, t, s, rfl, rfl, ht, hs, r⟩) h

theorem Own.wider {own : List Sl} {x m : Gp} (h : Own own x) (h1 : m.who = x.who) (h2 : m.lo ≤ x.lo) (h3 : x.hi ≤ m.hi) : Own own m := by
  rcases h with h | ⟨i, s, h, hs, hne, a, b⟩
  · exact .inl (by omega)
  · exact .inr ⟨i, s, by omega, hs, hne, by omega, by omega⟩

/-- Merging two that touch. -/
theorem Groups.merge {own : List Sl} {A B C : List Gp} {x y : Gp} {w : Int} (h : Groups own (A ++ x :: (B ++ y :: C))) (t1 : x.lo ≤ y.hi) (t2 : y.lo ≤ x.hi)
    (hw : w = y.who ∧ Ahead own y.who x.who ∨ w = x.who ∧ ¬ Ahead own y.who x.who) : Groups own (A ++ both x y w :: (B ++ C)) := by
  have hx : x ∈ A ++ x :: (B ++ y :: C) := by simp
  have hy : y ∈ A ++ x :: (B ++ y :: C) := by simp
  have px := h.proper x hx
  have py := h.proper y hy
  have mlo : (both x y w).lo ≤ x.lo ∧ (both x y w).lo ≤ y.lo ∧ ((both x y w).lo = x.lo ∨ (both x y w).lo = y.lo) := by
    unfold both; simp only; split <;> omega
  have mhi : x.hi ≤ (both x y w).hi ∧ y.hi ≤ (both x y w).hi ∧ ((both x y w).hi = x.hi ∨ (both x y w).hi = y.hi) := by
    unfold both; simp only; split <;> omega
  have mw : (both x y w).who = w := rfl
  have hm : ∀ z, z ∈ A ++ both x y w :: (B ++ C) ↔ z = both x y w ∨ z ∈ A ∨ z ∈ B ∨ z ∈ C := fun z => by
    simp only [List.mem_append, List.mem_cons]
    grind
  have ho : ∀ z, z ∈ A ++ x :: (B ++ y :: C) ↔ z = x ∨ z = y ∨ z ∈ A ∨ z ∈ B ∨ z ∈ C := fun z => by
    simp only [List.mem_append, List.mem_cons]
    grind
  obtain ⟨m, hmm⟩ : ∃ m, m = both x y w := ⟨_, rfl⟩
  rw [← hmm] at mlo mhi mw hm ⊢
  have oldc : ∀ p, Cov (gspans (A ++ x :: (B ++ y :: C))) p ↔ Cov (gspans (A ++ m :: (B ++ C))) p := by
    intro p
    constructor
    · rintro ⟨z, hz, z1, z2⟩
      obtain ⟨z, hz', rfl⟩ := mem_gspans.1 hz
      simp only at z1 z2
      rcases (ho z).1 hz' with rfl | rfl | hr
      · exact ⟨_, mem_gspans.2 ⟨m, (hm m).2 (.inl rfl), rfl⟩, by simp only; omega, by simp only; omega⟩
      · exact ⟨_, mem_gspans.2 ⟨m, (hm m).2 (.inl rfl), rfl⟩, by simp only; omega, by simp only; omega⟩
      · exact ⟨_, mem_gspans.2 ⟨z, (hm z).2 (.inr hr), rfl⟩, z1, z2⟩
    · rintro ⟨z, hz, z1, z2⟩
      obtain ⟨z, hz', rfl⟩ := mem_gspans.1 hz
      simp only at z1 z2
      rcases (hm z).1 hz' with rfl | hr
      · by_cases c : x.lo ≤ p ∧ p ≤ x.hi
        · exact ⟨_, mem_gspans.2 ⟨x, hx, rfl⟩, c.1, c.2⟩
        · exact ⟨_, mem_gspans.2 ⟨y, hy, rfl⟩, by simp only; omega, by simp only; omega⟩
      · exact ⟨_, mem_gspans.2 ⟨z, (ho z).2 (.inr (.inr hr)), rfl⟩, z1, z2⟩
  have olde : ∀ p, Edg (gspans (A ++ x :: (B ++ y :: C))) p ↔ Edg (gspans (A ++ m :: (B ++ C))) p := by
    intro p
    constructor
    · rintro ⟨z, hz, z1, z2⟩
      obtain ⟨z, hz', rfl⟩ := mem_gspans.1 hz
      simp only at z1 z2
      rcases (ho z).1 hz' with rfl | rfl | hr
      · exact ⟨_, mem_gspans.2 ⟨m, (hm m).2 (.inl rfl), rfl⟩, by simp only; omega, by simp only; omega⟩
      · exact ⟨_, mem_gspans.2 ⟨m, (hm m).2 (.inl rfl), rfl⟩, by simp only; omega, by simp only; omega⟩
      · exact ⟨_, mem_gspans.2 ⟨z, (hm z).2 (.inr hr), rfl⟩, z1, z2⟩
    · rintro ⟨z, hz, z1, z2⟩
      obtain ⟨z, hz', rfl⟩ := mem_gspans.1 hz
      simp only at z1 z2
      rcases (hm z).1 hz' with rfl | hr
      · by_cases c : x.lo ≤ p ∧ p < x.hi
        · exact ⟨_, mem_gspans.2 ⟨x, hx, rfl⟩, c.1, c.2⟩
        · exact ⟨_, mem_gspans.2 ⟨y, hy, rfl⟩, by simp only; omega, by simp only; omega⟩
      · exact ⟨_, mem_gspans.2 ⟨z, (ho z).2 (.inr (.inr hr)), rfl⟩, z1, z2⟩
  refine ⟨fun z hz => ?_, fun p => (h.cov p).trans (oldc p), fun p => (h.edg p).trans (olde p), fun z hz => ?_, fun i s hs hne => ?_⟩
  · rcases (hm z).1 hz with rfl | hr
    · omega
    · exact h.proper z ((ho z).2 (.inr (.inr hr)))
  · rcases (hm z).1 hz with rfl | hr
    · rcases hw with ⟨e, _⟩ | ⟨e, _⟩
      · exact (h.whose y hy).wider (by omega) mlo.2.1 mhi.2.1
      · exact (h.whose x hx).wider (by omega) mlo.1 mhi.1
    · exact h.whose z ((ho z).2 (.inr (.inr hr)))
  · obtain ⟨z, hz, z1, z2, z3, z4⟩ := h.told i s hs hne
    rcases (ho z).1 hz with rfl | rfl | hr
    · refine ⟨m, (hm m).2 (.inl rfl), by omega, by omega, ?_⟩
      rcases hw with ⟨e, ha⟩ | ⟨e, ha⟩
      · have : 0 ≤ y.who := by
          rcases ha with ha | ⟨ha, _⟩
          · omega
          · exact ha
        exact ⟨by omega, by rw [mw, e]; exact ha.trans' z3 z4⟩
      · exact ⟨by omega, by rw [mw, e]; exact z4⟩
    · refine ⟨m, (hm m).2 (.inl rfl), by omega, by omega, ?_⟩
      rcases hw with ⟨e, ha⟩ | ⟨e, ha⟩
      · exact ⟨by omega, by rw [mw, e]; exact z4⟩
      · have hx0 : 0 ≤ x.who := by
          rcases Int.lt_or_le x.who 0 with c | c
          · exact absurd (.inl c) ha
          · exact c
        obtain ⟨a, sa, ea, hsa, _⟩ := (h.whose x hx).resolve_left (by omega)
        obtain ⟨b, sb, eb, hsb, _⟩ := (h.whose z hy).resolve_left (by omega)
        rw [ea, eb] at ha
        refine ⟨by omega, ?_⟩
        rw [mw, e, ea]
        rcases Ahead.total hsa hsb ha with r | r
        · rw [r, ← eb]
          exact z4
        · exact r.trans' (by omega) (by rw [← eb]; exact z4)
    · exact ⟨z, (hm z).2 (.inr hr), z1, z2, z3, z4⟩

/-- The groups at first. -/
def firsts (own : List Sl) (k : Nat) : List Gp := (List.range k).filterMap fun (i : Nat) => own[i]?.map fun (s : Sl) => (⟨s.lo, s.hi, if s.a = s.h then -1 else (i : Int)⟩ : Gp)
theorem mem_firsts {own : List Sl} {g : Gp} : g ∈ firsts own own.length ↔ ∃ (i : Nat) (s : Sl), own[i]? = some s ∧ g = ⟨s.lo, s.hi, if s.a = s.h then -1 else (i : Int)⟩ := by
  unfold firsts
  simp only [List.mem_filterMap, List.mem_range, Option.map_eq_some_iff]
  constructor
  · rintro ⟨i, _, s, hs, rfl⟩
    exact ⟨i, s, hs, rfl⟩
  · rintro ⟨i, s, hs, rfl⟩
    exact ⟨i, (List.getElem?_eq_some_iff.1 hs).1, s, hs, rfl⟩
theorem Sl.lt_iff (s : Sl) : s.lo < s.hi ↔ s.a ≠ s.h := by unfold Sl.lo Sl.hi; split <;> omega
theorem Groups.first (own : List Sl) : Groups own (firsts own own.length) := by
  have hin : ∀ (i : Nat) (s : Sl), own[i]? = some s → (⟨s.lo, s.hi, if s.a = s.h then -1 else (i : Int)⟩ : Gp) ∈ firsts own own.length := fun i s hs => mem_firsts.2 ⟨i, s, hs, rfl⟩
  refine ⟨fun x hx => ?_, fun p => ⟨?_, ?_⟩, fun p => ⟨?_, ?_⟩, fun x hx => ?_, fun i s hs hne => ?_⟩
  · obtain ⟨i, s, _, rfl⟩ := mem_firsts.1 hx
    exact s.lo_hi
  · rintro ⟨z, hz, z1, z2⟩
    obtain ⟨s, hs, rfl⟩ := mem_spans.1 hz
    obtain ⟨i, hi⟩ := List.mem_iff_getElem?.1 hs
    exact ⟨_, mem_gspans.2 ⟨_, hin i s hi, rfl⟩, z1, z2⟩
  · rintro ⟨z, hz, z1, z2⟩
    obtain ⟨x, hx, rfl⟩ := mem_gspans.1 hz
    obtain ⟨i, s, hs, rfl⟩ := mem_firsts.1 hx
    exact ⟨_, spans_get hs, z1, z2⟩
  · rintro ⟨z, hz, z1, z2⟩
    obtain ⟨s, hs, rfl⟩ := mem_spans.1 hz
    obtain ⟨i, hi⟩ := List.mem_iff_getElem?.1 hs
    exact ⟨_, mem_gspans.2 ⟨_, hin i s hi, rfl⟩, z1, z2⟩
  · rintro ⟨z, hz, z1, z2⟩
    obtain ⟨x, hx, rfl⟩ := mem_gspans.1 hz
    obtain ⟨i, s, hs, rfl⟩ := mem_firsts.1 hx
    exact ⟨_, spans_get hs, z1, z2⟩
  · obtain ⟨i, s, hs, rfl⟩ := mem_firsts.1 hx
    by_cases e : s.a = s.h
    · exact .inl (by simp [e])
    · exact .inr ⟨i, s, by simp [e], hs, s.lt_iff.2 e, Int.le_refl _, Int.le_refl _⟩
  · have e := s.lt_iff.1 hne
    exact ⟨_, hin i s hs, Int.le_refl _, Int.le_refl _, by simp [e], .inl (by simp [e])⟩

/-- None touch. -/
def Apart (g : List Gp) : Prop := g.Pairwise fun x y => x.hi < y.lo ∨ y.hi < x.lo

theorem apart_one {g : List Gp} (h : Apart g) {x y : Gp} (hx : x ∈ g) (hy : y ∈ g) {p : Int} (h1 : x.lo ≤ p) (h2 : p ≤ x.hi) (h3 : y.lo ≤ p) (h4 : p ≤ y.hi) : x = y := by
  obtain ⟨i, hi⟩ := List.mem_iff_getElem?.1 hx
  obtain ⟨j, hj⟩ := List.mem_iff_getElem?.1 hy
  obtain ⟨hi', rfl⟩ := List.getElem?_eq_some_iff.1 hi
  obtain ⟨hj', rfl⟩ := List.getElem?_eq_some_iff.1 hj
  rcases Nat.lt_trichotomy i j with h' | rfl | h'
  · have := List.pairwise_iff_getElem.1 h i j hi' hj' h'
    omega
  · rfl
  · have := List.pairwise_iff_getElem.1 h j i hj' hi' h'
    omega

/-- Whose way a group goes, at last. -/
def Sure (own : List Sl) (x : Gp) : Prop := (x.who < 0 ∧ ∀ i s, ¬ First own x.lo x.hi i s) ∨ ∃ (i : Nat) (s : Sl), x.who = i ∧ First own x.lo x.hi i s

theorem Groups.sure {own : List Sl} {g : List Gp} (h : Groups own g) (ha : Apart g) : ∀ x ∈ g, Sure own x := by
  intro x hx
  have key : ∀ i s, own[i]? = some s → s.lo < s.hi → x.lo ≤ s.lo → s.hi ≤ x.hi → Told own i s x := by
    intro i s hs hne h1 h2
    obtain ⟨y, hy, ht⟩ := h.told i s hs hne
    have : x = y := apart_one ha hx hy (p := s.lo) h1 (by omega) ht.1 (by have := ht.2.1; omega)
    rw [this]
    exact ht
  rcases Int.lt_or_le x.who 0 with c | c
  · refine .inl ⟨c, fun i s hf => ?_⟩
    have := (key i s hf.1 hf.2.1 hf.2.2.1 hf.2.2.2.1).2.2.1
    omega
  · obtain ⟨i, s, e, hs, hne, h1, h2⟩ := (h.whose x hx).resolve_left (by omega)
    refine .inr ⟨i, s, e, hs, hne, h1, h2, fun j t ht hne' h3 h4 => ?_⟩
    rcases (key j t ht hne' h3 h4).2.2.2 with r | r
    · exact .inl (by omega)
    · rcases r with r | ⟨_, a, b, u, v, e1, e2, hu, hv, hl⟩
      · omega
      · have : a = i := by omega
        subst this
        have : b = j := by omega
        subst this
        have := hs.symm.trans hu
        cases this
        have := ht.symm.trans hv
        cases this
        exact .inr hl

/-- The selection that a group becomes. -/
def sel (own : List Sl) (x : Gp) : Sl :=
  match (if 0 ≤ x.who then own[x.who.toNat]? else none) with
  | some s => if s.h < s.a then ⟨x.hi, x.lo⟩ else ⟨x.lo, x.hi⟩
  | none => ⟨x.lo, x.hi⟩

theorem sel_span {own : List Sl} {x : Gp} (h : x.lo ≤ x.hi) : (sel own x).lo = x.lo ∧ (sel own x).hi = x.hi := by
  unfold sel
  split
  · split
    · unfold Sl.lo Sl.hi
      simp only
      constructor <;> split <;> omega
    · unfold Sl.lo Sl.hi
      simp only
      constructor <;> split <;> omega
  · unfold Sl.lo Sl.hi
    simp only
    constructor <;> split <;> omega

theorem sel_back {own : List Sl} {x : Gp} (h : x.lo ≤ x.hi) (hs : Sure own x) : (sel own x).h < (sel own x).a ↔ Back own x.lo x.hi := by
  rcases hs with ⟨c, hn⟩ | ⟨i, s, e, hf⟩
  · unfold sel
    rw [if_neg (by omega)]
    simp only
    constructor
    · intro h'
      omega
    · rintro ⟨i, s, hf, _⟩
      exact absurd hf (hn i s)
  · have hi : x.who.toNat = i := by omega
    unfold sel
    rw [if_pos (by omega), hi, hf.1]
    simp only
    have hne := hf.2.1
    have h1 := hf.2.2.1
    have h2 := hf.2.2.2.1
    constructor
    · intro hb
      refine ⟨i, s, hf, ?_⟩
      by_cases c : s.h < s.a
      · exact c
      · rw [if_neg c] at hb
        simp only at hb
        omega
    · rintro ⟨j, t, hf', hb⟩
      rw [(hf.one hf').2, if_pos hb]
      simp only
      omega

/-- Chosen so far, and left. -/
structure Half (own : List Sl) (out : List Sl) (g : List Gp) : Prop where
  proper : ∀ x ∈ g, x.lo ≤ x.hi
  cov : ∀ p, Cov (spans own) p ↔ Cov (spans out) p ∨ Cov (gspans g) p
  edg : ∀ p, Edg (spans own) p ↔ Edg (spans out) p ∨ Edg (gspans g) p
  gaps : Gaps (spans out)
  apart : Apart g
  over : ∀ x ∈ out, ∀ y ∈ g, x.hi < y.lo
  dir : ∀ x ∈ out, (x.h < x.a ↔ Back own x.lo x.hi)
  sure : ∀ x ∈ g, Sure own x

theorem Half.start {own : List Sl} {g : List Gp} (h : Groups own g) (ha : Apart g) : Half own [] g :=
  ⟨h.proper, fun p => (h.cov p).trans ⟨.inr, fun z => z.resolve_left (by rintro ⟨_, h, _⟩; cases h)⟩, fun p => (h.edg p).trans ⟨.inr, fun z => z.resolve_left (by rintro ⟨_, h, _⟩; cases h)⟩,
    List.Pairwise.nil, ha, (fun _ h => by cases h), (fun _ h => by cases h), h.sure ha⟩

theorem Half.done {own out : List Sl} (h : Half own out []) : Norm own out :=
  ⟨fun p => (h.cov p).trans ⟨fun z => z.resolve_right (by rintro ⟨_, h, _⟩; cases h), .inl⟩, fun p => (h.edg p).trans ⟨fun z => z.resolve_right (by rintro ⟨_, h, _⟩; cases h), .inl⟩, h.gaps, h.dir⟩

theorem Half.next {own out : List Sl} {A B : List Gp} {x : Gp} (h : Half own out (A ++ x :: B)) (hb : ∀ y ∈ A ++ x :: B, x.lo ≤ y.lo) : Half own (out ++ [sel own x]) (A ++ B) := by
  have hx : x ∈ A ++ x :: B := by simp
  have px := h.proper x hx
  obtain ⟨sl, sh⟩ := sel_span (own := own) px
  have ho : ∀ z, z ∈ A ++ x :: B ↔ z = x ∨ z ∈ A ++ B := fun z => by
    simp only [List.mem_append, List.mem_cons]
    grind
  have hsp : spans (out ++ [sel own x]) = spans out ++ [(x.lo, x.hi)] := by simp [spans, sl, sh]
  have hap : Apart (A ++ B) := h.apart.sublist (List.Sublist.append_left (List.sublist_cons_self x B) A)
  have hov : ∀ y ∈ A ++ B, x.hi < y.lo := by
    intro y hy
    have hpw := h.apart
    unfold Apart at hpw
    rw [List.pairwise_append] at hpw
    obtain ⟨_, p2, p3⟩ := hpw
    have hle := hb y ((ho y).2 (.inr hy))
    have py := h.proper y ((ho y).2 (.inr hy))
    rcases List.mem_append.1 hy with hy | hy
    · have := p3 y hy x List.mem_cons_self
      omega
    · have := (List.pairwise_cons.1 p2).1 y hy
      omega
  refine ⟨fun y hy => h.proper y ((ho y).2 (.inr hy)), fun p => (h.cov p).trans ?_, fun p => (h.edg p).trans ?_, ?_, hap, ?_, ?_, fun y hy => h.sure y ((ho y).2 (.inr hy))⟩
  · rw [hsp]
    constructor
    · rintro (⟨z, hz, z1, z2⟩ | ⟨z, hz, z1, z2⟩)
      · exact .inl ⟨z, List.mem_append_left _ hz, z1, z2⟩
      · obtain ⟨y, hy, rfl⟩ := mem_gspans.1 hz
        rcases (ho y).1 hy with rfl | hy
        · exact .inl ⟨_, List.mem_append_right _ List.mem_cons_self, z1, z2⟩
        · exact .inr ⟨_, mem_gspans.2 ⟨y, hy, rfl⟩, z1, z2⟩
    · rintro (⟨z, hz, z1, z2⟩ | ⟨z, hz, z1, z2⟩)
      · rcases List.mem_append.1 hz with hz | hz
        · exact .inl ⟨z, hz, z1, z2⟩
        · obtain rfl := List.mem_singleton.1 hz
          exact .inr ⟨_, mem_gspans.2 ⟨x, hx, rfl⟩, z1, z2⟩
      · obtain ⟨y, hy, rfl⟩ := mem_gspans.1 hz
        exact .inr ⟨_, mem_gspans.2 ⟨y, (ho y).2 (.inr hy), rfl⟩, z1, z2⟩
  · rw [hsp]
    constructor
    · rintro (⟨z, hz, z1, z2⟩ | ⟨z, hz, z1, z2⟩)
      · exact .inl ⟨z, List.mem_append_left _ hz, z1, z2⟩
      · obtain ⟨y, hy, rfl⟩ := mem_gspans.1 hz
        rcases (ho y).1 hy with rfl | hy
        · exact .inl ⟨_, List.mem_append_right _ List.mem_cons_self, z1, z2⟩
        · exact .inr ⟨_, mem_gspans.2 ⟨y, hy, rfl⟩, z1, z2⟩
    · rintro (⟨z, hz, z1, z2⟩ | ⟨z, hz, z1, z2⟩)
      · rcases List.mem_append.1 hz with hz | hz
        · exact .inl ⟨z, hz, z1, z2⟩
        · obtain rfl := List.mem_singleton.1 hz
          exact .inr ⟨_, mem_gspans.2 ⟨x, hx, rfl⟩, z1, z2⟩
      · obtain ⟨y, hy, rfl⟩ := mem_gspans.1 hz
        exact .inr ⟨_, mem_gspans.2 ⟨y, (ho y).2 (.inr hy), rfl⟩, z1, z2⟩
  · rw [hsp]
    refine List.pairwise_append.2 ⟨h.gaps, List.pairwise_singleton _ _, fun z hz y hy => ?_⟩
    obtain rfl := List.mem_singleton.1 hy
    obtain ⟨s, hs, rfl⟩ := mem_spans.1 hz
    exact h.over s hs x hx
  · intro z hz y hy
    rcases List.mem_append.1 hz with hz | hz
    · exact h.over z hz y ((ho y).2 (.inr hy))
    · obtain rfl := List.mem_singleton.1 hz
      rw [sh]
      exact hov y hy
  · intro z hz
    rcases List.mem_append.1 hz with hz | hz
    · exact h.dir z hz
    · obtain rfl := List.mem_singleton.1 hz
      rw [sl, sh]
      exact sel_back px (h.sure x hx)

end Go.Proofs.Ytdpmkfjomkemhaa
