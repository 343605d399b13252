/- What the reference's Normal answers, and small facts for its walk. No walk. -/
import Derived.Test.YtdpmkfjomkemhaaAheadB
import Derived.OneCell
namespace Go.Proofs.Ytdpmkfjomkemhaa
open Go Go.RowKit

def clamp (m : Int) (s : Sl) : Sl := ⟨win s.a m, win s.h m⟩
def ownOf (m : Int) (l : List Sl) : List Sl := l.map (clamp m)
theorem ownOf_get {m : Int} {l : List Sl} {k : Nat} {s : Sl} (h : l[k]? = some s) : (ownOf m l)[k]? = some (clamp m s) := by simp [ownOf, h]
theorem firsts_snoc {own : List Sl} {k : Nat} {s : Sl} (h : own[k]? = some s) : firsts own (k + 1) = firsts own k ++ [⟨s.lo, s.hi, if s.a = s.h then -1 else (k : Int)⟩] := by
  unfold firsts
  rw [List.range_succ, List.filterMap_append]
  simp [h]
theorem firsts_len {own : List Sl} {k : Nat} (h : k ≤ own.length) : (firsts own k).length = k := by
  induction k with
  | zero => simp [firsts]
  | succ k ih =>
    rw [firsts_snoc (List.getElem?_eq_getElem (show k < own.length by omega)), List.length_append, ih (by omega)]
    rfl

theorem new_cell (w : World) (cs : List Value) (e : TypeId) (j : Nat) (u : Value) (h : cs[j]? = some u) : (w.alloc (.cells cs.toArray e)).drew.cell? ⟨w.heap.size, j, none⟩ = some u := by
  have := new_cells w cs e j u h
  rw [Addr.add_lit, Nat.zero_add] at this
  exact this
theorem drewN_below (w : World) (n : Nat) : Below w.heap.size w (w.drewN n) := ⟨rfl, rfl, rfl, Nat.le_refl _, fun _ _ => rfl⟩
theorem set_same {gs : List Gp} {p : Nat} {x : Gp} (h : gs[p]? = some x) : gs.set p ⟨x.lo, x.hi, x.who⟩ = gs := by
  obtain ⟨hp, rfl⟩ := List.getElem?_eq_some_iff.1 h
  exact List.set_getElem_self hp
/-- Selections made normal; of none one at 0. -/
def Made (own out : List Sl) : Prop := (own = [] ∧ out = [⟨0, 0⟩]) ∨ (own ≠ [] ∧ Norm own out)
def gp3 (x : Gp) : Nat → Value := fun i => if i = 0 then .int .i64 x.lo else if i = 1 then .int .i64 x.hi else .int .i64 x.who
theorem row3 (w : World) (x : Gp) : (w.alloc (Obj.cells #[.int .i64 x.lo, .int .i64 x.hi, .int .i64 x.who] 43)).rowIs w.heap.size 43 3 (gp3 x) :=
  World.rowIs_alloc w _ 43 _ fun i hi => by
    match i, hi with
    | 0, _ => rfl
    | 1, _ => rfl
    | 2, _ => rfl
def sl2 (a h : Int) : Nat → Value := fun i => if i = 0 then .int .i64 a else .int .i64 h
theorem row2 (w : World) (a h : Int) : (w.alloc (Obj.cells #[.int .i64 a, .int .i64 h] 24)).rowIs w.heap.size 24 2 (sl2 a h) :=
  World.rowIs_alloc w _ 24 _ fun i hi => by
    match i, hi with
    | 0, _ => rfl
    | 1, _ => rfl
theorem own_lenV {w : World} {B e s n : Nat} {v : Value} {xs : List Value} (h : w.ownsRow B e s v n xs) : lenV v = n := by
  rcases h.2 with ⟨rfl, h0⟩ | ⟨g6, c6, _, rfl, _⟩
  · exact h0.symm
  · rfl
theorem norm_none {out : List Sl} (h : Norm [] out) : out = [] := by
  cases out with
  | nil => rfl
  | cons s l =>
    obtain ⟨x, hx, _⟩ := (h.cov s.lo).2 ⟨(s.lo, s.hi), List.mem_cons_self, Int.le_refl _, s.lo_hi⟩
    cases hx
/-- What the reference's Normal answers. -/
def GotN (w : World) (own : List Sl) : Ending → World → Prop := fun e w' => ∃ v out, e = .returned v ∧ Made own out ∧ w'.ownsRow w.heap.size 24 2 v out.length (flat Sl.cells out) ∧ Below w.heap.size w w'
theorem own_mono {w : World} {B B' e size : Nat} {v : Value} {n : Nat} {xs : List Value} (h : w.ownsRow B e size v n xs) (hb : B' ≤ B) : w.ownsRow B' e size v n xs := by
  refine ⟨h.1, ?_⟩
  rcases h.2 with h0 | ⟨g, cap, cur, rfl, hB, hr⟩
  · exact .inl h0
  · exact .inr ⟨g, cap, cur, rfl, Nat.le_trans hb hB, hr⟩
theorem own_ne {w : World} {B B' e e' s s' n n' : Nat} {v v' : Value} {xs xs' : List Value} (h : w.ownsRow B e s v n xs) (h' : w.ownsRow B' e' s' v' n' xs') (he : e ≠ e') : v.ownBlock = none ∨ v.ownBlock ≠ v'.ownBlock := by
  rcases h.2 with ⟨rfl, _⟩ | ⟨g, cap, cur, rfl, _, hg, _⟩
  · exact .inl rfl
  · rcases h'.2 with ⟨rfl, _⟩ | ⟨g', cap', cur', rfl, _, hg', _⟩
    · exact .inr (by simp [Value.ownBlock])
    · refine .inr fun e0 => ?_
      simp only [Value.ownBlock, Option.some.injEq] at e0
      subst e0
      rw [hg] at hg'
      cases hg'
      exact he rfl

theorem own_apart {w : World} {B g n c n' : Nat} {v : Value} {xs xs' : List Value} (h : w.ownsRow B 24 2 v n xs) (h' : w.ownsRow B 43 3 (.slice (some ⟨g, 0, none⟩) n' c) n' xs') {i : Nat} : v.ownBlock ≠ some (⟨g, i, none⟩ : Addr).block := by
  rcases own_ne h h' (by decide) with e | e
  · rw [e]; simp
  · exact e

/-- What Add answers. -/
def GotA (w : World) (own : List Sl) : Ending → World → Prop := fun e w' => ∃ out v n c, Made own out ∧ Below w.heap.size w w' ∧
  ((16 < out.length ∧ n = 0 ∧ e = .returned (.tuple #[.slice v 0 c, .int .i64 3])) ∨
   (¬ 16 < out.length ∧ n = out.length ∧ w'.ownsRow w.heap.size 24 2 (.slice v n c) n (flat Sl.cells out) ∧ e = .returned (.tuple #[.slice v n c, .int .i64 0])))
theorem Made.one {own a b : List Sl} (ha : Made own a) (hb : Made own b) : a = b := by
  rcases ha with ⟨h, rfl⟩ | ⟨h, ha⟩
  · rcases hb with ⟨_, rfl⟩ | ⟨h', _⟩
    · rfl
    · exact absurd h h'
  · rcases hb with ⟨h', _⟩ | ⟨_, hb⟩
    · exact absurd h' h
    · exact ha.one hb

theorem inside_len : ∀ (out own : List Sl), Gaps (spans out) → (∀ x ∈ out, ∃ s ∈ own, x.lo ≤ s.lo ∧ s.hi ≤ x.hi) → out.length ≤ own.length
  | [], _, _, _ => Nat.zero_le _
  | x :: out, own, hg, h => by
    have hg1 := (List.pairwise_cons.1 hg).1
    obtain ⟨s, hs, s1, s2⟩ := h x List.mem_cons_self
    have ih := inside_len out (own.filter fun s => !decide (x.lo ≤ s.lo ∧ s.hi ≤ x.hi)) (List.pairwise_cons.1 hg).2 (fun y hy => by
      obtain ⟨t, ht, t1, t2⟩ := h y (List.mem_cons_of_mem _ hy)
      refine ⟨t, List.mem_filter.2 ⟨ht, ?_⟩, t1, t2⟩
      have h1 := hg1 (y.lo, y.hi) (mem_spans.2 ⟨y, hy, rfl⟩)
      have h2 := t.lo_hi
      simp only at h1
      rw [decide_eq_false (by omega)]
      rfl)
    have hlt : (own.filter fun s => !decide (x.lo ≤ s.lo ∧ s.hi ≤ x.hi)).length < own.length := by
      rw [List.length_filter_lt_length_iff_exists]
      exact ⟨s, hs, by rw [decide_eq_true ⟨s1, s2⟩]; decide⟩
    rw [List.length_cons]
    omega
theorem norm_len {own out : List Sl} (h : Norm own out) : out.length ≤ own.length := by
  refine inside_len out own h.gaps fun x hx => ?_
  have hm : (x.lo, x.hi) ∈ spans out := mem_spans.2 ⟨x, hx, rfl⟩
  obtain ⟨z, hz, z1, z2⟩ := (h.cov x.lo).2 ⟨_, hm, Int.le_refl _, x.lo_hi⟩
  obtain ⟨t, ht, rfl⟩ := mem_spans.1 hz
  obtain ⟨y, hy, y1, y2⟩ := h.within ht
  simp only at z1 z2
  have hxy := x.lo_hi
  have e : x = y := by
    obtain ⟨i, hi⟩ := List.mem_iff_getElem?.1 hx
    obtain ⟨j, hj⟩ := List.mem_iff_getElem?.1 hy
    obtain ⟨hi', rfl⟩ := List.getElem?_eq_some_iff.1 hi
    obtain ⟨hj', rfl⟩ := List.getElem?_eq_some_iff.1 hj
    have hg := h.gaps
    rcases Nat.lt_trichotomy i j with h' | rfl | h'
    · have := List.pairwise_iff_getElem.1 hg i j (by simpa [spans] using hi') (by simpa [spans] using hj') h'
      simp [spans] at this
      omega
    · rfl
    · have := List.pairwise_iff_getElem.1 hg j i (by simpa [spans] using hj') (by simpa [spans] using hi') h'
      simp [spans] at this
      omega
  rw [e]
  exact ⟨t, ht, y1, y2⟩
theorem made_len {own out : List Sl} (h : Made own out) : out.length ≤ own.length + 1 := by
  rcases h with ⟨_, rfl⟩ | ⟨_, hn⟩
  · exact Nat.le_add_left _ _
  · exact Nat.le_succ_of_le (norm_len hn)
theorem made_one_len {own out : List Sl} (h : Made own out) : 0 < out.length := by
  rcases h with ⟨_, rfl⟩ | ⟨h, hn⟩
  · exact Nat.zero_lt_one
  · cases out with
    | nil => exact absurd hn.nil h
    | cons x l => exact Nat.zero_lt_succ _

end Go.Proofs.Ytdpmkfjomkemhaa
