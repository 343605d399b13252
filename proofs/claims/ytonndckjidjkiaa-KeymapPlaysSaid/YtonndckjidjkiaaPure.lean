/- Lists of bindings: which command a key has in them, what changes when one is set, appended, taken out. No walk. -/
import Derived.Test.YtonndckjidjkiaaBase
namespace Go.Proofs.Ytonndckjidjkiaa
open Go Go.RowKit

/-- A binding: a key with its command. -/
structure Bn where
  k : Int
  r : Int
  m : Int
  c : Int
def Bn.ky (b : Bn) : Ky := ⟨b.k, b.r, b.m⟩
def Ky.with (x : Ky) (c : Int) : Bn := ⟨x.k, x.r, x.m, c⟩
theorem Ky.with_ky (x : Ky) (c : Int) : (x.with c).ky = x := rfl

/-- The command that a list has for a key. -/
def look (x : Ky) (bs : List Bn) : Option Int := (bs.find? fun b => decide (b.ky = x)).map Bn.c
/-- The command of a key. -/
def findZ (x : Ky) (bs : List Bn) : Int := match look x bs with
  | some c => c
  | none => if typedB x = true then 1 else 0

theorem look_nil (x : Ky) : look x [] = none := rfl
theorem look_cons (x : Ky) (b : Bn) (bs : List Bn) : look x (b :: bs) = if b.ky = x then some b.c else look x bs := by
  unfold look
  rw [List.find?_cons]
  by_cases h : b.ky = x <;> simp [h]
theorem look_append (x : Ky) (p q : List Bn) : look x (p ++ q) = match look x p with | some c => some c | none => look x q := by
  induction p with
  | nil => simp [look_nil]
  | cons b p ih =>
    rw [List.cons_append, look_cons, look_cons]
    by_cases h : b.ky = x
    · simp [h]
    · simp [h, ih]
theorem look_none {x : Ky} {bs : List Bn} : look x bs = none ↔ ∀ b ∈ bs, b.ky ≠ x := by
  unfold look
  simp

/-- Where a key stands. -/
def atZ (x : Ky) (bs : List Bn) : Int := match bs.findIdx? (fun b => decide (b.ky = x)) with
  | some k => (k : Int)
  | none => -1
theorem atZ_hit {x : Ky} {bs : List Bn} {k : Nat} {y : Bn} (h : bs[k]? = some y) (hy : y.ky = x) (hn : ∀ (j : Nat) (z : Bn), j < k → bs[j]? = some z → z.ky ≠ x) : atZ x bs = k := by
  unfold atZ
  have : bs.findIdx? (fun b => decide (b.ky = x)) = some k := by
    rw [List.findIdx?_eq_some_iff_getElem]
    obtain ⟨hlt, rfl⟩ := List.getElem?_eq_some_iff.1 h
    refine ⟨hlt, by simpa using hy, fun j hj => ?_⟩
    simpa using hn j _ hj (List.getElem?_eq_getElem (by omega))
  rw [this]
theorem atZ_miss {x : Ky} {bs : List Bn} (hn : ∀ (j : Nat) (z : Bn), bs[j]? = some z → z.ky ≠ x) : atZ x bs = -1 := by
  unfold atZ
  have : bs.findIdx? (fun b => decide (b.ky = x)) = none := by
    rw [List.findIdx?_eq_none_iff]
    intro z hz
    obtain ⟨j, hj⟩ := List.mem_iff_getElem?.1 hz
    simpa using hn j z hj
  rw [this]

/-- A key either is in no binding, or in one that stands behind others. -/
theorem atZ_cases (x : Ky) (bs : List Bn) : (atZ x bs = -1 ∧ look x bs = none) ∨ ∃ p b q, bs = p ++ b :: q ∧ b.ky = x ∧ look x p = none ∧ atZ x bs = (p.length : Nat) ∧ look x bs = some b.c := by
  cases h : bs.findIdx? (fun b => decide (b.ky = x)) with
  | none =>
    have h' := h
    rw [List.findIdx?_eq_none_iff] at h
    refine .inl ⟨by unfold atZ; rw [h'], look_none.2 fun z hz => by simpa using h z hz⟩
  | some k =>
    have h' := h
    rw [List.findIdx?_eq_some_iff_getElem] at h
    obtain ⟨hlt, hy, hall⟩ := h
    have hsplit : bs = bs.take k ++ bs[k] :: bs.drop (k + 1) := by simp
    have hnone : look x (bs.take k) = none := look_none.2 fun z hz => by
      obtain ⟨j, hj⟩ := List.mem_iff_getElem?.1 hz
      rw [List.getElem?_take] at hj
      split at hj
      · rename_i hjk
        obtain ⟨hl, rfl⟩ := List.getElem?_eq_some_iff.1 hj
        simpa using hall j hjk
      · cases hj
    have hk : bs[k].ky = x := by simpa using hy
    refine .inr ⟨bs.take k, bs[k], bs.drop (k + 1), hsplit, hk, hnone, ?_, ?_⟩
    · unfold atZ
      rw [h', List.length_take, Nat.min_eq_left (Nat.le_of_lt hlt)]
    · conv => lhs; rw [hsplit]
      rw [look_append, hnone, look_cons, if_pos hk]

/-- No key twice. -/
def Once (bs : List Bn) : Prop := bs.Pairwise fun a b => a.ky ≠ b.ky

/-- Both lists say the same of every key. -/
structure Alike (bs ls : List Bn) : Prop where
  len : bs.length = ls.length
  says : ∀ x, look x bs = look x ls
  once : Once bs
  once' : Once ls

theorem Alike.find {bs ls : List Bn} (h : Alike bs ls) (x : Ky) : findZ x bs = findZ x ls := by
  unfold findZ
  rw [h.says]
theorem look_atZ {x : Ky} {bs : List Bn} : atZ x bs = -1 ↔ look x bs = none := by
  rcases atZ_cases x bs with ⟨h1, h2⟩ | ⟨p, b, q, h1, h2, h3, h4, h5⟩
  · simp [h1, h2]
  · rw [h4, h5]
    constructor
    · intro h; omega
    · intro h; cases h

theorem once_split {p q : List Bn} {b : Bn} (h : Once (p ++ b :: q)) : look b.ky p = none ∧ look b.ky q = none ∧ Once (p ++ q) := by
  unfold Once at h
  rw [List.pairwise_append, List.pairwise_cons] at h
  obtain ⟨hp, ⟨hb, hq⟩, hpq⟩ := h
  refine ⟨look_none.2 fun y hy => hpq y hy b (by simp), look_none.2 fun y hy => fun e => hb y hy e.symm, ?_⟩
  unfold Once
  rw [List.pairwise_append]
  exact ⟨hp, hq, fun a ha c hc => hpq a ha c (by simp [hc])⟩
theorem once_append {bs : List Bn} {b : Bn} (h : Once bs) (hn : look b.ky bs = none) : Once (bs ++ [b]) := by
  unfold Once
  rw [List.pairwise_append]
  refine ⟨h, List.pairwise_singleton .., fun a ha c hc => ?_⟩
  rw [List.mem_singleton.1 hc]
  exact look_none.1 hn a ha
theorem once_set {p q : List Bn} {b c : Bn} (h : Once (p ++ b :: q)) (e : c.ky = b.ky) : Once (p ++ c :: q) := by
  unfold Once at h ⊢
  rw [List.pairwise_append, List.pairwise_cons] at h ⊢
  obtain ⟨hp, ⟨hb, hq⟩, hpq⟩ := h
  refine ⟨hp, ⟨fun y hy => by rw [e]; exact hb y hy, hq⟩, fun a ha y hy => ?_⟩
  rcases List.mem_cons.1 hy with rfl | hy
  · rw [e]; exact hpq a ha b (by simp)
  · exact hpq a ha y (by simp [hy])

theorem look_out {p q : List Bn} {b : Bn} (h : Once (p ++ b :: q)) (x : Ky) : look x (p ++ q) = if b.ky = x then none else look x (p ++ b :: q) := by
  obtain ⟨h1, h2, _⟩ := once_split h
  by_cases e : b.ky = x
  · rw [if_pos e, look_append, ← e, h1, h2]
  · rw [if_neg e, look_append, look_append, look_cons, if_neg e]
theorem look_set {p q : List Bn} {b : Bn} (x : Ky) (c : Int) (h : Once (p ++ b :: q)) : look x (p ++ b.ky.with c :: q) = if b.ky = x then some c else look x (p ++ b :: q) := by
  obtain ⟨h1, h2, _⟩ := once_split h
  by_cases e : b.ky = x
  · rw [if_pos e, look_append, ← e, h1, look_cons, if_pos (Ky.with_ky _ _)]
    rfl
  · rw [if_neg e, look_append, look_append, look_cons, look_cons, if_neg e, if_neg (show ¬ (b.ky.with c).ky = x from e)]
theorem look_more {bs : List Bn} (y x : Ky) (c : Int) (h : look y bs = none) : look x (bs ++ [y.with c]) = if y = x then some c else look x bs := by
  rw [look_append, look_cons, look_nil]
  by_cases e : y = x
  · subst e
    rw [h, if_pos rfl]
    simp [Ky.with_ky]
    rfl
  · rw [if_neg e, Ky.with_ky, if_neg e]
    cases look x bs <;> rfl

theorem erase_split (p q : List Bn) (b : Bn) : (p ++ b :: q).eraseIdx p.length = p ++ q := by
  rw [List.eraseIdx_append_of_length_le (Nat.le_refl _)]
  simp
theorem set_split (p q : List Bn) (b c : Bn) : (p ++ b :: q).set p.length c = p ++ c :: q := by
  rw [List.set_append_right _ _ (Nat.le_refl _)]
  simp

/-- A key that is in both: dropped. -/
theorem Alike.drop {bs ls : List Bn} (h : Alike bs ls) {x : Ky} {i j : Nat} (hi : atZ x bs = i) (hj : atZ x ls = j) : Alike (bs.eraseIdx i) (ls.eraseIdx j) := by
  rcases atZ_cases x bs with ⟨h1, _⟩ | ⟨p, b, q, rfl, h2, h3, h4, h5⟩
  · omega
  rcases atZ_cases x ls with ⟨h1, _⟩ | ⟨p', b', q', rfl, k2, k3, k4, k5⟩
  · omega
  obtain rfl : i = p.length := by omega
  obtain rfl : j = p'.length := by omega
  have hl := h.len
  rw [erase_split, erase_split]
  refine ⟨by simp at hl ⊢; omega, fun z => ?_, (once_split h.once).2.2, (once_split h.once').2.2⟩
  rw [look_out h.once, look_out h.once', h2, k2, h.says]
/-- A key that is in neither: bound. -/
theorem Alike.more {bs ls : List Bn} (h : Alike bs ls) {x : Ky} (c : Int) (hn : look x ls = none) : Alike (bs ++ [x.with c]) (ls ++ [x.with c]) := by
  have hb : look x bs = none := by rw [h.says, hn]
  refine ⟨by simp [h.len], fun z => ?_, once_append h.once hb, once_append h.once' hn⟩
  rw [look_more _ _ _ hb, look_more _ _ _ hn, h.says]
/-- A key that is in both: bound anew, in its place here, at the end there. -/
theorem Alike.anew {bs ls : List Bn} (h : Alike bs ls) {x : Ky} {i j : Nat} (c : Int) (hi : atZ x bs = i) (hj : atZ x ls = j) : Alike (bs.set i (x.with c)) (ls.eraseIdx j ++ [x.with c]) := by
  rcases atZ_cases x bs with ⟨h1, _⟩ | ⟨p, b, q, rfl, h2, h3, h4, h5⟩
  · omega
  rcases atZ_cases x ls with ⟨h1, _⟩ | ⟨p', b', q', rfl, k2, k3, k4, k5⟩
  · omega
  obtain rfl : i = p.length := by omega
  obtain rfl : j = p'.length := by omega
  have hl := h.len
  obtain ⟨o1, o2, o3⟩ := once_split h.once'
  have hn : look x (p' ++ q') = none := by rw [look_append, ← k2, o1, o2]
  rw [erase_split, set_split]
  refine ⟨by simp at hl ⊢; omega, fun z => ?_, once_set h.once (by rw [h2]; rfl), once_append o3 hn⟩
  rw [← h2, look_set _ _ h.once, h2, look_more _ _ _ hn, look_out h.once', k2, h.says]
  by_cases e : x = z <;> simp [e]
end Go.Proofs.Ytonndckjidjkiaa
