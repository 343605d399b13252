/- What stays of a screen, whatever tokens do to it: whole rows of one width, a place in it, a style from 0 to 7; and its cells as one list. No walk. -/
import Derived.Test.YtnbpkabnaipimaaGreatDoorPaint
namespace Go.Proofs.YtnbpkabnaipimaaGreatDoor

section
variable (W : Int → Int) (Ok : Int → Bool)

theorem RowOk.append {a b : List Cl} (h : RowOk W Ok a) (k : RowOk W Ok b) : RowOk W Ok (a ++ b) := by
  induction h with
  | nil => exact k
  | one c t h1 h2 h3 h4 _ ih => exact .one c _ h1 h2 h3 h4 ih
  | two c t h1 h2 h3 h4 _ ih => exact .two c _ h1 h2 h3 h4 ih
/-- Whole cells, cut ahead of a cell that is no second half, are whole on both sides. -/
theorem RowOk.cut {l : List Cl} (h : RowOk W Ok l) : ∀ {d t : List Cl} {c : Cl}, l = d ++ c :: t → c.r ≠ 0 → RowOk W Ok d ∧ RowOk W Ok (c :: t) := by
  induction h with
  | nil => intro d t c e; simp at e
  | one c0 t0 h1 h2 h3 h4 h5 ih =>
    intro d t c e hc
    cases d with
    | nil =>
      rw [List.nil_append] at e
      exact ⟨.nil, e ▸ .one c0 t0 h1 h2 h3 h4 h5⟩
    | cons x d =>
      rw [List.cons_append, List.cons.injEq] at e
      obtain ⟨rfl, e⟩ := e
      obtain ⟨k1, k2⟩ := ih e hc
      exact ⟨.one _ _ h1 h2 h3 h4 k1, k2⟩
  | two c0 t0 h1 h2 h3 h4 h5 ih =>
    intro d t c e hc
    match d, e with
    | [], e =>
      rw [List.nil_append] at e
      exact ⟨.nil, e ▸ .two c0 t0 h1 h2 h3 h4 h5⟩
    | [x], e =>
      simp only [List.cons_append, List.nil_append, List.cons.injEq] at e
      exact absurd (by rw [← e.2.1]) hc
    | x :: y :: d, e =>
      simp only [List.cons_append, List.cons.injEq] at e
      obtain ⟨rfl, rfl, e⟩ := e
      obtain ⟨k1, k2⟩ := ih e hc
      exact ⟨.two _ _ h1 h2 h3 h4 k1, k2⟩

variable (h0 : Ok 0 = false) (hb : Ok 32 = true ∧ W 32 = 1)
include h0

theorem RowOk.head {c : Cl} {t : List Cl} (h : RowOk W Ok (c :: t)) : c.r ≠ 0 := by
  cases h with
  | one _ _ h1 => exact ok_ne Ok h0 h1
  | two _ _ h1 => exact ok_ne Ok h0 h1
omit h0 in
/-- Behind a cell of width 1 there are whole cells. -/
theorem RowOk.tail1 {c : Cl} {t : List Cl} (h : RowOk W Ok (c :: t)) (hw : W c.r = 1) : RowOk W Ok t := by
  cases h with
  | one _ _ _ _ _ _ h5 => exact h5
  | two _ _ _ h2 => omega
omit h0 in
theorem RowOk.tail2 {c : Cl} {t : List Cl} (h : RowOk W Ok (c :: t)) (hw : W c.r = 2) : ∃ u, t = ⟨0, c.s⟩ :: u ∧ RowOk W Ok u := by
  cases h with
  | one _ _ _ h2 => omega
  | two _ u _ _ _ _ h5 => exact ⟨u, rfl, h5⟩

/-- What stays of a screen of a size. -/
structure Inv (r c : Nat) (s : Scr) : Prop where
  rows : s.g.length = r
  len : ∀ x ∈ s.g, x.length = c
  ok : ∀ x ∈ s.g, RowOk W Ok x
  row : s.row < r
  col : s.col ≤ c
  st : 0 ≤ s.st ∧ s.st ≤ 7

omit h0 in
theorem Inv.set {r c : Nat} {s : Scr} (h : Inv W Ok r c s) {l m : List Cl} {k : Nat} (hg : s.g[s.row]? = some l) (hl : m.length = l.length) (hm : RowOk W Ok m) (hk : k ≤ m.length) : Inv W Ok r c ⟨s.g.set s.row m, s.row, k, s.st⟩ := by
  have hc : m.length = c := by rw [hl]; exact h.len _ (List.mem_of_getElem? hg)
  refine ⟨by simp [h.rows], fun x hx => ?_, fun x hx => ?_, h.row, by simpa [← hc] using hk, h.st⟩
  · rcases List.mem_or_eq_of_mem_set hx with hx | rfl
    · exact h.len x hx
    · exact hc
  · rcases List.mem_or_eq_of_mem_set hx with hx | rfl
    · exact h.ok x hx
    · exact hm

omit h0 in
include hb in
theorem Does.keeps {r c : Nat} {s s' : Scr} {t : Tok} (h : Inv W Ok r c s) (hd : Does W Ok s t s') : Inv W Ok r c s' := by
  cases hd with
  | goto k hk => exact ⟨h.rows, h.len, h.ok, by rw [← h.rows]; exact hk, Nat.zero_le _, h.st⟩
  | style x h1 h2 => exact ⟨h.rows, h.len, h.ok, h.row, h.col, h1, h2⟩
  | clear =>
    refine ⟨by simp [clearG, h.rows], fun x hx => ?_, fun x hx => ?_, h.row, h.col, h.st⟩
    · simp only [clearG, List.mem_map] at hx
      obtain ⟨y, hy, rfl⟩ := hx
      simpa using h.len y hy
    · simp only [clearG, List.mem_map] at hx
      obtain ⟨y, hy, rfl⟩ := hx
      clear hy
      induction y with
      | nil => exact .nil
      | cons a y ih => exact RowOk.blank W Ok hb ih
  | one1 x d t c0 hx hw hg hd hc hwc =>
    obtain ⟨k1, k2⟩ := (h.ok _ (List.mem_of_getElem? hg)).cut W Ok rfl hc
    exact h.set W Ok hg (by simp) (k1.append W Ok (.one _ _ hx hw h.st.1 h.st.2 (k2.tail1 W Ok hwc))) (by simp; omega)
  | one2 x d t c0 z hx hw hg hd hc hwc hz =>
    obtain ⟨k1, k2⟩ := (h.ok _ (List.mem_of_getElem? hg)).cut W Ok rfl hc
    obtain ⟨u, e, hu⟩ := k2.tail2 W Ok hwc
    cases e
    exact h.set W Ok hg (by simp) (k1.append W Ok (.one _ _ hx hw h.st.1 h.st.2 (RowOk.blank W Ok hb hu))) (by simp; omega)
  | two11 x d t c0 e hx hw hg hd hc hwc he hwe =>
    obtain ⟨k1, k2⟩ := (h.ok _ (List.mem_of_getElem? hg)).cut W Ok rfl hc
    exact h.set W Ok hg (by simp) (k1.append W Ok (.two _ _ hx hw h.st.1 h.st.2 ((k2.tail1 W Ok hwc).tail1 W Ok hwe))) (by simp; omega)
  | two12 x d t c0 e z hx hw hg hd hc hwc he hwe hz =>
    obtain ⟨k1, k2⟩ := (h.ok _ (List.mem_of_getElem? hg)).cut W Ok rfl hc
    obtain ⟨u, q, hu⟩ := (k2.tail1 W Ok hwc).tail2 W Ok hwe
    cases q
    exact h.set W Ok hg (by simp) (k1.append W Ok (.two _ _ hx hw h.st.1 h.st.2 (RowOk.blank W Ok hb hu))) (by simp; omega)
  | two2 x d t c0 z hx hw hg hd hc hwc hz =>
    obtain ⟨k1, k2⟩ := (h.ok _ (List.mem_of_getElem? hg)).cut W Ok rfl hc
    obtain ⟨u, q, hu⟩ := k2.tail2 W Ok hwc
    cases q
    exact h.set W Ok hg (by simp) (k1.append W Ok (.two _ _ hx hw h.st.1 h.st.2 hu)) (by simp; omega)
omit h0 in
include hb in
theorem DoesAll.keeps {r c : Nat} {s s' : Scr} {ts : List Tok} (h : Inv W Ok r c s) (hd : DoesAll W Ok s ts s') : Inv W Ok r c s' := by
  induction hd with
  | nil => exact h
  | cons h1 _ ih => exact ih (h1.keeps W Ok hb h)
end

/-- The cells of rows of one width as one list: what is ahead of a row, it, and what is behind it. -/
theorem gsplit {c : Nat} : ∀ {g : List (List Cl)} {k : Nat} {l : List Cl}, (∀ x ∈ g, x.length = c) → g[k]? = some l → ∃ p q, g.flatten = p ++ l ++ q ∧ p.length = k * c ∧ ∀ y, (g.set k y).flatten = p ++ y ++ q := by
  intro g
  induction g with
  | nil => intro k l _ h; simp at h
  | cons a g ih =>
    intro k l hl h
    cases k with
    | zero =>
      simp only [List.getElem?_cons_zero, Option.some.injEq] at h
      subst h
      exact ⟨[], g.flatten, by simp, by simp, fun y => by simp⟩
    | succ k =>
      rw [List.getElem?_cons_succ] at h
      obtain ⟨p, q, h1, h2, h3⟩ := ih (fun x hx => hl x (by simp [hx])) h
      refine ⟨a ++ p, q, by simp [h1], ?_, fun y => by simp [h3 y]⟩
      rw [List.length_append, h2, hl a (by simp), Nat.succ_mul, Nat.add_comm]
theorem gget {c : Nat} {g : List (List Cl)} {k : Nat} {d e : List Cl} (hl : ∀ x ∈ g, x.length = c) (hg : g[k]? = some (d ++ e)) {j : Nat} (hj : j < e.length) : g.flatten[k * c + d.length + j]? = e[j]? := by
  obtain ⟨p, q, h1, h2, _⟩ := gsplit hl hg
  rw [h1, List.append_assoc, List.append_assoc, List.getElem?_append_right (by omega), List.getElem?_append_right (by omega), List.getElem?_append_left (by omega)]
  congr 1
  omega
theorem gset {c : Nat} {g : List (List Cl)} {k : Nat} {d e : List Cl} (hl : ∀ x ∈ g, x.length = c) (hg : g[k]? = some (d ++ e)) {j : Nat} (hj : j < e.length) (x : Cl) : (g.set k (d ++ e.set j x)).flatten = g.flatten.set (k * c + d.length + j) x := by
  obtain ⟨p, q, h1, h2, h3⟩ := gsplit hl hg
  rw [h3, h1, List.append_assoc, List.append_assoc, List.append_assoc, List.append_assoc, List.set_append_right _ _ (by omega), List.set_append_right _ _ (by omega), List.set_append_left _ _ (by omega)]
  congr 5
  omega
theorem glen {c : Nat} {g : List (List Cl)} (hl : ∀ x ∈ g, x.length = c) : g.flatten.length = g.length * c := by
  induction g with
  | nil => simp
  | cons a g ih => rw [List.flatten_cons, List.length_append, ih (fun x hx => hl x (by simp [hx])), hl a (by simp), List.length_cons, Nat.succ_mul, Nat.add_comm]
/-- All cells spaces. -/
theorem gclear {c : Nat} {g : List (List Cl)} (hl : ∀ x ∈ g, x.length = c) : (clearG g).flatten = List.replicate (g.length * c) blank := by
  induction g with
  | nil => simp [clearG]
  | cons a g ih =>
    have := ih (fun x hx => hl x (by simp [hx]))
    rw [clearG] at this ⊢
    rw [List.map_cons, List.flatten_cons, this, List.map_const', hl a (by simp), List.length_cons, Nat.succ_mul, Nat.add_comm (g.length * c), List.replicate_append_replicate]
end Go.Proofs.YtnbpkabnaipimaaGreatDoor
