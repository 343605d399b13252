/- Ahead of stage 23: what is painted, as tokens; what tokens do with a grid of rows; a grid that is painted is shown. No program, no walk. -/
import Derived.Lib.Small
namespace Go.Proofs.YtnbpkabnaipimaaDoor

/-- A cell. -/
structure Cl where
  r : Int
  s : Int
deriving DecidableEq
def blank : Cl := ⟨32, 0⟩

section
variable (W : Int → Int) (Ok : Int → Bool)

/-- A row of whole cells: of width 1, or of width 2 with their second half. -/
inductive RowOk : List Cl → Prop
  | nil : RowOk []
  | one (c : Cl) (t : List Cl) : Ok c.r = true → W c.r = 1 → 0 ≤ c.s → c.s ≤ 7 → RowOk t → RowOk (c :: t)
  | two (c : Cl) (t : List Cl) : Ok c.r = true → W c.r = 2 → 0 ≤ c.s → c.s ≤ 7 → RowOk t → RowOk (c :: ⟨0, c.s⟩ :: t)

/-- What a terminal shows: rows of cells, where it writes, its style. -/
structure Scr where
  g : List (List Cl)
  row : Nat
  col : Nat
  st : Int

inductive Tok
  | goto (r : Nat)
  | style (s : Int)
  | clear
  | rune (c : Int)

def clearG (g : List (List Cl)) : List (List Cl) := g.map fun l => l.map fun _ => blank

/-- What a token does, where it does what painting wants. -/
inductive Does : Scr → Tok → Scr → Prop
  | goto (a : Scr) (r : Nat) : r < a.g.length → Does a (.goto r) ⟨a.g, r, 0, a.st⟩
  | style (a : Scr) (s : Int) : 0 ≤ s → s ≤ 7 → Does a (.style s) ⟨a.g, a.row, a.col, s⟩
  | clear (a : Scr) : Does a .clear ⟨clearG a.g, a.row, a.col, a.st⟩
  | one1 (a : Scr) (x : Int) (d t : List Cl) (c : Cl) : Ok x = true → W x = 1 → a.g[a.row]? = some (d ++ c :: t) → d.length = a.col → c.r ≠ 0 → W c.r = 1 →
      Does a (.rune x) ⟨a.g.set a.row (d ++ ⟨x, a.st⟩ :: t), a.row, a.col + 1, a.st⟩
  | one2 (a : Scr) (x : Int) (d t : List Cl) (c h : Cl) : Ok x = true → W x = 1 → a.g[a.row]? = some (d ++ c :: h :: t) → d.length = a.col → c.r ≠ 0 → W c.r = 2 → h.r = 0 →
      Does a (.rune x) ⟨a.g.set a.row (d ++ ⟨x, a.st⟩ :: blank :: t), a.row, a.col + 1, a.st⟩
  | two11 (a : Scr) (x : Int) (d t : List Cl) (c e : Cl) : Ok x = true → W x = 2 → a.g[a.row]? = some (d ++ c :: e :: t) → d.length = a.col → c.r ≠ 0 → W c.r = 1 → e.r ≠ 0 → W e.r = 1 →
      Does a (.rune x) ⟨a.g.set a.row (d ++ ⟨x, a.st⟩ :: ⟨0, a.st⟩ :: t), a.row, a.col + 2, a.st⟩
  | two12 (a : Scr) (x : Int) (d t : List Cl) (c e h : Cl) : Ok x = true → W x = 2 → a.g[a.row]? = some (d ++ c :: e :: h :: t) → d.length = a.col → c.r ≠ 0 → W c.r = 1 → e.r ≠ 0 → W e.r = 2 → h.r = 0 →
      Does a (.rune x) ⟨a.g.set a.row (d ++ ⟨x, a.st⟩ :: ⟨0, a.st⟩ :: blank :: t), a.row, a.col + 2, a.st⟩
  | two2 (a : Scr) (x : Int) (d t : List Cl) (c h : Cl) : Ok x = true → W x = 2 → a.g[a.row]? = some (d ++ c :: h :: t) → d.length = a.col → c.r ≠ 0 → W c.r = 2 → h.r = 0 →
      Does a (.rune x) ⟨a.g.set a.row (d ++ ⟨x, a.st⟩ :: ⟨0, a.st⟩ :: t), a.row, a.col + 2, a.st⟩

inductive DoesAll : Scr → List Tok → Scr → Prop
  | nil (a : Scr) : DoesAll a [] a
  | cons {a b c : Scr} {t : Tok} {ts : List Tok} : Does W Ok a t b → DoesAll b ts c → DoesAll a (t :: ts) c

theorem DoesAll.append {a b c : Scr} {ts us : List Tok} (h : DoesAll W Ok a ts b) (k : DoesAll W Ok b us c) : DoesAll W Ok a (ts ++ us) c := by
  induction h with
  | nil a => exact k
  | cons h _ ih => exact .cons h (ih k)
theorem DoesAll.one {a b : Scr} {t : Tok} (h : Does W Ok a t b) : DoesAll W Ok a [t] b := .cons h (.nil _)

/-- The tokens of a row's cells, behind one of a style (or none). -/
def rowToks : Option Int → List Cl → List Tok
  | _, [] => []
  | last, c :: t => if c.r = 0 then rowToks last t else (if last = some c.s then [] else [Tok.style c.s]) ++ Tok.rune c.r :: rowToks (some c.s) t

variable (h0 : Ok 0 = false) (hb : Ok 32 = true ∧ W 32 = 1)
include h0 hb

omit h0 in
theorem RowOk.blank {t : List Cl} (h : RowOk W Ok t) : RowOk W Ok (blank :: t) := .one _ _ hb.1 hb.2 (by decide) (by decide) h

omit hb in
theorem ok_ne {x : Int} (h : Ok x = true) : x ≠ 0 := by
  rintro rfl
  rw [h0] at h
  cases h

/-- One rune that is put at the beginning of whole cells: what is left is whole. -/
theorem put1 (a : Scr) (x : Int) (d rest : List Cl) (hx : Ok x = true) (hw : W x = 1) (hg : a.g[a.row]? = some (d ++ rest)) (hd : d.length = a.col) (hr : RowOk W Ok rest) (hl : rest ≠ []) :
    ∃ rest', Does W Ok a (.rune x) ⟨a.g.set a.row (d ++ ⟨x, a.st⟩ :: rest'), a.row, a.col + 1, a.st⟩ ∧ RowOk W Ok rest' ∧ rest'.length + 1 = rest.length := by
  cases hr with
  | nil => exact absurd rfl hl
  | one c t h1 h2 _ _ ht => exact ⟨t, .one1 a x d t c hx hw hg hd (ok_ne Ok h0 h1) h2, ht, rfl⟩
  | two c t h1 h2 _ _ ht => exact ⟨YtnbpkabnaipimaaDoor.blank :: t, .one2 a x d t c _ hx hw hg hd (ok_ne Ok h0 h1) h2 rfl, RowOk.blank W Ok hb ht, by simp⟩
theorem put2 (a : Scr) (x : Int) (d rest : List Cl) (hx : Ok x = true) (hw : W x = 2) (hg : a.g[a.row]? = some (d ++ rest)) (hd : d.length = a.col) (hr : RowOk W Ok rest) (hl : 2 ≤ rest.length) :
    ∃ rest', Does W Ok a (.rune x) ⟨a.g.set a.row (d ++ ⟨x, a.st⟩ :: ⟨0, a.st⟩ :: rest'), a.row, a.col + 2, a.st⟩ ∧ RowOk W Ok rest' ∧ rest'.length + 2 = rest.length := by
  cases hr with
  | nil => simp at hl
  | two c t h1 h2 _ _ ht => exact ⟨t, .two2 a x d t c _ hx hw hg hd (ok_ne Ok h0 h1) h2 rfl, ht, rfl⟩
  | one c t h1 h2 _ _ ht =>
    cases ht with
    | nil => simp at hl
    | one e t k1 k2 _ _ ht => exact ⟨t, .two11 a x d t c e hx hw hg hd (ok_ne Ok h0 h1) h2 (ok_ne Ok h0 k1) k2, ht, rfl⟩
    | two e t k1 k2 _ _ ht => exact ⟨YtnbpkabnaipimaaDoor.blank :: t, .two12 a x d t c e _ hx hw hg hd (ok_ne Ok h0 h1) h2 (ok_ne Ok h0 k1) k2 rfl, RowOk.blank W Ok hb ht, by simp⟩

/-- A row that is painted is there. -/
theorem row_painted (ts : List Cl) (ht : RowOk W Ok ts) : ∀ (a : Scr) (last : Option Int) (d rest : List Cl), a.g[a.row]? = some (d ++ rest) → d.length = a.col → RowOk W Ok rest → rest.length = ts.length → (∀ s, last = some s → s = a.st) →
    ∃ b, DoesAll W Ok a (rowToks last ts) b ∧ b.g = a.g.set a.row (d ++ ts) ∧ b.row = a.row := by
  induction ht with
  | nil =>
    intro a last d rest hg hd _ hl _
    refine ⟨a, .nil a, ?_, rfl⟩
    have : rest = [] := List.eq_nil_of_length_eq_zero hl
    subst this
    obtain ⟨hlt, he⟩ := List.getElem?_eq_some_iff.1 hg
    rw [← he, List.set_getElem_self]
  | one c t h1 h2 h3 h4 _ ih =>
    intro a last d rest hg hd hr hl hs
    have hne := ok_ne Ok h0 h1
    have hlt := (List.getElem?_eq_some_iff.1 hg).1
    obtain ⟨a', hA, hst, hg', hrow, hcol⟩ : ∃ a', DoesAll W Ok a (if last = some c.s then [] else [Tok.style c.s]) a' ∧ a'.st = c.s ∧ a'.g = a.g ∧ a'.row = a.row ∧ a'.col = a.col := by
      by_cases e : last = some c.s
      · rw [if_pos e]
        exact ⟨a, .nil a, (hs _ e).symm, rfl, rfl, rfl⟩
      · rw [if_neg e]
        exact ⟨_, DoesAll.one W Ok (.style a c.s h3 h4), rfl, rfl, rfl, rfl⟩
    obtain ⟨rest', hD, hR, hL⟩ := put1 W Ok h0 hb a' c.r d rest h1 h2 (by rw [hg', hrow]; exact hg) (by rw [hcol]; exact hd) hr (by rintro rfl; simp at hl)
    rw [hst, hg', hrow, hcol] at hD
    obtain ⟨b, hB, hbg, hbr⟩ := ih ⟨a.g.set a.row (d ++ ⟨c.r, c.s⟩ :: rest'), a.row, a.col + 1, c.s⟩ (some c.s) (d ++ [c]) rest' (by rw [List.getElem?_set_self hlt, List.append_assoc]; rfl) (by simp [hd]) hR (by simp at hl; omega) (fun s e => by cases e; rfl)
    refine ⟨b, ?_, ?_, hbr⟩
    · rw [rowToks, if_neg hne]
      exact hA.append W Ok (.cons hD hB)
    · rw [hbg]
      simp [List.set_set]
  | two c t h1 h2 h3 h4 _ ih =>
    intro a last d rest hg hd hr hl hs
    have hne := ok_ne Ok h0 h1
    have hlt := (List.getElem?_eq_some_iff.1 hg).1
    obtain ⟨a', hA, hst, hg', hrow, hcol⟩ : ∃ a', DoesAll W Ok a (if last = some c.s then [] else [Tok.style c.s]) a' ∧ a'.st = c.s ∧ a'.g = a.g ∧ a'.row = a.row ∧ a'.col = a.col := by
      by_cases e : last = some c.s
      · rw [if_pos e]
        exact ⟨a, .nil a, (hs _ e).symm, rfl, rfl, rfl⟩
      · rw [if_neg e]
        exact ⟨_, DoesAll.one W Ok (.style a c.s h3 h4), rfl, rfl, rfl, rfl⟩
    obtain ⟨rest', hD, hR, hL⟩ := put2 W Ok h0 hb a' c.r d rest h1 h2 (by rw [hg', hrow]; exact hg) (by rw [hcol]; exact hd) hr (by simp at hl; omega)
    rw [hst, hg', hrow, hcol] at hD
    obtain ⟨b, hB, hbg, hbr⟩ := ih ⟨a.g.set a.row (d ++ ⟨c.r, c.s⟩ :: ⟨0, c.s⟩ :: rest'), a.row, a.col + 2, c.s⟩ (some c.s) (d ++ [c, ⟨0, c.s⟩]) rest' (by rw [List.getElem?_set_self hlt, List.append_assoc]; rfl) (by simp [hd]) hR (by simp at hl; omega) (fun s e => by cases e; rfl)
    refine ⟨b, ?_, ?_, hbr⟩
    · rw [rowToks, if_neg hne, rowToks, if_pos rfl]
      exact hA.append W Ok (.cons hD hB)
    · rw [hbg]
      simp [List.set_set]

/-- The tokens of the rows that differ, from row k on. -/
def gridToks : Nat → List (List Cl) → List (List Cl) → List Tok
  | k, f :: fs, t :: ts => (if f = t then [] else Tok.goto k :: rowToks none t) ++ gridToks (k + 1) fs ts
  | _, _, _ => []

theorem grid_painted : ∀ (fs ts : List (List Cl)) (p : List (List Cl)) (a : Scr), fs.length = ts.length → (∀ l ∈ fs, RowOk W Ok l) → (∀ l ∈ ts, RowOk W Ok l) → (∀ (i : Nat) f t, fs[i]? = some f → ts[i]? = some t → f.length = t.length) → a.g = p ++ fs →
    ∃ b, DoesAll W Ok a (gridToks p.length fs ts) b ∧ b.g = p ++ ts := by
  intro fs
  induction fs with
  | nil =>
    intro ts p a hl _ _ _ hg
    have : ts = [] := List.eq_nil_of_length_eq_zero hl.symm
    subst this
    exact ⟨a, .nil a, hg⟩
  | cons f fs ih =>
    intro ts p a hl hf ht hlen hg
    cases ts with
    | nil => simp at hl
    | cons t ts =>
      have hrow : a.g[p.length]? = some f := by rw [hg]; simp
      obtain ⟨a', hA, hg'⟩ : ∃ a', DoesAll W Ok a (if f = t then [] else Tok.goto p.length :: rowToks none t) a' ∧ a'.g = p ++ t :: fs := by
        by_cases e : f = t
        · rw [if_pos e]
          exact ⟨a, .nil a, by rw [hg, e]⟩
        · rw [if_neg e]
          have hD : Does W Ok a (.goto p.length) ⟨a.g, p.length, 0, a.st⟩ := .goto a _ (List.getElem?_eq_some_iff.1 hrow).1
          obtain ⟨b, hB, hbg, _⟩ := row_painted W Ok h0 hb t (ht t (by simp)) ⟨a.g, p.length, 0, a.st⟩ none [] f hrow rfl (hf f (by simp)) (hlen 0 f t rfl rfl) (fun s e => by cases e)
          refine ⟨b, .cons hD hB, ?_⟩
          rw [hbg, hg]
          simp
      obtain ⟨b, hB, hbg⟩ := ih ts (p ++ [t]) a' (by simpa using hl) (fun l hm => hf l (by simp [hm])) (fun l hm => ht l (by simp [hm])) (fun i x y hx hy => hlen (i + 1) x y hx hy) (by rw [hg']; simp)
      refine ⟨b, ?_, by rw [hbg]; simp⟩
      rw [gridToks]
      refine hA.append W Ok ?_
      simpa using hB
end
end Go.Proofs.YtnbpkabnaipimaaDoor
