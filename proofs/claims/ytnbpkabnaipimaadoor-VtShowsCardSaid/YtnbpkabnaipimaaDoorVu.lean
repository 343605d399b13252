/- What a rune that is written does to the cells as one list. No walk. -/
import Derived.Test.YtnbpkabnaipimaaDoorVt
namespace Go.Proofs.YtnbpkabnaipimaaDoor
open Go Go.RowKit

theorem set_mid (P d e Q : List Cl) (j : Nat) (x : Cl) (hj : j < e.length) : (P ++ (d ++ e) ++ Q).set (P.length + d.length + j) x = P ++ (d ++ e.set j x) ++ Q := by
  rw [List.append_assoc, List.append_assoc, List.append_assoc, List.append_assoc, List.set_append_right _ _ (by omega), List.set_append_right _ _ (by omega), List.set_append_left _ _ (by omega)]
  congr 4
  omega
theorem get_mid (P d e Q : List Cl) (j : Nat) (hj : j < e.length) : (P ++ (d ++ e) ++ Q)[P.length + d.length + j]? = e[j]? := by
  rw [List.append_assoc, List.append_assoc, List.getElem?_append_right (by omega), List.getElem?_append_right (by omega), List.getElem?_append_left (by omega)]
  congr 1
  omega

/-- The cells behind a rune that is written: i its place in the list, n its width, k the place behind it; y tells whether the cell there is the second half of a wide rune. -/
def putL (L : List Cl) (i n : Nat) (x st : Int) (y : Bool) : List Cl :=
  let L0 := if y then L.set (i + n) blank else L
  let L1 := L0.set i ⟨x, st⟩
  if n = 2 then L1.set (i + 1) ⟨0, st⟩ else L1

/-- What stands behind. -/
def Behind (L : List Cl) (c col i n : Nat) : Bool → Prop
  | true => col + n < c ∧ ∃ h, L[i + n]? = some h ∧ h.r = 0
  | false => col + n = c ∨ col + n < c ∧ ∃ e, L[i + n]? = some e ∧ e.r ≠ 0

theorem head_ne {t : List Cl} (h : RowOk wd okR t) {e : Cl} {u : List Cl} (ht : t = e :: u) : e.r ≠ 0 := by
  subst ht
  exact h.head wd okR okR_zero

theorem put_pure {r c : Nat} {s s' : Scr} {x : Int} (hI : Inv wd okR r c s) (hD : Does wd okR s (.rune x) s') :
    ∃ (n : Nat) (y : Bool), (n = 1 ∨ n = 2) ∧ wd x = (n : Int) ∧ okR x = true ∧ s'.row = s.row ∧ s'.col = s.col + n ∧ s'.st = s.st ∧ s.col + n ≤ c ∧ (∃ c0, s.g.flatten[s.row * c + s.col]? = some c0 ∧ c0.r ≠ 0) ∧ Behind s.g.flatten c s.col (s.row * c + s.col) n y ∧ s'.g.flatten = putL s.g.flatten (s.row * c + s.col) n x s.st y := by
  cases hD with
  | one1 x d t c0 hx hw hg hd hc hwc =>
    obtain ⟨P, Q, h1, h2, h3⟩ := gsplit hI.len hg
    have hlen := hI.len _ (List.mem_of_getElem? hg)
    have hr := hI.ok _ (List.mem_of_getElem? hg)
    obtain ⟨k1, k2⟩ := hr.cut wd okR rfl hc
    simp only [List.length_append, List.length_cons] at hlen
    have e0 := get_mid P d (c0 :: t) Q 0 (by simp)
    rw [← h1, h2, hd, Nat.add_zero] at e0
    refine ⟨1, false, .inl rfl, hw, hx, rfl, rfl, rfl, by omega, ⟨c0, e0, hc⟩, ?_, ?_⟩
    · have ht : RowOk wd okR t := k2.tail1 wd okR hwc
      have e1 := fun (h : 1 < (c0 :: t).length) => get_mid P d (c0 :: t) Q 1 h
      cases t with
      | nil => exact .inl (by simp at hlen; omega)
      | cons e u =>
        refine .inr ⟨by simp at hlen; omega, e, ?_, head_ne ht rfl⟩
        have := e1 (by simp)
        rw [← h1, h2, hd] at this
        exact this
    · rw [h3]
      unfold putL
      simp only [Bool.false_eq_true, if_false, Nat.reduceEqDiff]
      have s0 := set_mid P d (c0 :: t) Q 0 ⟨x, s.st⟩ (by simp)
      rw [h2, hd, Nat.add_zero] at s0
      rw [h1, s0]
      rfl
  | one2 x d t c0 h hx hw hg hd hc hwc hz =>
    obtain ⟨P, Q, h1, h2, h3⟩ := gsplit hI.len hg
    have hlen := hI.len _ (List.mem_of_getElem? hg)
    have hr := hI.ok _ (List.mem_of_getElem? hg)
    obtain ⟨k1, k2⟩ := hr.cut wd okR rfl hc
    simp only [List.length_append, List.length_cons] at hlen
    have e0 := get_mid P d (c0 :: h :: t) Q 0 (by simp)
    rw [← h1, h2, hd, Nat.add_zero] at e0
    refine ⟨1, true, .inl rfl, hw, hx, rfl, rfl, rfl, by omega, ⟨c0, e0, hc⟩, ?_, ?_⟩
    · refine ⟨by omega, h, ?_, hz⟩
      have := get_mid P d (c0 :: h :: t) Q 1 (by simp)
      rw [← h1, h2, hd] at this
      exact this
    · rw [h3]
      unfold putL
      simp only [if_false, if_true, Nat.reduceEqDiff]
      have s0 := set_mid P d (c0 :: h :: t) Q 1 blank (by simp)
      rw [h2, hd] at s0
      have s1 := set_mid P d ((c0 :: h :: t).set 1 blank) Q 0 ⟨x, s.st⟩ (by simp)
      rw [h2, hd, Nat.add_zero] at s1
      rw [h1, s0, s1]
      rfl
  | two11 x d t c0 e1' hx hw hg hd hc hwc he hwe =>
    obtain ⟨P, Q, h1, h2, h3⟩ := gsplit hI.len hg
    have hlen := hI.len _ (List.mem_of_getElem? hg)
    have hr := hI.ok _ (List.mem_of_getElem? hg)
    obtain ⟨k1, k2⟩ := hr.cut wd okR rfl hc
    simp only [List.length_append, List.length_cons] at hlen
    have e0 := get_mid P d (c0 :: e1' :: t) Q 0 (by simp)
    rw [← h1, h2, hd, Nat.add_zero] at e0
    refine ⟨2, false, .inr rfl, hw, hx, rfl, rfl, rfl, by omega, ⟨c0, e0, hc⟩, ?_, ?_⟩
    · have ht : RowOk wd okR t := (k2.tail1 wd okR hwc).tail1 wd okR hwe
      have e1 := fun (h : 2 < (c0 :: e1' :: t).length) => get_mid P d (c0 :: e1' :: t) Q 2 h
      cases t with
      | nil => exact .inl (by simp at hlen; omega)
      | cons e u =>
        refine .inr ⟨by simp at hlen; omega, e, ?_, head_ne ht rfl⟩
        have := e1 (by simp)
        rw [← h1, h2, hd] at this
        exact this
    · rw [h3]
      unfold putL
      simp only [Bool.false_eq_true, if_false, if_true]
      have s0 := set_mid P d (c0 :: e1' :: t) Q 0 ⟨x, s.st⟩ (by simp)
      rw [h2, hd, Nat.add_zero] at s0
      have s1 := set_mid P d ((c0 :: e1' :: t).set 0 ⟨x, s.st⟩) Q 1 ⟨0, s.st⟩ (by simp)
      rw [h2, hd] at s1
      rw [h1, s0, s1]
      rfl
  | two12 x d t c0 e1' h hx hw hg hd hc hwc he hwe hz =>
    obtain ⟨P, Q, h1, h2, h3⟩ := gsplit hI.len hg
    have hlen := hI.len _ (List.mem_of_getElem? hg)
    have hr := hI.ok _ (List.mem_of_getElem? hg)
    obtain ⟨k1, k2⟩ := hr.cut wd okR rfl hc
    simp only [List.length_append, List.length_cons] at hlen
    have e0 := get_mid P d (c0 :: e1' :: h :: t) Q 0 (by simp)
    rw [← h1, h2, hd, Nat.add_zero] at e0
    refine ⟨2, true, .inr rfl, hw, hx, rfl, rfl, rfl, by omega, ⟨c0, e0, hc⟩, ?_, ?_⟩
    · refine ⟨by omega, h, ?_, hz⟩
      have := get_mid P d (c0 :: e1' :: h :: t) Q 2 (by simp)
      rw [← h1, h2, hd] at this
      exact this
    · rw [h3]
      unfold putL
      simp only [if_true]
      have s0 := set_mid P d (c0 :: e1' :: h :: t) Q 2 blank (by simp)
      rw [h2, hd] at s0
      have s1 := set_mid P d ((c0 :: e1' :: h :: t).set 2 blank) Q 0 ⟨x, s.st⟩ (by simp)
      rw [h2, hd, Nat.add_zero] at s1
      have s2 := set_mid P d (((c0 :: e1' :: h :: t).set 2 blank).set 0 ⟨x, s.st⟩) Q 1 ⟨0, s.st⟩ (by simp)
      rw [h2, hd] at s2
      rw [h1, s0, s1, s2]
      rfl
  | two2 x d t c0 h hx hw hg hd hc hwc hz =>
    obtain ⟨P, Q, h1, h2, h3⟩ := gsplit hI.len hg
    have hlen := hI.len _ (List.mem_of_getElem? hg)
    have hr := hI.ok _ (List.mem_of_getElem? hg)
    obtain ⟨k1, k2⟩ := hr.cut wd okR rfl hc
    simp only [List.length_append, List.length_cons] at hlen
    have e0 := get_mid P d (c0 :: h :: t) Q 0 (by simp)
    rw [← h1, h2, hd, Nat.add_zero] at e0
    refine ⟨2, false, .inr rfl, hw, hx, rfl, rfl, rfl, by omega, ⟨c0, e0, hc⟩, ?_, ?_⟩
    · have ht : RowOk wd okR t := (by obtain ⟨u, e, hu⟩ := k2.tail2 wd okR hwc; cases e; exact hu)
      have e1 := fun (hh : 2 < (c0 :: h :: t).length) => get_mid P d (c0 :: h :: t) Q 2 hh
      cases t with
      | nil => exact .inl (by simp at hlen; omega)
      | cons e u =>
        refine .inr ⟨by simp at hlen; omega, e, ?_, head_ne ht rfl⟩
        have := e1 (by simp)
        rw [← h1, h2, hd] at this
        exact this
    · rw [h3]
      unfold putL
      simp only [Bool.false_eq_true, if_false, if_true]
      have s0 := set_mid P d (c0 :: h :: t) Q 0 ⟨x, s.st⟩ (by simp)
      rw [h2, hd, Nat.add_zero] at s0
      have s1 := set_mid P d ((c0 :: h :: t).set 0 ⟨x, s.st⟩) Q 1 ⟨0, s.st⟩ (by simp)
      rw [h2, hd] at s1
      rw [h1, s0, s1]
      rfl
end Go.Proofs.YtnbpkabnaipimaaDoor
