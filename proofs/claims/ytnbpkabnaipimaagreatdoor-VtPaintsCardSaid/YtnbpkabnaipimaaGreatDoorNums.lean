/- The numbers of a token's sequence: the pieces between its semicolons, what each is worth, what they come to; and the body read byte by byte. No walk. -/
import Derived.Test.YtnbpkabnaipimaaGreatDoorSeqs
namespace Go.Proofs.YtnbpkabnaipimaaGreatDoor

/-- Pieces with a semicolon between any two. -/
def joinB : List (List Int) → List Int
  | [] => []
  | [a] => a
  | a :: b :: t => a ++ 59 :: joinB (b :: t)
/-- What digits are worth. -/
def valZ (l : List Int) : Int := l.foldl (fun n x => n * 10 + (x - 48)) 0
/-- The pieces of a token's body. -/
def pieces : Tok → List (List Int)
  | .goto r => [digits ((r : Int) + 1), [49]]
  | .style s => [48] :: ((if s % 2 = 1 then [[55]] else []) ++ (if s / 2 % 2 = 1 then [[52]] else []) ++ (if s / 4 = 1 then [[49]] else []))
  | .clear => [[50]]
  | .rune _ => []
/-- The numbers of a token. -/
def numsT : Tok → List Int
  | .goto r => [(r : Int) + 1, 1]
  | .style s => 0 :: ((if s % 2 = 1 then [7] else []) ++ (if s / 2 % 2 = 1 then [4] else []) ++ (if s / 4 = 1 then [1] else []))
  | .clear => [2]
  | .rune _ => []
theorem seq_join {t : Tok} {b : List Int} {x : Int} (h : seqOf t = some (b, x)) : b = joinB (pieces t) := by
  cases t with
  | goto r =>
    simp only [seqOf, Option.some.injEq, Prod.mk.injEq] at h
    obtain ⟨rfl, rfl⟩ := h
    simp [pieces, joinB]
  | style s =>
    simp only [seqOf, Option.some.injEq, Prod.mk.injEq] at h
    obtain ⟨rfl, rfl⟩ := h
    simp only [pieces]
    repeat' split
    all_goals simp [joinB]
  | clear =>
    simp only [seqOf, Option.some.injEq, Prod.mk.injEq] at h
    obtain ⟨rfl, rfl⟩ := h
    rfl
  | rune c => cases h
theorem val_digits {n : Int} (h0 : 0 ≤ n) (h1 : n ≤ 99) : valZ (digits n) = n := by
  unfold digits valZ
  split
  · simp
    omega
  · simp
    omega
/-- A piece: one or two digits. -/
structure Piece (l : List Int) : Prop where
  some : l ≠ []
  few : l.length ≤ 2
  dig : ∀ x ∈ l, 48 ≤ x ∧ x ≤ 57
theorem pieces_are {t : Tok} (hf : Fits t) : ∀ l ∈ pieces t, Piece l := by
  intro l hl
  cases t with
  | goto r =>
    have hf' : r ≤ 98 := hf
    simp only [pieces, List.mem_cons, List.not_mem_nil, or_false] at hl
    rcases hl with rfl | rfl
    · refine ⟨?_, ?_, digits_in (by omega) (by omega)⟩
      · unfold digits
        split <;> simp
      · unfold digits
        split <;> simp
    · exact ⟨by simp, by simp, by simp⟩
  | style s =>
    simp only [pieces, List.mem_cons, List.mem_append] at hl
    rcases hl with rfl | (hl | hl) | hl
    · exact ⟨by simp, by simp, by simp⟩
    all_goals
      split at hl
      · simp at hl
        subst hl
        exact ⟨by simp, by simp, by simp⟩
      · simp at hl
  | clear =>
    simp only [pieces, List.mem_cons, List.not_mem_nil, or_false] at hl
    subst hl
    exact ⟨by simp, by simp, by simp⟩
  | rune c => simp [pieces] at hl
theorem pieces_val {t : Tok} (hf : Fits t) : (pieces t).map valZ = numsT t := by
  cases t with
  | goto r =>
    have hf' : r ≤ 98 := hf
    simp only [pieces, numsT, List.map_cons, List.map_nil, val_digits (n := (r : Int) + 1) (by omega) (by omega)]
    rfl
  | style s =>
    simp only [pieces, numsT]
    repeat' split
    all_goals simp [valZ]
  | clear => rfl
  | rune c => rfl
/-- One number of a style, as the chapter reads it. -/
def styleN (st n : Int) : Int := if n = 0 then 0 else if n = 7 then (if st % 2 = 1 then st else st + 1) else if n = 4 then (if st / 2 % 2 = 1 then st else st + 2) else if n = 1 then (if st / 4 % 2 = 1 then st else st + 4) else st
theorem nums_style {s : Int} (h : 0 ≤ s ∧ s ≤ 7) (st : Int) : (numsT (.style s)).foldl styleN st = s := by
  have h0 : ∀ l : List Int, (0 :: l).foldl styleN st = l.foldl styleN 0 := fun l => by simp [styleN]
  unfold numsT
  rw [h0]
  rcases (show s = 0 ∨ s = 1 ∨ s = 2 ∨ s = 3 ∨ s = 4 ∨ s = 5 ∨ s = 6 ∨ s = 7 by omega) with rfl | rfl | rfl | rfl | rfl | rfl | rfl | rfl <;> decide

/-- Bytes of a body, one by one: the numbers that are whole, the one that is read, of how many digits. -/
def scan1 (a : List Int × Int × Nat) (x : Int) : List Int × Int × Nat := if x = 59 then (a.1 ++ [a.2.1], 0, 0) else (a.1, a.2.1 * 10 + (x - 48), a.2.2 + 1)
def scanZ (l : List Int) : List Int × Int × Nat := l.foldl scan1 ([], 0, 0)
theorem scan_snoc (l : List Int) (x : Int) : scanZ (l ++ [x]) = scan1 (scanZ l) x := by simp [scanZ]
theorem scan_piece : ∀ (l : List Int) (a : List Int) (n : Int) (k : Nat), (∀ x ∈ l, 48 ≤ x ∧ x ≤ 57) → l.foldl scan1 (a, n, k) = (a, l.foldl (fun n x => n * 10 + (x - 48)) n, k + l.length) := by
  intro l
  induction l with
  | nil => intro a n k _; rfl
  | cons x l ih =>
    intro a n k h
    have hx := h x (by simp)
    rw [List.foldl_cons, List.foldl_cons, scan1, if_neg (by omega), ih _ _ _ (fun y hy => h y (by simp [hy]))]
    simp
    omega
theorem scan_join : ∀ (ps : List (List Int)) (p : List Int) (a : List Int), (∀ l ∈ p :: ps, Piece l) → ∃ i l, p :: ps = i ++ [l] ∧ (joinB (p :: ps)).foldl scan1 (a, 0, 0) = (a ++ i.map valZ, valZ l, l.length) := by
  intro ps
  induction ps with
  | nil =>
    intro p a h
    refine ⟨[], p, rfl, ?_⟩
    show p.foldl scan1 (a, 0, 0) = _
    rw [scan_piece p a 0 0 (h p (by simp)).dig]
    simp [valZ]
  | cons q ps ih =>
    intro p a h
    obtain ⟨i, l, e, hs⟩ := ih q (a ++ [valZ p]) (fun x hx => h x (by simp only [List.mem_cons] at hx ⊢; exact .inr hx))
    refine ⟨p :: i, l, by rw [e]; rfl, ?_⟩
    rw [joinB, List.foldl_append, scan_piece p a 0 0 (h p (by simp)).dig, List.foldl_cons]
    have : scan1 (a, p.foldl (fun n x => n * 10 + (x - 48)) 0, 0 + p.length) 59 = (a ++ [valZ p], 0, 0) := by rw [scan1, if_pos rfl]; rfl
    rw [this, hs]
    simp
/-- The body of a token, read byte by byte. -/
theorem scan_body {t : Tok} {b : List Int} {x : Int} (h : seqOf t = some (b, x)) (hf : Fits t) : (scanZ b).1 ++ [(scanZ b).2.1] = numsT t ∧ 1 ≤ (scanZ b).2.2 := by
  have hp := pieces_are hf
  rw [seq_join h]
  cases hps : pieces t with
  | nil =>
    cases t with
    | rune c => cases h
    | goto r => simp [pieces] at hps
    | style s => simp [pieces] at hps
    | clear => simp [pieces] at hps
  | cons p ps =>
    rw [hps] at hp
    obtain ⟨i, l, e, hs⟩ := scan_join ps p [] hp
    have hv := pieces_val hf
    rw [hps, e] at hv
    unfold scanZ
    rw [hs]
    have hl := (hp l (by rw [e]; simp)).some
    refine ⟨by rw [← hv]; simp, ?_⟩
    cases l with
    | nil => exact absurd rfl hl
    | cons => simp
/-- A body, cut anywhere: whole pieces, a beginning of one, what is left of it, and the pieces behind. -/
theorem scan_cut : ∀ (ps : List (List Int)) (p1 a p q : List Int), (∀ l ∈ p1 :: ps, Piece l) → joinB (p1 :: ps) = p ++ q →
    ∃ i c c' r, p1 :: ps = i ++ (c ++ c') :: r ∧ p.foldl scan1 (a, 0, 0) = (a ++ i.map valZ, valZ c, c.length) ∧ q = c' ++ r.flatMap fun l => 59 :: l := by
  intro ps
  induction ps with
  | nil =>
    intro p1 a p q h e
    have e' : p1 = p ++ q := e
    refine ⟨[], p, q, [], by rw [e']; rfl, ?_, by simp⟩
    rw [scan_piece p a 0 0 (fun x hx => (h p1 (by simp)).dig x (by rw [e']; simp [hx]))]
    simp [valZ]
  | cons b ps ih =>
    intro p1 a p q h e
    have hd := (h p1 (by simp)).dig
    have hj : ∀ (l : List Int) (ls : List (List Int)), joinB (l :: ls) = l ++ ls.flatMap fun l => 59 :: l := by
      intro l ls
      induction ls generalizing l with
      | nil => simp [joinB]
      | cons m ls ih => rw [joinB, ih m, List.flatMap_cons]; simp
    rw [joinB] at e
    rcases List.append_eq_append_iff.1 e with ⟨a', h1, h2⟩ | ⟨c', h1, h2⟩
    · cases a' with
      | nil =>
        rw [List.append_nil] at h1
        subst h1
        refine ⟨[], p, [], b :: ps, by simp, ?_, ?_⟩
        · rw [scan_piece p a 0 0 hd]
          simp [valZ]
        · rw [List.nil_append] at h2
          rw [← h2, hj]
          simp
      | cons y a' =>
        simp only [List.cons_append, List.cons.injEq] at h2
        obtain ⟨rfl, h2⟩ := h2
        obtain ⟨i, c, c', r, k1, k2, k3⟩ := ih b (a ++ [valZ p1]) a' q (fun l hl => h l (by simp only [List.mem_cons] at hl ⊢; exact .inr hl)) h2
        refine ⟨p1 :: i, c, c', r, by rw [k1]; rfl, ?_, k3⟩
        rw [h1, List.foldl_append, scan_piece p1 a 0 0 hd, List.foldl_cons]
        have : scan1 (a, p1.foldl (fun n x => n * 10 + (x - 48)) 0, 0 + p1.length) 59 = (a ++ [valZ p1], 0, 0) := by rw [scan1, if_pos rfl]; rfl
        rw [this, k2]
        simp
    · refine ⟨[], p, c', b :: ps, by rw [h1]; rfl, ?_, ?_⟩
      · rw [scan_piece p a 0 0 (fun x hx => hd x (by rw [h1]; simp [hx]))]
        simp [valZ]
      · rw [h2, hj]
        simp
/-- Any beginning of a body: the number that is read is small, it has few digits, and there is one ahead of each semicolon. -/
theorem scan_prefix {t : Tok} {b : List Int} {x : Int} (h : seqOf t = some (b, x)) (hf : Fits t) {p q : List Int} (e : b = p ++ q) :
    0 ≤ (scanZ p).2.1 ∧ (scanZ p).2.1 ≤ 99 ∧ (scanZ p).2.2 ≤ 2 ∧ (∀ u, q = 59 :: u → 1 ≤ (scanZ p).2.2) ∧ (∀ y u, q = y :: u → y ≠ 59 → (scanZ p).2.2 ≤ 1 ∧ (scanZ p).2.1 ≤ 9 ∧ 48 ≤ y ∧ y ≤ 57) ∧ (scanZ p).1.length ≤ 3 := by
  have hp := pieces_are hf
  rw [seq_join h] at e
  have hn : (pieces t).length ≤ 4 := by
    unfold pieces
    split
    · simp
    · simp only [List.length_cons, List.length_append]
      repeat' split
      all_goals simp
    · simp
    · simp
  cases hps : pieces t with
  | nil =>
    cases t with
    | rune c => cases h
    | goto r => simp [pieces] at hps
    | style s => simp [pieces] at hps
    | clear => simp [pieces] at hps
  | cons p1 ps =>
    rw [hps] at hp e hn
    obtain ⟨i, c, c', r, k1, k2, k3⟩ := scan_cut ps p1 [] p q hp e
    have hc := hp (c ++ c') (by rw [k1]; simp)
    have hs : scanZ p = (i.map valZ, valZ c, c.length) := by unfold scanZ; rw [k2]; rfl
    have hlen : i.length + (r.length + 1) ≤ 4 := by
      have := congrArg List.length k1
      rw [List.length_append, List.length_cons (as := r)] at this
      omega
    have hfew := hc.few
    rw [List.length_append] at hfew
    rw [hs]
    have hdig : ∀ x ∈ c, 48 ≤ x ∧ x ≤ 57 := fun x hx => hc.dig x (by simp [hx])
    refine ⟨?_, ?_, by show c.length ≤ 2; omega, fun u hu => ?_, fun y u hu hy => ?_, by simp; omega⟩
    · match c, hdig, hfew with
      | [], _, _ => simp [valZ]
      | [a], hd, _ => have := hd a (by simp); simp [valZ]; omega
      | [a, b], hd, _ => have := hd a (by simp); have := hd b (by simp); simp [valZ]; omega
      | _ :: _ :: _ :: _, _, hl => simp at hl; omega
    · match c, hdig, hfew with
      | [], _, _ => simp [valZ]
      | [a], hd, _ => have := hd a (by simp); simp [valZ]; omega
      | [a, b], hd, _ => have := hd a (by simp); have := hd b (by simp); simp [valZ]; omega
      | _ :: _ :: _ :: _, _, hl => simp at hl; omega
    · show 1 ≤ c.length
      cases c with
      | cons => simp
      | nil =>
        cases c' with
        | nil => exact absurd rfl hc.some
        | cons z c' =>
          rw [k3, List.cons_append, List.cons.injEq] at hu
          have := hc.dig z (by simp)
          omega
    · have hc' : c' ≠ [] := by
        rintro rfl
        rw [k3, List.nil_append] at hu
        cases r with
        | nil => simp at hu
        | cons l r =>
          simp only [List.flatMap_cons, List.cons_append, List.cons.injEq] at hu
          exact hy hu.1.symm
      cases c' with
      | nil => exact absurd rfl hc'
      | cons z c' =>
        rw [k3, List.cons_append, List.cons.injEq] at hu
        obtain ⟨rfl, _⟩ := hu
        have hz := hc.dig z (by simp)
        simp only [List.length_cons] at hfew
        refine ⟨by show c.length ≤ 1; omega, ?_, hz.1, hz.2⟩
        match c, hdig, hfew with
        | [], _, _ => simp [valZ]
        | [a], hd, _ => have := hd a (by simp); simp [valZ]; omega
        | _ :: _ :: _, _, hl => simp at hl; omega
end Go.Proofs.YtnbpkabnaipimaaGreatDoor
