/- Plain mathematics: which key bytes begin with, which keys they are, what waits, and that parts come to the same as all at once. No walk. -/
import Derived.Lib.DecodeN
import Derived.Lib.Split
import Derived.Lib.Atoi
import Derived.Lib.Hide
namespace Go.Proofs.YtlmfhdkpgpjbnaaDoor
open Go Go.Lib

/-- A key: its kind, its rune, its modifiers. -/
structure Ky where
  k : Int
  r : Int
  m : Int

def noKy : Ky := ⟨0, 0, 0⟩

/-- The byte at a place; 0 behind the end. -/
def bAt (l : List UInt8) (i : Nat) : Nat := (l.getD i 0).toNat
theorem bAt_lt (l : List UInt8) (i : Nat) : bAt l i < 256 := (l.getD i 0).toNat_lt
theorem bAt_append (l t : List UInt8) (i : Nat) (h : i < l.length) : bAt (l ++ t) i = bAt l i := by
  unfold bAt
  rw [List.getD_eq_getElem?_getD, List.getD_eq_getElem?_getD, List.getElem?_append_left h]

/-- What FullRune answers: n bytes, the first ones b0, b1, b2. -/
def fullN (n b0 b1 b2 : Nat) : Bool :=
  if n = 0 then false
  else if firstT b0 % 8 ≤ n then true
  else if 1 < n ∧ (b1 < accLo (firstT b0 / 16) ∨ accHi (firstT b0 / 16) < b1) then true
  else decide (2 < n ∧ (b2 < 128 ∨ 191 < b2))

theorem firstT_eq (x0 : Nat) : (firstT x0 = 240 ∧ x0 < 128) ∨ (firstT x0 = 241 ∧ ((128 ≤ x0 ∧ x0 < 194) ∨ 245 ≤ x0)) ∨ (firstT x0 = 2 ∧ 194 ≤ x0 ∧ x0 < 224) ∨ (firstT x0 = 19 ∧ x0 = 224) ∨ (firstT x0 = 3 ∧ ((225 ≤ x0 ∧ x0 < 237) ∨ (238 ≤ x0 ∧ x0 < 240))) ∨ (firstT x0 = 35 ∧ x0 = 237) ∨ (firstT x0 = 52 ∧ x0 = 240) ∨ (firstT x0 = 4 ∧ 241 ≤ x0 ∧ x0 < 244) ∨ (firstT x0 = 68 ∧ x0 = 244) := by
  unfold firstT
  repeat' split
  all_goals omega

/-- The first rune of bytes, or 0, 0. -/
def firstU (l : List UInt8) : Nat × Nat :=
  if fullN l.length (bAt l 0) (bAt l 1) (bAt l 2) = true then decodeN l.length (bAt l 0) (bAt l 1) (bAt l 2) (bAt l 3) else (0, 0)

theorem fullN_mono (n m b0 b1 b2 c1 c2 : Nat) (h : fullN n b0 b1 b2 = true) (hm : n ≤ m) (h1 : 1 < n → c1 = b1) (h2 : 2 < n → c2 = b2) : fullN m b0 c1 c2 = true := by
  unfold fullN at h ⊢
  by_cases n0 : n = 0
  · rw [if_pos n0] at h; cases h
  · rw [if_neg n0] at h
    rw [if_neg (by omega)]
    by_cases ha : firstT b0 % 8 ≤ m
    · rw [if_pos ha]
    · rw [if_neg ha]
      rw [if_neg (by omega)] at h
      by_cases hb : 1 < n ∧ (b1 < accLo (firstT b0 / 16) ∨ accHi (firstT b0 / 16) < b1)
      · rw [if_pos (by rw [h1 hb.1]; exact ⟨by omega, hb.2⟩)]
      · rw [if_neg hb] at h
        have h := of_decide_eq_true h
        split
        · rfl
        · exact decide_eq_true ⟨by omega, by rw [h2 h.1]; exact h.2⟩

theorem decodeN_none (n x0 x1 x2 x3 : Nat) (l0 : x0 < 256) (hb : x0 < 194 ∨ 245 ≤ x0) : decodeN n x0 x1 x2 x3 = if x0 < 128 then (x0, 1) else (65533, 1) := by
  unfold decodeN
  by_cases h0 : x0 < 128
  · rw [if_pos h0, if_pos h0]
  · rw [if_neg h0, if_neg h0]
    repeat' split
    all_goals first | rfl | omega

set_option maxHeartbeats 4000000 in
set_option maxRecDepth 100000 in
theorem decodeN_same (n m x0 x1 x2 x3 y1 y2 y3 : Nat) (l0 : x0 < 256) (hf : fullN n x0 x1 x2 = true) (hm : n ≤ m) (h1 : 1 < n → y1 = x1) (h2 : 2 < n → y2 = x2) (h3 : 3 < n → y3 = x3) :
    decodeN m x0 y1 y2 y3 = decodeN n x0 x1 x2 x3 := by
  have n0 : n ≠ 0 := by intro h; rw [h] at hf; simp [fullN] at hf
  by_cases k4 : 3 < n
  · obtain rfl := h1 (by omega)
    obtain rfl := h2 (by omega)
    obtain rfl := h3 k4
    unfold decodeN
    have e1 : (1 < m) = (1 < n) := by rw [eq_iff_iff]; omega
    have e2 : (2 < m) = (2 < n) := by rw [eq_iff_iff]; omega
    have e3 : (3 < m) = (3 < n) := by rw [eq_iff_iff]; omega
    simp only [e1, e2, e3]
  · by_cases hb : x0 < 194 ∨ 245 ≤ x0
    · rw [decodeN_none _ _ _ _ _ l0 hb, decodeN_none _ _ _ _ _ l0 hb]
    · unfold fullN at hf
      rw [if_neg n0] at hf
      rcases (show n = 1 ∨ n = 2 ∨ n = 3 by omega) with rfl | rfl | rfl
      · exfalso
        rcases firstT_eq x0 with k | k | k | k | k | k | k | k | k <;> rw [k.1] at hf <;> simp at hf <;> omega
      · obtain rfl := h1 (by omega)
        unfold decodeN
        rcases firstT_eq x0 with k | k | k | k | k | k | k | k | k <;> rw [k.1] at hf <;> simp [accLo, accHi] at hf <;> (repeat' split) <;> first | rfl | omega | (exfalso; omega)
      · obtain rfl := h1 (by omega)
        obtain rfl := h2 (by omega)
        unfold decodeN
        rcases firstT_eq x0 with k | k | k | k | k | k | k | k | k <;> rw [k.1] at hf <;> simp [accLo, accHi] at hf <;> (repeat' split) <;> first | rfl | omega | (exfalso; omega)

theorem firstU_zero (l : List UInt8) (h : fullN l.length (bAt l 0) (bAt l 1) (bAt l 2) = false) : firstU l = (0, 0) := by unfold firstU; rw [h]; rfl
theorem firstU_append (l t : List UInt8) (h : (firstU l).2 ≠ 0) : firstU (l ++ t) = firstU l := by
  cases hf : fullN l.length (bAt l 0) (bAt l 1) (bAt l 2) with
  | false => rw [firstU_zero l hf] at h; exact absurd rfl h
  | true =>
    have hn : l.length ≠ 0 := by intro h0; rw [h0] at hf; simp [fullN] at hf
    have e0 : bAt (l ++ t) 0 = bAt l 0 := bAt_append l t 0 (by omega)
    have hg := fullN_mono l.length (l ++ t).length (bAt l 0) (bAt l 1) (bAt l 2) (bAt (l ++ t) 1) (bAt (l ++ t) 2) hf (by simp) (fun h => bAt_append l t 1 h) (fun h => bAt_append l t 2 h)
    unfold firstU
    rw [e0, if_pos hg, if_pos hf]
    exact decodeN_same _ _ _ _ _ _ _ _ _ (bAt_lt l 0) hf (by simp) (fun h => bAt_append l t 1 h) (fun h => bAt_append l t 2 h) (fun h => bAt_append l t 3 h)
theorem firstU_le (l : List UInt8) : (firstU l).2 ≤ l.length ∧ (firstU l).2 ≤ 4 := by
  unfold firstU
  split
  · rename_i h
    have hn : l.length ≠ 0 := by intro h0; rw [h0] at h; simp [fullN] at h
    unfold decodeN
    repeat' split
    all_goals (simp only; omega)
  · exact ⟨Nat.zero_le _, Nat.zero_le _⟩
theorem firstU_rune (l : List UInt8) : (firstU l).1 ≤ 1114111 := by
  unfold firstU
  split
  · have h0 := bAt_lt l 0
    have h1 := bAt_lt l 1
    have h2 := bAt_lt l 2
    have h3 := bAt_lt l 3
    unfold decodeN
    repeat' split
    all_goals (simp only; omega)
  · exact Nat.zero_le _

/-- How many bytes from 48 to 63 stand at the front, up to m. -/
def runLen : Nat → List UInt8 → Nat
  | 0, _ => 0
  | _ + 1, [] => 0
  | m + 1, c :: r => if 48 ≤ c.toNat ∧ c.toNat ≤ 63 then runLen m r + 1 else 0
theorem runLen_le (m : Nat) (l : List UInt8) : runLen m l ≤ l.length ∧ runLen m l ≤ m := by
  induction m generalizing l with
  | zero => exact ⟨Nat.zero_le _, Nat.le_refl _⟩
  | succ m ih =>
    cases l with
    | nil => exact ⟨Nat.le_refl _, Nat.zero_le _⟩
    | cons c r =>
      unfold runLen
      have := ih r
      split
      · simp only [List.length_cons]; omega
      · omega
theorem runLen_append (m : Nat) (l t : List UInt8) (h : runLen m l < l.length) : runLen m (l ++ t) = runLen m l := by
  induction m generalizing l with
  | zero => rfl
  | succ m ih =>
    cases l with
    | nil => cases h
    | cons c r =>
      unfold runLen at h ⊢
      rw [List.cons_append]
      simp only
      by_cases hc : 48 ≤ c.toNat ∧ c.toNat ≤ 63
      · rw [if_pos hc] at h
        rw [if_pos hc, if_pos hc, ih r (by simpa using h)]
      · rw [if_neg hc, if_neg hc]
/-- One more, if there is one. -/
theorem runLen_step (m : Nat) (l : List UInt8) (k : Nat) (hk : k ≤ runLen m l) : (k = runLen m l) ∨ (k < runLen m l ∧ k < l.length ∧ k < m ∧ 48 ≤ bAt l k ∧ bAt l k ≤ 63) := by
  induction m generalizing l k with
  | zero => exact .inl (by unfold runLen at hk ⊢; omega)
  | succ m ih =>
    cases l with
    | nil => exact .inl (by unfold runLen at hk ⊢; omega)
    | cons c r =>
      unfold runLen at hk ⊢
      by_cases hc : 48 ≤ c.toNat ∧ c.toNat ≤ 63
      · rw [if_pos hc] at hk ⊢
        cases k with
        | zero => exact .inr ⟨by omega, by simp, by omega, hc.1, hc.2⟩
        | succ k =>
          rcases ih r k (by omega) with h | ⟨h1, h2, h3, h4, h5⟩
          · exact .inl (by omega)
          · exact .inr ⟨by omega, by simp; omega, by omega, h4, h5⟩
      · rw [if_neg hc] at hk ⊢
        exact .inl (by omega)
theorem runLen_stop (m : Nat) (l : List UInt8) (h : runLen m l < l.length) (hm : runLen m l < m) : bAt l (runLen m l) < 48 ∨ 63 < bAt l (runLen m l) := by
  induction m generalizing l with
  | zero => omega
  | succ m ih =>
    cases l with
    | nil => cases h
    | cons c r =>
      unfold runLen at h hm ⊢
      by_cases hc : 48 ≤ c.toNat ∧ c.toNat ≤ 63
      · rw [if_pos hc] at h hm ⊢
        exact ih r (by simpa using h) (by omega)
      · rw [if_neg hc] at h hm ⊢
        show c.toNat < 48 ∨ 63 < c.toNat
        omega

/-- What digits come to. -/
def digP (d : List UInt8) : Option Int := if d.length ≤ 3 then atoi d else none
/-- The numbers of pieces. -/
def numsL : List (List UInt8) → Option (List Int)
  | [] => some []
  | d :: r => match digP d, numsL r with
    | some n, some l => some (n :: l)
    | _, _ => none
theorem numsL_snoc (p : List (List UInt8)) (d : List UInt8) (l : List Int) (h : numsL p = some l) : numsL (p ++ [d]) = (digP d).map fun n => l ++ [n] := by
  induction p generalizing l with
  | nil =>
    cases h
    cases hd : digP d <;> simp [numsL, hd]
  | cons c r ih =>
    rw [List.cons_append]
    unfold numsL at h ⊢
    cases hc : digP c with
    | none => rw [hc] at h; cases h
    | some n =>
      rw [hc] at h
      cases hr : numsL r with
      | none => rw [hr] at h; cases h
      | some lr =>
        rw [hr] at h
        cases h
        rw [ih lr hr]
        cases hd : digP d <;> simp
theorem numsL_bad (p r : List (List UInt8)) (h : numsL p = none) : numsL (p ++ r) = none := by
  induction p with
  | nil => cases h
  | cons c q ih =>
    rw [List.cons_append]
    unfold numsL at h ⊢
    cases hc : digP c with
    | none => rfl
    | some n =>
      rw [hc] at h
      cases hr : numsL q with
      | none => rw [ih hr]
      | some lr => rw [hr] at h; cases h
theorem numsL_len (p : List (List UInt8)) (l : List Int) (h : numsL p = some l) : l.length = p.length := by
  induction p generalizing l with
  | nil => cases h; rfl
  | cons c r ih =>
    unfold numsL at h
    cases hc : digP c with
    | none => rw [hc] at h; cases h
    | some n =>
      rw [hc] at h
      cases hr : numsL r with
      | none => rw [hr] at h; cases h
      | some lr => rw [hr] at h; cases h; simp [ih lr hr]
/-- The numbers of the bytes ahead of a sequence's last one. -/
def numsP (a : List UInt8) : Option (List Int) := if a.length = 0 then some [] else numsL (split a [59])
def modsP (l : List Int) : Int := if l.length < 2 then 0 else if l.getD 1 0 < 2 then 0 else if 8 < l.getD 1 0 then 0 else l.getD 1 0 - 1
def kindP (l : List Int) : Int := if l.length = 0 then 0 else if l.getD 0 0 = 1 ∨ l.getD 0 0 = 7 then 10 else if l.getD 0 0 = 3 then 5 else if l.getD 0 0 = 4 ∨ l.getD 0 0 = 8 then 11 else 0
def orOne (m : Int) : Int := if m % 2 = 0 then m + 1 else m
theorem modsP_le (l : List Int) : 0 ≤ modsP l ∧ modsP l ≤ 7 := by
  unfold modsP
  repeat' split
  all_goals omega
/-- The key of a sequence. -/
def seqKey (a : List UInt8) (c : Nat) : Ky :=
  match numsP a with
  | none => noKy
  | some l =>
    if c = 65 then ⟨6, 0, modsP l⟩
    else if c = 66 then ⟨7, 0, modsP l⟩
    else if c = 67 then ⟨9, 0, modsP l⟩
    else if c = 68 then ⟨8, 0, modsP l⟩
    else if c = 72 then ⟨10, 0, modsP l⟩
    else if c = 70 then ⟨11, 0, modsP l⟩
    else if c = 90 then ⟨3, 0, orOne (modsP l)⟩
    else if c = 126 then ⟨kindP l, 0, modsP l⟩
    else ⟨0, 0, modsP l⟩

/-- A sequence whose first two bytes are there. -/
def seqP (most : Nat) (l : List UInt8) : Ky × Nat :=
  if 2 + runLen most (l.drop 2) = l.length then (noKy, 0)
  else if bAt l (2 + runLen most (l.drop 2)) < 64 then (noKy, 2 + runLen most (l.drop 2))
  else if 126 < bAt l (2 + runLen most (l.drop 2)) then (noKy, 2 + runLen most (l.drop 2))
  else (seqKey ((l.drop 2).take (runLen most (l.drop 2))) (bAt l (2 + runLen most (l.drop 2))), 2 + runLen most (l.drop 2) + 1)
/-- Bytes that begin with no escape. -/
def plainP (l : List UInt8) : Ky × Nat :=
  if bAt l 0 = 10 then (⟨2, 0, 4⟩, 1)
  else if bAt l 0 = 13 then (⟨2, 0, 0⟩, 1)
  else if bAt l 0 = 9 then (⟨3, 0, 0⟩, 1)
  else if bAt l 0 = 8 ∨ bAt l 0 = 127 then (⟨4, 0, 0⟩, 1)
  else if bAt l 0 < 32 then (⟨1, bAt l 0 + 96, 4⟩, 1)
  else (⟨1, (firstU l).1, 0⟩, (firstU l).2)
/-- Bytes that begin with an escape. -/
def escP (l : List UInt8) : Ky × Nat :=
  if l.length = 1 then (noKy, 0)
  else if bAt l 1 = 27 then (noKy, 1)
  else if bAt l 1 = 79 then seqP 0 l
  else if bAt l 1 = 91 then seqP 12 l
  else if (plainP (l.drop 1)).2 = 0 then (noKy, 0)
  else (⟨(plainP (l.drop 1)).1.k, (plainP (l.drop 1)).1.r, (plainP (l.drop 1)).1.m + 2⟩, (plainP (l.drop 1)).2 + 1)
/-- The key that bytes begin with, and how many they are. -/
def firstP (l : List UInt8) : Ky × Nat :=
  if l.length = 0 then (noKy, 0) else if bAt l 0 = 27 then escP l else plainP l

theorem seqP_append (most : Nat) (l t : List UInt8) (h2 : 2 ≤ l.length) (h : (seqP most l).2 ≠ 0) : seqP most (l ++ t) = seqP most l := by
  have hr := runLen_le most (l.drop 2)
  rw [List.length_drop] at hr
  have hne : 2 + runLen most (l.drop 2) ≠ l.length := by
    intro e
    unfold seqP at h
    rw [if_pos e] at h
    exact h rfl
  have hd : (l ++ t).drop 2 = l.drop 2 ++ t := by rw [List.drop_append, show 2 - l.length = 0 by omega]; rfl
  have e1 := runLen_append most (l.drop 2) t (by rw [List.length_drop]; omega)
  have e2 : bAt (l ++ t) (2 + runLen most (l.drop 2)) = bAt l (2 + runLen most (l.drop 2)) := bAt_append _ _ _ (by omega)
  unfold seqP
  rw [hd, e1, e2, if_neg hne, if_neg (by rw [List.length_append]; omega), List.take_append_of_le_length (by rw [List.length_drop]; omega)]
theorem seqP_le (most : Nat) (l : List UInt8) (h2 : 2 ≤ l.length) : (seqP most l).2 ≤ l.length := by
  have hr := runLen_le most (l.drop 2)
  rw [List.length_drop] at hr
  unfold seqP
  repeat' split
  all_goals (simp only; omega)
theorem plainP_append (l t : List UInt8) (h0 : l.length ≠ 0) (h : (plainP l).2 ≠ 0) : plainP (l ++ t) = plainP l := by
  have e0 : bAt (l ++ t) 0 = bAt l 0 := bAt_append l t 0 (by omega)
  unfold plainP at h ⊢
  rw [e0]
  by_cases c1 : bAt l 0 = 10
  · rw [if_pos c1, if_pos c1]
  rw [if_neg c1] at h
  rw [if_neg c1, if_neg c1]
  by_cases c2 : bAt l 0 = 13
  · rw [if_pos c2, if_pos c2]
  rw [if_neg c2] at h
  rw [if_neg c2, if_neg c2]
  by_cases c3 : bAt l 0 = 9
  · rw [if_pos c3, if_pos c3]
  rw [if_neg c3] at h
  rw [if_neg c3, if_neg c3]
  by_cases c4 : bAt l 0 = 8 ∨ bAt l 0 = 127
  · rw [if_pos c4, if_pos c4]
  rw [if_neg c4] at h
  rw [if_neg c4, if_neg c4]
  by_cases c5 : bAt l 0 < 32
  · rw [if_pos c5, if_pos c5]
  rw [if_neg c5] at h
  rw [if_neg c5, if_neg c5, firstU_append l t h]
theorem plainP_le (l : List UInt8) (h0 : l.length ≠ 0) : (plainP l).2 ≤ l.length := by
  have := (firstU_le l).1
  unfold plainP
  repeat' split
  all_goals (simp only; omega)
theorem escP_append (l t : List UInt8) (h0 : l.length ≠ 0) (h : (escP l).2 ≠ 0) : escP (l ++ t) = escP l := by
  unfold escP at h ⊢
  by_cases c1 : l.length = 1
  · rw [if_pos c1] at h; exact absurd rfl h
  rw [if_neg c1] at h
  have e1 : bAt (l ++ t) 1 = bAt l 1 := bAt_append l t 1 (by omega)
  have hd : (l ++ t).drop 1 = l.drop 1 ++ t := by rw [List.drop_append, show 1 - l.length = 0 by omega]; rfl
  rw [if_neg c1, if_neg (by rw [List.length_append]; omega), e1, hd]
  by_cases c2 : bAt l 1 = 27
  · rw [if_pos c2, if_pos c2]
  rw [if_neg c2] at h
  rw [if_neg c2, if_neg c2]
  by_cases c3 : bAt l 1 = 79
  · rw [if_pos c3] at h
    rw [if_pos c3, if_pos c3, seqP_append 0 l t (by omega) h]
  rw [if_neg c3] at h
  rw [if_neg c3, if_neg c3]
  by_cases c4 : bAt l 1 = 91
  · rw [if_pos c4] at h
    rw [if_pos c4, if_pos c4, seqP_append 12 l t (by omega) h]
  rw [if_neg c4] at h
  rw [if_neg c4, if_neg c4]
  by_cases c5 : (plainP (l.drop 1)).2 = 0
  · rw [if_pos c5] at h; exact absurd rfl h
  rw [plainP_append (l.drop 1) t (by rw [List.length_drop]; omega) c5]
theorem escP_le (l : List UInt8) (h0 : l.length ≠ 0) : (escP l).2 ≤ l.length := by
  unfold escP
  split
  · exact Nat.zero_le _
  split
  · simp only; omega
  split
  · exact seqP_le _ _ (by omega)
  split
  · exact seqP_le _ _ (by omega)
  split
  · exact Nat.zero_le _
  have := plainP_le (l.drop 1) (by rw [List.length_drop]; omega)
  rw [List.length_drop] at this
  simp only
  omega
theorem firstP_append (l t : List UInt8) (h : (firstP l).2 ≠ 0) : firstP (l ++ t) = firstP l := by
  unfold firstP at h ⊢
  by_cases c0 : l.length = 0
  · rw [if_pos c0] at h; exact absurd rfl h
  rw [if_neg c0] at h
  rw [if_neg c0, if_neg (by rw [List.length_append]; omega), bAt_append l t 0 (by omega)]
  by_cases c1 : bAt l 0 = 27
  · rw [if_pos c1] at h
    rw [if_pos c1, if_pos c1, escP_append l t c0 h]
  rw [if_neg c1] at h
  rw [if_neg c1, if_neg c1, plainP_append l t c0 h]
theorem firstP_le (l : List UInt8) : (firstP l).2 ≤ l.length := by
  unfold firstP
  split
  · exact Nat.zero_le _
  split
  · exact escP_le l ‹_›
  · exact plainP_le l ‹_›

/-- A key, if it is one. -/
def one (k : Ky) : List Ky := if k.k = 0 then [] else [k]
/-- Bytes are read: the keys, and what waits. -/
inductive Run : List UInt8 → List Ky → List UInt8 → Prop
  | done (l : List UInt8) (h : (firstP l).2 = 0) : Run l [] l
  | step (l : List UInt8) (ks : List Ky) (r : List UInt8) (h : (firstP l).2 ≠ 0) (t : Run (l.drop (firstP l).2) ks r) : Run l (one (firstP l).1 ++ ks) r

theorem Run.same {l : List UInt8} {k1 k2 : List Ky} {r1 r2 : List UInt8} (h1 : Run l k1 r1) (h2 : Run l k2 r2) : k1 = k2 ∧ r1 = r2 := by
  induction h1 generalizing k2 r2 with
  | done l h =>
    cases h2 with
    | done _ _ => exact ⟨rfl, rfl⟩
    | step _ _ _ h' _ => exact absurd h h'
  | step l ks r h t ih =>
    cases h2 with
    | done _ h' => exact absurd h' h
    | step _ _ _ _ t' =>
      obtain ⟨rfl, rfl⟩ := ih t'
      exact ⟨rfl, rfl⟩
theorem Run.parts {x y r1 r2 : List UInt8} {k1 k2 : List Ky} (h1 : Run x k1 r1) (h2 : Run (r1 ++ y) k2 r2) : Run (x ++ y) (k1 ++ k2) r2 := by
  induction h1 with
  | done l h => exact h2
  | step l ks r h t ih =>
    have e := firstP_append l y h
    have s := ih h2
    have hd : (l ++ y).drop (firstP l).2 = l.drop (firstP l).2 ++ y := by
      have := firstP_le l
      rw [List.drop_append, show (firstP l).2 - l.length = 0 by omega]; rfl
    have q := Run.step (l ++ y) (ks ++ k2) r2 (by rw [e]; exact h) (by rw [e, hd]; exact s)
    rw [e] at q
    rw [List.append_assoc]
    exact q
theorem Run.len {l r : List UInt8} {ks : List Ky} (h : Run l ks r) : r.length + ks.length ≤ l.length := by
  induction h with
  | done l h => simp
  | step l ks r h t ih =>
    rw [List.length_drop] at ih
    have := firstP_le l
    rw [List.length_append]
    have : (one (firstP l).1).length ≤ 1 := by unfold one; split <;> simp
    omega
theorem Run.ex (n : Nat) (l : List UInt8) (h : l.length ≤ n) : ∃ ks r, Run l ks r := by
  induction n generalizing l with
  | zero => exact ⟨[], l, .done l (by unfold firstP; rw [if_pos (by omega)])⟩
  | succ n ih =>
    by_cases h0 : (firstP l).2 = 0
    · exact ⟨[], l, .done l h0⟩
    · obtain ⟨ks, r, t⟩ := ih (l.drop (firstP l).2) (by rw [List.length_drop]; omega)
      exact ⟨_, r, .step l ks r h0 t⟩
/-- The first steps, and what is left. -/
inductive Took : List UInt8 → List Ky → List UInt8 → Prop
  | start (l : List UInt8) : Took l [] l
  | more (l : List UInt8) (ks : List Ky) (r : List UInt8) (t : Took l ks r) (h : (firstP r).2 ≠ 0) : Took l (ks ++ one (firstP r).1) (r.drop (firstP r).2)
theorem Took.run {l r r2 : List UInt8} {ks k2 : List Ky} (h : Took l ks r) (t : Run r k2 r2) : Run l (ks ++ k2) r2 := by
  induction h generalizing k2 r2 with
  | start => exact t
  | more ks r _ h ih =>
    rw [List.append_assoc]
    exact ih (.step r k2 r2 h t)
theorem Took.end_ {l r : List UInt8} {ks : List Ky} (h : Took l ks r) (h0 : (firstP r).2 = 0) : Run l ks r := by
  have := h.run (.done r h0)
  rwa [List.append_nil] at this
theorem Took.len {l r : List UInt8} {ks : List Ky} (h : Took l ks r) : r.length + ks.length ≤ l.length := by
  induction h with
  | start => simp
  | more ks r _ h ih =>
    rw [List.length_drop, List.length_append]
    have := firstP_le r
    have : (one (firstP r).1).length ≤ 1 := by unfold one; split <;> simp
    omega
end Go.Proofs.YtlmfhdkpgpjbnaaDoor
