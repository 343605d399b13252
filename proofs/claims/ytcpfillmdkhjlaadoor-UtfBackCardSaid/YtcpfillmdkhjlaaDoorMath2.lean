/- Plain lemmas: runes that were encoded are decoded as they were; what is decoded is right; behind whole sequences other bytes are decoded as they are alone. No conditions. -/
import Derived.Test.YtcpfillmdkhjlaaDoorWalkJ
namespace Go.Proofs.YtcpfillmdkhjlaaDoor
open Go Go.RowKit Go.Lib

/-- A rune, or U+FFFD where it is not right. -/
def fix (z : Int) : Int := if Lib.validRune z = true then z else 65533
theorem fix_valid {z : Int} (h : Lib.validRune z = true) : fix z = z := by unfold fix; rw [if_pos h]
theorem map_fix {l : List Int} (h : l.all Lib.validRune = true) : l.map fix = l := by
  induction l with
  | nil => rfl
  | cons z r ih =>
    simp only [List.all_cons, Bool.and_eq_true] at h
    simp only [List.map_cons, fix_valid h.1, ih h.2]

/-- Each rune that is decoded is right. -/
theorem decode_valid (s : ByteArray) (pos : Nat) : Lib.validRune ((Utf8.decode s pos).1 : Int) = true := by
  rw [Lib.decode_at]
  have l0 := (s.get! pos).toNat_lt
  have l1 := (s.get! (pos + 1)).toNat_lt
  have l2 := (s.get! (pos + 2)).toNat_lt
  have l3 := (s.get! (pos + 3)).toNat_lt
  rw [decodeN_is _ _ _ _ _ (by omega) (by omega) (by omega) (by omega)]
  apply valid_of
  unfold ok2 ok3 ok4 r3 r4
  repeat' split
  all_goals simp only
  all_goals omega
theorem decFrom_valid (s : ByteArray) : ∀ f pos, (decFrom s f pos).all Lib.validRune = true
  | 0, _ => by simp [decFrom]
  | f + 1, pos => by
    unfold decFrom
    split
    · simp only [List.all_cons, Bool.and_eq_true]
      exact ⟨decode_valid s pos, decFrom_valid s f _⟩
    · rfl

theorem dec_fuel (s : ByteArray) : ∀ f g pos, s.size - pos ≤ f → s.size - pos ≤ g → decFrom s f pos = decFrom s g pos
  | 0, g, pos, h, _ => by
    rw [decFrom_end s g pos (by omega)]; rfl
  | f + 1, 0, pos, _, h => by
    rw [decFrom_end s (f + 1) pos (by omega)]; rfl
  | f + 1, g + 1, pos, h1, h2 => by
    unfold decFrom
    by_cases hp : pos < s.size
    · rw [if_pos hp, if_pos hp]
      have := Lib.decode_width_pos s pos hp
      rw [dec_fuel s f g _ (by omega) (by omega)]
    · rw [if_neg hp, if_neg hp]

/-- The runes from a place on. -/
def decAt (s : ByteArray) (pos : Nat) : List Int := decFrom s s.size pos
theorem decAt_step (s : ByteArray) (pos : Nat) (h : pos < s.size) : decAt s pos = ((Utf8.decode s pos).1 : Int) :: decAt s (pos + (Utf8.decode s pos).2) := by
  unfold decAt
  have := Lib.decode_width_pos s pos h
  rw [dec_fuel s s.size (s.size - pos - 1 + 1) pos (by omega) (by omega), decFrom, if_pos h, dec_fuel s (s.size - pos - 1) s.size _ (by omega) (by omega)]

/-- A part of the bytes is decoded as it is alone. -/
theorem decFrom_part (S s : ByteArray) (n : Nat) (hsz : S.size = n + s.size) (hget : ∀ j, S.get! (n + j) = s.get! j) : ∀ f pos, decFrom S f (n + pos) = decFrom s f pos
  | 0, _ => rfl
  | f + 1, pos => by
    have e : Utf8.decode S (n + pos) = Utf8.decode s pos := by
      rw [Lib.decode_at, Lib.decode_at, hget pos, show n + pos + 1 = n + (pos + 1) by omega, show n + pos + 2 = n + (pos + 2) by omega, show n + pos + 3 = n + (pos + 3) by omega, hget, hget, hget, show S.size - (n + pos) = s.size - pos by omega]
    unfold decFrom
    by_cases hp : pos < s.size
    · rw [if_pos (by omega), if_pos hp, e, show n + pos + (Utf8.decode s pos).2 = n + (pos + (Utf8.decode s pos).2) by omega, decFrom_part S s n hsz hget f]
    · rw [if_neg (by omega), if_neg hp]
theorem decAt_part (S s : ByteArray) (n : Nat) (hsz : S.size = n + s.size) (hget : ∀ j, S.get! (n + j) = s.get! j) : decAt S n = decAll s := by
  unfold decAt decAll
  rw [dec_fuel S S.size s.size n (by omega) (by omega)]
  exact decFrom_part S s n hsz hget s.size 0

theorem nums_get! (zs : List Int) (j : Nat) : (strOfNums zs).get! j = UInt8.ofNat (zs.getD j 0).toNat := by
  rw [← Lib.getD_get!', strOfNums_data]
  simp only [List.getD, List.getElem?_map]
  cases zs[j]? <;> rfl

theorem nums_at (A C : List Int) (j : Nat) : (strOfNums (A ++ C)).get! (A.length + j) = (strOfNums C).get! j := by
  have e : (A ++ C).getD (A.length + j) 0 = C.getD j 0 := by
    unfold List.getD
    rw [List.getElem?_append_right (by omega), Nat.add_sub_cancel_left]
  rw [nums_get!, nums_get!, e]

/-- A rune's bytes, wherever they lie, are decoded as that rune. -/
theorem decode_rune (z : Int) (C : List Int) : Utf8.decode (strOfNums (Lib.encodeRuneZ z ++ C)) 0 = ((fix z).toNat, (Lib.encodeRuneZ z).length) := by
  have hg : ∀ j x, (Lib.encodeRuneZ z)[j]? = some x → ((strOfNums (Lib.encodeRuneZ z ++ C)).get! j).toNat = x.toNat := by
    intro j x hx
    have hb := Lib.encodeRuneZ_byte z x (List.mem_of_getElem? hx)
    have hj : j < (Lib.encodeRuneZ z).length := (List.getElem?_eq_some_iff.1 hx).1
    rw [nums_get!]
    simp only [List.getD, List.getElem?_append_left hj, hx, Option.getD_some, UInt8.toNat_ofNat']
    omega
  have hn : (Lib.encodeRuneZ z).length ≤ (strOfNums (Lib.encodeRuneZ z ++ C)).size := by rw [strOfNums_size]; simp
  generalize strOfNums (Lib.encodeRuneZ z ++ C) = S at hg hn
  have l0 := (S.get! 0).toNat_lt
  have l1 := (S.get! 1).toNat_lt
  have l2 := (S.get! 2).toNat_lt
  have l3 := (S.get! 3).toNat_lt
  rw [Lib.decode_at, decodeN_is _ _ _ _ _ (by omega) (by omega) (by omega) (by omega)]
  simp only [Nat.zero_add, Nat.sub_zero]
  unfold ok2 ok3 ok4 r3 r4
  cases hv : Lib.validRune z
  · have hz : z < 0 ∨ (55296 ≤ z ∧ z ≤ 57343) ∨ 1114111 < z := by
      unfold Lib.validRune at hv
      simp only [decide_eq_false_iff_not] at hv
      omega
    rw [Lib.encodeRuneZ_bad hz] at hg hn ⊢
    have g0 := hg 0 239 rfl
    have g1 := hg 1 191 rfl
    have g2 := hg 2 189 rfl
    simp only [List.length_cons, List.length_nil] at hn
    simp only [Int.reduceToNat] at g0 g1 g2
    rw [g0, g1, g2]
    have hfix : fix z = 65533 := by unfold fix; rw [hv]; rfl
    rw [hfix, if_neg (by omega), if_neg (by omega), if_pos (by omega)]
    rfl
  · have hz := valid_iff hv
    rw [fix_valid hv]
    rcases (show (0 ≤ z ∧ z ≤ 127) ∨ (128 ≤ z ∧ z ≤ 2047) ∨ ((2048 ≤ z ∧ z < 55296) ∨ (57343 < z ∧ z ≤ 65535)) ∨ (65536 ≤ z ∧ z ≤ 1114111) by omega) with h | h | h | h
    · rw [Lib.encodeRuneZ_one h.1 h.2] at hg hn ⊢
      have g0 := hg 0 _ rfl
      rw [if_pos (by omega), g0]
      rfl
    · rw [Lib.encodeRuneZ_two h.1 h.2] at hg hn ⊢
      have g0 := hg 0 _ rfl
      have g1 := hg 1 _ rfl
      simp only [List.length_cons, List.length_nil] at hn
      rw [if_neg (by omega), if_pos (by omega)]
      apply Prod.ext
      · simp only; omega
      · rfl
    · rw [Lib.encodeRuneZ_three h] at hg hn ⊢
      have g0 := hg 0 _ rfl
      have g1 := hg 1 _ rfl
      have g2 := hg 2 _ rfl
      simp only [List.length_cons, List.length_nil] at hn
      rw [if_neg (by omega), if_neg (by omega), if_pos (by omega)]
      apply Prod.ext
      · simp only; omega
      · rfl
    · rw [Lib.encodeRuneZ_four h.1 h.2] at hg hn ⊢
      have g0 := hg 0 _ rfl
      have g1 := hg 1 _ rfl
      have g2 := hg 2 _ rfl
      have g3 := hg 3 _ rfl
      simp only [List.length_cons, List.length_nil] at hn
      rw [if_neg (by omega), if_neg (by omega), if_neg (by omega), if_pos (by omega)]
      apply Prod.ext
      · simp only; omega
      · rfl

theorem encNums_cons (z : Int) (l : List Int) : encNums (z :: l) = Lib.encodeRuneZ z ++ encNums l := rfl

/-- Runes that were encoded, and bytes behind them. -/
theorem dec_enc (C : List Int) : ∀ l : List Int, decAll (strOfNums (encNums l ++ C)) = l.map fix ++ decAll (strOfNums C)
  | [] => rfl
  | z :: l => by
    have ih := dec_enc C l
    rw [encNums_cons, List.append_assoc]
    have hd := decode_rune z (encNums l ++ C)
    have h1 := (Lib.encodeRuneZ_length z).1
    have hsz : (strOfNums (Lib.encodeRuneZ z ++ (encNums l ++ C))).size = (Lib.encodeRuneZ z).length + (strOfNums (encNums l ++ C)).size := by
      rw [strOfNums_size, strOfNums_size, List.length_append]
    have hp := decAt_part (strOfNums (Lib.encodeRuneZ z ++ (encNums l ++ C))) (strOfNums (encNums l ++ C)) (Lib.encodeRuneZ z).length hsz (nums_at _ _)
    have hs := decAt_step (strOfNums (Lib.encodeRuneZ z ++ (encNums l ++ C))) 0 (by omega)
    rw [hd] at hs
    simp only [Nat.zero_add] at hs
    rw [hp, ih] at hs
    have h0 : decAll (strOfNums (Lib.encodeRuneZ z ++ (encNums l ++ C))) = decAt (strOfNums (Lib.encodeRuneZ z ++ (encNums l ++ C))) 0 := rfl
    rw [h0, hs, List.map_cons, List.cons_append]
    congr 1
    have : 0 ≤ fix z := by
      unfold fix
      split
      · have := valid_iff (by assumption : Lib.validRune z = true); omega
      · decide
    omega

/-- Right runes are decoded as they were. -/
theorem dec_back (l : List Int) (h : l.all Lib.validRune = true) : decAll (strOfNums (encNums l)) = l := by
  have := dec_enc [] l
  rw [List.append_nil] at this
  rw [this, map_fix h]
  have : decAll (strOfNums []) = [] := rfl
  rw [this, List.append_nil]
end Go.Proofs.YtcpfillmdkhjlaaDoor
