/- A rune's own bytes are read as that rune; a beginning of them waits. No walk. -/
import Derived.Test.YtnbpkabnaipimaaDoorFirstU
import Derived.Shelf.Small.Utf8
namespace Go.Proofs.YtnbpkabnaipimaaDoor
open Go Go.Lib

theorem full_one' (m n b1 b2 : Nat) (h : m < 128) (hn : 1 ≤ n) : fullN n m b1 b2 = true := by
  have hf : firstT m = 240 := by unfold firstT; rw [if_pos h]
  unfold fullN
  rw [if_neg (by omega), hf, if_pos (by omega)]
theorem dec_one' (m n b1 b2 b3 : Nat) (h : m < 128) : decodeN n m b1 b2 b3 = (m, 1) := by
  unfold decodeN
  rw [if_pos h]

theorem lead2 {m : Nat} (h : 128 ≤ m ∧ m ≤ 2047) : firstT (192 + m / 64) = 2 := by
  unfold firstT
  repeat' split
  all_goals omega
theorem full_two' (m n b2 : Nat) (h : 128 ≤ m ∧ m ≤ 2047) (hn : 2 ≤ n) : fullN n (192 + m / 64) (128 + m % 64) b2 = true := by
  unfold fullN
  rw [if_neg (by omega), lead2 h, if_pos (by omega)]
theorem part_two' (m : Nat) (h : 128 ≤ m ∧ m ≤ 2047) : fullN 1 (192 + m / 64) 0 0 = false := by
  unfold fullN
  rw [if_neg (by omega), lead2 h, if_neg (by omega), if_neg (by omega)]
  simp
theorem dec_two' (m n b2 b3 : Nat) (h : 128 ≤ m ∧ m ≤ 2047) (hn : 2 ≤ n) : decodeN n (192 + m / 64) (128 + m % 64) b2 b3 = (m, 2) := by
  unfold decodeN
  rw [if_neg (by omega), if_pos (by omega), if_pos (by omega)]
  simp only [Prod.mk.injEq, and_true]
  omega

theorem lead3 {m : Nat} (h : 2048 ≤ m ∧ m < 55296 ∨ 57343 < m ∧ m ≤ 65535) : firstT (224 + m / 4096) % 8 = 3 ∧ ¬ (128 + m / 64 % 64 < accLo (firstT (224 + m / 4096) / 16) ∨ accHi (firstT (224 + m / 4096) / 16) < 128 + m / 64 % 64) := by
  rcases firstT_eq (224 + m / 4096) with hX | hX | hX | hX | hX | hX | hX | hX | hX
  all_goals
    rw [hX.1]
    simp [accLo, accHi]
    omega
theorem full_three' (m n : Nat) (h : 2048 ≤ m ∧ m < 55296 ∨ 57343 < m ∧ m ≤ 65535) (hn : 3 ≤ n) : fullN n (224 + m / 4096) (128 + m / 64 % 64) (128 + m % 64) = true := by
  unfold fullN
  rw [if_neg (by omega), (lead3 h).1, if_pos (by omega)]
theorem part_three1 (m : Nat) (h : 2048 ≤ m ∧ m < 55296 ∨ 57343 < m ∧ m ≤ 65535) : fullN 1 (224 + m / 4096) 0 0 = false := by
  unfold fullN
  rw [if_neg (by omega), (lead3 h).1, if_neg (by omega), if_neg (by omega)]
  simp
theorem part_three2 (m : Nat) (h : 2048 ≤ m ∧ m < 55296 ∨ 57343 < m ∧ m ≤ 65535) : fullN 2 (224 + m / 4096) (128 + m / 64 % 64) 0 = false := by
  unfold fullN
  rw [if_neg (by omega), (lead3 h).1, if_neg (by omega), if_neg (fun x => (lead3 h).2 x.2)]
  simp
theorem dec_three' (m n b3 : Nat) (h : 2048 ≤ m ∧ m < 55296 ∨ 57343 < m ∧ m ≤ 65535) (hn : 3 ≤ n) : decodeN n (224 + m / 4096) (128 + m / 64 % 64) (128 + m % 64) b3 = (m, 3) := by
  unfold decodeN
  rw [if_neg (by omega), if_neg (by omega), if_pos (by omega), if_pos (by omega)]
  simp only [Prod.mk.injEq, and_true]
  omega

theorem lead4 {m : Nat} (h : 65536 ≤ m ∧ m ≤ 1114111) : firstT (240 + m / 262144) % 8 = 4 ∧ ¬ (128 + m / 4096 % 64 < accLo (firstT (240 + m / 262144) / 16) ∨ accHi (firstT (240 + m / 262144) / 16) < 128 + m / 4096 % 64) := by
  rcases firstT_eq (240 + m / 262144) with hX | hX | hX | hX | hX | hX | hX | hX | hX
  all_goals
    rw [hX.1]
    simp [accLo, accHi]
    omega
theorem full_four' (m n : Nat) (h : 65536 ≤ m ∧ m ≤ 1114111) (hn : 4 ≤ n) : fullN n (240 + m / 262144) (128 + m / 4096 % 64) (128 + m / 64 % 64) = true := by
  unfold fullN
  rw [if_neg (by omega), (lead4 h).1, if_pos (by omega)]
theorem part_four1 (m : Nat) (h : 65536 ≤ m ∧ m ≤ 1114111) : fullN 1 (240 + m / 262144) 0 0 = false := by
  unfold fullN
  rw [if_neg (by omega), (lead4 h).1, if_neg (by omega), if_neg (by omega)]
  simp
theorem part_four2 (m : Nat) (h : 65536 ≤ m ∧ m ≤ 1114111) : fullN 2 (240 + m / 262144) (128 + m / 4096 % 64) 0 = false := by
  unfold fullN
  rw [if_neg (by omega), (lead4 h).1, if_neg (by omega), if_neg (fun x => (lead4 h).2 x.2)]
  simp
theorem part_four3 (m : Nat) (h : 65536 ≤ m ∧ m ≤ 1114111) : fullN 3 (240 + m / 262144) (128 + m / 4096 % 64) (128 + m / 64 % 64) = false := by
  unfold fullN
  rw [if_neg (by omega), (lead4 h).1, if_neg (by omega), if_neg (fun x => (lead4 h).2 x.2)]
  simp
  omega
theorem dec_four' (m n : Nat) (h : 65536 ≤ m ∧ m ≤ 1114111) (hn : 4 ≤ n) : decodeN n (240 + m / 262144) (128 + m / 4096 % 64) (128 + m / 64 % 64) (128 + m % 64) = (m, 4) := by
  unfold decodeN
  rw [if_neg (by omega), if_neg (by omega), if_neg (by omega), if_pos (by omega), if_pos (by omega)]
  simp only [Prod.mk.injEq, and_true]
  omega

/-- Bytes as numbers, as bytes. -/
def by8 (l : List Int) : List UInt8 := l.map fun x => UInt8.ofNat x.toNat
theorem by8_len (l : List Int) : (by8 l).length = l.length := by simp [by8]
theorem bAt_cons (x : Int) (l : List Int) (i : Nat) : bAt (by8 (x :: l)) (i + 1) = bAt (by8 l) i := rfl
theorem bAt_zero (x : Int) (l : List Int) (h : 0 ≤ x ∧ x ≤ 255) : bAt (by8 (x :: l)) 0 = x.toNat := by
  show (UInt8.ofNat x.toNat).toNat = x.toNat
  rw [UInt8.toNat_ofNat']
  omega
theorem bAt_nil (i : Nat) : bAt (by8 []) i = 0 := rfl

/-- A whole rune is read, whatever is behind it. -/
theorem firstU_rune {c : Int} (hv : Lib.validRune c = true) (rest : List Int) : firstU (by8 (Lib.encodeRuneZ c ++ rest)) = (c.toNat, (Lib.encodeRuneZ c).length) := by
  have hv' : (0 ≤ c ∧ c < 55296) ∨ (57343 < c ∧ c ≤ 1114111) := by
    unfold Lib.validRune at hv
    simpa using hv
  obtain ⟨m, rfl⟩ := Int.eq_ofNat_of_zero_le (show 0 ≤ c by omega)
  unfold firstU
  rw [by8_len, List.length_append]
  rcases (show m < 128 ∨ (128 ≤ m ∧ m ≤ 2047) ∨ (2048 ≤ m ∧ m < 55296 ∨ 57343 < m ∧ m ≤ 65535) ∨ (65536 ≤ m ∧ m ≤ 1114111) by omega) with h | h | h | h
  · rw [Lib.encodeRuneZ_one (by omega) (by omega), List.singleton_append, bAt_zero _ _ (by omega), show ((m : Int)).toNat = m from rfl, full_one' m _ _ _ h (by simp), if_pos rfl, dec_one' m _ _ _ _ h]
    rfl
  · rw [Lib.encodeRuneZ_two (by omega) (by omega), List.cons_append, List.singleton_append, bAt_cons _ _ 0, bAt_zero _ _ (by omega), bAt_zero _ _ (by omega), show (192 + (m : Int) / 64).toNat = 192 + m / 64 by omega, show (128 + (m : Int) % 64).toNat = 128 + m % 64 by omega, full_two' m _ _ h (by simp), if_pos rfl, dec_two' m _ _ _ h (by simp)]
    rfl
  · rw [Lib.encodeRuneZ_three (by omega), List.cons_append, List.cons_append, List.singleton_append, bAt_cons _ _ 0, bAt_cons _ _ 1, bAt_cons _ _ 0, bAt_zero _ _ (by omega), bAt_zero _ _ (by omega), bAt_zero _ _ (by omega), show (224 + (m : Int) / 4096).toNat = 224 + m / 4096 by omega, show (128 + (m : Int) / 64 % 64).toNat = 128 + m / 64 % 64 by omega, show (128 + (m : Int) % 64).toNat = 128 + m % 64 by omega, full_three' m _ h (by simp), if_pos rfl, dec_three' m _ _ h (by simp)]
    rfl
  · rw [Lib.encodeRuneZ_four (by omega) (by omega), List.cons_append, List.cons_append, List.cons_append, List.singleton_append, bAt_cons _ _ 0, bAt_cons _ _ 1, bAt_cons _ _ 0, bAt_cons _ _ 2, bAt_cons _ _ 1, bAt_cons _ _ 0, bAt_zero _ _ (by omega), bAt_zero _ _ (by omega), bAt_zero _ _ (by omega), bAt_zero _ _ (by omega), show (240 + (m : Int) / 262144).toNat = 240 + m / 262144 by omega, show (128 + (m : Int) / 4096 % 64).toNat = 128 + m / 4096 % 64 by omega, show (128 + (m : Int) / 64 % 64).toNat = 128 + m / 64 % 64 by omega, show (128 + (m : Int) % 64).toNat = 128 + m % 64 by omega, full_four' m _ h (by simp), if_pos rfl, dec_four' m _ h (by simp)]
    rfl

/-- A beginning of a rune waits. -/
theorem firstU_begun {c : Int} (hv : Lib.validRune c = true) (p q : List Int) (hp : p ≠ []) (hq : q ≠ []) (h : p ++ q = Lib.encodeRuneZ c) : firstU (by8 p) = (0, 0) := by
  have hv' : (0 ≤ c ∧ c < 55296) ∨ (57343 < c ∧ c ≤ 1114111) := by
    unfold Lib.validRune at hv
    simpa using hv
  obtain ⟨m, rfl⟩ := Int.eq_ofNat_of_zero_le (show 0 ≤ c by omega)
  have key : fullN (by8 p).length (bAt (by8 p) 0) (bAt (by8 p) 1) (bAt (by8 p) 2) = false := by
    rw [by8_len]
    rcases (show m < 128 ∨ (128 ≤ m ∧ m ≤ 2047) ∨ (2048 ≤ m ∧ m < 55296 ∨ 57343 < m ∧ m ≤ 65535) ∨ (65536 ≤ m ∧ m ≤ 1114111) by omega) with k | k | k | k
    · rw [Lib.encodeRuneZ_one (by omega) (by omega)] at h
      match p, q, hp, hq with
      | [_], _ :: _, _, _ => simp at h
      | _ :: _ :: _, _ :: _, _, _ => simp at h
    · rw [Lib.encodeRuneZ_two (by omega) (by omega)] at h
      match p, q, hp, hq with
      | [a], _ :: _, _, _ =>
        simp at h
        obtain ⟨rfl, _⟩ := h
        rw [bAt_zero _ _ (by omega), show (192 + (m : Int) / 64).toNat = 192 + m / 64 by omega]
        exact part_two' m k
      | _ :: _ :: _, _ :: _, _, _ => simp at h
    · rw [Lib.encodeRuneZ_three (by omega)] at h
      match p, q, hp, hq with
      | [a], _ :: _, _, _ =>
        simp at h
        obtain ⟨rfl, _⟩ := h
        rw [bAt_zero _ _ (by omega), show (224 + (m : Int) / 4096).toNat = 224 + m / 4096 by omega]
        exact part_three1 m k
      | [a, b], _ :: _, _, _ =>
        simp at h
        obtain ⟨rfl, rfl, _⟩ := h
        rw [bAt_cons _ _ 0, bAt_zero _ _ (by omega), bAt_zero _ _ (by omega), show (224 + (m : Int) / 4096).toNat = 224 + m / 4096 by omega, show (128 + (m : Int) / 64 % 64).toNat = 128 + m / 64 % 64 by omega]
        exact part_three2 m k
      | _ :: _ :: _ :: _, _ :: _, _, _ => simp at h
    · rw [Lib.encodeRuneZ_four (by omega) (by omega)] at h
      match p, q, hp, hq with
      | [a], _ :: _, _, _ =>
        simp at h
        obtain ⟨rfl, _⟩ := h
        rw [bAt_zero _ _ (by omega), show (240 + (m : Int) / 262144).toNat = 240 + m / 262144 by omega]
        exact part_four1 m k
      | [a, b], _ :: _, _, _ =>
        simp at h
        obtain ⟨rfl, rfl, _⟩ := h
        rw [bAt_cons _ _ 0, bAt_zero _ _ (by omega), bAt_zero _ _ (by omega), show (240 + (m : Int) / 262144).toNat = 240 + m / 262144 by omega, show (128 + (m : Int) / 4096 % 64).toNat = 128 + m / 4096 % 64 by omega]
        exact part_four2 m k
      | [a, b, c], _ :: _, _, _ =>
        simp at h
        obtain ⟨rfl, rfl, rfl, _⟩ := h
        rw [bAt_cons _ _ 0, bAt_cons _ _ 1, bAt_cons _ _ 0, bAt_zero _ _ (by omega), bAt_zero _ _ (by omega), bAt_zero _ _ (by omega), show (240 + (m : Int) / 262144).toNat = 240 + m / 262144 by omega, show (128 + (m : Int) / 4096 % 64).toNat = 128 + m / 4096 % 64 by omega, show (128 + (m : Int) / 64 % 64).toNat = 128 + m / 64 % 64 by omega]
        exact part_four3 m k
      | _ :: _ :: _ :: _ :: _, _ :: _, _, _ => simp at h
  unfold firstU
  rw [key]
  rfl
end Go.Proofs.YtnbpkabnaipimaaDoor
