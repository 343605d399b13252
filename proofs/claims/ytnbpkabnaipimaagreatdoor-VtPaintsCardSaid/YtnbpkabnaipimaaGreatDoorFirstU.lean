/- What utf.First tells of bytes; a rune's own bytes, and beginnings of them. No walk. -/
import Derived.Lib.DecodeN
import Derived.Lib.RuneBytes
import Derived.Lib.Hide
namespace Go.Proofs.YtnbpkabnaipimaaGreatDoor
open Go Go.Lib

/-- The byte at a place; 0 behind the end. -/
def bAt (l : List UInt8) (i : Nat) : Nat := (l.getD i 0).toNat
theorem bAt_lt (l : List UInt8) (i : Nat) : bAt l i < 256 := (l.getD i 0).toNat_lt
theorem bAt_append (l t : List UInt8) (i : Nat) (h : i < l.length) : bAt (l ++ t) i = bAt l i := by
  unfold bAt
  rw [List.getD_eq_getElem?_getD, List.getD_eq_getElem?_getD, List.getElem?_append_left h]

/-- What FullRune answers: n bytes, the first ones b0, b1, b2. -/
def fullN (n b0 b1 b2 : Nat) : Bool :=
  if n = 0 then false
  else if firstT b0 % 8 ≤ n then true
  else if 1 < n ∧ (b1 < accLo (firstT b0 / 16) ∨ accHi (firstT b0 / 16) < b1) then true
  else decide (2 < n ∧ (b2 < 128 ∨ 191 < b2))

theorem firstT_eq (x0 : Nat) : (firstT x0 = 240 ∧ x0 < 128) ∨ (firstT x0 = 241 ∧ ((128 ≤ x0 ∧ x0 < 194) ∨ 245 ≤ x0)) ∨ (firstT x0 = 2 ∧ 194 ≤ x0 ∧ x0 < 224) ∨ (firstT x0 = 19 ∧ x0 = 224) ∨ (firstT x0 = 3 ∧ ((225 ≤ x0 ∧ x0 < 237) ∨ (238 ≤ x0 ∧ x0 < 240))) ∨ (firstT x0 = 35 ∧ x0 = 237) ∨ (firstT x0 = 52 ∧ x0 = 240) ∨ (firstT x0 = 4 ∧ 241 ≤ x0 ∧ x0 < 244) ∨ (firstT x0 = 68 ∧ x0 = 244) := by
  unfold firstT
  repeat' split
  all_goals omega

/-- The first rune of bytes, or 0, 0. -/
def firstU (l : List UInt8) : Nat × Nat :=
  if fullN l.length (bAt l 0) (bAt l 1) (bAt l 2) = true then decodeN l.length (bAt l 0) (bAt l 1) (bAt l 2) (bAt l 3) else (0, 0)
end Go.Proofs.YtnbpkabnaipimaaGreatDoor
