/- The contract of utf8.FullRune at any bytes that lie in memory. Conditions: both tables of unicode/utf8 hold what their initialisers lay. -/
import Derived.Test.YtcpfillmdkhjlaaDoorWalkB
import Derived.Shelf.Unicode.DecodeSlow
import Derived.Deep.QuietTactic
import Derived.BigQuiet
import Derived.WalkSmall
namespace Go.Proofs.YtcpfillmdkhjlaaDoor
open Go Go.RowKit Go.Lib

/-- What FullRune answers: n bytes, the first ones b0, b1, b2. -/
def fullN (n b0 b1 b2 : Nat) : Bool :=
  if n = 0 then false
  else if firstT b0 % 8 ≤ n then true
  else if 1 < n ∧ (b1 < accLo (firstT b0 / 16) ∨ accHi (firstT b0 / 16) < b1) then true
  else decide (2 < n ∧ (b2 < 128 ∨ 191 < b2))

theorem full_zero (a : Option Addr) (cap : Nat) (w : World) :
    Calls Tryd.prog 20 #[.slice a 0 cap] w fun e w' => e = .returned (.bool false) ∧ Below w.heap.size w w' := by
  go_enter Tryd.func20, Tryd.ntmps20
  go_wp2
  go_ret
  exact ⟨rfl, Below.refl _ _⟩

theorem full_ge (b off n cap x0 F : Nat) (w : World) (l0 : x0 < 256) (hn : 0 < n) (hn0 : (n : Int) ≤ 9223372036854775807)
    (hs0 : w.cell? ⟨b, off, none⟩ = some (.int .u8 x0))
    (hF : F < 256) (hsz : (F : Int) % 8 ≤ (n : Int))
    (hc0 : w.cell? ⟨0, x0, none⟩ = some (.int .u8 F)) :
    Calls Tryd.prog 20 #[.slice (some ⟨b, off, none⟩) n cap] w fun e w' => e = .returned (.bool true) ∧ Below w.heap.size w w' := by
  have hne : ((n : Int) == 0) = false := by simp; omega
  have hn' : (0 : Int) < (n : Int) := by omega
  go_enter Tryd.func20, Tryd.ntmps20
  go_wp2
  go_ret
  exact ⟨rfl, Below.refl _ _⟩

theorem full_one (b off cap x0  F i lo hi : Nat) (w : World) (l0 : x0 < 256)
    (hs0 : w.cell? ⟨b, off, none⟩ = some (.int .u8 x0)) (hb : b < w.heap.size)
    (hF : F < 256) (hsz : (1 : Int) < (F : Int) % 8) (hi0 : (F : Int) / 16 = (i : Int)) (hi1 : i < 16)
    (hc0 : w.cell? ⟨0, x0, none⟩ = some (.int .u8 F))
    (ha0 : w.cell? ⟨1, i * 2, none⟩ = some (.int .u8 lo)) (ha1 : w.cell? ⟨1, i * 2 + 1, none⟩ = some (.int .u8 hi)) :
    Calls Tryd.prog 20 #[.slice (some ⟨b, off, none⟩) 1 cap] w fun e w' => e = .returned (.bool false) ∧ Below w.heap.size w w' := by
  go_enter Tryd.func20, Tryd.ntmps20
  go_wp2_with fail
  go_quiet (fail)
  go_wp2
  go_ret
  exact ⟨rfl, below_drewN ((Below.refl _ _).alloc (Nat.le_refl _) _) _⟩

theorem full_two_lo (b off cap x0 x1 F i lo hi : Nat) (w : World) (l0 : x0 < 256)
    (hs0 : w.cell? ⟨b, off, none⟩ = some (.int .u8 x0)) (hb : b < w.heap.size)
    (hF : F < 256) (hsz : (2 : Int) < (F : Int) % 8) (hi0 : (F : Int) / 16 = (i : Int)) (hi1 : i < 16)
    (hc0 : w.cell? ⟨0, x0, none⟩ = some (.int .u8 F))
    (ha0 : w.cell? ⟨1, i * 2, none⟩ = some (.int .u8 lo)) (ha1 : w.cell? ⟨1, i * 2 + 1, none⟩ = some (.int .u8 hi)) (l1 : x1 < 256)
    (hs1 : w.cell? ⟨b, off + 1, none⟩ = some (.int .u8 x1)) (hd0 : decide (x1 < lo) = true) :
    Calls Tryd.prog 20 #[.slice (some ⟨b, off, none⟩) 2 cap] w fun e w' => e = .returned (.bool true) ∧ Below w.heap.size w w' := by
  go_enter Tryd.func20, Tryd.ntmps20
  go_wp2_with fail
  go_quiet (fail)
  go_wp2
  go_ret
  exact ⟨rfl, below_drewN ((Below.refl _ _).alloc (Nat.le_refl _) _) _⟩

theorem full_two_hi (b off cap x0 x1 F i lo hi : Nat) (w : World) (l0 : x0 < 256)
    (hs0 : w.cell? ⟨b, off, none⟩ = some (.int .u8 x0)) (hb : b < w.heap.size)
    (hF : F < 256) (hsz : (2 : Int) < (F : Int) % 8) (hi0 : (F : Int) / 16 = (i : Int)) (hi1 : i < 16)
    (hc0 : w.cell? ⟨0, x0, none⟩ = some (.int .u8 F))
    (ha0 : w.cell? ⟨1, i * 2, none⟩ = some (.int .u8 lo)) (ha1 : w.cell? ⟨1, i * 2 + 1, none⟩ = some (.int .u8 hi)) (l1 : x1 < 256)
    (hs1 : w.cell? ⟨b, off + 1, none⟩ = some (.int .u8 x1)) (hd0 : decide (x1 < lo) = false) (hd1 : decide (hi < x1) = true) :
    Calls Tryd.prog 20 #[.slice (some ⟨b, off, none⟩) 2 cap] w fun e w' => e = .returned (.bool true) ∧ Below w.heap.size w w' := by
  go_enter Tryd.func20, Tryd.ntmps20
  go_wp2_with fail
  go_quiet (fail)
  go_wp2
  go_ret
  exact ⟨rfl, below_drewN ((Below.refl _ _).alloc (Nat.le_refl _) _) _⟩

theorem full_two_in (b off cap x0 x1 F i lo hi : Nat) (w : World) (l0 : x0 < 256)
    (hs0 : w.cell? ⟨b, off, none⟩ = some (.int .u8 x0)) (hb : b < w.heap.size)
    (hF : F < 256) (hsz : (2 : Int) < (F : Int) % 8) (hi0 : (F : Int) / 16 = (i : Int)) (hi1 : i < 16)
    (hc0 : w.cell? ⟨0, x0, none⟩ = some (.int .u8 F))
    (ha0 : w.cell? ⟨1, i * 2, none⟩ = some (.int .u8 lo)) (ha1 : w.cell? ⟨1, i * 2 + 1, none⟩ = some (.int .u8 hi)) (l1 : x1 < 256)
    (hs1 : w.cell? ⟨b, off + 1, none⟩ = some (.int .u8 x1)) (hd0 : decide (x1 < lo) = false) (hd1 : decide (hi < x1) = false) :
    Calls Tryd.prog 20 #[.slice (some ⟨b, off, none⟩) 2 cap] w fun e w' => e = .returned (.bool false) ∧ Below w.heap.size w w' := by
  go_enter Tryd.func20, Tryd.ntmps20
  go_wp2_with fail
  go_quiet (fail)
  go_wp2
  go_ret
  exact ⟨rfl, below_drewN ((Below.refl _ _).alloc (Nat.le_refl _) _) _⟩

theorem full_three_lo (b off cap x0 x1 F i lo hi : Nat) (w : World) (l0 : x0 < 256)
    (hs0 : w.cell? ⟨b, off, none⟩ = some (.int .u8 x0)) (hb : b < w.heap.size)
    (hF : F < 256) (hsz : (3 : Int) < (F : Int) % 8) (hi0 : (F : Int) / 16 = (i : Int)) (hi1 : i < 16)
    (hc0 : w.cell? ⟨0, x0, none⟩ = some (.int .u8 F))
    (ha0 : w.cell? ⟨1, i * 2, none⟩ = some (.int .u8 lo)) (ha1 : w.cell? ⟨1, i * 2 + 1, none⟩ = some (.int .u8 hi)) (l1 : x1 < 256)
    (hs1 : w.cell? ⟨b, off + 1, none⟩ = some (.int .u8 x1)) (hd0 : decide (x1 < lo) = true) :
    Calls Tryd.prog 20 #[.slice (some ⟨b, off, none⟩) 3 cap] w fun e w' => e = .returned (.bool true) ∧ Below w.heap.size w w' := by
  go_enter Tryd.func20, Tryd.ntmps20
  go_wp2_with fail
  go_quiet (fail)
  go_wp2
  go_ret
  exact ⟨rfl, below_drewN ((Below.refl _ _).alloc (Nat.le_refl _) _) _⟩

theorem full_three_hi (b off cap x0 x1 F i lo hi : Nat) (w : World) (l0 : x0 < 256)
    (hs0 : w.cell? ⟨b, off, none⟩ = some (.int .u8 x0)) (hb : b < w.heap.size)
    (hF : F < 256) (hsz : (3 : Int) < (F : Int) % 8) (hi0 : (F : Int) / 16 = (i : Int)) (hi1 : i < 16)
    (hc0 : w.cell? ⟨0, x0, none⟩ = some (.int .u8 F))
    (ha0 : w.cell? ⟨1, i * 2, none⟩ = some (.int .u8 lo)) (ha1 : w.cell? ⟨1, i * 2 + 1, none⟩ = some (.int .u8 hi)) (l1 : x1 < 256)
    (hs1 : w.cell? ⟨b, off + 1, none⟩ = some (.int .u8 x1)) (hd0 : decide (x1 < lo) = false) (hd1 : decide (hi < x1) = true) :
    Calls Tryd.prog 20 #[.slice (some ⟨b, off, none⟩) 3 cap] w fun e w' => e = .returned (.bool true) ∧ Below w.heap.size w w' := by
  go_enter Tryd.func20, Tryd.ntmps20
  go_wp2_with fail
  go_quiet (fail)
  go_wp2
  go_ret
  exact ⟨rfl, below_drewN ((Below.refl _ _).alloc (Nat.le_refl _) _) _⟩

theorem full_three_in (b off cap x0 x1 x2 F i lo hi : Nat) (w : World) (l0 : x0 < 256)
    (hs0 : w.cell? ⟨b, off, none⟩ = some (.int .u8 x0)) (hb : b < w.heap.size)
    (hF : F < 256) (hsz : (3 : Int) < (F : Int) % 8) (hi0 : (F : Int) / 16 = (i : Int)) (hi1 : i < 16)
    (hc0 : w.cell? ⟨0, x0, none⟩ = some (.int .u8 F))
    (ha0 : w.cell? ⟨1, i * 2, none⟩ = some (.int .u8 lo)) (ha1 : w.cell? ⟨1, i * 2 + 1, none⟩ = some (.int .u8 hi)) (l1 : x1 < 256)
    (hs1 : w.cell? ⟨b, off + 1, none⟩ = some (.int .u8 x1)) (l2 : x2 < 256)
    (hs2 : w.cell? ⟨b, off + 2, none⟩ = some (.int .u8 x2)) (hd0 : decide (x1 < lo) = false) (hd1 : decide (hi < x1) = false) :
    Calls Tryd.prog 20 #[.slice (some ⟨b, off, none⟩) 3 cap] w fun e w' => e = .returned (.bool (decide (x2 < 128 ∨ 191 < x2))) ∧ Below w.heap.size w w' := by
  go_enter Tryd.func20, Tryd.ntmps20
  go_wp2_with fail
  go_quiet (fail)
  go_wp2
  all_goals
    go_ret
    refine ⟨ret_bool ?_, below_drewN ((Below.refl _ _).alloc (Nat.le_refl _) _) _⟩
    rw [Bool.eq_iff_iff]
    simp
    omega

end Go.Proofs.YtcpfillmdkhjlaaDoor
