/- The contract of the sort's rotate: two neighbouring runs change places. Conditions: they lie in the slice and neither is empty. -/
import Derived.Test.YtdpmkfjomkemhaaSwap
namespace Go.Proofs.Ytdpmkfjomkemhaa
open Go Go.RowKit Go.Sort Go.Proofs Go.Lib

set_option maxHeartbeats 4000000 in
set_option maxRecDepth 1000000 in
theorem rotate (blk off cap a m b : Nat) (fv : Value) (d0 d : Array Sl) (w0 w : World) (R : R2 w0 blk off d0) (hs : d.size = d0.size) (S : W2 w0 blk off d w) (ham : a < m) (hmb : m < b) (hb : b ≤ d.size) (hsz : d.size ≤ 1000) :
    Calls Try.prog 32 #[.slice (some ⟨blk, off, none⟩) d.size cap, .int .i64 a, .int .i64 m, .int .i64 b, fv] w fun e w' => e = .returned (.tuple #[]) ∧ ∃ d', Rot a m b d d' ∧ W2 w0 blk off d' w' := by
  have mixed := mixedTry
  have S0 := Lib.hid S
  have HR := Lib.hid R
  have HS := Lib.hid hs
  have SW := Lib.hid (fun (x y n : Nat) (dk : Array Sl) (W : World) (h : dk.size = d.size) (S : W2 w0 blk off dk W) (h1 : x + n ≤ y) (h2 : y + n ≤ dk.size) => by
    have := swapRange blk off cap x y n fv d0 dk w0 W R (h.trans hs) S h1 h2 (by omega)
    rw [h] at this
    exact this)
  clear S R hs
  go_enter Try.func32, Try.ntmps32
  have e1 : IntKind.i64.wrap ((m : Int) - (a : Int)) = ((m - a : Nat) : Int) := by rw [IntKind.wrap_i64]; omega
  have e2 : IntKind.i64.wrap ((b : Int) - (m : Int)) = ((b - m : Nat) : Int) := by rw [IntKind.wrap_i64]; omega
  go_wp2
  go_loopg [10, 11] (b - a) (fun g vi vj wr => ∃ (i j : Nat) (dk : Array Sl), vi = .int .i64 i ∧ vj = .int .i64 j ∧ 0 < i ∧ 0 < j ∧ i ≤ m ∧ m + j ≤ b ∧ i + j ≤ g ∧ Hid (Left a m b i j d dk) ∧ Hid (W2 w0 blk off dk wr))
  case atStart => exact ⟨m - a, b - m, d, by first | rfl | go_num, by first | rfl | go_num, by omega, by omega, by omega, by omega, by omega, left_start d (by omega) (by omega), S0.out⟩
  case round =>
    obtain ⟨i, j, dk, rfl, rfl, hi0, hj0, him, hjb, hg, HL, S1⟩ := hrel
    have hdk : dk.size = d.size := HL.out.1
    have ei : (m : Int) - (i : Int) = ((m - i : Nat) : Int) := by omega
    rcases Nat.lt_trichotomy i j with hij | hij | hij
    · have b0 : ((i : Int) != (j : Int)) = true := by simp; omega
      have b1 : ¬ (j : Int) < (i : Int) := by omega
      have e3 : IntKind.i64.wrap ((j : Int) - (i : Int)) = ((j - i : Nat) : Int) := by rw [IntKind.wrap_i64]; omega
      have e4 : IntKind.i64.wrap ((m : Int) + (j : Int) - (i : Int)) = ((m + j - i : Nat) : Int) := by rw [IntKind.wrap_i64]; omega
      have C := Lib.hid (SW.out (m - i) (m + j - i) i dk wr hdk S1.out (by omega) (by omega))
      have HN := Lib.hid (left_lt HL.out him (by omega) hij)
      have hgN := Lib.hid (show i + (j - i) < gk by omega)
      clear S1 HL
      go_wp2_with fail
      (with_reducible refine C.out.mono ?_)
      rintro e w1 ⟨rfl, s1⟩
      have S2 := Lib.hid s1
      clear s1 C
      go_wp2
      go_roundg (i + (j - i))
      case measure => have := hgN.out; omega
      case rel => exact ⟨i, j - i, _, by first | rfl | go_num, by first | rfl | go_num, by omega, by omega, by omega, by omega, by omega, HN.out, S2.out⟩
    · subst hij
      have b0 : ((i : Int) != (i : Int)) = false := by simp
      have C := Lib.hid (SW.out (m - i) m i dk wr hdk S1.out (by omega) (by omega))
      have HN := Lib.hid (left_end HL.out him (by omega))
      clear S1 HL
      go_wp2_with fail
      (with_reducible refine C.out.mono ?_)
      rintro e w1 ⟨rfl, s1⟩
      have S2 := Lib.hid s1
      clear s1 C
      go_wp2
      go_end0
      exact ⟨rfl, _, HN.out, S2.out⟩
    · have b0 : ((i : Int) != (j : Int)) = true := by simp; omega
      have b1 : (j : Int) < (i : Int) := by omega
      have e3 : IntKind.i64.wrap ((i : Int) - (j : Int)) = ((i - j : Nat) : Int) := by rw [IntKind.wrap_i64]; omega
      have C := Lib.hid (SW.out (m - i) m j dk wr hdk S1.out (by omega) (by omega))
      have HN := Lib.hid (left_gt HL.out him (by omega) hij)
      have hgN := Lib.hid (show (i - j) + j < gk by omega)
      clear S1 HL
      go_wp2_with fail
      (with_reducible refine C.out.mono ?_)
      rintro e w1 ⟨rfl, s1⟩
      have S2 := Lib.hid s1
      clear s1 C
      go_wp2
      go_roundg ((i - j) + j)
      case measure => have := hgN.out; omega
      case rel => exact ⟨i - j, j, _, by first | rfl | go_num, by first | rfl | go_num, by omega, by omega, by omega, by omega, by omega, HN.out, S2.out⟩
end Go.Proofs.Ytdpmkfjomkemhaa
