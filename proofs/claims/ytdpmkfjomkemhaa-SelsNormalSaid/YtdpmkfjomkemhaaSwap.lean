/- The contract of the sort's swapRange: two ranges of the same length change places. Conditions: they lie in the slice, one ahead of the other. -/
import Derived.Test.YtdpmkfjomkemhaaKit
import Derived.Sort.WalkA
import Derived.Sort.WalkB2
import Derived.Sort.WalkB12
import Derived.Deep.LoopGhost
namespace Go.Proofs.Ytdpmkfjomkemhaa
open Go Go.RowKit Go.Sort Go.Proofs Go.Lib

/-- What the sort is told of the row. -/
abbrev R2 (w0 : World) (blk off : Nat) (d0 : Array Sl) : Prop := RowK Sl.cells 2 w0 blk off d0
theorem mixedTry : Try.prog.follows .mixedOrders = true := by kernel_rfl
theorem sl_one1 (x : Sl) : ∀ v ∈ Sl.cells x, v.oneCell' = true := fun u hu => sl_one [x] u (by rw [flat_one]; exact hu)

theorem W2.cells {w0 W : World} {blk off : Nat} {D d0 : Array Sl} (S : W2 w0 blk off D W) (R : R2 w0 blk off d0) (hs : D.size = d0.size) (p : Nat) (hp : p < D.size) :
    (W.cell? ⟨blk, off + p * 2, none⟩ = some (.int .i64 D[p]!.a) ∧ W.frozen? ⟨blk, off + p * 2, none⟩ = false) ∧ (W.cell? ⟨blk, off + p * 2 + 1, none⟩ = some (.int .i64 D[p]!.h) ∧ W.frozen? ⟨blk, off + p * 2 + 1, none⟩ = false) :=
  ⟨(S.holds R.hblk R.hH hs).cell hp (c := 0) (by omega), (S.holds R.hblk R.hH hs).cell hp (c := 1) (by omega)⟩
theorem swap_facts {w0 W : World} {blk off : Nat} {D d0 : Array Sl} (S : W2 w0 blk off D W) (R : R2 w0 blk off d0) (hs : D.size = d0.size) (p q : Nat) (hp : p < D.size) (hq : q < D.size) (hne : p ≠ q) :
    (W.setCell ⟨blk, off + p * 2, none⟩ (.int .i64 D[q]!.a)).cell? ⟨blk, off + p * 2 + 1, none⟩ = some (.int .i64 D[p]!.h) ∧
    ((W.setCell ⟨blk, off + p * 2, none⟩ (.int .i64 D[q]!.a)).setCell ⟨blk, off + p * 2 + 1, none⟩ (.int .i64 D[q]!.h)).cell? ⟨blk, off + q * 2, none⟩ = some (.int .i64 D[q]!.a) ∧
    (((W.setCell ⟨blk, off + p * 2, none⟩ (.int .i64 D[q]!.a)).setCell ⟨blk, off + p * 2 + 1, none⟩ (.int .i64 D[q]!.h)).setCell ⟨blk, off + q * 2, none⟩ (.int .i64 D[p]!.a)).cell? ⟨blk, off + q * 2 + 1, none⟩ = some (.int .i64 D[q]!.h) ∧
    W2 w0 blk off (swp D p q) ((((W.setCell ⟨blk, off + p * 2, none⟩ (.int .i64 D[q]!.a)).setCell ⟨blk, off + p * 2 + 1, none⟩ (.int .i64 D[q]!.h)).setCell ⟨blk, off + q * 2, none⟩ (.int .i64 D[p]!.a)).setCell ⟨blk, off + q * 2 + 1, none⟩ (.int .i64 D[p]!.h)).drew := by
  have h1 := S.cells R hs p hp
  have h2 := S.cells R hs q hq
  have ne : ∀ a b : Nat, a ≠ b → (⟨blk, a, none⟩ : Addr) ≠ ⟨blk, b, none⟩ := fun a b h e => h (by cases e; rfl)
  refine ⟨?_, ?_, ?_, S.swapped R p q hp hq⟩
  · rw [World.cell?_setCell_other (h := ne _ _ (by omega))]; exact h1.2.1
  · rw [World.cell?_setCell_other (h := ne _ _ (by omega)), World.cell?_setCell_other (h := ne _ _ (by omega))]; exact h2.1.1
  · rw [World.cell?_setCell_other (h := ne _ _ (by omega)), World.cell?_setCell_other (h := ne _ _ (by omega)), World.cell?_setCell_other (h := ne _ _ (by omega))]; exact h2.2.1

set_option maxHeartbeats 4000000 in
set_option maxRecDepth 1000000 in
theorem swapRange (blk off cap a b n : Nat) (fv : Value) (d0 d : Array Sl) (w0 w : World) (R : R2 w0 blk off d0) (hs : d.size = d0.size) (S : W2 w0 blk off d w) (hab : a + n ≤ b) (hb : b + n ≤ d.size) (hsz : d.size ≤ 1000) :
    Calls Try.prog 33 #[.slice (some ⟨blk, off, none⟩) d.size cap, .int .i64 a, .int .i64 b, .int .i64 n, fv] w fun e w' => e = .returned (.tuple #[]) ∧ W2 w0 blk off (swr a b n d) w' := by
  have mixed := mixedTry
  have S0 := Lib.hid S
  have HR := Lib.hid R
  have HS := Lib.hid hs
  clear S R hs
  go_enter Try.func33, Try.ntmps33
  go_wp2
  go_loopg [10] n (fun g vi wr => ∃ i : Nat, vi = .int .i64 i ∧ i ≤ n ∧ n - i ≤ g ∧ Hid (W2 w0 blk off (swr a b i d) wr))
  case atStart => exact ⟨0, by go_num, by omega, by omega, S0.out⟩
  case round =>
    obtain ⟨i, rfl, hi, hg, S1⟩ := hrel
    by_cases hlt : i < n
    · have hltz : (i : Int) < (n : Int) := by omega
      obtain ⟨p, hp⟩ : ∃ p, p = a + i := ⟨_, rfl⟩
      obtain ⟨q, hq⟩ : ∃ q, q = b + i := ⟨_, rfl⟩
      have ep : (a : Int) + (i : Int) = (p : Int) := by omega
      have eq : (b : Int) + (i : Int) = (q : Int) := by omega
      have wp' : IntKind.i64.wrap (p : Int) = (p : Int) := by rw [IntKind.wrap_i64]; omega
      have wq' : IntKind.i64.wrap (q : Int) = (q : Int) := by rw [IntKind.wrap_i64]; omega
      have hpd : (p : Int) < (d.size : Int) := by omega
      have hqd : (q : Int) < (d.size : Int) := by omega
      have hsd : (swr a b i d).size = d.size := swr_size a b i d
      have E := Lib.hid (show swr a b (i + 1) d = swp (swr a b i d) p q by rw [hp, hq]; rfl)
      have hpD : p < (swr a b i d).size := by omega
      have hqD : q < (swr a b i d).size := by omega
      have hsD : (swr a b i d).size = d0.size := hsd.trans HS.out
      obtain ⟨D, hD⟩ : ∃ D, D = swr a b i d := ⟨_, rfl⟩
      rw [← hD] at S1 E hpD hqD hsD
      clear hD hsd hp hq
      have c1 := S1.out.cells HR.out hsD p hpD
      have c2 := S1.out.cells HR.out hsD q hqD
      have c3 := swap_facts S1.out HR.out hsD p q hpD hqD (by omega)
      obtain ⟨xa, hxa⟩ : ∃ v, v = D[p]!.a := ⟨_, rfl⟩
      obtain ⟨xh, hxh⟩ : ∃ v, v = D[p]!.h := ⟨_, rfl⟩
      obtain ⟨ya, hya⟩ : ∃ v, v = D[q]!.a := ⟨_, rfl⟩
      obtain ⟨yh, hyh⟩ : ∃ v, v = D[q]!.h := ⟨_, rfl⟩
      rw [← hxa, ← hxh] at c1 c3
      rw [← hya, ← hyh] at c2 c3
      obtain ⟨⟨p1, p2⟩, p3, p4⟩ := c1
      obtain ⟨⟨q1, q2⟩, q3, q4⟩ := c2
      obtain ⟨r1, r2, r3, r4⟩ := c3
      have S2 := Lib.hid r4
      clear r4 S1 hxa hxh hya hyh
      go_wp2_with fail
      go_big_region_o
      generalize (((((wr.setCell _ _).setCell _ _).setCell _ _).setCell _ _).drew) = w3 at S2 ⊢
      clear p1 p2 p3 p4 q1 q2 q3 q4 r1 r2 r3
      go_wp2
      go_roundg (n - (i + 1))
      case measure => omega
      case rel => exact ⟨i + 1, by go_num, by omega, by omega, by show W2 _ _ _ _ _; rw [E.out]; exact S2.out⟩
    · have hin : i = n := by omega
      have E := Lib.hid hin
      have hltz : ¬ (i : Int) < (n : Int) := by omega
      go_wp2
      go_end0
      exact ⟨rfl, by rw [← E.out]; exact S1.out⟩
end Go.Proofs.Ytdpmkfjomkemhaa
