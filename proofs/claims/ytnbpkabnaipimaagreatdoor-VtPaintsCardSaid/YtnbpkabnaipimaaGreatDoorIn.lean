/- How grids come in: their numbers, and their cells in memory. No conditions. -/
import Derived.Test.YtnbpkabnaipimaaGreatDoorRows
import Derived.Test.YtnbpkabnaipimaaGreatDoorTerm
import Derived.ProofKit
import Derived.OpenShut
import Derived.Deep.Slices
import Derived.Lib.LaidU8
namespace Go.Proofs.YtnbpkabnaipimaaGreatDoor
open Go Go.RowKit Go.Lib Go.ChangeShapes Go.WideShapes Go.ChangeAt

theorem own : ownKnob Tryz.prog.godebug = none := by kernel_rfl
theorem laidOut : laidOutB Tryz.prog = true := by kernel_rfl
theorem cells3 : Tryz.prog.cellsOf 3 = 1 := by kernel_rfl
theorem cells21 : Tryz.prog.cellsOf 21 = 1 := by kernel_rfl
theorem cellsC : Tryz.prog.cellsOf 41 = 2 := by kernel_rfl
theorem cellsS : Tryz.prog.cellsOf 22 = 1 := by kernel_rfl
theorem cellsG : Tryz.prog.cellsOf 24 = 3 := by kernel_rfl

set_option maxRecDepth 100000 in
theorem cell_open {H : Type} {enc : TypeId × Value → H} {W : World} {fuel : Nat} {cs : List Value} {x : DataW H × List MemPlace} (h : DataW.trod enc Tryz.prog W 0 (fun _ => true) true fuel 41 cs = some x) : ∃ y : Cl, cs = y.cells := by
  obtain ⟨xs, n, rfl, hx, hlen, hxl, hall⟩ := DataW.trod_struct Tryz.underlying41 h
  have h0 := hall 0 _ rfl
  have h1 := hall 1 _ rfl
  match xs, hxl with
  | [y0, y1], _ =>
    simp only [List.getElem?_cons_zero, List.getElem?_cons_succ] at h0 h1
    obtain ⟨z0, hc0, rfl, _⟩ := DataW.trod_int Tryz.underlying21 h0
    obtain ⟨z1, hc1, rfl, _⟩ := DataW.trod_int Tryz.underlying3 h1
    rw [cellsC] at hlen
    match cs, hlen with
    | [v0, v1], _ =>
      simp [cells3, cells21] at hc0 hc1
      subst hc0 hc1
      exact ⟨⟨z0, z1⟩, rfl⟩

/-- A slice of cells that came in. -/
theorem row_open {H : Type} {enc : TypeId × Value → H} {W : World} {fuel : Nat} {cs : List Value} {x : DataW H × List MemPlace} (hf : DataW.trod enc Tryz.prog W 0 (fun _ => true) true fuel 22 cs = some x) :
    ∃ a n c ys, cs = [.slice a n c] ∧ n ≤ c ∧ RowAt W a n ys := by
  obtain ⟨d, p⟩ := x
  rcases Go.Deep.open_slice Tryz.underlying22 hf with ⟨hcs, _⟩ | ⟨a, len, cap, m, n, D, Pl, hcs, _, hl, hm, hmm, _, hi⟩
  · exact ⟨none, 0, 0, [], hcs, Nat.le_refl _, rfl, .inl rfl⟩
  · refine ⟨some a, len, cap, ?_⟩
    by_cases hz : len = 0
    · subst hz
      exact ⟨[], hcs, Nat.zero_le _, rfl, .inl rfl⟩
    · have hmc : len ≤ m := by rw [hmm]; split <;> omega
      obtain ⟨b, off, sp⟩ := a
      have key : ∀ i, i < m → ∃ y : Cl, ∀ j u, (y.cells)[j]? = some u → W.cell? (((⟨b, off, sp⟩ : Addr).add (i * 2)).add j) = some u := by
        intro i him
        obtain ⟨cs', hc, ht⟩ := hi i him
        rw [cellsC] at hc
        obtain ⟨y, rfl⟩ := cell_open ht
        obtain ⟨_, _, hat⟩ := World.cells?_some hc
        refine ⟨y, fun j u hj => ?_⟩
        have hj4 : j < 2 := (List.getElem?_eq_some_iff.1 hj).1
        rw [hat j hj4, ← hj]
      obtain ⟨y0, hy0⟩ := key 0 (by omega)
      have c0 := hy0 0 (.int .i32 y0.r) rfl
      have e0 : ((⟨b, off, sp⟩ : Addr).add (0 * 2)).add 0 = ⟨b, off, sp⟩ := by simp [Addr.add]
      rw [e0] at c0
      obtain rfl := cell_spot c0
      have key2 : ∀ i, ∃ y : Cl, i < m → ∀ j u, (y.cells)[j]? = some u → W.cell? ⟨b, off + i * 2 + j, none⟩ = some u := by
        intro i
        by_cases him : i < m
        · obtain ⟨y, hy⟩ := key i him
          refine ⟨y, fun _ j u hj => ?_⟩
          have := hy j u hj
          rwa [Addr.add_lit, Addr.add_lit] at this
        · exact ⟨y0, fun h => absurd h him⟩
      refine ⟨(List.range len).map fun i => Classical.choose (key2 i), hcs, hl, by simp, .inr ⟨b, off, rfl, block_lt_of_cell c0, fun j u hj => ?_⟩⟩
      have hjl := (List.getElem?_eq_some_iff.1 hj).1
      rw [flat_len, List.length_map, List.length_range] at hjl
      have e1 : j = j / 2 * 2 + j % 2 := by omega
      have hk : ((List.range len).map fun i => Classical.choose (key2 i))[j / 2]? = some (Classical.choose (key2 (j / 2))) := by
        rw [List.getElem?_map, List.getElem?_range (by omega)]
        rfl
      rw [e1, flat_get _ (j / 2) (j % 2) _ hk (by omega)] at hj
      have := Classical.choose_spec (key2 (j / 2)) (by omega) (j % 2) u hj
      rw [e1]
      rwa [Nat.add_assoc] at this

set_option maxRecDepth 100000 in
/-- A grid that came in. -/
theorem grid_open {H : Type} {enc : TypeId × Value → H} {W : World} {fuel : Nat} {cs : List Value} {x : DataW H × List MemPlace} (h : DataW.trod enc Tryz.prog W 0 (fun _ => true) true fuel 24 cs = some x) :
    ∃ (R C : Int) (a : Option Addr) (n c : Nat) (l : List Cl), cs = [.int .i64 R, .int .i64 C, .slice a n c] ∧ n ≤ c ∧ RowAt W a n l := by
  obtain ⟨xs, n, rfl, hx, hlen, hxl, hall⟩ := DataW.trod_struct Tryz.underlying24 h
  have h0 := hall 0 _ rfl
  have h1 := hall 1 _ rfl
  have h2 := hall 2 _ rfl
  match xs, hxl with
  | [y0, y1, y2], _ =>
    simp only [List.getElem?_cons_zero, List.getElem?_cons_succ] at h0 h1 h2
    obtain ⟨z0, hc0, rfl, _⟩ := DataW.trod_int Tryz.underlying3 h0
    obtain ⟨z1, hc1, rfl, _⟩ := DataW.trod_int Tryz.underlying3 h1
    obtain ⟨a, n', c, l, hc2, hle, hr⟩ := row_open h2
    rw [cellsG] at hlen
    match cs, hlen with
    | [v0, v1, v2], _ =>
      simp [cells3, cellsS] at hc0 hc1 hc2
      subst hc0 hc1 hc2
      exact ⟨z0, z1, a, n', c, l, rfl, hle, hr⟩
end Go.Proofs.YtnbpkabnaipimaaGreatDoor
