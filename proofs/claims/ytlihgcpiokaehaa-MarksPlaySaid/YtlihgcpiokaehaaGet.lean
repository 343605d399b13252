/- The contract of Get; cells of small structs that are stored. Conditions: the marks lie in memory. -/
import Derived.Test.YtlihgcpiokaehaaFind
namespace Go.Proofs.Ytlihgcpiokaehaa
open Go Go.RowKit

def nd4 (v0 v1 v2 v3 : Value) : Nat → Value := fun i => if i = 0 then v0 else if i = 1 then v1 else if i = 2 then v2 else v3
theorem row4 (w : World) (v0 v1 v2 v3 : Value) (t : TypeId) : (w.alloc (Obj.cells #[v0, v1, v2, v3] t)).rowIs w.heap.size t 4 (nd4 v0 v1 v2 v3) :=
  World.rowIs_alloc w #[v0, v1, v2, v3] t _ (by intro i hi; match i, hi with | 0, _ => rfl | 1, _ => rfl | 2, _ => rfl | 3, _ => rfl)
theorem row4_facts {w : World} {b t : Nat} {f : Nat → Value} (h : w.rowIs b t 4 f) :
    w.cell? ⟨b, 0, none⟩ = some (f 0) ∧ w.frozen? ⟨b, 0, none⟩ = false ∧
    (∀ v0, (w.setCell ⟨b, 0, none⟩ v0).cell? ⟨b, 1, none⟩ = some (f 1)) ∧ (∀ v0, (w.setCell ⟨b, 0, none⟩ v0).frozen? ⟨b, 1, none⟩ = false) ∧
    (∀ v0 v1, ((w.setCell ⟨b, 0, none⟩ v0).setCell ⟨b, 1, none⟩ v1).cell? ⟨b, 2, none⟩ = some (f 2)) ∧ (∀ v0 v1, ((w.setCell ⟨b, 0, none⟩ v0).setCell ⟨b, 1, none⟩ v1).frozen? ⟨b, 2, none⟩ = false) ∧
    (∀ v0 v1 v2, (((w.setCell ⟨b, 0, none⟩ v0).setCell ⟨b, 1, none⟩ v1).setCell ⟨b, 2, none⟩ v2).cell? ⟨b, 3, none⟩ = some (f 3)) ∧ (∀ v0 v1 v2, (((w.setCell ⟨b, 0, none⟩ v0).setCell ⟨b, 1, none⟩ v1).setCell ⟨b, 2, none⟩ v2).frozen? ⟨b, 3, none⟩ = false) :=
  ⟨h.cell (by omega), h.frozen 0, fun v0 => (h.set 0 v0).cell (by omega), fun v0 => (h.set 0 v0).frozen 1, fun v0 v1 => ((h.set 0 v0).set 1 v1).cell (by omega), fun v0 v1 => ((h.set 0 v0).set 1 v1).frozen 2, fun v0 v1 v2 => (((h.set 0 v0).set 1 v1).set 2 v2).cell (by omega), fun v0 v1 v2 => (((h.set 0 v0).set 1 v1).set 2 v2).frozen 3⟩

/-- Four cells stored. -/
def put4 (w : World) (b : Nat) (v0 v1 v2 v3 : Value) : World := (((w.setCell ⟨b, 0, none⟩ v0).setCell ⟨b, 1, none⟩ v1).setCell ⟨b, 2, none⟩ v2).setCell ⟨b, 3, none⟩ v3
theorem row4_put {w : World} {b t : Nat} {f : Nat → Value} (h : w.rowIs b t 4 f) (v0 v1 v2 v3 : Value) : (put4 w b v0 v1 v2 v3).rowIs b t 4 (nd4 v0 v1 v2 v3) := by
  refine ((((h.set 0 v0).set 1 v1).set 2 v2).set 3 v3).congr fun i hi => ?_
  match i, hi with
  | 0, _ => rfl
  | 1, _ => rfl
  | 2, _ => rfl
  | 3, _ => rfl
theorem put4_below {w : World} {b B : Nat} (v0 v1 v2 v3 : Value) (h : B ≤ b) : Below B w (put4 w b v0 v1 v2 v3) :=
  ((((Below.refl _ _).setCell h _).setCell h _).setCell h _).setCell h _

theorem get_no (mb B last : Nat) (rs : List Rg) (x : Int) (w : World) (h : MarksAt w B mb rs last) (hx : idz x rs = -1) :
    Calls Try.prog 17 #[.pointer (some ⟨mb, 0, none⟩), .int .i64 x] w fun e w' => e = .returned (.tuple #[.agg #[.int .i64 0, .int .i64 0, .bool false, .bool false], .int .i64 4]) ∧ Below w.heap.size w w' := by
  have b0 : Below w.heap.size w (w.alloc (Obj.cells #[.int .i64 0, .int .i64 0, .bool false, .bool false] 25)) := (Below.refl _ _).alloc (Nat.le_refl _) _
  have I := index mb B last rs x _ (h.below b0)
  rw [hx] at I
  have HI := Lib.hid I
  have R0 := Lib.hid (row4 w (.int .i64 0) (.int .i64 0) (.bool false) (.bool false) 25)
  have B0 := Lib.hid b0
  clear I h hx b0
  go_enter Try.func17, Try.ntmps17
  go_wp2_with fail
  (with_reducible refine HI.out.mono ?_)
  rintro e w1 ⟨rfl, b⟩
  have R1 := R0.out.of_block (b.block _ R0.out.lt)
  have RP := row4_put R1 (.int .i64 0) (.int .i64 0) (.bool false) (.bool false)
  have B1 := Lib.hid (show Below w.heap.size w (put4 w1 w.heap.size (.int .i64 0) (.int .i64 0) (.bool false) (.bool false)) from (B0.out.trans (b.mono (by simp))).trans (put4_below _ _ _ _ (Nat.le_refl _)))
  have z0 := RP.cell (i := 0) (by omega)
  have z1 := RP.cell (i := 1) (by omega)
  have z2 := RP.cell (i := 2) (by omega)
  have z3 := RP.cell (i := 3) (by omega)
  simp only [nd4, put4] at z0 z1 z2 z3
  obtain ⟨f0, f1, f2, f3, f4, f5, f6, f7⟩ := row4_facts R1
  clear b RP R1
  go_wp2
  (try simp only [Exit.inBlock, Exit.then])
  refine bodyPost_ret (v := .tuple #[.agg #[.int .i64 0, .int .i64 0, .bool false, .bool false], .int .i64 4]) ?_ rfl ⟨rfl, ?_⟩
  · rw [results_cell_tmp rfl]
    go_simp
  · exact B1.out

theorem get_yes (mb B last : Nat) (rs : List Rg) (x : Int) (k : Nat) (y : Rg) (w : World) (h : MarksAt w B mb rs last) (hx : idz x rs = k) (hy : rs[k]? = some y) :
    Calls Try.prog 17 #[.pointer (some ⟨mb, 0, none⟩), .int .i64 x] w fun e w' => e = .returned (.tuple #[.agg #[.int .i64 y.f, .int .i64 y.t, .bool y.l, .bool y.r], .int .i64 0]) ∧ Below w.heap.size w w' := by
  have b0 : Below w.heap.size w (w.alloc (Obj.cells #[.int .i64 0, .int .i64 0, .bool false, .bool false] 25)) := (Below.refl _ _).alloc (Nat.le_refl _) _
  have I := index mb B last rs x _ (h.below b0)
  rw [hx] at I
  have HI := Lib.hid I
  have R0 := Lib.hid (row4 w (.int .i64 0) (.int .i64 0) (.bool false) (.bool false) 25)
  have B0 := Lib.hid b0
  have HM := Lib.hid (h.below b0)
  have HY := Lib.hid hy
  have hk : k < rs.length := (List.getElem?_eq_some_iff.1 hy).1
  have hk60 := h.len
  clear I h hx b0 hy
  go_enter Try.func17, Try.ntmps17
  go_wp2_with fail
  (with_reducible refine HI.out.mono ?_)
  rintro e w1 ⟨rfl, b⟩
  obtain ⟨a, c, h1, _, h3, h4, hR⟩ := (HM.out.below b).opened
  rcases hR.2 with h0 | ⟨g, off, rfl, _, hc⟩
  · omega
  obtain ⟨c0, c1, c2, c3, c4⟩ := rgCells hc k y HY.out
  have m0 := h1.cell (i := 0) (by omega)
  simp only [mk2, if_true] at m0
  have R1 := R0.out.of_block (b.block _ R0.out.lt)
  have RP := row4_put R1 (.int .i64 y.f) (.int .i64 y.t) (.bool y.l) (.bool y.r)
  have B1 := Lib.hid (show Below w.heap.size w (put4 w1 w.heap.size (.int .i64 y.f) (.int .i64 y.t) (.bool y.l) (.bool y.r)) from (B0.out.trans (b.mono (by simp))).trans (put4_below _ _ _ _ (Nat.le_refl _)))
  have z0 := RP.cell (i := 0) (by omega)
  have z1 := RP.cell (i := 1) (by omega)
  have z2 := RP.cell (i := 2) (by omega)
  have z3 := RP.cell (i := 3) (by omega)
  simp only [nd4, put4] at z0 z1 z2 z3
  obtain ⟨f0, f1, f2, f3, f4, f5, f6, f7⟩ := row4_facts R1
  have hkz : (k : Int) < (rs.length : Int) := by omega
  generalize rs.length = n at *
  clear b RP R1 h1 h3 h4 hR hc
  go_wp2
  (try simp only [Exit.inBlock, Exit.then])
  refine bodyPost_ret (v := .tuple #[.agg #[.int .i64 y.f, .int .i64 y.t, .bool y.l, .bool y.r], .int .i64 0]) ?_ rfl ⟨rfl, ?_⟩
  · rw [results_cell_tmp rfl]
    go_simp
  · exact B1.out
end Go.Proofs.Ytlihgcpiokaehaa
