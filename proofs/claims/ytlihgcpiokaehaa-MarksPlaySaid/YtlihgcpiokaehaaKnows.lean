/- knows: the examples. -/
import Derived.Test.YtlihgcpiokaehaaThose
namespace Go.Proofs.Ytlihgcpiokaehaa
open Go Go.RowKit

theorem add_nil (f t : Int) (l r : Bool) (w : World) (h : may f t = true) :
    Calls Try.prog 14 #[.pointer none, .agg #[.int .i64 f, .int .i64 t, .bool l, .bool r]] w fun e w' => e = .returned (.tuple #[.int .i64 0, .int .i64 3]) ∧ Below w.heap.size w w' := by
  have V := valid f t l r
  rw [h] at V
  have HV := Lib.hid V
  clear V h
  go_enter Try.func14, Try.ntmps14
  go_wp2_with fail
  (with_reducible refine (HV.out _).mono ?_)
  rintro e w1 ⟨rfl, rfl⟩
  go_wp2
  go_ret2
  exact ⟨rfl, ((Below.refl _ _).alloc (Nat.le_refl _) _).alloc (by simp) _⟩

theorem row4_at {w w' : World} {b : Nat} {B : Nat} {v0 v1 v2 v3 : Value} (h : Below B w w') (hb : b < B) (h0 : w.cell? ⟨b, 0, none⟩ = some v0) (h1 : w.cell? ⟨b, 1, none⟩ = some v1) (h2 : w.cell? ⟨b, 2, none⟩ = some v2) (h3 : w.cell? ⟨b, 3, none⟩ = some v3) :
    w'.cell? ⟨b, 0, none⟩ = some v0 ∧ w'.cell? ⟨b, 1, none⟩ = some v1 ∧ w'.cell? ⟨b, 2, none⟩ = some v2 ∧ w'.cell? ⟨b, 3, none⟩ = some v3 :=
  ⟨(h.cell (by exact hb)).trans h0, (h.cell (by exact hb)).trans h1, (h.cell (by exact hb)).trans h2, (h.cell (by exact hb)).trans h3⟩

theorem knows (w : World) : Calls Try.prog 6 #[] w fun e w' => e = .returned (.bool true) ∧ Below w.heap.size w w' := by
  have M1 := fun a c w => move_yes 2 4 4 0 false true a 1 c w (by decide) (by decide) (by omega)
  have M2 := fun a c w => move_yes 2 4 2 0 false true a 1 c w (by decide) (by decide) (by omega)
  rw [show mf 2 4 0 1 false = 2 by decide, show mt 2 4 4 0 1 false true = 5 by decide] at M1
  rw [show mf 2 2 0 1 false = 3 by decide, show mt 2 4 2 0 1 false true = 5 by decide] at M2
  have H1 := Lib.hid M1
  have H2 := Lib.hid M2
  clear M1 M2
  go_enter Try.func6, Try.ntmps6
  go_wp2_with fail
  (with_reducible refine (H1.out _ _ _).mono ?_)
  rintro e w1 ⟨rfl, b1⟩
  obtain ⟨c0, c1, c2, c3⟩ := row4_at (b := w.heap.size) (v0 := .int .i64 2) (v1 := .int .i64 4) (v2 := .bool false) (v3 := .bool true) b1 (by simp; omega) (by simp) (by simp) (by simp) (by simp)
  have hs1 : w.heap.size < w1.heap.size := by have := b1.size; simp at this; omega
  have B1 := Lib.hid (show Below w.heap.size w w1 from (((Below.refl _ _).alloc (Nat.le_refl _) _).alloc (by simp) _).trans (b1.mono (by simp; omega)))
  clear b1
  go_wp2_with fail
  (with_reducible refine (H2.out _ _ _).mono ?_)
  rintro e w2 ⟨rfl, b2⟩
  obtain ⟨d0, d1, d2, d3⟩ := row4_at (b := w.heap.size) b2 (by simp; omega) (Lib.cell?_alloc_some _ (Lib.cell?_alloc_some _ c0)) (Lib.cell?_alloc_some _ (Lib.cell?_alloc_some _ c1)) (Lib.cell?_alloc_some _ (Lib.cell?_alloc_some _ c2)) (Lib.cell?_alloc_some _ (Lib.cell?_alloc_some _ c3))
  obtain ⟨g0, g1, _, _⟩ := row4_at (b := w1.heap.size) (v0 := .int .i64 2) (v1 := .int .i64 5) (v2 := .bool false) (v3 := .bool true) b2 (by simp; omega) (by simp) (by simp) (by simp) (by simp)
  have hs2 : w1.heap.size < w2.heap.size := by have := b2.size; simp at this; omega
  have B2 := Lib.hid (show Below w.heap.size w w2 from (((B1.out).alloc (by omega) _).alloc (by simp; omega) _).trans (b2.mono (by simp; omega)))
  clear b2 c0 c1 c2 c3
  have hs3 : w.heap.size < w2.heap.size := by omega
  have A := Lib.hid (fun w => add_nil 2 4 false true w (by decide))
  go_wp2_with fail
  (with_reducible refine (A.out _).mono ?_)
  rintro e w3 ⟨rfl, b3⟩
  have k0 := (b3.cell (p := ⟨w1.heap.size, 0, none⟩) (by simp; omega)).trans (Lib.cell?_alloc_some _ g0)
  have k1 := (b3.cell (p := ⟨w1.heap.size, 1, none⟩) (by simp; omega)).trans (Lib.cell?_alloc_some _ g1)
  have k2 : w3.cell? ⟨w2.heap.size, 0, none⟩ = some (.int .i64 3) := (b3.cell (by simp)).trans (by simp)
  have k3 : w3.cell? ⟨w2.heap.size, 1, none⟩ = some (.int .i64 5) := (b3.cell (by simp)).trans (by simp)
  have B3 := Lib.hid (show Below w.heap.size w w3 from ((B2.out).alloc (by omega) _).trans (b3.mono (by simp; omega)))
  clear b3 g0 g1 d0 d1 d2 d3
  have N := Lib.hid (all_nil w3)
  go_wp2_with fail
  (with_reducible refine N.out.mono ?_)
  rintro e w' ⟨rfl, rfl⟩
  go_wp2
  go_ret
  exact ⟨rfl, B3.out⟩

end Go.Proofs.Ytlihgcpiokaehaa
