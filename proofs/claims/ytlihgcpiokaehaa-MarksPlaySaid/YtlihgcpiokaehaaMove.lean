/- The walk of MarksMove. No conditions. -/
import Derived.Test.YtlihgcpiokaehaaKnows
import Derived.Deep.RegionHeld3
namespace Go.Proofs.Ytlihgcpiokaehaa
open Go Go.RowKit

theorem mf_le {f t x d : Int} {n : Nat} {l r : Bool} : mf f x d n l ≤ mt f t x d n l r := by
  unfold mt; split <;> omega

/-- The cells that the walk reads again, behind a call. -/
theorem row3_at {w w' : World} {b : Nat} {B : Nat} {v0 v1 v2 : Value} (h : Below B w w') (hb : b < B) (h0 : w.cell? ⟨b, 0, none⟩ = some v0) (h1 : w.cell? ⟨b, 1, none⟩ = some v1) (h2 : w.cell? ⟨b, 2, none⟩ = some v2) :
    w'.cell? ⟨b, 0, none⟩ = some v0 ∧ w'.cell? ⟨b, 1, none⟩ = some v1 ∧ w'.cell? ⟨b, 2, none⟩ = some v2 :=
  ⟨(h.cell (by exact hb)).trans h0, (h.cell (by exact hb)).trans h1, (h.cell (by exact hb)).trans h2⟩

theorem asB (B : Nat) (V : World) (f t : Int) (l r : Bool) (i : Int) (W : World) (h : Below B V W) (hB : B ≤ W.heap.size) :
    Calls Try.prog 9 #[.agg #[.int .i64 f, .int .i64 t, .bool l, .bool r], .int .i64 i] W fun e w' => e = .returned (.agg #[.int .i64 f, .int .i64 t, .bool l, .bool r, .int .i64 i]) ∧ Below B V w' :=
  (refAs f t l r i W).mono fun e w' ⟨he, hw⟩ => ⟨he, by subst hw; exact (h.alloc hB _).alloc (by simp; omega) _⟩

theorem refMoveB (B : Nat) (V : World) (f t x d : Int) (l r : Bool) (i : Int) (a : Option Addr) (n c : Nat) (W : World) (hm : may f t = true) (hx : fair x d = true) (hn : n ≤ 1000000) (h : Below B V W) (hB : B ≤ W.heap.size) :
    Calls Try.prog 11 #[.agg #[.int .i64 f, .int .i64 t, .bool l, .bool r, .int .i64 i], .agg #[.int .i64 x, .int .i64 d, .slice a n c]] W fun e w' => e = .returned (.agg #[.int .i64 (mf f x d n l), .int .i64 (mt f t x d n l r), .bool l, .bool r, .int .i64 i]) ∧ Below B V w' :=
  (refMove f t x d l r i a n c W (of_decide_eq_true hm) (of_decide_eq_true hx) hn).mono fun e w' ⟨he, o1, o2, o3, o4, o5, hw⟩ => ⟨he, by subst hw; exact ((((h.alloc hB _).alloc (by simp; omega) _).alloc (by simp; omega) _).alloc (by simp; omega) _).alloc (by simp; omega) _⟩

theorem knowsB (B : Nat) (V : World) (W : World) (h : Below B V W) (hB : B ≤ W.heap.size) : Calls Try.prog 6 #[] W fun e w' => e = .returned (.bool true) ∧ Below B V w' :=
  (knows W).mono fun _ _ ⟨he, hb⟩ => ⟨he, h.trans (hb.mono hB)⟩

/-- MarksMove: every way. -/
theorem move_walk (f t x d : Int) (l r : Bool) (a : Option Addr) (n c : Nat) (w : World) :
    Calls Try.prog 3 #[.agg #[.int .i64 f, .int .i64 t, .bool l, .bool r], .agg #[.int .i64 x, .int .i64 d, .slice a n c]] w fun e w' => e = .returned (.bool true) ∧ Below w.heap.size w w' := by
  have K := Lib.hid knows
  by_cases hn : n ≤ 300
  · have hn' : ¬ (300 : Int) < (n : Int) := by omega
    cases hm : may f t with
    | false =>
      have M := move_no f t x d l r a n c
      have HM := Lib.hid (fun w => M w (.inl hm))
      have A := Lib.hid (fun w => refAs f t l r 0 w)
      have Y := Lib.hid (fun w => (show Calls Try.prog 8 _ w (fun e w' => e = .returned (.bool false) ∧ _) by have h := refMay f t l r 0 w; rw [hm] at h; exact h))
      clear M hm
      go_enter Try.func3, Try.ntmps3
      go_wp2_with fail
      (with_reducible refine (HM.out _).mono ?_)
      rintro e w1 ⟨rfl, b1⟩
      obtain ⟨c0, c1, c2, c3⟩ := row4_at (b := w.heap.size) (v0 := .int .i64 f) (v1 := .int .i64 t) (v2 := .bool l) (v3 := .bool r) b1 (by simp; omega) (by simp) (by simp) (by simp) (by simp)
      have hs1 : w.heap.size < w1.heap.size := by have := b1.size; simp at this; omega
      have B1 := Lib.hid (show Below w.heap.size w w1 from (((Below.refl _ w).alloc (Nat.le_refl _) _).alloc (by simp) _).trans (b1.mono (by simp; omega)))
      clear b1
      go_wp2_with fail
      (with_reducible refine (A.out _).mono ?_)
      rintro e w2 ⟨rfl, rfl⟩
      go_wp2_with fail
      (with_reducible refine (Y.out _).mono ?_)
      rintro e w2 ⟨rfl, rfl⟩
      go_wp2_with fail
      (with_reducible refine (K.out _).mono ?_)
      rintro e w3 ⟨rfl, b3⟩
      have B3 := Lib.hid (show Below w.heap.size w w3 from ((((B1.out.alloc (by omega) _).alloc (by simp; omega) _).alloc (by simp; omega) _).alloc (by simp; omega) _).trans (b3.mono (by simp; omega)))
      clear b3
      go_wp2
      go_ret
      exact ⟨rfl, B3.out⟩
    | true =>
      cases hx : fair x d with
      | false =>
        have M := move_no f t x d l r a n c
        have HM := Lib.hid (fun w => M w (.inr ⟨hm, hx⟩))
        have A := Lib.hid (fun w => refAs f t l r 0 w)
        have Y := Lib.hid (fun w => (show Calls Try.prog 8 _ w (fun e w' => e = .returned (.bool true) ∧ _) by have h := refMay f t l r 0 w; rw [hm] at h; exact h))
        have X := Lib.hid (fun w => (show Calls Try.prog 10 _ w (fun e w' => e = .returned (.bool false) ∧ _) by have h := refFair x d a n c w; rw [hx] at h; exact h))
        clear M hm hx
        go_enter Try.func3, Try.ntmps3
        go_wp2_with fail
        (with_reducible refine (HM.out _).mono ?_)
        rintro e w1 ⟨rfl, b1⟩
        obtain ⟨c0, c1, c2, c3⟩ := row4_at (b := w.heap.size) (v0 := .int .i64 f) (v1 := .int .i64 t) (v2 := .bool l) (v3 := .bool r) b1 (by simp; omega) (by simp) (by simp) (by simp) (by simp)
        obtain ⟨d0, d1, d2⟩ := row3_at (b := w.heap.size + 1) (v0 := .int .i64 x) (v1 := .int .i64 d) (v2 := .slice a n c) b1 (by simp) (by simp) (by simp) (by simp)
        have hs1 : w.heap.size < w1.heap.size := by have := b1.size; simp at this; omega
        have hs2 : w.heap.size + 1 < w1.heap.size := by have := b1.size; simp at this; omega
        have B1 := Lib.hid (show Below w.heap.size w w1 from (((Below.refl _ w).alloc (Nat.le_refl _) _).alloc (by simp) _).trans (b1.mono (by simp; omega)))
        clear b1
        go_wp2_with fail
        (with_reducible refine (A.out _).mono ?_)
        rintro e w2 ⟨rfl, rfl⟩
        go_wp2_with fail
        (with_reducible refine (Y.out _).mono ?_)
        rintro e w4 ⟨rfl, hw⟩
        obtain ⟨b4, z0, z1, z2, z3⟩ : Below w1.heap.size w1 w4 ∧ w4.cell? ⟨w1.heap.size, 0, none⟩ = some (.int .i64 0) ∧ w4.cell? ⟨w1.heap.size, 1, none⟩ = some (.int .i64 0) ∧ w4.cell? ⟨w1.heap.size, 2, none⟩ = some (.bool false) ∧ w4.cell? ⟨w1.heap.size, 3, none⟩ = some (.bool false) := by
          subst hw
          refine ⟨?_, ?_, ?_, ?_, ?_⟩
          · (repeat' (first | exact Below.refl _ _ | refine Below.drew ?_ | refine Below.alloc ?_ (by simp <;> omega) _))
          all_goals go_simp
        have hs4 : w1.heap.size < w4.heap.size := block_lt_of_cell z0
        clear hw
        obtain ⟨e0, e1, e2, e3⟩ := row4_at (b := w.heap.size) b4 hs1 c0 c1 c2 c3
        obtain ⟨g0, g1, g2⟩ := row3_at (b := w.heap.size + 1) b4 hs2 d0 d1 d2
        clear c0 c1 c2 c3 d0 d1 d2
        have B4 := Lib.hid (B1.out.trans (b4.mono (by omega)))
        clear b4
        go_wp2_with fail
        (with_reducible refine (X.out _).mono ?_)
        rintro e w5 ⟨rfl, hw⟩
        have b5 : Below w4.heap.size w4 w5 := by subst hw; exact (Below.refl _ _).alloc (Nat.le_refl _) _
        clear hw
        obtain ⟨y0, y1, y2, y3⟩ := row4_at (b := w1.heap.size) b5 hs4 z0 z1 z2 z3
        have B5 := Lib.hid (B4.out.trans (b5.mono (by omega)))
        have hs5 : w4.heap.size ≤ w5.heap.size := b5.size
        clear b5 z0 z1 z2 z3 e0 e1 e2 e3 g0 g1 g2
        go_wp2_with fail
        (with_reducible refine (K.out _).mono ?_)
        rintro e w3 ⟨rfl, b3⟩
        have B3 := Lib.hid (show Below w.heap.size w w3 from B5.out.trans (b3.mono (by omega)))
        clear b3
        go_wp2
        go_ret
        exact ⟨rfl, B3.out⟩
      | true =>
        have M := move_yes f t x d l r a n c
        have HM := Lib.hid (fun w => M w hm hx (by omega))
        have A := Lib.hid (fun w => refAs f t l r 0 w)
        have Y := Lib.hid (fun w => (show Calls Try.prog 8 _ w (fun e w' => e = .returned (.bool true) ∧ _) by have h := refMay f t l r 0 w; rw [hm] at h; exact h))
        have X := Lib.hid (fun w => (show Calls Try.prog 10 _ w (fun e w' => e = .returned (.bool true) ∧ _) by have h := refFair x d a n c w; rw [hx] at h; exact h))
        have hle := mf_le (f := f) (t := t) (x := x) (d := d) (n := n) (l := l) (r := r)
        have h0 : 0 ≤ mf f x d n l := (pl_bounds (h := !l) (n := n) (p := f) (x := x) (d := d) (by have := of_decide_eq_true hm; omega) (of_decide_eq_true hx)).1
        have HH := Lib.hid (And.intro hm hx)
        have A2 := Lib.hid (fun B V i W h hB => asB B V (mf f x d n l) (mt f t x d n l r) l r i W h hB)
        have A3 := Lib.hid (fun B V i W h hB => asB B V f t l r i W h hB)
        have R2 := Lib.hid (fun B V i W h hB => refMoveB B V f t x d l r i a n c W HH.out.1 HH.out.2 (by omega) h hB)
        clear M hm hx
        generalize mf f x d n l = F at *
        generalize mt f t x d n l r = T at *
        go_enter Try.func3, Try.ntmps3
        go_wp2_with fail
        (with_reducible refine (HM.out _).mono ?_)
        rintro e w1 ⟨rfl, b1⟩
        obtain ⟨c0, c1, c2, c3⟩ := row4_at (b := w.heap.size) (v0 := .int .i64 f) (v1 := .int .i64 t) (v2 := .bool l) (v3 := .bool r) b1 (by simp; omega) (by simp) (by simp) (by simp) (by simp)
        obtain ⟨d0, d1, d2⟩ := row3_at (b := w.heap.size + 1) (v0 := .int .i64 x) (v1 := .int .i64 d) (v2 := .slice a n c) b1 (by simp) (by simp) (by simp) (by simp)
        have hs1 : w.heap.size < w1.heap.size := by have := b1.size; simp at this; omega
        have hs2 : w.heap.size + 1 < w1.heap.size := by have := b1.size; simp at this; omega
        have B1 := Lib.hid (show Below w.heap.size w w1 from (((Below.refl _ w).alloc (Nat.le_refl _) _).alloc (by simp) _).trans (b1.mono (by simp; omega)))
        clear b1
        go_wp2_with fail
        (with_reducible refine (A.out _).mono ?_)
        rintro e w2 ⟨rfl, rfl⟩
        go_wp2_with fail
        (with_reducible refine (Y.out _).mono ?_)
        rintro e w4 ⟨rfl, hw⟩
        obtain ⟨b4, z0, z1, z2, z3⟩ : Below w1.heap.size w1 w4 ∧ w4.cell? ⟨w1.heap.size, 0, none⟩ = some (.int .i64 F) ∧ w4.cell? ⟨w1.heap.size, 1, none⟩ = some (.int .i64 T) ∧ w4.cell? ⟨w1.heap.size, 2, none⟩ = some (.bool l) ∧ w4.cell? ⟨w1.heap.size, 3, none⟩ = some (.bool r) := by
          subst hw
          refine ⟨?_, ?_, ?_, ?_, ?_⟩
          · (repeat' (first | exact Below.refl _ _ | refine Below.drew ?_ | refine Below.alloc ?_ (by simp <;> omega) _))
          all_goals go_simp
        have hs4 : w1.heap.size < w4.heap.size := block_lt_of_cell z0
        clear hw
        obtain ⟨e0, e1, e2, e3⟩ := row4_at (b := w.heap.size) b4 hs1 c0 c1 c2 c3
        obtain ⟨g0, g1, g2⟩ := row3_at (b := w.heap.size + 1) b4 hs2 d0 d1 d2
        clear c0 c1 c2 c3 d0 d1 d2
        have B4 := Lib.hid (B1.out.trans (b4.mono (by omega)))
        clear b4
        go_wp2_with fail
        (with_reducible refine (X.out _).mono ?_)
        rintro e w5 ⟨rfl, hw⟩
        have b5 : Below w4.heap.size w4 w5 := by subst hw; exact (Below.refl _ _).alloc (Nat.le_refl _) _
        clear hw
        have hs5 : w1.heap.size < w5.heap.size := Nat.lt_of_lt_of_le hs4 b5.size
        obtain ⟨p0, p1, p2, p3⟩ := row4_at (b := w1.heap.size) b5 hs4 z0 z1 z2 z3
        obtain ⟨q0, q1, q2, q3⟩ := row4_at (b := w.heap.size) b5 (by omega) e0 e1 e2 e3
        obtain ⟨r0, r1, r2⟩ := row3_at (b := w.heap.size + 1) b5 (by omega) g0 g1 g2
        have B5 := Lib.hid (B4.out.trans (b5.mono (by omega)))
        clear b5 z0 z1 z2 z3 e0 e1 e2 e3 g0 g1 g2
        have keepS := fun (w' : World) (h : Below w5.heap.size w5 w') => (show Below w5.heap.size w5 w' ∧ w'.cell? ⟨w1.heap.size, 0, none⟩ = some (.int .i64 F) ∧ w'.cell? ⟨w1.heap.size, 1, none⟩ = some (.int .i64 T) ∧ w'.cell? ⟨w1.heap.size, 2, none⟩ = some (.bool l) ∧ w'.cell? ⟨w1.heap.size, 3, none⟩ = some (.bool r) ∧ w'.cell? ⟨w.heap.size, 0, none⟩ = some (.int .i64 f) ∧ w'.cell? ⟨w.heap.size, 1, none⟩ = some (.int .i64 t) ∧ w'.cell? ⟨w.heap.size, 2, none⟩ = some (.bool l) ∧ w'.cell? ⟨w.heap.size, 3, none⟩ = some (.bool r) ∧ w'.cell? ⟨w.heap.size + 1, 0, none⟩ = some (.int .i64 x) ∧ w'.cell? ⟨w.heap.size + 1, 1, none⟩ = some (.int .i64 d) ∧ w'.cell? ⟨w.heap.size + 1, 2, none⟩ = some (.slice a n c) by
          obtain ⟨y0, y1, y2, y3⟩ := row4_at (b := w1.heap.size) h hs5 p0 p1 p2 p3
          obtain ⟨y4, y5, y6, y7⟩ := row4_at (b := w.heap.size) h (by omega) q0 q1 q2 q3
          obtain ⟨y8, y9, y10⟩ := row3_at (b := w.heap.size + 1) h (by omega) r0 r1 r2
          exact ⟨h, y0, y1, y2, y3, y4, y5, y6, y7, y8, y9, y10⟩)
        have KS := Lib.hid keepS
        have K5 := Lib.hid (knowsB w5.heap.size w5)
        clear keepS
        go_wp2_with fail
        go_region_held3 (fun w' => Below w5.heap.size w5 w' ∧ w'.cell? ⟨w1.heap.size, 0, none⟩ = some (.int .i64 F) ∧ w'.cell? ⟨w1.heap.size, 1, none⟩ = some (.int .i64 T) ∧ w'.cell? ⟨w1.heap.size, 2, none⟩ = some (.bool l) ∧ w'.cell? ⟨w1.heap.size, 3, none⟩ = some (.bool r) ∧ w'.cell? ⟨w.heap.size, 0, none⟩ = some (.int .i64 f) ∧ w'.cell? ⟨w.heap.size, 1, none⟩ = some (.int .i64 t) ∧ w'.cell? ⟨w.heap.size, 2, none⟩ = some (.bool l) ∧ w'.cell? ⟨w.heap.size, 3, none⟩ = some (.bool r) ∧ w'.cell? ⟨w.heap.size + 1, 0, none⟩ = some (.int .i64 x) ∧ w'.cell? ⟨w.heap.size + 1, 1, none⟩ = some (.int .i64 d) ∧ w'.cell? ⟨w.heap.size + 1, 2, none⟩ = some (.slice a n c)) (first | exact KS.out _ (Below.refl _ _).drew | exact KS.out _ (by assumption) | assumption)
          (first
            | (go_at_call 9; (with_reducible refine (A2.out w5.heap.size w5 _ _ (And.left (by assumption)) (And.left (a := Below w5.heap.size w5 _) (by assumption)).size).mono ?_); rintro e w' ⟨rfl, hb⟩)
            | (go_at_call 9; (with_reducible refine (A3.out w5.heap.size w5 _ _ (And.left (by assumption)) (And.left (a := Below w5.heap.size w5 _) (by assumption)).size).mono ?_); rintro e w' ⟨rfl, hb⟩)
            | (go_at_call 11; (with_reducible refine (R2.out w5.heap.size w5 _ _ (And.left (by assumption)) (And.left (a := Below w5.heap.size w5 _) (by assumption)).size).mono ?_); rintro e w' ⟨rfl, hb⟩)
            | (go_at_call 6; (with_reducible refine (K5.out _ (And.left (by assumption)) (And.left (a := Below w5.heap.size w5 _) (by assumption)).size).mono ?_); rintro e w' ⟨rfl, hb⟩))
        go_wp2
        go_ret
        exact ⟨rfl, B5.out.trans ((And.left (a := Below w5.heap.size w5 _) (by assumption)).mono (by omega))⟩
  · have hn' : (300 : Int) < (n : Int) := by omega
    go_enter Try.func3, Try.ntmps3
    go_wp2_with fail
    (with_reducible refine (K.out _).mono ?_)
    rintro e w1 ⟨rfl, b1⟩
    have B := Lib.hid ((show Below w.heap.size w w1 from (((Below.refl _ w).alloc (Nat.le_refl _) _).alloc (by simp) _).trans (b1.mono (by simp; omega))))
    clear b1
    go_wp2
    go_ret
    exact ⟨rfl, B.out⟩
end Go.Proofs.Ytlihgcpiokaehaa
