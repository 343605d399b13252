/- The contracts of in, closer, cmp.Compare, cmp.Or. Conditions: ranges that may be. -/
import Derived.Test.YtlihgcpiokaehaaGet
import Derived.Deep.RegionHeld3
namespace Go.Proofs.Ytlihgcpiokaehaa
open Go Go.RowKit

/-- Is one range in another one? -/
def inB (x y : Rg) : Bool := if x.f = y.f ∧ x.t = y.t then decide (y.i < x.i) else decide (y.f ≤ x.f ∧ x.t ≤ y.t)
/-- Is a range nearer than another one, as a parent? -/
def nearB (x y : Rg) : Bool := decide (x.t - x.f < y.t - y.f ∨ (x.t - x.f = y.t - y.f ∧ (y.f < x.f ∨ (y.f = x.f ∧ y.i < x.i))))

theorem inn (f t : Int) (l r : Bool) (i : Int) (f' t' : Int) (l' r' : Bool) (i' : Int) (w : World) :
    Calls Try.prog 34 #[.agg #[.int .i64 f, .int .i64 t, .bool l, .bool r, .int .i64 i], .agg #[.int .i64 f', .int .i64 t', .bool l', .bool r', .int .i64 i']] w fun e w' =>
      e = .returned (.bool (inB ⟨f, t, l, r, i⟩ ⟨f', t', l', r', i'⟩)) ∧ Below w.heap.size w w' := by
  unfold inB
  simp only
  by_cases h : f = f' ∧ t = t'
  · obtain ⟨rfl, rfl⟩ := h
    rw [if_pos ⟨rfl, rfl⟩]
    go_enter Try.func34, Try.ntmps34
    go_wp2
    all_goals (go_ret; refine ⟨ret_bool ?_, ((Below.refl _ _).alloc (Nat.le_refl _) _).alloc (by simp) _⟩)
    all_goals first | rfl | (rw [Bool.eq_iff_iff]; simp; done) | (rw [Bool.eq_iff_iff]; simp; omega)
  · rw [if_neg h]
    have hd : (f == f' && t == t') = false := by
      simp only [Bool.and_eq_false_iff, beq_eq_false_iff_ne]
      by_cases h1 : f = f'
      · exact .inr fun h2 => h ⟨h1, h2⟩
      · exact .inl h1
    go_enter Try.func34, Try.ntmps34
    go_wp2
    all_goals (go_ret; refine ⟨ret_bool ?_, ((Below.refl _ _).alloc (Nat.le_refl _) _).alloc (by simp) _⟩)
    all_goals first | rfl | (rw [Bool.eq_iff_iff]; simp; done) | (rw [Bool.eq_iff_iff]; simp; omega)

theorem isNaN (x : Int) (w : World) : Calls Try.prog 44 #[.int .i64 x] w fun e w' => e = .returned (.bool false) ∧ w = w' := by
  go_enter Try.func44, Try.ntmps44
  go_wp2
  all_goals (go_ret; exact ⟨by simp, rfl⟩)

/-- What cmp.Compare gives. -/
def cmpZ (x y : Int) : Int := if x < y then -1 else if y < x then 1 else 0
theorem compare (x y : Int) (w : World) : Calls Try.prog 43 #[.int .i64 x, .int .i64 y] w fun e w' => e = .returned (.int .i64 (cmpZ x y)) ∧ w = w' := by
  have N := Lib.hid isNaN
  go_enter Try.func43, Try.ntmps43
  go_wp2_with (go_at_call 44; refine (N.out _ _).mono ?_; rintro e w' ⟨rfl, rfl⟩)
  all_goals (go_ret; refine ⟨ret_int ?_, rfl⟩; unfold cmpZ; repeat' split)
  all_goals omega

/-- What cmp.Or gives, of three. -/
def orZ (x y z : Int) : Int := if x ≠ 0 then x else if y ≠ 0 then y else z
/-- Those ahead are none. -/
def Zs (k : Nat) (x y z : Int) : Prop := (1 ≤ k → x = 0) ∧ (2 ≤ k → y = 0) ∧ (3 ≤ k → z = 0)

theorem or3 (g : Nat) (x y z : Int) (w : World) (h0 : w.cell? ⟨g, 0, none⟩ = some (.int .i64 x)) (h1 : w.cell? ⟨g, 1, none⟩ = some (.int .i64 y)) (h2 : w.cell? ⟨g, 2, none⟩ = some (.int .i64 z)) :
    Calls Try.prog 42 #[.slice (some ⟨g, 0, none⟩) 3 3] w fun e w' => e = .returned (.int .i64 (orZ x y z)) ∧ w = w' := by
  go_enter Try.func42, Try.ntmps42
  go_wp2
  go_loopw [8] (fun i wr => ∃ k : Nat, k ≤ 3 ∧ i = .int .i64 k ∧ wr = w ∧ Zs k x y z) (fun i _ => 3 - (intOf i).toNat)
  case atStart => exact ⟨0, by omega, rfl, rfl, by omega, by omega, by omega⟩
  case round =>
    obtain ⟨k, hk, rfl, rfl, hz⟩ := hrel
    have Z := Lib.hid hz
    clear hz
    match k, hk with
    | 0, _ =>
      by_cases hx : x = 0
      · have HX := Lib.hid hx
        go_wp2
        go_roundw
        case rel => exact ⟨1, by omega, by go_num, by trivial, fun _ => HX.out, by omega, by omega⟩
        case measure => simp [intOf]
      · have e := Lib.hid (show orZ x y z = x by unfold orZ; rw [if_pos hx])
        go_wp2
        go_ret
        exact ⟨ret_int e.out.symm, rfl⟩
    | 1, _ =>
      have k0 := Lib.hid (Z.out.1 (by omega))
      by_cases hy : y = 0
      · have HY := Lib.hid hy
        go_wp2
        go_roundw
        case rel => exact ⟨2, by omega, by go_num, by trivial, fun _ => k0.out, fun _ => HY.out, by omega⟩
        case measure => simp [intOf]
      · have e := Lib.hid (show orZ x y z = y by unfold orZ; rw [if_neg (by simp [k0.out]), if_pos hy])
        go_wp2
        go_ret
        exact ⟨ret_int e.out.symm, rfl⟩
    | 2, _ =>
      have k0 := Lib.hid (Z.out.1 (by omega))
      have k1 := Lib.hid (Z.out.2.1 (by omega))
      by_cases hz : z = 0
      · have HZ := Lib.hid hz
        go_wp2
        go_roundw
        case rel => exact ⟨3, by omega, by go_num, by trivial, fun _ => k0.out, fun _ => k1.out, fun _ => HZ.out⟩
        case measure => simp [intOf]
      · have e := Lib.hid (show orZ x y z = z by unfold orZ; rw [if_neg (by simp [k0.out]), if_neg (by simp [k1.out])])
        go_wp2
        go_ret
        exact ⟨ret_int e.out.symm, rfl⟩
    | 3, _ =>
      have e := Lib.hid (show orZ x y z = 0 by unfold orZ; rw [if_neg (by simp [Z.out.1 (by omega)]), if_neg (by simp [Z.out.2.1 (by omega)])]; exact Z.out.2.2 (by omega))
      go_wp2
      go_ret
      exact ⟨ret_int e.out.symm, rfl⟩

theorem near_or (x y : Rg) : nearB x y = decide (0 < orZ (cmpZ (y.t - y.f) (x.t - x.f)) (cmpZ x.f y.f) (cmpZ x.i y.i)) := by
  unfold nearB orZ cmpZ
  rw [Bool.eq_iff_iff]
  simp only [decide_eq_true_eq]
  repeat' split
  all_goals first | omega | (simp_all; done) | (simp_all; omega)

theorem closer (f t : Int) (l r : Bool) (i : Int) (f' t' : Int) (l' r' : Bool) (i' : Int) (w : World) (h : 0 ≤ f ∧ f ≤ t ∧ t ≤ 2147483648) (h' : 0 ≤ f' ∧ f' ≤ t' ∧ t' ≤ 2147483648) :
    Calls Try.prog 35 #[.agg #[.int .i64 f, .int .i64 t, .bool l, .bool r, .int .i64 i], .agg #[.int .i64 f', .int .i64 t', .bool l', .bool r', .int .i64 i']] w fun e w' =>
      e = .returned (.bool (nearB ⟨f, t, l, r, i⟩ ⟨f', t', l', r', i'⟩)) ∧ Below w.heap.size w w' := by
  rw [near_or]
  simp only
  have C := Lib.hid compare
  have O := Lib.hid or3
  have e1 : IntKind.i64.wrap (t' - f') = t' - f' := IntWalk.i64_in _ (by omega)
  have e2 : IntKind.i64.wrap (t - f) = t - f := IntWalk.i64_in _ (by omega)
  go_enter Try.func35, Try.ntmps35
  go_wp2_with fail
  go_region_held3 (fun W => W.cell? ⟨w.heap.size, 0, none⟩ = some (.int .i64 f) ∧ W.cell? ⟨w.heap.size, 1, none⟩ = some (.int .i64 t) ∧ W.cell? ⟨w.heap.size, 4, none⟩ = some (.int .i64 i) ∧ W.cell? ⟨w.heap.size + 1, 0, none⟩ = some (.int .i64 f') ∧ W.cell? ⟨w.heap.size + 1, 1, none⟩ = some (.int .i64 t') ∧ W.cell? ⟨w.heap.size + 1, 4, none⟩ = some (.int .i64 i')) (refine ⟨?_, ?_, ?_, ?_, ?_, ?_⟩ <;> go_simp)
    (first
      | (go_at_call 43; (with_reducible refine (C.out _ _ _).mono ?_); rintro e w' ⟨rfl, rfl⟩)
      | (go_at_call 42; (with_reducible refine (O.out (w.heap.size + 1 + 1) (cmpZ (t' - f') (t - f)) (cmpZ f f') (cmpZ i i') _ ?_ ?_ ?_).mono ?_); go_simp; go_simp; go_simp; rintro e w' ⟨rfl, rfl⟩))
  go_wp2
  go_ret
  exact ⟨ret_bool rfl, by (repeat' (first | exact Below.refl _ _ | refine Below.drew ?_ | refine Below.alloc ?_ (by simp <;> omega) _))⟩
end Go.Proofs.Ytlihgcpiokaehaa
