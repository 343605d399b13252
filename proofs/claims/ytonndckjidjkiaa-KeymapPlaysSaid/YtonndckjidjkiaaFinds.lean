/- The walk of KeymapFinds. Conditions: the numbers are in their kind's range. -/
import Derived.Test.YtonndckjidjkiaaKnows
import Derived.Deep.RegionHeld3
namespace Go.Proofs.Ytonndckjidjkiaa
open Go Go.RowKit

theorem lat_first (w : World) : LAt (w.alloc (.cells (flat first50).toArray 39)) (some ⟨w.heap.size, 0, none⟩) 50 first50 := by
  refine ⟨⟨rfl, .inr ⟨w.heap.size, 0, rfl, ⟨_, _, heap_alloc_new w _⟩, fun j u hj => ?_⟩⟩, by rw [first_len]; decide, fun h => by cases h⟩
  have := new_cells w (flat first50) 39 j u hj
  rwa [Addr.add_lit] at this
theorem refFind_first (la : Option Addr) (lc : Nat) (k r m : Int) (w : World) (h : LAt w la lc first50) :
    Calls Try.prog 7 #[.slice la 50 lc, .int .i64 k, .int .i32 r, .int .i64 m] w fun e w' => e = .returned (.int .i64 (findZ ⟨k, r, m⟩ first50)) ∧ Below w.heap.size w w' := by
  have := refFind la ⟨k, r, m⟩ first50 lc w h (by rw [first_len]; decide)
  rwa [first_len] at this

/-- What stays, seen from an earlier world. -/
theorem calls_base {f : FuncId} {args : Array Value} {W0 W : World} {v : Value} (h : Calls Try.prog f args W fun e w' => e = .returned v ∧ Below W.heap.size W w') (b : Below W0.heap.size W0 W) :
    Calls Try.prog f args W fun e w' => e = .returned v ∧ Below W0.heap.size W0 w' := h.mono fun _ _ ⟨he, hb⟩ => ⟨he, b.trans (hb.mono b.size)⟩
theorem refFirst_at (W : World) : Calls Try.prog 8 #[] W fun e w' => ∃ la, e = .returned (.slice la 50 50) ∧ LAt w' la 50 first50 ∧ Below W.heap.size W w' :=
  (refFirst W).mono fun _ _ ⟨he, hw⟩ => by subst hw; exact ⟨_, he, lat_first W, (Below.refl _ _).alloc (Nat.le_refl _) _⟩
theorem refFirst_base {W0 W : World} (b : Below W0.heap.size W0 W) : Calls Try.prog 8 #[] W fun e w' => ∃ la, e = .returned (.slice la 50 50) ∧ LAt w' la 50 first50 ∧ Below W0.heap.size W0 w' :=
  (refFirst_at W).mono fun _ _ ⟨la, he, hl, hb⟩ => ⟨la, he, hl, b.trans (hb.mono b.size)⟩

set_option maxHeartbeats 4000000 in
theorem finds_walk (xk xr xm c : Int) (hc : -9223372036854775808 ≤ c ∧ c ≤ 9223372036854775807) (w : World) :
    Calls Try.prog 3 #[.agg #[.int .i64 xk, .int .i32 xr, .int .i64 xm], .int .i64 c] w fun e w' => e = .returned (.bool true) ∧ Below w.heap.size w w' := by
  have K := Lib.hid knows
  have X0 := row3 w ⟨xk, xr, xm⟩
  have b0 : Below w.heap.size w (w.alloc (Obj.cells #[.int .i64 xk, .int .i32 xr, .int .i64 xm] 23)) := (Below.refl _ _).alloc (Nat.le_refl _) _
  have N := Lib.hid (new (w.alloc (Obj.cells #[.int .i64 xk, .int .i32 xr, .int .i64 xm] 23)))
  have B0 := Lib.hid b0
  have XR := Lib.hid X0
  have IS := is c hc
  have RI := refIs c hc
  obtain ⟨V, hV⟩ : ∃ V, V = cmdB c := ⟨_, rfl⟩
  rw [← hV] at IS RI
  have II := Lib.hid IS
  have RR := Lib.hid RI
  obtain ⟨F, hF⟩ : ∃ F, F = findZ ⟨xk, xr, xm⟩ first50 := ⟨_, rfl⟩
  have HF := Lib.hid hF
  clear b0 X0 IS RI hV hF hc
  go_enter Try.func3, Try.ntmps3
  go_wp2_with fail
  (with_reducible refine N.out.mono ?_)
  rintro e w1 ⟨mb, hmb, rfl, hm, hb⟩
  have M := Lib.hid hm
  have B1 := Lib.hid (B0.out.trans (hb.mono B0.out.size))
  have XW := Lib.hid (XR.out.of_block (hb.block _ XR.out.lt))
  have hXlt : w.heap.size < w1.heap.size := XW.out.lt
  have FD := fun W (b : Below w1.heap.size w1 W) => calls_base (find mb _ ⟨xk, xr, xm⟩ first50 W (M.out.below b)) b
  unfold Ky.val at FD
  simp only at FD
  rw [← HF.out] at FD
  have FF := Lib.hid FD
  have FR := fun W la (h : LAt W la 50 first50) (b : Below w1.heap.size w1 W) => calls_base (refFind_first la 50 xk xr xm W h) b
  rw [← HF.out] at FR
  have FG := Lib.hid FR
  have keepS := fun (W : World) (h : Below w1.heap.size w1 W) => (show Below w1.heap.size w1 W ∧ W.cell? ⟨w.heap.size, 0, none⟩ = some (.int .i64 xk) ∧ W.cell? ⟨w.heap.size, 1, none⟩ = some (.int .i32 xr) ∧ W.cell? ⟨w.heap.size, 2, none⟩ = some (.int .i64 xm) by
    have r := XW.out.of_block (h.block _ XW.out.lt)
    exact ⟨h, r.cell (i := 0) (by omega), r.cell (i := 1) (by omega), r.cell (i := 2) (by omega)⟩)
  have KS := Lib.hid keepS
  have KB := Lib.hid (fun W (b : Below w1.heap.size w1 W) => calls_base (K.out W) b)
  clear FD FR keepS hm hb
  go_wp2_with fail
  go_region_held3 (fun W => Below w1.heap.size w1 W ∧ W.cell? ⟨w.heap.size, 0, none⟩ = some (.int .i64 xk) ∧ W.cell? ⟨w.heap.size, 1, none⟩ = some (.int .i32 xr) ∧ W.cell? ⟨w.heap.size, 2, none⟩ = some (.int .i64 xm)) (first | exact KS.out _ (Below.refl _ _).drew | exact KS.out _ (by assumption) | assumption)
    (first
      | (go_at_call 6; (with_reducible refine (FF.out _ (And.left (by assumption))).mono ?_); rintro e w' ⟨rfl, hb⟩)
      | (go_at_call 8; (with_reducible refine (refFirst_base (And.left (by assumption))).mono ?_); rintro e w' ⟨la, rfl, hl, hb⟩)
      | (go_at_call 7; (with_reducible refine (FG.out _ _ (by assumption) (And.left (by assumption))).mono ?_); rintro e w' ⟨rfl, hb⟩)
      | (go_at_call 9; (with_reducible refine (II.out _).mono ?_); rintro e w' ⟨rfl, rfl⟩)
      | (go_at_call 10; (with_reducible refine (RR.out _).mono ?_); rintro e w' ⟨rfl, rfl⟩)
      | (go_at_call 11; (with_reducible refine (KB.out _ (And.left (by assumption))).mono ?_); rintro e w' ⟨rfl, hb⟩))
  go_wp2
  go_ret
  exact ⟨rfl, B1.out.trans ((And.left (a := Below w1.heap.size w1 _) (by assumption)).mono (by omega))⟩
end Go.Proofs.Ytonndckjidjkiaa
