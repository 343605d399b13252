/- Contracts of the program's small functions of vt: isSide, isShown, second, rowOf. Conditions: the table of widths lies in the world; a row of the grid. -/
import Derived.Test.YtnbpkabnaipimaaDoorRefProper
namespace Go.Proofs.YtnbpkabnaipimaaDoor
open Go Go.RowKit

/-- May a grid have so many rows, or columns? -/
def sideB (n : Int) : Bool := decide (1 ≤ n) && decide (n ≤ 60)
theorem isSide (n : Int) (w : World) : Calls Tryd.prog 13 #[.int .i64 n] w fun e w' => e = .returned (.bool (sideB n)) ∧ w = w' := by
  by_cases h1 : 1 ≤ n
  · go_enter Tryd.func13, Tryd.ntmps13
    go_wp2
    all_goals (go_ret; exact ⟨ret_bool (by simp [sideB]; try omega), rfl⟩)
  · go_enter Tryd.func13, Tryd.ntmps13
    go_wp2
    all_goals (go_ret; exact ⟨ret_bool (by simp [sideB]; try omega), rfl⟩)

theorem isShown (c : Int) (w : World) (hT : Tab w) : Calls Tryd.prog 26 #[.int .i32 c] w fun e w' => e = .returned (.bool (okR c)) ∧ Below w.heap.size w w' := by
  have hr := right c w
  have ho := of c w hT
  have hw := wd_bounds c
  clear hT
  cases hv : Lib.validRune c
  · rw [hv] at hr
    have HR := Lib.hid hr
    clear hr ho
    go_enter Tryd.func26, Tryd.ntmps26
    go_wp2_with (go_at_call 36; refine (HR.out).mono ?_; rintro e w' ⟨rfl, rfl⟩)
    go_ret
    exact ⟨ret_bool (by simp [okR, hv]), Below.refl _ _⟩
  · rw [hv] at hr
    have HR := Lib.hid hr
    have HO := Lib.hid ho
    clear hr ho
    by_cases h1 : 32 ≤ c
    · by_cases h2 : c < 127
      · go_enter Tryd.func26, Tryd.ntmps26
        go_wp2_with (first
          | (go_at_call 36; refine (HR.out).mono ?_; rintro e w' ⟨rfl, rfl⟩)
          | (go_at_call 25; refine (HO.out).mono ?_; rintro e w' ⟨rfl, hb⟩))
        all_goals (go_ret; exact ⟨ret_bool (by simp [okR, hv, h1, h2]; try omega), hb⟩)
      · by_cases h3 : 159 < c
        · go_enter Tryd.func26, Tryd.ntmps26
          go_wp2_with (first
            | (go_at_call 36; refine (HR.out).mono ?_; rintro e w' ⟨rfl, rfl⟩)
            | (go_at_call 25; refine (HO.out).mono ?_; rintro e w' ⟨rfl, hb⟩))
          all_goals (go_ret; exact ⟨ret_bool (by simp [okR, hv, h1, h3]; try omega), hb⟩)
        · go_enter Tryd.func26, Tryd.ntmps26
          go_wp2_with (first
            | (go_at_call 36; refine (HR.out).mono ?_; rintro e w' ⟨rfl, rfl⟩)
            | (go_at_call 25; refine (HO.out).mono ?_; rintro e w' ⟨rfl, hb⟩))
          all_goals (go_ret; exact ⟨ret_bool (by simp [okR, hv, h1]; try omega), Below.refl _ _⟩)
    · go_enter Tryd.func26, Tryd.ntmps26
      go_wp2_with (first
        | (go_at_call 36; refine (HR.out).mono ?_; rintro e w' ⟨rfl, rfl⟩)
        | (go_at_call 25; refine (HO.out).mono ?_; rintro e w' ⟨rfl, hb⟩))
      all_goals (go_ret; exact ⟨ret_bool (by simp [okR, hv]; try omega), Below.refl _ _⟩)

/-- A result that lies in a cell. -/
theorem results_cell1 {fn : Func} {p : Tmp} {ty : TypeId} (h : fn.results = #[.cell p ty]) (tmps : Array Value) (P : Program) (w : World) :
    (results fn tmps).run P w = ((asAddr (tmps.getD p undef)).run P w).andThen fun a w₁ => (loadVar ty a).run P w₁ := by
  simp only [results, h]
  simp [Sem.run_bind, Result.andThen]

theorem second (r s : Int) (w : World) : Calls Tryd.prog 27 #[.agg #[.int .i32 r, .int .i64 s]] w fun e w' => e = .returned (.agg #[.int .i32 0, .int .i64 s]) ∧ Below w.heap.size w w' := by
  go_enter Tryd.func27, Tryd.ntmps27
  go_wp2
  (try simp only [Exit.inBlock, Exit.then])
  refine bodyPost_ret (v := .agg #[.int .i32 0, .int .i64 s]) ?_ rfl ⟨rfl, ?_⟩
  · rw [results_cell1 rfl]
    go_simp
  · exact ((Below.refl _ _).alloc (Nat.le_refl _) _).alloc (by simp) _

theorem rowOf (R : Int) (i q D : Nat) (b off n cap : Nat) (w : World) (hq : (i : Int) * (D : Int) = (q : Int)) (hC : 1 ≤ D) (hqn : q + D ≤ n) (hn : n ≤ cap) (hsm : n ≤ 100000) (hi : i ≤ 100000) :
    Calls Tryd.prog 16 #[.agg #[.int .i64 R, .int .i64 D, .slice (some ⟨b, off, none⟩) n cap], .int .i64 i] w fun e w' => e = .returned (.slice (some ⟨b, off + q * 2, none⟩) D (cap - q)) ∧ Below w.heap.size w w' := by
  obtain ⟨q2, hq2⟩ : ∃ q2 : Nat, q + D = q2 := ⟨_, rfl⟩
  have hq1 : ((i : Int) + 1) * (D : Int) = (q2 : Int) := by rw [Int.add_mul, hq]; omega
  have hw0 : IntKind.i64.wrap (q : Int) = (q : Int) := IntWalk.i64_in _ (by omega)
  have hw1 : IntKind.i64.wrap (q2 : Int) = (q2 : Int) := IntWalk.i64_in _ (by omega)
  have hlt : ¬ cap = q := by omega
  have hle : (q : Int) ≤ (q2 : Int) := by omega
  have hle2 : (q2 : Int) ≤ (cap : Int) := by omega
  have hD : q2 - q = D := by omega
  go_enter Tryd.func16, Tryd.ntmps16
  go_wp2
  go_ret
  exact ⟨rfl, (Below.refl _ _).alloc (Nat.le_refl _) _⟩
end Go.Proofs.YtnbpkabnaipimaaDoor
