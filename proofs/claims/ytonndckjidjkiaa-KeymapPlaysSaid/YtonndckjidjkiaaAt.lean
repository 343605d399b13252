/- Where a key stands, on both sides. Conditions: the bindings lie in memory, at most 100 of them. -/
import Derived.Test.YtonndckjidjkiaaData
import Derived.KernelRfl
namespace Go.Proofs.Ytonndckjidjkiaa
open Go Go.RowKit

theorem index_none (x : Ky) (w : World) : Calls Try.prog 16 #[.pointer none, x.val] w fun e w' => e = .returned (.int .i64 (-1)) ∧ Below w.heap.size w w' := by
  obtain ⟨k, r, m⟩ := x
  unfold Ky.val
  simp only
  go_enter Try.func16, Try.ntmps16
  go_wp2
  go_ret
  exact ⟨rfl, (Below.refl _ _).alloc (Nat.le_refl _) _⟩

set_option maxHeartbeats 1000000 in
theorem index_cells (mb g off n c : Nat) (x : Ky) (rs : List Bn) (w : World) (hn : n ≤ 100) (hlen : rs.length = n) (hlt : g < w.heap.size) (hc : ∀ j u, (flat rs)[j]? = some u → w.cell? ⟨g, off + j, none⟩ = some u)
    (hm : w.cell? ⟨mb, 0, none⟩ = some (.slice (some ⟨g, off, none⟩) n c)) :
    Calls Try.prog 16 #[.pointer (some ⟨mb, 0, none⟩), x.val] w fun e w' => e = .returned (.int .i64 (atZ x rs)) ∧ Below w.heap.size w w' := by
  have hbw : mb < w.heap.size := block_lt_of_cell hm
  have hne : mb ≠ w.heap.size := by omega
  have HC := Lib.hid hc
  have HN := Lib.hid hlen
  clear hc hlen
  obtain ⟨xk, xr, xm⟩ := x
  unfold Ky.val
  simp only
  have X0 := Lib.hid (row3 w ⟨xk, xr, xm⟩)
  go_enter Try.func16, Try.ntmps16
  go_wp2
  go_loopw [14] (fun i wr => ∃ k : Nat, k ≤ n ∧ i = .int .i64 k ∧ (∀ (j : Nat) (z : Bn), j < k → rs[j]? = some z → z.ky ≠ ⟨xk, xr, xm⟩) ∧ Below w.heap.size w wr ∧ wr.rowIs w.heap.size 23 3 (nd3 ⟨xk, xr, xm⟩)) (fun i _ => n - (intOf i).toNat)
  case atStart => exact ⟨0, Nat.zero_le _, rfl, fun j z hj => absurd hj (Nat.not_lt_zero _), (Below.refl _ _).alloc (Nat.le_refl _) _, X0.out⟩
  case round =>
    obtain ⟨k, hk, rfl, hall, hbel, hrow⟩ := hrel
    have HA := Lib.hid hall
    have B := Lib.hid hbel
    have HR := Lib.hid hrow
    clear hall
    by_cases hltk : k < n
    · obtain ⟨y, hy⟩ : ∃ y, rs[k]? = some y := ⟨rs[k]'(by have := HN.out; omega), by simp⟩
      obtain ⟨c0, c1, c2, c3⟩ := bnCells HC.out k y hy
      have e0 := (hbel.cell (by exact hlt)).trans c0
      have e1 := (hbel.cell (by exact hlt)).trans c1
      have e2 := (hbel.cell (by exact hlt)).trans c2
      have e3 := (hbel.cell (by exact hlt)).trans c3
      have x0 : wr.cell? ⟨w.heap.size, 0, none⟩ = some (.int .i64 xk) := hrow.cell (i := 0) (by omega)
      have x1 : wr.cell? ⟨w.heap.size, 1, none⟩ = some (.int .i32 xr) := hrow.cell (i := 1) (by omega)
      have x2 : wr.cell? ⟨w.heap.size, 2, none⟩ = some (.int .i64 xm) := hrow.cell (i := 2) (by omega)
      have hxlt : w.heap.size < wr.heap.size := hrow.lt
      have hxne : w.heap.size ≠ wr.heap.size := by omega
      have Y := Lib.hid hy
      have hltz : (k : Int) < (n : Int) := by omega
      have hk0 : (0 : Int) ≤ (k : Int) := by omega
      obtain ⟨yk, yr, ym, yc⟩ := y
      simp only at e0 e1 e2 e3
      clear c0 c1 c2 c3 hy hbel hrow
      go_wp2
      all_goals first
        | (go_ret
           exact ⟨ret_int (atZ_hit Y.out (by simp only [Bn.ky, Ky.mk.injEq]; omega) HA.out).symm, (B.out.alloc (by omega) _)⟩)
        | (go_roundw
           case rel =>
             refine ⟨k + 1, by omega, by go_num, fun j z hj hz => ?_, B.out.alloc (by omega) _, HR.out.alloc _⟩
             by_cases e : j = k
             · subst e
               rw [Y.out] at hz
               cases hz
               simp only [Bn.ky, ne_eq, Ky.mk.injEq]
               omega
             · exact HA.out j z (by omega) hz
           case measure => simp [intOf]; omega)
    · have E := Lib.hid (show atZ ⟨xk, xr, xm⟩ rs = -1 from atZ_miss fun j z hz => HA.out j z (by have := (List.getElem?_eq_some_iff.1 hz).1; have := HN.out; omega) hz)
      have hkn : ¬ (k : Int) < (n : Int) := by omega
      clear hbel hrow
      go_wp2
      go_ret
      exact ⟨ret_int E.out.symm, B.out⟩

set_option maxHeartbeats 1000000 in
theorem refAt_cells (g off n c : Nat) (x : Ky) (rs : List Bn) (w : World) (hn : n ≤ 100) (hlen : rs.length = n) (hlt : g < w.heap.size) (hc : ∀ j u, (flat rs)[j]? = some u → w.cell? ⟨g, off + j, none⟩ = some u) :
    Calls Try.prog 12 #[.slice (some ⟨g, off, none⟩) n c, .int .i64 x.k, .int .i32 x.r, .int .i64 x.m] w fun e w' => e = .returned (.int .i64 (atZ x rs)) ∧ Below w.heap.size w w' := by
  have HC := Lib.hid hc
  have HN := Lib.hid hlen
  clear hc hlen
  obtain ⟨xk, xr, xm⟩ := x
  simp only
  go_enter Try.func12, Try.ntmps12
  go_wp2
  go_loopw [9] (fun i wr => ∃ k : Nat, k ≤ n ∧ i = .int .i64 k ∧ (∀ (j : Nat) (z : Bn), j < k → rs[j]? = some z → z.ky ≠ ⟨xk, xr, xm⟩) ∧ Below w.heap.size w wr) (fun i _ => n - (intOf i).toNat)
  case atStart => exact ⟨0, Nat.zero_le _, rfl, fun j z hj => absurd hj (Nat.not_lt_zero _), Below.refl _ _⟩
  case round =>
    obtain ⟨k, hk, rfl, hall, hbel⟩ := hrel
    have HA := Lib.hid hall
    have B := Lib.hid hbel
    clear hall
    by_cases hltk : k < n
    · obtain ⟨y, hy⟩ : ∃ y, rs[k]? = some y := ⟨rs[k]'(by have := HN.out; omega), by simp⟩
      obtain ⟨c0, c1, c2, c3⟩ := bnCells HC.out k y hy
      have e0 := (hbel.cell (by exact hlt)).trans c0
      have e1 := (hbel.cell (by exact hlt)).trans c1
      have e2 := (hbel.cell (by exact hlt)).trans c2
      have Y := Lib.hid hy
      have hltz : (k : Int) < (n : Int) := by omega
      have hk0 : (0 : Int) ≤ (k : Int) := by omega
      obtain ⟨yk, yr, ym, yc⟩ := y
      simp only at e0 e1 e2
      clear c0 c1 c2 c3 hy hbel
      go_wp2
      all_goals (try simp only [beq_iff_eq, beq_eq_false_iff_ne, ne_eq] at *)
      all_goals first
        | (go_ret
           exact ⟨ret_int (atZ_hit Y.out (by simp only [Bn.ky, Ky.mk.injEq]; omega) HA.out).symm, B.out⟩)
        | (go_roundw
           case rel =>
             refine ⟨k + 1, by omega, by go_num, fun j z hj hz => ?_, B.out⟩
             by_cases e : j = k
             · subst e
               rw [Y.out] at hz
               cases hz
               simp only [Bn.ky, Ky.mk.injEq]
               omega
             · exact HA.out j z (by omega) hz
           case measure => simp [intOf]; omega)
    · have E := Lib.hid (show atZ ⟨xk, xr, xm⟩ rs = -1 from atZ_miss fun j z hz => HA.out j z (by have := (List.getElem?_eq_some_iff.1 hz).1; have := HN.out; omega) hz)
      have hkn : ¬ (k : Int) < (n : Int) := by omega
      clear hbel
      go_wp2
      go_ret
      exact ⟨ret_int E.out.symm, B.out⟩

theorem refAt_none (a : Option Addr) (c : Nat) (x : Ky) (w : World) : Calls Try.prog 12 #[.slice a 0 c, .int .i64 x.k, .int .i32 x.r, .int .i64 x.m] w fun e w' => e = .returned (.int .i64 (-1)) ∧ Below w.heap.size w w' := by
  go_enter Try.func12, Try.ntmps12
  go_wp2
  go_loopw [9] (fun i wr => i = .int .i64 0 ∧ wr = w) (fun _ _ => 0)
  case atStart => exact ⟨rfl, rfl⟩
  case round =>
    obtain ⟨rfl, rfl⟩ := hrel
    go_wp2
    go_ret
    exact ⟨rfl, Below.refl _ _⟩
theorem index_empty (mb c : Nat) (a : Option Addr) (x : Ky) (w : World) (hm : w.cell? ⟨mb, 0, none⟩ = some (.slice a 0 c)) : Calls Try.prog 16 #[.pointer (some ⟨mb, 0, none⟩), x.val] w fun e w' => e = .returned (.int .i64 (-1)) ∧ Below w.heap.size w w' := by
  have hbw : mb < w.heap.size := block_lt_of_cell hm
  have hne : mb ≠ w.heap.size := by omega
  obtain ⟨k, r, m⟩ := x
  unfold Ky.val
  simp only
  go_enter Try.func16, Try.ntmps16
  go_wp2
  go_loopw [14] (fun i wr => i = .int .i64 0 ∧ Below w.heap.size w wr) (fun _ _ => 0)
  case atStart => exact ⟨rfl, (Below.refl _ _).alloc (Nat.le_refl _) _⟩
  case round =>
    obtain ⟨rfl, hb⟩ := hrel
    have B := Lib.hid hb
    clear hb
    go_wp2
    go_ret
    exact ⟨rfl, B.out⟩

/-- Where a key stands in a map. -/
theorem index (mb B : Nat) (x : Ky) (rs : List Bn) (w : World) (h : MapAt w B mb rs) : Calls Try.prog 16 #[.pointer (some ⟨mb, 0, none⟩), x.val] w fun e w' => e = .returned (.int .i64 (atZ x rs)) ∧ Below w.heap.size w w' := by
  obtain ⟨a, c, h1, _, _, _, hr⟩ := h.opened
  have m0 : w.cell? ⟨mb, 0, none⟩ = some (.slice a rs.length c) := h1.cell (i := 0) (by omega)
  rcases hr.2 with h0 | ⟨b, off, rfl, ⟨cur, fr, hh⟩, hc⟩
  · have e : rs = [] := List.eq_nil_of_length_eq_zero h0
    subst e
    exact index_empty mb c a x w m0
  · exact index_cells mb b off rs.length c x rs w h.len rfl (lt_of_block hh) hc m0
/-- Where a key stands in the law's list. -/
theorem refAt (la : Option Addr) (c : Nat) (x : Ky) (rs : List Bn) (w : World) (hn : rs.length ≤ 100) (h : RowAt 39 w la rs.length rs) : Calls Try.prog 12 #[.slice la rs.length c, .int .i64 x.k, .int .i32 x.r, .int .i64 x.m] w fun e w' => e = .returned (.int .i64 (atZ x rs)) ∧ Below w.heap.size w w' := by
  rcases h.2 with h0 | ⟨b, off, rfl, ⟨cur, fr, hh⟩, hc⟩
  · have e : rs = [] := List.eq_nil_of_length_eq_zero h0
    subst e
    exact refAt_none la c x w
  · exact refAt_cells b off rs.length c x rs w hn rfl (lt_of_block hh) hc
end Go.Proofs.Ytonndckjidjkiaa
