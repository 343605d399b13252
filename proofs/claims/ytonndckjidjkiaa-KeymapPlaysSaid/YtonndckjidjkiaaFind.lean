/- New, the command of a key, on both sides. Conditions: the bindings lie in memory, at most 100 of them. -/
import Derived.Test.YtonndckjidjkiaaAt
import Derived.Test.YtonndckjidjkiaaFirst
namespace Go.Proofs.Ytonndckjidjkiaa
open Go Go.RowKit

theorem row1 (w : World) (v : Value) : (w.alloc (Obj.cells #[v] 45)).rowIs w.heap.size 45 1 (mk1 v) :=
  World.rowIs_alloc w #[v] 45 _ (by intro i hi; match i, hi with | 0, _ => rfl)

set_option maxRecDepth 100000 in
theorem first_own {w : World} {g B : Nat} (hB : B ≤ g) (h : w.heap[g]? = some (.cells (flat first50).toArray 47 (0, 0))) : w.ownsRow B 47 4 (.slice (some ⟨g, 0, none⟩) 50 50) 50 (flat first50) :=
  ⟨by kernel_rfl, .inr ⟨g, 50, _, rfl, hB, h, Nat.le_refl _, by decide, by kernel_rfl, by kernel_rfl⟩⟩

theorem new (w : World) : Calls Try.prog 5 #[] w fun e w' => ∃ mb, w.heap.size ≤ mb ∧ e = .returned (.pointer (some ⟨mb, 0, none⟩)) ∧ MapAt w' w.heap.size mb first50 ∧ Below w.heap.size w w' := by
  have T := Lib.hid (table w)
  go_enter Try.func5, Try.ntmps5
  go_wp2_with fail
  (with_reducible refine T.out.mono ?_)
  rintro e w1 ⟨g, hg, rfl, hb, hh⟩
  have bb := (Below.refl w1.heap.size w1).alloc (Nat.le_refl _) (Obj.cells #[.slice (some ⟨g, 0, none⟩) 50 50] 45)
  have M := Lib.hid (show MapAt (w1.alloc (Obj.cells #[.slice (some ⟨g, 0, none⟩) 50 50] 45)) w.heap.size w1.heap.size first50 from
    ⟨⟨_, row1 w1 _, by rw [first_len]; exact own_below (first_own hg hh) bb⟩, by rw [first_len]; decide⟩)
  have B := Lib.hid (show Below w.heap.size w (w1.alloc (Obj.cells #[.slice (some ⟨g, 0, none⟩) 50 50] 45)) from hb.alloc hb.size _)
  have hs := hb.size
  clear hb hh bb
  go_wp2
  go_ret
  exact ⟨_, hs, rfl, M.out, B.out⟩

theorem find_hit (mb B : Nat) (x : Ky) (rs : List Bn) (k : Nat) (c : Int) (w : World) (h : MapAt w B mb rs) (hk : atZ x rs = k) (hc : (rs[k]?).map Bn.c = some c) :
    Calls Try.prog 6 #[.pointer (some ⟨mb, 0, none⟩), x.val] w fun e w' => e = .returned (.int .i64 c) ∧ Below w.heap.size w w' := by
  have M := Lib.hid h
  have I := fun w' (b : Below w.heap.size w w') => index mb B x rs w' (h.below b)
  rw [hk] at I
  have II := Lib.hid I
  clear I
  obtain ⟨a, cc, h1, _, hcap, _, hr⟩ := h.opened
  obtain ⟨y, hy, rfl⟩ := Option.map_eq_some_iff.1 hc
  have hkl := (List.getElem?_eq_some_iff.1 hy).1
  rcases hr.2 with h0 | ⟨b, off, rfl, ⟨cur, fr, hh⟩, hcc⟩
  · omega
  have hblt := lt_of_block hh
  obtain ⟨_, _, _, c3⟩ := bnCells hcc k y hy
  have hmlt := h.lt
  have m0 : w.cell? ⟨mb, 0, none⟩ = some (.slice (some ⟨b, off, none⟩) rs.length cc) := h1.cell (i := 0) (by omega)
  obtain ⟨n, hnn⟩ : ∃ n, n = rs.length := ⟨_, rfl⟩
  rw [← hnn] at m0 hkl
  have HN := Lib.hid hnn
  have hkz : (0 : Int) ≤ (k : Int) := by omega
  have hkn : (k : Int) < (n : Int) := by omega
  obtain ⟨xk, xr, xm⟩ := x
  obtain ⟨yk, yr, ym, yc⟩ := y
  unfold Ky.val at II ⊢
  simp only at II c3 ⊢
  have b0 := (Below.refl w.heap.size w).alloc (Nat.le_refl _) (Obj.cells #[.int .i64 xk, .int .i32 xr, .int .i64 xm] 23)
  have B0 := Lib.hid b0
  have I1 := Lib.hid (II.out _ b0)
  clear h h1 hr hcc hh hy hc hk hnn b0 hcap
  go_enter Try.func6, Try.ntmps6
  go_wp2_with fail
  (with_reducible refine I1.out.mono ?_)
  rintro e w1 ⟨rfl, hb⟩
  have B1 := Lib.hid (B0.out.trans (hb.mono B0.out.size))
  have m1 := (B1.out.cell (p := ⟨mb, 0, none⟩) (by exact hmlt)).trans m0
  have d3 := (B1.out.cell (p := ⟨b, off + k * 4 + 3, none⟩) (by exact hblt)).trans c3
  clear hb m0 c3
  go_wp2
  go_ret
  exact ⟨rfl, B1.out⟩

theorem find_miss (p : Option Addr) (x : Ky) (w : World) (hi : ∀ w', Below w.heap.size w w' → Calls Try.prog 16 #[.pointer p, x.val] w' fun e w'' => e = .returned (.int .i64 (-1)) ∧ Below w'.heap.size w' w'') :
    Calls Try.prog 6 #[.pointer p, x.val] w fun e w' => e = .returned (.int .i64 (if typedB x = true then 1 else 0)) ∧ Below w.heap.size w w' := by
  obtain ⟨xk, xr, xm⟩ := x
  have X0 := row3 w ⟨xk, xr, xm⟩
  have T := isTyped ⟨xk, xr, xm⟩
  unfold Ky.val at hi T ⊢
  simp only at hi T X0 ⊢
  have b0 := (Below.refl w.heap.size w).alloc (Nat.le_refl _) (Obj.cells #[.int .i64 xk, .int .i32 xr, .int .i64 xm] 23)
  have B0 := Lib.hid b0
  have I1 := Lib.hid (hi _ b0)
  have XX := Lib.hid X0
  cases ht : typedB ⟨xk, xr, xm⟩
  all_goals
    rw [ht] at T
    have TT := Lib.hid T
    clear hi b0 X0 T ht
    go_enter Try.func6, Try.ntmps6
    go_wp2_with fail
    (with_reducible refine I1.out.mono ?_)
    rintro e w1 ⟨rfl, hb⟩
    have x1 := XX.out.of_block (hb.block _ XX.out.lt)
    have x10 : w1.cell? ⟨w.heap.size, 0, none⟩ = some (.int .i64 xk) := x1.cell (i := 0) (by omega)
    have x11 : w1.cell? ⟨w.heap.size, 1, none⟩ = some (.int .i32 xr) := x1.cell (i := 1) (by omega)
    have x12 : w1.cell? ⟨w.heap.size, 2, none⟩ = some (.int .i64 xm) := x1.cell (i := 2) (by omega)
    have B1 := Lib.hid (B0.out.trans (hb.mono B0.out.size))
    clear hb x1
    go_wp2_with fail
    (with_reducible refine (TT.out _).mono ?_)
    rintro e w2 ⟨rfl, hb⟩
    have B2 := Lib.hid (B1.out.trans (hb.mono B1.out.size))
    clear hb
    go_wp2
    go_ret
    exact ⟨rfl, B2.out⟩

theorem findZ_hit {x : Ky} {rs : List Bn} {c : Int} (h : look x rs = some c) : findZ x rs = c := by
  unfold findZ
  rw [h]
theorem findZ_miss {x : Ky} {rs : List Bn} (h : look x rs = none) : findZ x rs = if typedB x = true then 1 else 0 := by
  unfold findZ
  rw [h]
/-- Where a key stands, there is its command. -/
theorem at_find {x : Ky} {rs : List Bn} : (atZ x rs = -1 ∧ findZ x rs = if typedB x = true then 1 else 0) ∨ ∃ k : Nat, atZ x rs = k ∧ k < rs.length ∧ ∃ y, rs[k]? = some y ∧ y.ky = x ∧ findZ x rs = y.c := by
  rcases atZ_cases x rs with ⟨h1, h2⟩ | ⟨p, b, q, rfl, h2, h3, h4, h5⟩
  · exact .inl ⟨h1, findZ_miss h2⟩
  · exact .inr ⟨p.length, h4, by simp, b, by simp, h2, findZ_hit h5⟩

theorem find (mb B : Nat) (x : Ky) (rs : List Bn) (w : World) (h : MapAt w B mb rs) : Calls Try.prog 6 #[.pointer (some ⟨mb, 0, none⟩), x.val] w fun e w' => e = .returned (.int .i64 (findZ x rs)) ∧ Below w.heap.size w w' := by
  rcases at_find (x := x) (rs := rs) with ⟨h1, h2⟩ | ⟨k, h1, _, y, h2, _, h3⟩
  · rw [h2]
    refine find_miss _ x w fun w' b => ?_
    have := index mb B x rs w' (h.below b)
    rwa [h1] at this
  · rw [h3]
    exact find_hit mb B x rs k y.c w h h1 (by rw [h2]; rfl)
theorem find_nil (x : Ky) (w : World) : Calls Try.prog 6 #[.pointer none, x.val] w fun e w' => e = .returned (.int .i64 (findZ x [])) ∧ Below w.heap.size w w' :=
  find_miss none x w fun w' _ => index_none x w'

theorem refFind_hit (la : Option Addr) (x : Ky) (rs : List Bn) (k lc : Nat) (y : Bn) (w : World) (h : LAt w la lc rs) (hn : rs.length ≤ 100) (hk : atZ x rs = k) (hy : rs[k]? = some y) :
    Calls Try.prog 7 #[.slice la rs.length lc, .int .i64 x.k, .int .i32 x.r, .int .i64 x.m] w fun e w' => e = .returned (.int .i64 y.c) ∧ Below w.heap.size w w' := by
  have I := refAt la lc x rs w hn h.row
  rw [hk] at I
  have II := Lib.hid I
  have hkl := (List.getElem?_eq_some_iff.1 hy).1
  rcases h.row.2 with h0 | ⟨b, off, rfl, ⟨cur, fr, hh⟩, hcc⟩
  · omega
  have hblt := lt_of_block hh
  obtain ⟨_, _, _, c3⟩ := bnCells hcc k y hy
  obtain ⟨n, hnn⟩ : ∃ n, n = rs.length := ⟨_, rfl⟩
  rw [← hnn] at hkl II
  rw [← hnn]
  have hkz : (0 : Int) ≤ (k : Int) := by omega
  have hkn : (k : Int) < (n : Int) := by omega
  obtain ⟨yk, yr, ym, yc⟩ := y
  simp only at c3 ⊢
  clear h hcc hh hy hk hnn I
  go_enter Try.func7, Try.ntmps7
  go_wp2_with fail
  (with_reducible refine II.out.mono ?_)
  rintro e w1 ⟨rfl, hb⟩
  have B1 := Lib.hid hb
  have d3 := (B1.out.cell (p := ⟨b, off + k * 4 + 3, none⟩) (by exact hblt)).trans c3
  clear hb c3
  go_wp2
  go_ret
  exact ⟨rfl, B1.out⟩
theorem refFind_miss (la : Option Addr) (x : Ky) (rs : List Bn) (lc : Nat) (w : World) (h : LAt w la lc rs) (hn : rs.length ≤ 100) (hk : atZ x rs = -1) :
    Calls Try.prog 7 #[.slice la rs.length lc, .int .i64 x.k, .int .i32 x.r, .int .i64 x.m] w fun e w' => e = .returned (.int .i64 (if typedB x = true then 1 else 0)) ∧ Below w.heap.size w w' := by
  have I := refAt la lc x rs w hn h.row
  rw [hk] at I
  have II := Lib.hid I
  clear h hk I hn
  generalize rs.length = n at *
  obtain ⟨xk, xr, xm⟩ := x
  simp only at II ⊢
  have RR := refRight xr
  obtain ⟨z, hz⟩ : ∃ z : Int, z = if typedB ⟨xk, xr, xm⟩ = true then 1 else 0 := ⟨_, rfl⟩
  rw [← hz]
  have Z := Lib.hid hz
  clear hz
  cases hv : Lib.validRune xr
  all_goals
    rw [hv] at RR
    have hv2 := Lib.hid hv
    have R2 := Lib.hid RR
    clear hv RR
    go_enter Try.func7, Try.ntmps7
    go_wp2_with fail
    (with_reducible refine II.out.mono ?_)
    rintro e w1 ⟨rfl, hb⟩
    have B1 := Lib.hid hb
    clear hb
    go_wp2_with (go_at_call 18; (with_reducible refine (R2.out _).mono ?_); rintro e w' ⟨rfl, rfl⟩)
    all_goals (go_ret; refine ⟨ret_int ?_, B1.out⟩; rw [Z.out]; simp [typedB, hv2.out]; try ((try simp only [bne_iff_ne, ne_eq, bne_eq_false_iff_eq] at *); omega))
theorem refFind (la : Option Addr) (x : Ky) (rs : List Bn) (lc : Nat) (w : World) (h : LAt w la lc rs) (hn : rs.length ≤ 100) :
    Calls Try.prog 7 #[.slice la rs.length lc, .int .i64 x.k, .int .i32 x.r, .int .i64 x.m] w fun e w' => e = .returned (.int .i64 (findZ x rs)) ∧ Below w.heap.size w w' := by
  rcases at_find (x := x) (rs := rs) with ⟨h1, h2⟩ | ⟨k, h1, _, y, h2, _, h3⟩
  · rw [h2]
    exact refFind_miss la x rs lc w h hn h1
  · rw [h3]
    exact refFind_hit la x rs k lc y w h hn h1 h2
end Go.Proofs.Ytonndckjidjkiaa
