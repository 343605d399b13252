/- The contracts of Bind. Conditions: the map lies in memory. -/
import Derived.Test.YtonndckjidjkiaaFind
namespace Go.Proofs.Ytonndckjidjkiaa
open Go Go.RowKit

theorem bind_nil (x : Ky) (c : Int) (w : World) : Calls Try.prog 13 #[.pointer none, x.val, .int .i64 c] w fun e w' => e = .returned (.int .i64 1) ∧ Below w.heap.size w w' := by
  obtain ⟨k, r, m⟩ := x
  unfold Ky.val
  simp only
  go_enter Try.func13, Try.ntmps13
  go_wp2
  go_ret
  exact ⟨rfl, (Below.refl _ _).alloc (Nat.le_refl _) _⟩

theorem bind_bad (mb B : Nat) (x : Ky) (c : Int) (rs : List Bn) (w : World) (h : MapAt w B mb rs) (hB : B ≤ w.heap.size) (hc : -9223372036854775808 ≤ c ∧ c ≤ 9223372036854775807) (hb : cmdB c = false) :
    Calls Try.prog 13 #[.pointer (some ⟨mb, 0, none⟩), x.val, .int .i64 c] w (Changed w B mb rs (.int .i64 1)) := by
  have I := is c hc
  rw [hb] at I
  have II := Lib.hid I
  have HM := Lib.hid h
  obtain ⟨k, r, m⟩ := x
  unfold Ky.val
  simp only
  clear I hb h
  go_enter Try.func13, Try.ntmps13
  go_wp2_with (go_at_call 9; (with_reducible refine (II.out _).mono ?_); rintro e w' ⟨rfl, rfl⟩)
  go_ret
  have b : Below w.heap.size w (w.alloc (Obj.cells #[.int .i64 k, .int .i32 r, .int .i64 m] 23)) := (Below.refl _ _).alloc (Nat.le_refl _) _
  exact ⟨rfl, HM.out.below b, Kept.of b, b.mono hB⟩

theorem bind_full (mb B : Nat) (x : Ky) (c : Int) (rs : List Bn) (w : World) (h : MapAt w B mb rs) (hB : B ≤ w.heap.size) (hc : -9223372036854775808 ≤ c ∧ c ≤ 9223372036854775807) (hb : cmdB c = true) (hx : atZ x rs = -1) (hn : 100 ≤ rs.length) :
    Calls Try.prog 13 #[.pointer (some ⟨mb, 0, none⟩), x.val, .int .i64 c] w (Changed w B mb rs (.int .i64 3)) := by
  have I := is c hc
  rw [hb] at I
  have II := Lib.hid I
  have HM := Lib.hid h
  have X := fun w' (b : Below w.heap.size w w') => index mb B x rs w' (HM.out.below b)
  rw [hx] at X
  have XX := Lib.hid X
  obtain ⟨a, cc, h1, _⟩ := h.opened
  have m0 : w.cell? ⟨mb, 0, none⟩ = some (.slice a rs.length cc) := h1.cell (i := 0) (by omega)
  have hmlt := h.lt
  have hnz : (100 : Int) ≤ (rs.length : Int) := by omega
  obtain ⟨k, r, m⟩ := x
  unfold Ky.val at XX ⊢
  simp only at XX ⊢
  have b0 : Below w.heap.size w (w.alloc (Obj.cells #[.int .i64 k, .int .i32 r, .int .i64 m] 23)) := (Below.refl _ _).alloc (Nat.le_refl _) _
  have B0 := Lib.hid b0
  have X1 := Lib.hid (XX.out _ b0)
  generalize rs.length = n at *
  clear I hb h X h1 b0 hx hn
  go_enter Try.func13, Try.ntmps13
  go_wp2_with (go_at_call 9; (with_reducible refine (II.out _).mono ?_); rintro e w' ⟨rfl, rfl⟩)
  (with_reducible refine X1.out.mono ?_)
  rintro e w1 ⟨rfl, hb⟩
  have B1 := Lib.hid (B0.out.trans (hb.mono B0.out.size))
  have m1 := (B1.out.cell (p := ⟨mb, 0, none⟩) (by exact hmlt)).trans m0
  clear hb m0
  go_wp2
  go_ret
  exact ⟨rfl, HM.out.below B1.out, Kept.of B1.out, B1.out.mono hB⟩

set_option maxHeartbeats 1000000 in
theorem bind_hit (mb B : Nat) (x : Ky) (c : Int) (rs : List Bn) (k : Nat) (w : World) (h : MapAt w B mb rs) (hB : B ≤ mb) (hc : -9223372036854775808 ≤ c ∧ c ≤ 9223372036854775807) (hb : cmdB c = true) (hx : atZ x rs = k) (hk : ∃ y, rs[k]? = some y ∧ y.ky = x) :
    Calls Try.prog 13 #[.pointer (some ⟨mb, 0, none⟩), x.val, .int .i64 c] w (Changed w B mb (rs.set k (x.with c)) (.int .i64 0)) := by
  obtain ⟨y, hy, rfl⟩ := hk
  have I := is c hc
  rw [hb] at I
  have II := Lib.hid I
  have HM := Lib.hid h
  have X := fun w' (b : Below w.heap.size w w') => index mb B y.ky rs w' (HM.out.below b)
  rw [hx] at X
  have XX := Lib.hid X
  have hkl := (List.getElem?_eq_some_iff.1 hy).1
  have hmlt := h.lt
  have FS := Lib.hid (flat_set rs k y c hy)
  obtain ⟨yk, yr, ym, yc⟩ := y
  unfold Ky.val Bn.ky at XX ⊢
  unfold Bn.ky at FS
  simp only at XX FS ⊢
  have b0 : Below w.heap.size w (w.alloc (Obj.cells #[.int .i64 yk, .int .i32 yr, .int .i64 ym] 23)) := (Below.refl _ _).alloc (Nat.le_refl _) _
  have B0 := Lib.hid b0
  have X1 := Lib.hid (XX.out _ b0)
  have YY := Lib.hid hy
  have hkz : (0 : Int) ≤ (k : Int) := by omega
  have hkn : (k : Int) < (rs.length : Int) := by omega
  clear I hb h X b0 hx hy
  go_enter Try.func13, Try.ntmps13
  go_wp2_with (go_at_call 9; (with_reducible refine (II.out _).mono ?_); rintro e w' ⟨rfl, rfl⟩)
  (with_reducible refine X1.out.mono ?_)
  rintro e w1 ⟨rfl, hb⟩
  have B1 := Lib.hid (B0.out.trans (hb.mono B0.out.size))
  clear hb
  obtain ⟨a, cc, r1, o1, hcc, _, hr⟩ := (HM.out.below B1.out).opened
  have hlen := HM.out.len
  rcases o1.2 with ⟨_, h0⟩ | ⟨g, cap, cur, e, hBg, hg, _⟩
  · omega
  cases e
  have m0 : w1.cell? ⟨mb, 0, none⟩ = some (.slice (some ⟨g, 0, none⟩) rs.length cc) := r1.cell (i := 0) (by omega)
  have z0 : w1.cell? ⟨g, k * 4 + 3, none⟩ = (flat rs)[k * 4 + 3]? := o1.cellAt _ (by omega)
  rw [flat_get rs k 3 _ YY.out (by omega)] at z0
  simp only [Bn.cells, List.getElem?_cons_succ, List.getElem?_cons_zero] at z0
  have z1 := o1.frozenAt (k * 4 + 3)
  obtain ⟨o2, g2⟩ := o1.stored (k * 4 + 3) (.int .i64 c)
  rw [← FS.out] at o2
  have hne : some mb ≠ some g := fun e => own_ne o1 r1 (by decide) e.symm
  have hs1 := B1.out.size
  have FM := Lib.hid (show MapAt (w1.setCell ⟨g, k * 4 + 3, none⟩ (.int .i64 c)) B mb (rs.set k (Ky.with ⟨yk, yr, ym⟩ c)) from
    ⟨⟨_, r1.of_block (g2.block mb r1.lt hne), by rw [List.length_set]; exact o2⟩, by rw [List.length_set]; exact hlen⟩)
  have FB := Lib.hid (show Below B w (w1.setCell ⟨g, k * 4 + 3, none⟩ (.int .i64 c)) from (B1.out.mono (by omega)).setCell (by exact hBg) _)
  have FK := Lib.hid (show Kept mb w (w1.setCell ⟨g, k * 4 + 3, none⟩ (.int .i64 c)) from (Kept.of B1.out).trans (Kept.grown o1 g2))
  clear o1 o2 g2 r1 hr hg
  go_wp2
  go_ret
  exact ⟨rfl, FM.out, FK.out, FB.out⟩

theorem map_step {W w2 : World} {B mb n : Nat} {v : Value} {xs : List Value} {f : Nat → Value} (o : Obj) (hO : W.ownsRow B 47 4 v n xs) (hR : W.rowIs mb 45 1 f) (hB : B ≤ mb) (gr : (W.drew.alloc o).grownBy w2 v.ownBlock) :
    w2.rowIs mb 45 1 f ∧ Kept mb W w2 ∧ Below B W w2 := by
  have hb : Below W.heap.size W (W.drew.alloc o) := ((Below.refl _ _).drew).alloc (Nat.le_refl _) _
  have hO' := own_below hO hb
  have hR' := hR.of_block (hb.block mb hR.lt)
  have hle : B ≤ W.heap.size := Nat.le_of_lt (Nat.lt_of_le_of_lt hB hR.lt)
  refine ⟨hR'.of_block (gr.block mb hR'.lt (fun e => own_ne hO' hR' (by decide) e.symm)), (Kept.of hb).trans (Kept.grown hO' gr), (hb.mono hle).grown gr (by simp; omega) (fun k hk => (hO'.lt k hk).1)⟩

theorem map_more {w : World} {B mb n : Nat} {rs : List Bn} {x : Bn} {v v2 : Value} (hR : w.rowIs mb 45 1 (mk1 v)) (hO : w.ownsRow B 47 4 v2 (n + 1) (flat rs ++ x.cells)) (hn : n = rs.length) (h100 : n < 100) :
    MapAt (w.setCell ⟨mb, 0, none⟩ v2) B mb (rs ++ [x]) := by
  refine ⟨⟨v2, (hR.set 0 v2).congr fun i hi => ?_, ?_⟩, by simp; omega⟩
  · match i, hi with
    | 0, _ => rfl
  · have := own_setMb (i := 0) hO hR (by decide) v2
    rw [flat_append, flat_one, List.length_append, List.length_singleton, ← hn]
    exact this

set_option maxHeartbeats 2000000 in
theorem bind_more (mb B : Nat) (x : Ky) (c : Int) (rs : List Bn) (w : World) (h : MapAt w B mb rs) (hB : B ≤ mb) (hc : -9223372036854775808 ≤ c ∧ c ≤ 9223372036854775807) (hb : cmdB c = true) (hx : atZ x rs = -1) (hn : rs.length < 100) :
    Calls Try.prog 13 #[.pointer (some ⟨mb, 0, none⟩), x.val, .int .i64 c] w (Changed w B mb (rs ++ [x.with c]) (.int .i64 0)) := by
  obtain ⟨i0, hi, hz0, hz1, hz2⟩ := info_parts Try.info47
  have I := is c hc
  rw [hb] at I
  have II := Lib.hid I
  have HM := Lib.hid h
  have X := fun w' (b : Below w.heap.size w w') => index mb B x rs w' (HM.out.below b)
  rw [hx] at X
  have XX := Lib.hid X
  have hmlt := h.lt
  have X0 := row3 w x
  obtain ⟨xk, xr, xm⟩ := x
  unfold Ky.val at XX ⊢
  simp only at XX X0 ⊢
  have b0 : Below w.heap.size w (w.alloc (Obj.cells #[.int .i64 xk, .int .i32 xr, .int .i64 xm] 23)) := (Below.refl _ _).alloc (Nat.le_refl _) _
  have B0 := Lib.hid b0
  have X1 := Lib.hid (XX.out _ b0)
  have XR := Lib.hid X0
  have hnz : ¬ (100 : Int) ≤ (rs.length : Int) := by omega
  obtain ⟨n, hnn⟩ : ∃ n, n = rs.length := ⟨_, rfl⟩
  have HN := Lib.hid hnn
  rw [← hnn] at hnz hn
  clear I hb h X b0 hx X0 hnn
  go_enter Try.func13, Try.ntmps13
  go_wp2_with (go_at_call 9; (with_reducible refine (II.out _).mono ?_); rintro e w' ⟨rfl, rfl⟩)
  (with_reducible refine X1.out.mono ?_)
  rintro e w1 ⟨rfl, hb⟩
  have B1 := Lib.hid (B0.out.trans (hb.mono B0.out.size))
  have XW := Lib.hid (XR.out.of_block (hb.block _ XR.out.lt))
  clear hb
  obtain ⟨a, cc, r1, o1, hcc, _, hr⟩ := (HM.out.below B1.out).opened
  rw [← HN.out] at r1 o1
  have R1 := Lib.hid r1
  have O1 := Lib.hid o1
  have q0 : w1.cell? ⟨mb, 0, none⟩ = some (.slice a n cc) := r1.cell (i := 0) (by omega)
  have x0 : w1.cell? ⟨w.heap.size, 0, none⟩ = some (.int .i64 xk) := XW.out.cell (i := 0) (by omega)
  have x1 : w1.cell? ⟨w.heap.size, 1, none⟩ = some (.int .i32 xr) := XW.out.cell (i := 1) (by omega)
  have x2 : w1.cell? ⟨w.heap.size, 2, none⟩ = some (.int .i64 xm) := XW.out.cell (i := 2) (by omega)
  have hWlt : mb < w1.heap.size := r1.lt
  have hXlt : w.heap.size < w1.heap.size := XW.out.lt
  have hne1 : mb ≠ w1.heap.size := by omega
  have hne2 : w.heap.size ≠ w1.heap.size := by omega
  clear r1 o1 hr hcc
  go_wp2_with fail
  go_region_law (first
    | (refine step_append_own rfl (.tmp 38) (.tmp 42) 42 rfl B 47 i0 _ 4 32 Try.underlying42 hi hz0 hz1 hz2 rfl (by decide) (.slice a n cc) n (flat rs) (by simp [Act.eval]) (O1.out.drew.alloc _) ⟨w1.heap.size, 0, none⟩ 1 1 (Bn.cells ⟨xk, xr, xm, c⟩) (by simp [Act.eval]) rfl (new4 w1.drew ⟨xk, xr, xm, c⟩ 47) (cells_one1 _) (by unfold maxLen; omega) (by omega) (by simp; omega) ?_; intro v2 w2 own2 gr2; obtain ⟨a2, c2, rfl⟩ := own_form2 own2; obtain ⟨R2, K2, B2⟩ := map_step _ O1.out R1.out hB gr2; have O2 := Lib.hid own2; have z0 := R2.cell (i := 0) (by omega); have z1 := R2.frozen 0; have RR2 := Lib.hid R2; have KK2 := Lib.hid K2; have BB2 := Lib.hid B2; clear own2 gr2 R2 K2 B2))
  all_goals
    have FIN := Lib.hid (show MapAt (w2.setCell ⟨mb, 0, none⟩ (.slice a2 (n + 1) c2)) B mb (rs ++ [Ky.with ⟨xk, xr, xm⟩ c]) from map_more RR2.out O2.out HN.out hn)
    have FK := Lib.hid (show Kept mb w (w2.setCell ⟨mb, 0, none⟩ (.slice a2 (n + 1) c2)) from (Kept.of B1.out).trans (KK2.out.trans (Kept.setMb w2 0 _)))
    have FB := Lib.hid (show Below B w (w2.setCell ⟨mb, 0, none⟩ (.slice a2 (n + 1) c2)) from ((B1.out.mono (by omega)).trans BB2.out).setCell hB _)
    go_wp2
    go_ret
    exact ⟨rfl, FIN.out, FK.out, FB.out⟩
end Go.Proofs.Ytonndckjidjkiaa
