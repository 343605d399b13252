/- The contracts of Drop. Conditions: the map lies in memory. -/
import Derived.Test.YtonndckjidjkiaaDelete
namespace Go.Proofs.Ytonndckjidjkiaa
open Go Go.RowKit

theorem drop_no (mb B : Nat) (x : Ky) (rs : List Bn) (w : World) (h : MapAt w B mb rs) (hB : B ≤ w.heap.size) (hx : atZ x rs = -1) :
    Calls Try.prog 14 #[.pointer (some ⟨mb, 0, none⟩), x.val] w (Changed w B mb rs (.int .i64 4)) := by
  have HM := Lib.hid h
  have X := fun w' (b : Below w.heap.size w w') => index mb B x rs w' (HM.out.below b)
  rw [hx] at X
  have XX := Lib.hid X
  obtain ⟨xk, xr, xm⟩ := x
  unfold Ky.val at XX ⊢
  simp only at XX ⊢
  have b0 : Below w.heap.size w (w.alloc (Obj.cells #[.int .i64 xk, .int .i32 xr, .int .i64 xm] 23)) := (Below.refl _ _).alloc (Nat.le_refl _) _
  have B0 := Lib.hid b0
  have X1 := Lib.hid (XX.out _ b0)
  clear h X b0 hx
  go_enter Try.func14, Try.ntmps14
  go_wp2_with fail
  (with_reducible refine X1.out.mono ?_)
  rintro e w1 ⟨rfl, hb⟩
  have B1 := Lib.hid (B0.out.trans (hb.mono B0.out.size))
  have FIN := Lib.hid (show Changed w B mb rs (.int .i64 4) (.returned (.int .i64 4)) w1 from ⟨rfl, HM.out.below B1.out, Kept.of B1.out, B1.out.mono hB⟩)
  clear hb
  go_wp2
  go_ret
  exact FIN.out

set_option maxHeartbeats 2000000 in
theorem drop_yes (mb B : Nat) (x : Ky) (rs : List Bn) (k : Nat) (w : World) (h : MapAt w B mb rs) (hB : B ≤ mb) (hx : atZ x rs = k) (hk : k < rs.length) :
    Calls Try.prog 14 #[.pointer (some ⟨mb, 0, none⟩), x.val] w (Changed w B mb (rs.eraseIdx k) (.int .i64 0)) := by
  have HM := Lib.hid h
  have X := fun w' (b : Below w.heap.size w w') => index mb B x rs w' (HM.out.below b)
  rw [hx] at X
  have XX := Lib.hid X
  obtain ⟨xk, xr, xm⟩ := x
  unfold Ky.val at XX ⊢
  simp only at XX ⊢
  have b0 : Below w.heap.size w (w.alloc (Obj.cells #[.int .i64 xk, .int .i32 xr, .int .i64 xm] 23)) := (Below.refl _ _).alloc (Nat.le_refl _) _
  have B0 := Lib.hid b0
  have X1 := Lib.hid (XX.out _ b0)
  have hmb := h.lt
  have h100 := h.len
  clear h X b0 hx
  go_enter Try.func14, Try.ntmps14
  go_wp2_with fail
  (with_reducible refine X1.out.mono ?_)
  rintro e w1 ⟨rfl, b⟩
  have B1 := Lib.hid (B0.out.trans (b.mono B0.out.size))
  have M1 := Lib.hid (HM.out.below B1.out)
  clear b
  obtain ⟨a, c, r1, o1, hc, _, _⟩ := M1.out.opened
  rcases o1.2 with ⟨_, h0⟩ | ⟨g, cap, cur, e, hBg, hg, _⟩
  · omega
  cases e
  have DL := Lib.hid (delete B g rs.length c k rs w1 o1 hk h100 hc)
  have m0 : w1.cell? ⟨mb, 0, none⟩ = some (.slice (some ⟨g, 0, none⟩) rs.length c) := r1.cell (i := 0) (by omega)
  obtain ⟨o2, g2⟩ := own_setCells (flat (rs.drop (k + 1))) w1.drew (flat rs) (k * 4) o1.drew
  obtain ⟨o3, g3⟩ := own_setCells zeros4 _ _ ((rs.length - 1) * 4) o2
  have o4 := own_shrink o3 (rs.length - 1) (by omega)
  rw [laidO_take _ _ _ _ (Nat.le_refl _), flat_drop, laidO_erase (K := 4) o1.1 hk, ← flat_erase] at o4
  rw [← flat_drop] at o4
  have hgb : Below B w1 ((w1.drew.setCells g (k * 4) (flat (rs.drop (k + 1)))).setCells g ((rs.length - 1) * 4) zeros4) := (((Below.refl B w1).drew).grown g2 (by have := B1.out.size; show B ≤ w1.heap.size; omega) (fun b hb => by cases hb; exact hBg)).grown g3 (by have := B1.out.size; have := g2.size; have h4 : w1.drew.heap.size = w1.heap.size := rfl; omega) (fun b hb => by cases hb; exact hBg)
  have hkk : Kept mb w1 ((w1.drew.setCells g (k * 4) (flat (rs.drop (k + 1)))).setCells g ((rs.length - 1) * 4) zeros4) :=
    ((Kept.of ((Below.refl _ w1).drew)).trans (Kept.grown o1.drew g2)).trans (Kept.grown o2 g3)
  have hne : some mb ≠ some g := fun e => own_ne o1 r1 (by decide) e.symm
  have r2 := (r1.of_block (w' := w1.drew) rfl).of_block (g2.block mb (by show mb < w1.heap.size; have := B1.out.size; omega) hne)
  have r3 := r2.of_block (g3.block mb r2.lt hne)
  have HW := Lib.hid hgb
  have HK := Lib.hid hkk
  have HO := Lib.hid o4
  clear o1 o2 o3 g2 g3 r1 r2 hgb hkk o4 hg
  go_wp2_with fail
  (with_reducible refine DL.out.mono ?_)
  rintro e w2 ⟨rfl, hw⟩
  rw [← hw] at r3 HW HK HO
  clear hw
  have z0 := r3.cell (i := 0) (by omega)
  have z1 := r3.frozen 0
  have FIN := Lib.hid (show Changed w B mb (rs.eraseIdx k) (.int .i64 0) (.returned (.int .i64 0)) (w2.setCell ⟨mb, 0, none⟩ (.slice (some ⟨g, 0, none⟩) (rs.length - 1) c)) from
    ⟨rfl, ⟨⟨_, (r3.set 0 _).congr fun i hi => by
        match i, hi with
        | 0, _ => rfl, by rw [eraseIdx_len rs k hk]; exact own_setMb (i := 0) HO.out r3 (by decide) _⟩, by rw [eraseIdx_len rs k hk]; omega⟩,
      ((Kept.of B1.out).trans HK.out).trans (Kept.setMb w2 0 _), ((B1.out.mono (by omega)).trans HW.out).setCell hB _⟩)
  clear r3
  go_wp2
  go_ret
  exact FIN.out
end Go.Proofs.Ytonndckjidjkiaa
