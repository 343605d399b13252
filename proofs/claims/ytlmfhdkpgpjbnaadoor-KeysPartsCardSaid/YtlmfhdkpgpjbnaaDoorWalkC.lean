/- The contracts of character, escaped and first: the key that bytes begin with. Conditions: the bytes lie in memory; three variables of the library's hold something. -/
import Derived.Test.YtlmfhdkpgpjbnaaDoorWalkQ
namespace Go.Proofs.YtlmfhdkpgpjbnaaDoor
open Go Go.RowKit Go.Lib
/-- A result's cell behind calls. -/
theorem keyCell {w w1 : World} (hb : Below (w.alloc (Obj.cells #[.int .i64 0, .int .i32 0, .int .i64 0] 30)).heap.size (w.alloc (Obj.cells #[.int .i64 0, .int .i32 0, .int .i64 0] 30)) w1) :
    w1.cell? ⟨w.heap.size, 0, none⟩ = some (.int .i64 0) ∧ w1.cell? ⟨w.heap.size, 1, none⟩ = some (.int .i32 0) ∧ w1.cell? ⟨w.heap.size, 2, none⟩ = some (.int .i64 0) ∧
      w1.frozen? ⟨w.heap.size, 0, none⟩ = false ∧ w1.frozen? ⟨w.heap.size, 1, none⟩ = false ∧ w1.frozen? ⟨w.heap.size, 2, none⟩ = false ∧ Below w.heap.size w w1 ∧ w.heap.size < w1.heap.size :=
  ⟨(hb.cell (by simp)).trans (by go_simp), (hb.cell (by simp)).trans (by go_simp), (hb.cell (by simp)).trans (by go_simp), (hb.frozen (by simp)).trans (by go_simp), (hb.frozen (by simp)).trans (by go_simp), (hb.frozen (by simp)).trans (by go_simp),
    ((Below.refl w.heap.size w).alloc (Nat.le_refl _) _).trans (hb.mono (by simp)), by have := hb.size; simp at this; omega⟩

set_option maxHeartbeats 4000000 in
set_option maxRecDepth 100000 in
theorem charAt (l : List UInt8) (b off cap : Nat) (w : World) (h1 : 1 ≤ l.length) (hl : l.length ≤ 1000) (hw : Wd w) (hb : b < w.heap.size)
    (hc : ∀ j, j < l.length → w.cell? ⟨b, off + j, none⟩ = some (.int .u8 (bAt l j))) :
    Calls Tryd.prog 13 #[.slice (some ⟨b, off, none⟩) l.length cap] w fun e w' => e = .returned (.tuple #[(if bAt l 0 < 32 then (⟨1, bAt l 0 + 96, 4⟩ : Ky) else ⟨1, (firstU l).1, 0⟩).val, .int .i64 (if bAt l 0 < 32 then 1 else (firstU l).2 : Nat)]) ∧ Below w.heap.size w w' := by
  have B0 := Lib.hid (show Below w.heap.size w (w.alloc (Obj.cells #[.int .i64 0, .int .i32 0, .int .i64 0] 30)) from (Below.refl _ _).alloc (Nat.le_refl _) _)
  have c0 := (B0.out.cell (p := ⟨b, off + 0, none⟩) hb).trans (hc 0 (by omega))
  rw [Nat.add_zero] at c0
  have j1 : (0 : Int) < (l.length : Int) := by omega
  by_cases h : bAt l 0 < 32
  · have j2 : ((bAt l 0 : Nat) : Int) < 32 := by omega
    rw [if_pos h, if_pos h]
    clear hc h
    go_enter Tryd.func13, Tryd.ntmps13
    go_wp2
    (try simp only [Exit.inBlock, Exit.then])
    refine bodyPost_ret (v := .tuple #[.agg #[.int .i64 1, .int .i32 ((bAt l 0 : Int) + 96), .int .i64 4], .int .i64 1]) ?_ rfl ⟨rfl, (Below.refl _ _).alloc (Nat.le_refl _) _⟩
    rw [results_cell_tmp rfl]
    go_simp
  · have j2 : ¬ ((bAt l 0 : Nat) : Int) < 32 := by omega
    rw [if_neg h, if_neg h]
    have FU := Lib.hid (firstAt l (some ⟨b, off, none⟩) cap (w.alloc (Obj.cells #[.int .i64 0, .int .i32 0, .int .i64 0] 30)) (by omega) (hw.below B0.out).tabs (.inr ⟨b, off, rfl, by simp; omega, fun j hj => (B0.out.cell (p := ⟨b, off + j, none⟩) hb).trans (hc j hj)⟩))
    generalize (firstU l).1 = r at *
    generalize (firstU l).2 = n at *
    clear hc h
    go_enter Tryd.func13, Tryd.ntmps13
    go_wp2_with fail
    (with_reducible refine FU.out.mono ?_)
    rintro e w1 ⟨rfl, hb1⟩
    obtain ⟨r0, r1, r2, f0, f1, f2, hbw, _⟩ := keyCell hb1
    have B1 := Lib.hid hbw
    clear hb1 hbw
    go_wp2
    (try simp only [Exit.inBlock, Exit.then])
    refine bodyPost_ret (v := .tuple #[.agg #[.int .i64 1, .int .i32 r, .int .i64 0], .int .i64 n]) ?_ rfl ⟨rfl, ?_⟩
    · rw [results_cell_tmp rfl]
      go_simp
    · repeat (first | exact B1.out | refine Below.setCell ?_ (by exact Nat.le_refl _) _)

set_option maxHeartbeats 4000000 in
set_option maxRecDepth 100000 in
theorem plainAt (l : List UInt8) (b off cap : Nat) (w : World) (h1 : 1 ≤ l.length) (hl : l.length ≤ 1000) (h27 : bAt l 0 ≠ 27) (hw : Wd w) (hb : b < w.heap.size)
    (hc : ∀ j, j < l.length → w.cell? ⟨b, off + j, none⟩ = some (.int .u8 (bAt l j))) :
    Calls Tryd.prog 9 #[.slice (some ⟨b, off, none⟩) l.length cap] w fun e w' => e = .returned (.tuple #[(plainP l).1.val, .int .i64 (plainP l).2]) ∧ Below w.heap.size w w' := by
  have B0 := Lib.hid (show Below w.heap.size w (w.alloc (Obj.cells #[.int .i64 0, .int .i32 0, .int .i64 0] 30)) from (Below.refl _ _).alloc (Nat.le_refl _) _)
  have c0 := (B0.out.cell (p := ⟨b, off + 0, none⟩) hb).trans (hc 0 (by omega))
  rw [Nat.add_zero] at c0
  have j1 : (0 : Int) < (l.length : Int) := by omega
  have j0 : ((l.length : Int) == 0) = false := beq_eq_false_iff_ne.2 (by omega)
  by_cases h10 : bAt l 0 = 10
  · rw [h10] at c0
    have HP := Lib.hid (show plainP l = (⟨2, 0, 4⟩, 1) by unfold plainP; rw [if_pos h10])
    clear hc h27
    go_enter Tryd.func9, Tryd.ntmps9
    go_wp2
    (try simp only [Exit.inBlock, Exit.then])
    refine bodyPost_ret (v := .tuple #[.agg #[.int .i64 2, .int .i32 0, .int .i64 4], .int .i64 1]) ?_ rfl ⟨by rw [HP.out]; try rfl, ((Below.refl _ _).alloc (Nat.le_refl _) _).alloc (by simp) _⟩
    rw [results_cell_tmp rfl]
    go_simp
  by_cases h13 : bAt l 0 = 13
  · rw [h13] at c0
    have HP := Lib.hid (show plainP l = (⟨2, 0, 0⟩, 1) by unfold plainP; rw [if_neg h10, if_pos h13])
    clear hc h27
    go_enter Tryd.func9, Tryd.ntmps9
    go_wp2
    (try simp only [Exit.inBlock, Exit.then])
    refine bodyPost_ret (v := .tuple #[.agg #[.int .i64 2, .int .i32 0, .int .i64 0], .int .i64 1]) ?_ rfl ⟨by rw [HP.out]; try rfl, ((Below.refl _ _).alloc (Nat.le_refl _) _).alloc (by simp) _⟩
    rw [results_cell_tmp rfl]
    go_simp
  by_cases h9 : bAt l 0 = 9
  · rw [h9] at c0
    have HP := Lib.hid (show plainP l = (⟨3, 0, 0⟩, 1) by unfold plainP; rw [if_neg h10, if_neg h13, if_pos h9])
    clear hc h27
    go_enter Tryd.func9, Tryd.ntmps9
    go_wp2
    (try simp only [Exit.inBlock, Exit.then])
    refine bodyPost_ret (v := .tuple #[.agg #[.int .i64 3, .int .i32 0, .int .i64 0], .int .i64 1]) ?_ rfl ⟨by rw [HP.out]; try rfl, ((Below.refl _ _).alloc (Nat.le_refl _) _).alloc (by simp) _⟩
    rw [results_cell_tmp rfl]
    go_simp
  by_cases h8 : bAt l 0 = 8
  · rw [h8] at c0
    have HP := Lib.hid (show plainP l = (⟨4, 0, 0⟩, 1) by unfold plainP; rw [if_neg h10, if_neg h13, if_neg h9, if_pos (.inl h8)])
    clear hc h27
    go_enter Tryd.func9, Tryd.ntmps9
    go_wp2
    (try simp only [Exit.inBlock, Exit.then])
    refine bodyPost_ret (v := .tuple #[.agg #[.int .i64 4, .int .i32 0, .int .i64 0], .int .i64 1]) ?_ rfl ⟨by rw [HP.out]; try rfl, ((Below.refl _ _).alloc (Nat.le_refl _) _).alloc (by simp) _⟩
    rw [results_cell_tmp rfl]
    go_simp
  by_cases h127 : bAt l 0 = 127
  · rw [h127] at c0
    have HP := Lib.hid (show plainP l = (⟨4, 0, 0⟩, 1) by unfold plainP; rw [if_neg h10, if_neg h13, if_neg h9, if_pos (.inr h127)])
    clear hc h27
    go_enter Tryd.func9, Tryd.ntmps9
    go_wp2
    (try simp only [Exit.inBlock, Exit.then])
    refine bodyPost_ret (v := .tuple #[.agg #[.int .i64 4, .int .i32 0, .int .i64 0], .int .i64 1]) ?_ rfl ⟨by rw [HP.out]; try rfl, ((Below.refl _ _).alloc (Nat.le_refl _) _).alloc (by simp) _⟩
    rw [results_cell_tmp rfl]
    go_simp
  have d27 : ((bAt l 0 : Nat) : Int) ≠ 27 := by omega
  have e27 : (((bAt l 0 : Nat) : Int) == 27) = false := beq_eq_false_iff_ne.2 (by omega)
  have e10 : (((bAt l 0 : Nat) : Int) == 10) = false := beq_eq_false_iff_ne.2 (by omega)
  have e13 : (((bAt l 0 : Nat) : Int) == 13) = false := beq_eq_false_iff_ne.2 (by omega)
  have e9 : (((bAt l 0 : Nat) : Int) == 9) = false := beq_eq_false_iff_ne.2 (by omega)
  have e8 : (((bAt l 0 : Nat) : Int) == 8) = false := beq_eq_false_iff_ne.2 (by omega)
  have e127 : (((bAt l 0 : Nat) : Int) == 127) = false := beq_eq_false_iff_ne.2 (by omega)
  have B2 := Lib.hid (B0.out.alloc (by simp) (Obj.cells #[.int .i64 0, .int .i32 0, .int .i64 0] 30))
  have CH := Lib.hid (charAt l b off cap ((w.alloc (Obj.cells #[.int .i64 0, .int .i32 0, .int .i64 0] 30)).alloc (Obj.cells #[.int .i64 0, .int .i32 0, .int .i64 0] 30)) h1 hl (hw.below B2.out) (by simp; omega) (fun j hj => (B2.out.cell (p := ⟨b, off + j, none⟩) hb).trans (hc j hj)))
  have HP := Lib.hid (show plainP l = ((if bAt l 0 < 32 then (⟨1, bAt l 0 + 96, 4⟩ : Ky) else ⟨1, (firstU l).1, 0⟩), (if bAt l 0 < 32 then 1 else (firstU l).2 : Nat)) by unfold plainP; rw [if_neg h10, if_neg h13, if_neg h9, if_neg (by omega)]; split <;> rfl)
  obtain ⟨x, hx⟩ : ∃ x, x = (if bAt l 0 < 32 then (⟨1, bAt l 0 + 96, 4⟩ : Ky) else ⟨1, (firstU l).1, 0⟩) := ⟨_, rfl⟩
  obtain ⟨n, hn⟩ : ∃ n, n = (if bAt l 0 < 32 then 1 else (firstU l).2 : Nat) := ⟨_, rfl⟩
  rw [← hx, ← hn] at CH HP
  obtain ⟨x1, x2, x3⟩ := x
  have c1 := (B2.out.cell (p := ⟨b, off + 0, none⟩) hb).trans (hc 0 (by omega))
  rw [Nat.add_zero] at c1
  clear hc hx hn d27 h10 h13 h9 h8 h127 h27
  simp only [Ky.val] at CH
  go_enter Tryd.func9, Tryd.ntmps9
  go_wp2_with fail
  (with_reducible refine CH.out.mono ?_)
  rintro e w1 ⟨rfl, hb1⟩
  have hq : Below (w.alloc (Obj.cells #[.int .i64 0, .int .i32 0, .int .i64 0] 30)).heap.size (w.alloc (Obj.cells #[.int .i64 0, .int .i32 0, .int .i64 0] 30)) w1 := ((Below.refl _ _).alloc (Nat.le_refl _) _).trans (hb1.mono (by simp))
  obtain ⟨r0, r1, r2, f0, f1, f2, hbw, _⟩ := keyCell hq
  have B1 := Lib.hid hbw
  clear hb1 hbw hq
  go_wp2
  (try simp only [Exit.inBlock, Exit.then])
  refine bodyPost_ret (v := .tuple #[.agg #[.int .i64 x1, .int .i32 x2, .int .i64 x3], .int .i64 n]) ?_ rfl ⟨by rw [HP.out]; try rfl, ?_⟩
  · rw [results_cell_tmp rfl]
    go_simp
  · repeat (first | exact B1.out | refine Below.setCell ?_ (by exact Nat.le_refl _) _)
end Go.Proofs.YtlmfhdkpgpjbnaaDoor
