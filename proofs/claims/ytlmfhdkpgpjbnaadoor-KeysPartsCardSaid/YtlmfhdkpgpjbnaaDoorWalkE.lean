/- The contracts of escaped and first: the key that bytes begin with. Conditions: the bytes lie in memory; three variables of the library's hold something. -/
import Derived.Test.YtlmfhdkpgpjbnaaDoorWalkC
namespace Go.Proofs.YtlmfhdkpgpjbnaaDoor
open Go Go.RowKit Go.Lib

theorem plainP_m (l : List UInt8) : 0 ≤ (plainP l).1.m ∧ (plainP l).1.m ≤ 4 := by
  unfold plainP
  repeat' split
  all_goals (simp only; omega)

theorem slice_one (b off n cap : Nat) (hk : 2 ≤ n) (hn : n ≤ cap) (w : World) : (Instr.slice 22 (.slice (some ⟨b, off, none⟩) n cap) (some (.int .i64 1)) none none).run Tryd.prog w = .ok (.slice (some ⟨b, off + 1, none⟩) (n - 1) (cap - 1)) w := by
  rw [run_slice_l (P := Tryd.prog) w 22 _ n cap und22 .i64 1 (by omega) (by omega), size5]
  simp only [Result.andThen, sliced]
  have e3 : ¬ cap = (1 : Int).toNat := by omega
  rw [if_neg e3]
  simp [Addr.add_lit]

set_option maxHeartbeats 4000000 in
set_option maxRecDepth 100000 in
theorem escAt (l : List UInt8) (b off cap : Nat) (w : World) (h1 : 1 ≤ l.length) (hl : l.length ≤ 1000) (hcap : l.length ≤ cap) (hc63 : cap ≤ 9223372036854775807) (hw : Wd w) (hb : b < w.heap.size)
    (hc : ∀ j, j < l.length → w.cell? ⟨b, off + j, none⟩ = some (.int .u8 (bAt l j))) :
    Calls Tryd.prog 12 #[.slice (some ⟨b, off, none⟩) l.length cap] w fun e w' => e = .returned (.tuple #[(escP l).1.val, .int .i64 (escP l).2]) ∧ Below w.heap.size w w' := by
  have B0 := Lib.hid (show Below w.heap.size w (w.alloc (Obj.cells #[.int .i64 0, .int .i32 0, .int .i64 0] 30)) from (Below.refl _ _).alloc (Nat.le_refl _) _)
  have HC := Lib.hid (fun j hj => (B0.out.cell (p := ⟨b, off + j, none⟩) hb).trans (hc j hj))
  have HW := Lib.hid (hw.below B0.out)
  clear hc hw
  by_cases k1 : l.length = 1
  · have j1 : ((l.length : Int) == 1) = true := by simp [k1]
    have HP := Lib.hid (show escP l = (noKy, 0) by unfold escP; rw [if_pos k1])
    clear k1
    go_enter Tryd.func12, Tryd.ntmps12
    go_wp2
    (try simp only [Exit.inBlock, Exit.then])
    refine bodyPost_ret (v := .tuple #[noKy.val, .int .i64 0]) ?_ rfl ⟨by rw [HP.out]; try rfl, B0.out⟩
    rw [results_cell_tmp rfl]
    go_simp
    rfl
  have j1 : ((l.length : Int) == 1) = false := beq_eq_false_iff_ne.2 (by omega)
  have j2 : (1 : Int) < (l.length : Int) := by omega
  have c1 := HC.out 1 (by omega)
  by_cases k2 : bAt l 1 = 27
  · rw [k2] at c1
    have HP := Lib.hid (show escP l = (noKy, 1) by unfold escP; rw [if_neg k1, if_pos k2])
    clear k1 k2
    go_enter Tryd.func12, Tryd.ntmps12
    go_wp2
    (try simp only [Exit.inBlock, Exit.then])
    refine bodyPost_ret (v := .tuple #[noKy.val, .int .i64 1]) ?_ rfl ⟨by rw [HP.out]; try rfl, B0.out⟩
    rw [results_cell_tmp rfl]
    go_simp
    rfl
  by_cases k3 : bAt l 1 = 79
  · rw [k3] at c1
    have HP := Lib.hid (show escP l = seqP 0 l by unfold escP; rw [if_neg k1, if_neg k2, if_pos k3])
    have SQ := Lib.hid (seqAt 0 l b off cap (w.alloc (Obj.cells #[.int .i64 0, .int .i32 0, .int .i64 0] 30)) (by omega) hl (by omega) hcap hc63 HW.out (by simp; omega) HC.out)
    rw [show ((0 : Nat) : Int) = 0 from rfl] at SQ
    generalize seqP 0 l = x at *
    obtain ⟨⟨x1, x2, x3⟩, n⟩ := x
    simp only [Ky.val] at SQ
    clear k1 k2 k3
    go_enter Tryd.func12, Tryd.ntmps12
    go_wp2_with fail
    (with_reducible refine SQ.out.mono ?_)
    rintro e w1 ⟨rfl, hb1⟩
    obtain ⟨r0, r1, r2, f0, f1, f2, hbw, _⟩ := keyCell hb1
    have B1 := Lib.hid hbw
    clear hb1 hbw
    go_wp2
    (try simp only [Exit.inBlock, Exit.then])
    refine bodyPost_ret (v := .tuple #[.agg #[.int .i64 x1, .int .i32 x2, .int .i64 x3], .int .i64 n]) ?_ rfl ⟨by rw [HP.out]; try rfl, ?_⟩
    · rw [results_cell_tmp rfl]
      go_simp
    · repeat (first | exact B1.out | refine Below.setCell ?_ (by exact Nat.le_refl _) _)
  by_cases k4 : bAt l 1 = 91
  · rw [k4] at c1
    have HP := Lib.hid (show escP l = seqP 12 l by unfold escP; rw [if_neg k1, if_neg k2, if_neg k3, if_pos k4])
    have SQ := Lib.hid (seqAt 12 l b off cap (w.alloc (Obj.cells #[.int .i64 0, .int .i32 0, .int .i64 0] 30)) (by omega) hl (by omega) hcap hc63 HW.out (by simp; omega) HC.out)
    rw [show ((12 : Nat) : Int) = 12 from rfl] at SQ
    generalize seqP 12 l = x at *
    obtain ⟨⟨x1, x2, x3⟩, n⟩ := x
    simp only [Ky.val] at SQ
    clear k1 k2 k3 k4
    go_enter Tryd.func12, Tryd.ntmps12
    go_wp2_with fail
    (with_reducible refine SQ.out.mono ?_)
    rintro e w1 ⟨rfl, hb1⟩
    obtain ⟨r0, r1, r2, f0, f1, f2, hbw, _⟩ := keyCell hb1
    have B1 := Lib.hid hbw
    clear hb1 hbw
    go_wp2
    (try simp only [Exit.inBlock, Exit.then])
    refine bodyPost_ret (v := .tuple #[.agg #[.int .i64 x1, .int .i32 x2, .int .i64 x3], .int .i64 n]) ?_ rfl ⟨by rw [HP.out]; try rfl, ?_⟩
    · rw [results_cell_tmp rfl]
      go_simp
    · repeat (first | exact B1.out | refine Below.setCell ?_ (by exact Nat.le_refl _) _)
  have e27 : (((bAt l 1 : Nat) : Int) == 27) = false := beq_eq_false_iff_ne.2 (by omega)
  have e79 : (((bAt l 1 : Nat) : Int) == 79) = false := beq_eq_false_iff_ne.2 (by omega)
  have e91 : (((bAt l 1 : Nat) : Int) == 91) = false := beq_eq_false_iff_ne.2 (by omega)
  have HP := Lib.hid (show escP l = if (plainP (l.drop 1)).2 = 0 then (noKy, 0) else (⟨(plainP (l.drop 1)).1.k, (plainP (l.drop 1)).1.r, (plainP (l.drop 1)).1.m + 2⟩, (plainP (l.drop 1)).2 + 1) by unfold escP; rw [if_neg k1, if_neg k2, if_neg k3, if_neg k4])
  have hm := plainP_m (l.drop 1)
  have hpl := plainP_le (l.drop 1) (by rw [List.length_drop]; omega)
  rw [List.length_drop] at hpl
  have SL := slice_one b off l.length cap (by omega) hcap
  have PL := Lib.hid (fun (W : World) (hB : Below (w.alloc (Obj.cells #[.int .i64 0, .int .i32 0, .int .i64 0] 30)).heap.size (w.alloc (Obj.cells #[.int .i64 0, .int .i32 0, .int .i64 0] 30)) W) => plainAt (l.drop 1) b (off + 1) (cap - 1) W (by rw [List.length_drop]; omega) (by rw [List.length_drop]; omega) (by rw [bAt_drop]; exact k2) (HW.out.below hB) (by have := hB.size; simp at this; omega) (fun j hj => by
    rw [List.length_drop] at hj
    rw [bAt_drop, show off + 1 + j = off + (1 + j) by omega]
    exact (hB.cell (p := ⟨b, off + (1 + j), none⟩) (by show b < _; simp; omega)).trans (HC.out (1 + j) (by omega))))
  have e : (l.drop 1).length = l.length - 1 := by rw [List.length_drop]
  rw [e] at PL
  generalize plainP (l.drop 1) = x at *
  obtain ⟨⟨x1, x2, x3⟩, n⟩ := x
  simp only [Ky.val] at PL HP hm
  simp only at hpl
  clear k1 k2 k3 k4 e
  have PL0 := Lib.hid (PL.out _ (Below.refl _ _))
  clear PL
  go_enter Tryd.func12, Tryd.ntmps12
  go_wp2_with fail
  (with_reducible refine PL0.out.mono ?_)
  rintro e w1 ⟨rfl, hb1⟩
  obtain ⟨r0, r1, r2, f0, f1, f2, hbw, hlt⟩ := keyCell hb1
  have B1 := Lib.hid hbw
  clear hb1 hbw
  have hne1 : w.heap.size ≠ w1.heap.size := by omega
  have hne2 : w1.heap.size ≠ w.heap.size := by omega
  have g0 : ∀ o, (w1.alloc o).cell? ⟨w.heap.size, 0, none⟩ = some (.int .i64 0) := fun o => Lib.cell?_alloc_some _ r0
  have g1 : ∀ v o, ((w1.setCell ⟨w.heap.size, 0, none⟩ v).alloc o).cell? ⟨w.heap.size, 1, none⟩ = some (.int .i32 0) := fun v o => Lib.cell?_alloc_some _ (by go_simp)
  have g2 : ∀ v u o, (((w1.setCell ⟨w.heap.size, 0, none⟩ v).setCell ⟨w.heap.size, 1, none⟩ u).alloc o).cell? ⟨w.heap.size, 2, none⟩ = some (.int .i64 0) := fun v u o => Lib.cell?_alloc_some _ (by go_simp)
  have k0 : ∀ o, (w1.alloc o).frozen? ⟨w.heap.size, 0, none⟩ = false := fun o => (((Below.refl w1.heap.size w1).alloc (Nat.le_refl _) o).frozen (p := ⟨w.heap.size, 0, none⟩) hlt).trans f0
  have k1 : ∀ v o, ((w1.setCell ⟨w.heap.size, 0, none⟩ v).alloc o).frozen? ⟨w.heap.size, 1, none⟩ = false := fun v o => (((Below.refl w1.heap.size (w1.setCell ⟨w.heap.size, 0, none⟩ v)).alloc (by simp) o).frozen (p := ⟨w.heap.size, 1, none⟩) hlt).trans (by go_simp)
  have k2 : ∀ v u o, (((w1.setCell ⟨w.heap.size, 0, none⟩ v).setCell ⟨w.heap.size, 1, none⟩ u).alloc o).frozen? ⟨w.heap.size, 2, none⟩ = false := fun v u o => (((Below.refl w1.heap.size ((w1.setCell ⟨w.heap.size, 0, none⟩ v).setCell ⟨w.heap.size, 1, none⟩ u)).alloc (by simp) o).frozen (p := ⟨w.heap.size, 2, none⟩) hlt).trans (by go_simp)
  by_cases hn : n = 0
  · subst hn
    go_wp2
    (try simp only [Exit.inBlock, Exit.then])
    refine bodyPost_ret (v := .tuple #[noKy.val, .int .i64 0]) ?_ rfl ⟨by rw [HP.out]; try rfl, ?_⟩
    · rw [results_cell_tmp rfl]
      go_simp
      rfl
    · repeat (first | exact B1.out | refine Below.setCell ?_ (by first | exact Nat.le_refl _ | omega) _ | refine Below.alloc ?_ (by first | omega | (simp; omega)) _)
  · have en : ((n : Int) == 0) = false := beq_eq_false_iff_ne.2 (by omega)
    have w3 : IntKind.i64.wrap (x3 + 2) = x3 + 2 := IntWalk.i64_in _ (by omega)
    have w4 : IntKind.i64.wrap ((n : Int) + 1) = (n : Int) + 1 := IntWalk.i64_in _ (by omega)
    rw [if_neg hn] at HP
    clear hn
    go_wp2
    (try simp only [Exit.inBlock, Exit.then])
    refine bodyPost_ret (v := .tuple #[.agg #[.int .i64 x1, .int .i32 x2, .int .i64 (x3 + 2)], .int .i64 ((n : Int) + 1)]) ?_ rfl ⟨by rw [HP.out]; try rfl, ?_⟩
    · rw [results_cell_tmp rfl]
      go_simp
    · repeat (first | exact B1.out | refine Below.setCell ?_ (by first | exact Nat.le_refl _ | omega) _ | refine Below.alloc ?_ (by first | omega | (simp; omega)) _)

set_option maxHeartbeats 4000000 in
set_option maxRecDepth 100000 in
theorem escFirst (l : List UInt8) (b off cap : Nat) (w : World) (h1 : 1 ≤ l.length) (hl : l.length ≤ 1000) (hcap : l.length ≤ cap) (hc63 : cap ≤ 9223372036854775807) (h27 : bAt l 0 = 27) (hw : Wd w) (hb : b < w.heap.size)
    (hc : ∀ j, j < l.length → w.cell? ⟨b, off + j, none⟩ = some (.int .u8 (bAt l j))) :
    Calls Tryd.prog 9 #[.slice (some ⟨b, off, none⟩) l.length cap] w fun e w' => e = .returned (.tuple #[(escP l).1.val, .int .i64 (escP l).2]) ∧ Below w.heap.size w w' := by
  have B0 := Lib.hid (show Below w.heap.size w (w.alloc (Obj.cells #[.int .i64 0, .int .i32 0, .int .i64 0] 30)) from (Below.refl _ _).alloc (Nat.le_refl _) _)
  have B2 := Lib.hid (B0.out.alloc (by simp) (Obj.cells #[.int .i64 0, .int .i32 0, .int .i64 0] 30))
  have c0 := (B2.out.cell (p := ⟨b, off + 0, none⟩) hb).trans (hc 0 (by omega))
  rw [Nat.add_zero, h27] at c0
  have j1 : (0 : Int) < (l.length : Int) := by omega
  have j0 : ((l.length : Int) == 0) = false := beq_eq_false_iff_ne.2 (by omega)
  have CH := Lib.hid (escAt l b off cap ((w.alloc (Obj.cells #[.int .i64 0, .int .i32 0, .int .i64 0] 30)).alloc (Obj.cells #[.int .i64 0, .int .i32 0, .int .i64 0] 30)) h1 hl hcap hc63 (hw.below B2.out) (by simp; omega) (fun j hj => (B2.out.cell (p := ⟨b, off + j, none⟩) hb).trans (hc j hj)))
  generalize escP l = x at *
  obtain ⟨⟨x1, x2, x3⟩, n⟩ := x
  clear hc h27 hw
  simp only [Ky.val] at CH
  go_enter Tryd.func9, Tryd.ntmps9
  go_wp2_with fail
  (with_reducible refine CH.out.mono ?_)
  rintro e w1 ⟨rfl, hb1⟩
  have hq : Below (w.alloc (Obj.cells #[.int .i64 0, .int .i32 0, .int .i64 0] 30)).heap.size (w.alloc (Obj.cells #[.int .i64 0, .int .i32 0, .int .i64 0] 30)) w1 := ((Below.refl _ _).alloc (Nat.le_refl _) _).trans (hb1.mono (by simp))
  obtain ⟨r0, r1, r2, f0, f1, f2, hbw, _⟩ := keyCell hq
  have B1 := Lib.hid hbw
  clear hb1 hbw hq
  go_wp2
  (try simp only [Exit.inBlock, Exit.then])
  refine bodyPost_ret (v := .tuple #[.agg #[.int .i64 x1, .int .i32 x2, .int .i64 x3], .int .i64 n]) ?_ rfl ⟨rfl, ?_⟩
  · rw [results_cell_tmp rfl]
    go_simp
  · repeat (first | exact B1.out | refine Below.setCell ?_ (by exact Nat.le_refl _) _)

theorem firstNone (a : Option Addr) (cap : Nat) (w : World) :
    Calls Tryd.prog 9 #[.slice a 0 cap] w fun e w' => e = .returned (.tuple #[noKy.val, .int .i64 0]) ∧ Below w.heap.size w w' := by
  go_enter Tryd.func9, Tryd.ntmps9
  go_wp2
  (try simp only [Exit.inBlock, Exit.then])
  refine bodyPost_ret (v := .tuple #[noKy.val, .int .i64 0]) ?_ rfl ⟨rfl, (Below.refl _ _).alloc (Nat.le_refl _) _⟩
  rw [results_cell_tmp rfl]
  go_simp
  rfl

theorem keyAt (l : List UInt8) (a : Option Addr) (cap : Nat) (w : World) (hl : l.length ≤ 1000) (hcap : l.length ≤ cap) (hc63 : cap ≤ 9223372036854775807) (hw : Wd w) (h : BytesIn l a w) :
    Calls Tryd.prog 9 #[.slice a l.length cap] w fun e w' => e = .returned (.tuple #[(firstP l).1.val, .int .i64 (firstP l).2]) ∧ Below w.heap.size w w' := by
  by_cases h0 : l.length = 0
  · have e : firstP l = (noKy, 0) := by unfold firstP; rw [if_pos h0]
    rw [e, h0]
    exact firstNone a cap w
  · rcases h with h | ⟨b, off, rfl, hb, hc⟩
    · exact absurd h h0
    · by_cases h27 : bAt l 0 = 27
      · have e : firstP l = escP l := by unfold firstP; rw [if_neg h0, if_pos h27]
        rw [e]
        exact escFirst l b off cap w (by omega) hl hcap hc63 h27 hw hb hc
      · have e : firstP l = plainP l := by unfold firstP; rw [if_neg h0, if_neg h27]
        rw [e]
        exact plainAt l b off cap w (by omega) hl h27 hw hb hc
end Go.Proofs.YtlmfhdkpgpjbnaaDoor
