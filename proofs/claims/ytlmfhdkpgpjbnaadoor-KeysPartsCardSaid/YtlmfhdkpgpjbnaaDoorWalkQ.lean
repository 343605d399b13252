/- The contract of sequence: the key of a sequence, or that it is broken, or not whole. Conditions: its first two bytes are there; it lies in memory. -/
import Derived.Test.YtlmfhdkpgpjbnaaDoorWalkS
import Derived.Laws.ResultCell
import Derived.Deep.CutBlock
import Derived.Deep.CutRange
import Derived.Deep.RegionWith
namespace Go.Proofs.YtlmfhdkpgpjbnaaDoor
open Go Go.RowKit Go.Lib

theorem seqP_stop (most : Nat) (l : List UInt8) (n : Nat) (hn : n = 2 + runLen most (l.drop 2)) : seqP most l = if n = l.length then (noKy, 0) else if bAt l n < 64 then (noKy, n) else if 126 < bAt l n then (noKy, n) else (seqKey ((l.drop 2).take (n - 2)) (bAt l n), n + 1) := by
  subst hn
  unfold seqP
  rw [show 2 + runLen most (l.drop 2) - 2 = runLen most (l.drop 2) by omega]

theorem size5 : ∀ w : World, (sizeOf (Tryd.prog.elem 22)).run Tryd.prog w = .ok 1 w := fun _ => by kernel_rfl
theorem und22 : Tryd.prog.underlying 22 = some (.slice (Tryd.prog.elem 22)) := by kernel_rfl
theorem slice_mid (b off n cap k : Nat) (hk : 2 + k < n) (hn : n ≤ cap) (w : World) : (Instr.slice 22 (.slice (some ⟨b, off, none⟩) n cap) (some (.int .i64 2)) (some (.int .i64 (2 + (k : Int)))) none).run Tryd.prog w = .ok (.slice (some ⟨b, off + 2, none⟩) k (cap - 2)) w := by
  rw [run_slice_lh (P := Tryd.prog) w 22 _ n cap und22 .i64 .i64 2 (2 + (k : Int)) (by omega) (by omega) (by omega), size5]
  simp only [Result.andThen, sliced]
  have e1 : (2 + (k : Int)).toNat - (2 : Int).toNat = k := by omega
  have e2 : cap - (2 : Int).toNat = cap - 2 := by omega
  have e3 : ¬ cap = (2 : Int).toNat := by omega
  rw [if_neg e3, e1, e2]
  simp [Addr.add_lit]

theorem bAt_drop (l : List UInt8) (k i : Nat) : bAt (l.drop k) i = bAt l (k + i) := by
  unfold bAt
  rw [List.getD_eq_getElem?_getD, List.getD_eq_getElem?_getD, List.getElem?_drop]
theorem bAt_take (l : List UInt8) (k i : Nat) (h : i < k) : bAt (l.take k) i = bAt l i := by
  unfold bAt
  rw [List.getD_eq_getElem?_getD, List.getD_eq_getElem?_getD, List.getElem?_take, if_pos h]

theorem seqMidAt (l : List UInt8) (k b off cap : Nat) (w W : World) (x : Ky) (hx : x = seqKey ((l.drop 2).take k) (bAt l (2 + k))) (hk : 2 + k < l.length) (hk12 : k ≤ 12) (hcap : l.length ≤ cap) (hc63 : cap ≤ 9223372036854775807) (hb : b < w.heap.size)
    (hB : Below (w.alloc (Obj.cells #[.int .i64 0, .int .i32 0, .int .i64 0] 30)).heap.size (w.alloc (Obj.cells #[.int .i64 0, .int .i32 0, .int .i64 0] 30)) W)
    (hc : ∀ j, j < l.length → (w.alloc (Obj.cells #[.int .i64 0, .int .i32 0, .int .i64 0] 30)).cell? ⟨b, off + j, none⟩ = some (.int .u8 (bAt l j))) (hw : Wd W) :
    Calls Tryd.prog 16 #[.slice (some ⟨b, off + 2, none⟩) k (cap - 2), .int .u8 (bAt l (2 + k))] W fun e w' => e = .returned (.agg #[.int .i64 x.k, .int .i32 x.r, .int .i64 x.m]) ∧ Below w.heap.size w w' ∧
      w'.cell? ⟨w.heap.size, 0, none⟩ = some (.int .i64 0) ∧ w'.cell? ⟨w.heap.size, 1, none⟩ = some (.int .i32 0) ∧ w'.cell? ⟨w.heap.size, 2, none⟩ = some (.int .i64 0) ∧
      w'.frozen? ⟨w.heap.size, 0, none⟩ = false ∧ w'.frozen? ⟨w.heap.size, 1, none⟩ = false ∧ w'.frozen? ⟨w.heap.size, 2, none⟩ = false := by
  have e : ((l.drop 2).take k).length = k := by rw [List.length_take, List.length_drop]; omega
  have h := seqKeyAt ((l.drop 2).take k) (bAt l (2 + k)) (some ⟨b, off + 2, none⟩) (cap - 2) W (by omega) (by omega) (by omega) hw (.inr ⟨b, off + 2, rfl, by have := hB.size; simp at this; omega, fun j hj => by
    rw [bAt_take _ _ _ (by omega), bAt_drop, show off + 2 + j = off + (2 + j) by omega]
    exact (hB.cell (by show b < _; simp; omega)).trans (hc (2 + j) (by omega))⟩)
  rw [e, ← hx] at h
  refine h.mono fun e w' ⟨he, hb2⟩ => ?_
  have hq : Below (w.alloc (Obj.cells #[.int .i64 0, .int .i32 0, .int .i64 0] 30)).heap.size (w.alloc (Obj.cells #[.int .i64 0, .int .i32 0, .int .i64 0] 30)) w' := hB.trans (hb2.mono hB.size)
  exact ⟨he, ((Below.refl w.heap.size w).alloc (Nat.le_refl _) _).trans (hq.mono (by simp)), (hq.cell (by simp)).trans (by go_simp), (hq.cell (by simp)).trans (by go_simp), (hq.cell (by simp)).trans (by go_simp), (hq.frozen (by simp)).trans (by go_simp), (hq.frozen (by simp)).trans (by go_simp), (hq.frozen (by simp)).trans (by go_simp)⟩

set_option maxHeartbeats 4000000 in
set_option maxRecDepth 100000 in
theorem seqAt (most : Nat) (l : List UInt8) (b off cap : Nat) (w : World) (h2 : 2 ≤ l.length) (hl : l.length ≤ 1000) (hm : most ≤ 12) (hcap : l.length ≤ cap) (hc63 : cap ≤ 9223372036854775807) (hw : Wd w) (hb : b < w.heap.size)
    (hc : ∀ j, j < l.length → w.cell? ⟨b, off + j, none⟩ = some (.int .u8 (bAt l j))) :
    Calls Tryd.prog 14 #[.slice (some ⟨b, off, none⟩) l.length cap, .int .i64 most] w fun e w' => e = .returned (.tuple #[(seqP most l).1.val, .int .i64 (seqP most l).2]) ∧ Below w.heap.size w w' := by
  have B0 := Lib.hid (show Below w.heap.size w (w.alloc (Obj.cells #[.int .i64 0, .int .i32 0, .int .i64 0] 30)) from (Below.refl _ _).alloc (Nat.le_refl _) _)
  have HC := Lib.hid (fun j hj => (B0.out.cell (p := ⟨b, off + j, none⟩) hb).trans (hc j hj))
  have HW := Lib.hid (hw.below B0.out)
  have hr := runLen_le most (l.drop 2)
  rw [List.length_drop] at hr
  have HR := Lib.hid (runLen_step most (l.drop 2))
  have HT := Lib.hid (runLen_stop most (l.drop 2))
  have HS := Lib.hid (seqP_stop most l)
  generalize hk : runLen most (l.drop 2) = K at *
  clear hc hw
  go_enter Tryd.func14, Tryd.ntmps14
  go_wp2
  go_loopw [6] (fun i wr => ∃ k : Nat, i = .int .i64 ((2 + k : Nat) : Int) ∧ k ≤ K ∧ wr = w.alloc (Obj.cells #[.int .i64 0, .int .i32 0, .int .i64 0] 30)) (fun i _ => 2000 - (RowKit.intOf i).toNat)
  case atStart => exact ⟨0, rfl, Nat.zero_le _, rfl⟩
  case round =>
    obtain ⟨k, rfl, hkK, rfl⟩ := hrel
    rcases HR.out k hkK with h | ⟨g1, g2, g3, g4, g5⟩
    · subst h
      by_cases h1 : 2 + k = l.length
      · have j1 : ¬ ((2 + k : Nat) : Int) < (l.length : Int) := by omega
        have e1 : (((2 + k : Nat) : Int) == (l.length : Int)) = true := by simp [h1]
        have HX := Lib.hid (show seqP most l = (noKy, 0) by rw [HS.out (2 + k) rfl, if_pos h1])
        clear h1
        go_wp2
        (try simp only [Exit.inBlock, Exit.then])
        refine bodyPost_ret (v := .tuple #[noKy.val, .int .i64 0]) ?_ rfl ⟨by rw [HX.out]; try rfl, ?_⟩
        · rw [results_cell_tmp rfl]
          go_simp
          rfl
        · repeat (first | exact B0.out | refine Below.setCell ?_ (by exact Nat.le_refl _) _ | refine Below.drew ?_)
      · have j1 : ((2 + k : Nat) : Int) < (l.length : Int) := by omega
        have j0 : (((2 + k : Nat) : Int) == (l.length : Int)) = false := beq_eq_false_iff_ne.2 (by omega)
        have c0 := HC.out (2 + k) (by omega)
        by_cases h3 : k = most
        · have j2 : ¬ ((2 + k : Nat) : Int) < 2 + (most : Int) := by omega
          clear h3
          by_cases h4 : bAt l (2 + k) < 64
          · skip
            have e1 : ((bAt l (2 + k) : Nat) : Int) < 64 := by omega
            have HX := Lib.hid (show seqP most l = (noKy, 2 + k) by rw [HS.out (2 + k) rfl, if_neg h1, if_pos (by omega)])
            clear h1
            go_wp2
            (try simp only [Exit.inBlock, Exit.then])
            refine bodyPost_ret (v := .tuple #[noKy.val, .int .i64 ((2 + k : Nat) : Int)]) ?_ rfl ⟨by rw [HX.out]; try rfl, ?_⟩
            · rw [results_cell_tmp rfl]
              go_simp
              rfl
            · repeat (first | exact B0.out | refine Below.setCell ?_ (by exact Nat.le_refl _) _ | refine Below.drew ?_)
          by_cases h5 : 126 < bAt l (2 + k)
          · skip
            have e1 : ¬ ((bAt l (2 + k) : Nat) : Int) < 64 := by omega
            have e2 : 126 < ((bAt l (2 + k) : Nat) : Int) := by omega
            have HX := Lib.hid (show seqP most l = (noKy, 2 + k) by rw [HS.out (2 + k) rfl, if_neg h1, if_neg (by omega), if_pos (by omega)])
            clear h1
            go_wp2
            (try simp only [Exit.inBlock, Exit.then])
            refine bodyPost_ret (v := .tuple #[noKy.val, .int .i64 ((2 + k : Nat) : Int)]) ?_ rfl ⟨by rw [HX.out]; try rfl, ?_⟩
            · rw [results_cell_tmp rfl]
              go_simp
              rfl
            · repeat (first | exact B0.out | refine Below.setCell ?_ (by exact Nat.le_refl _) _ | refine Below.drew ?_)
          have e1 : ¬ ((bAt l (2 + k) : Nat) : Int) < 64 := by omega
          have e2 : ¬ 126 < ((bAt l (2 + k) : Nat) : Int) := by omega
          obtain ⟨x, hx⟩ : ∃ x, x = seqKey ((l.drop 2).take k) (bAt l (2 + k)) := ⟨_, rfl⟩
          have HX := Lib.hid (show seqP most l = (x, 2 + k + 1) by rw [hx, HS.out (2 + k) rfl, if_neg h1, if_neg (by omega), if_neg (by omega), show 2 + k - 2 = k by omega])
          clear h1
          have SL := slice_mid b off l.length cap k (by omega) hcap
          have z0 : (0 : Int) ≤ 2 + (k : Int) := by omega
          have zt : (2 + (k : Int)).toNat = 2 + k := by omega
          have SK := Lib.hid (fun (W : World) (hB : Below (w.alloc (Obj.cells #[.int .i64 0, .int .i32 0, .int .i64 0] 30)).heap.size (w.alloc (Obj.cells #[.int .i64 0, .int .i32 0, .int .i64 0] 30)) W) => seqMidAt l k b off cap w W x hx (by omega) (by omega) hcap hc63 hb hB HC.out (HW.out.below hB))
          clear hx
          go_wp2_with fail
          go_region_law (first | (go_simp; go_at_call 16; (with_reducible refine (SK.out _ (Below.refl _ _).drew).mono ?_); rintro e w1 ⟨rfl, hb1, r0, r1, r2, f0, f1, f2⟩; have B1 := Lib.hid hb1; clear hb1))
          go_wp2
          (try simp only [Exit.inBlock, Exit.then])
          refine bodyPost_ret (v := .tuple #[x.val, .int .i64 (2 + (k : Int) + 1)]) ?_ rfl ⟨by rw [HX.out]; try rfl, ?_⟩
          · rw [results_cell_tmp rfl]
            go_simp
            exact ⟨rfl, IntWalk.i64_in _ (by omega)⟩
          · repeat (first | exact Hid.out (by assumption) | refine Below.setCell ?_ (by exact Nat.le_refl _) _)
        · have j2 : ((2 + k : Nat) : Int) < 2 + (most : Int) := by omega
          have hs := HT.out (by rw [List.length_drop]; omega) (by omega)
          rw [bAt_drop] at hs
          by_cases h4 : bAt l (2 + k) < 48
          · have j3 : ((bAt l (2 + k) : Nat) : Int) < 48 := by omega
            have e1 : ((bAt l (2 + k) : Nat) : Int) < 64 := by omega
            have HX := Lib.hid (show seqP most l = (noKy, 2 + k) by rw [HS.out (2 + k) rfl, if_neg h1, if_pos (by omega)])
            clear h1
            go_wp2
            (try simp only [Exit.inBlock, Exit.then])
            refine bodyPost_ret (v := .tuple #[noKy.val, .int .i64 ((2 + k : Nat) : Int)]) ?_ rfl ⟨by rw [HX.out]; try rfl, ?_⟩
            · rw [results_cell_tmp rfl]
              go_simp
              rfl
            · repeat (first | exact B0.out | refine Below.setCell ?_ (by exact Nat.le_refl _) _ | refine Below.drew ?_)
          · have j3 : ¬ ((bAt l (2 + k) : Nat) : Int) < 48 := by omega
            have j4 : 63 < ((bAt l (2 + k) : Nat) : Int) := by omega
            by_cases h5 : 126 < bAt l (2 + k)
            · skip
              have e1 : ¬ ((bAt l (2 + k) : Nat) : Int) < 64 := by omega
              have e2 : 126 < ((bAt l (2 + k) : Nat) : Int) := by omega
              have HX := Lib.hid (show seqP most l = (noKy, 2 + k) by rw [HS.out (2 + k) rfl, if_neg h1, if_neg (by omega), if_pos (by omega)])
              clear h1
              go_wp2
              (try simp only [Exit.inBlock, Exit.then])
              refine bodyPost_ret (v := .tuple #[noKy.val, .int .i64 ((2 + k : Nat) : Int)]) ?_ rfl ⟨by rw [HX.out]; try rfl, ?_⟩
              · rw [results_cell_tmp rfl]
                go_simp
                rfl
              · repeat (first | exact B0.out | refine Below.setCell ?_ (by exact Nat.le_refl _) _ | refine Below.drew ?_)
            have e1 : ¬ ((bAt l (2 + k) : Nat) : Int) < 64 := by omega
            have e2 : ¬ 126 < ((bAt l (2 + k) : Nat) : Int) := by omega
            obtain ⟨x, hx⟩ : ∃ x, x = seqKey ((l.drop 2).take k) (bAt l (2 + k)) := ⟨_, rfl⟩
            have HX := Lib.hid (show seqP most l = (x, 2 + k + 1) by rw [hx, HS.out (2 + k) rfl, if_neg h1, if_neg (by omega), if_neg (by omega), show 2 + k - 2 = k by omega])
            clear h1
            have SL := slice_mid b off l.length cap k (by omega) hcap
            have z0 : (0 : Int) ≤ 2 + (k : Int) := by omega
            have zt : (2 + (k : Int)).toNat = 2 + k := by omega
            have SK := Lib.hid (fun (W : World) (hB : Below (w.alloc (Obj.cells #[.int .i64 0, .int .i32 0, .int .i64 0] 30)).heap.size (w.alloc (Obj.cells #[.int .i64 0, .int .i32 0, .int .i64 0] 30)) W) => seqMidAt l k b off cap w W x hx (by omega) (by omega) hcap hc63 hb hB HC.out (HW.out.below hB))
            clear hx
            go_wp2_with fail
            go_region_law (first | (go_simp; go_at_call 16; (with_reducible refine (SK.out _ (Below.refl _ _).drew).mono ?_); rintro e w1 ⟨rfl, hb1, r0, r1, r2, f0, f1, f2⟩; have B1 := Lib.hid hb1; clear hb1))
            go_wp2
            (try simp only [Exit.inBlock, Exit.then])
            refine bodyPost_ret (v := .tuple #[x.val, .int .i64 (2 + (k : Int) + 1)]) ?_ rfl ⟨by rw [HX.out]; try rfl, ?_⟩
            · rw [results_cell_tmp rfl]
              go_simp
              exact ⟨rfl, IntWalk.i64_in _ (by omega)⟩
            · repeat (first | exact Hid.out (by assumption) | refine Below.setCell ?_ (by exact Nat.le_refl _) _)
    · rw [List.length_drop] at g2
      rw [bAt_drop] at g4 g5
      have c0 := HC.out (2 + k) (by omega)
      have j1 : ((2 + k : Nat) : Int) < (l.length : Int) := by omega
      have j2 : ((2 + k : Nat) : Int) < 2 + (most : Int) := by omega
      have j3 : ¬ ((bAt l (2 + k) : Nat) : Int) < 48 := by omega
      have j4 : ¬ 63 < ((bAt l (2 + k) : Nat) : Int) := by omega
      go_wp2
      go_roundw
      case rel => exact ⟨k + 1, by go_num, by omega, by first | rfl | trivial⟩
      case measure => (simp [RowKit.intOf]; try omega)
end Go.Proofs.YtlmfhdkpgpjbnaaDoor
