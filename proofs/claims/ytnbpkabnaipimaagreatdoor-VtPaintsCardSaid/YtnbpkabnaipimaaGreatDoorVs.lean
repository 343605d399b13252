/- The contract of restyle, at the numbers 0, 7, 4 and 1. Conditions: a terminal and numbers in memory; the listed variables hold what their initialisers lay. -/
import Derived.Test.YtnbpkabnaipimaaGreatDoorVm
import Derived.Test.YtnbpkabnaipimaaGreatDoorVw
namespace Go.Proofs.YtnbpkabnaipimaaGreatDoor
open Go Go.RowKit Go.Lib

/-- Where a number stands among 7, 4, 1. -/
def hitN (x : Int) : Nat := if x = 7 then 0 else if x = 4 then 1 else if x = 1 then 2 else 3
/-- The style behind j of these. -/
def midS (x st : Int) (j : Nat) : Int := if hitN x < j then styleN st x else st
/-- A terminal between two numbers. -/
def Mid (p : Nat) (F : Nat → Prop) (r c : Nat) (s : Scr) (wt : List Int) (st : Int) (w wr : World) : Prop := Trm wr p F r c ⟨s.g, s.row, s.col, st⟩ wt ∧ But1 p w wr
theorem Mid.put {p : Nat} {F : Nat → Prop} {r c : Nat} {s : Scr} {wt : List Int} {st : Int} {w wr : World} (h : Mid p F r c s wt st w wr) (st' : Int) (h0 : 0 ≤ st' ∧ st' ≤ 7) : Mid p F r c s wt st' w (wr.setCell ⟨p, 5, none⟩ (.int .i64 st')) :=
  ⟨trm_put h.1 ⟨s.g, s.row, s.col, st'⟩ 5 (.int .i64 st') (fun _ _ _ => rfl) ⟨h.1.inv.rows, h.1.inv.len, h.1.inv.ok, h.1.inv.row, h.1.inv.col, h0⟩ rfl, h.2.trans (But1.set p 5 wr _)⟩
theorem Mid.drew {p : Nat} {F : Nat → Prop} {r c : Nat} {s : Scr} {wt : List Int} {st : Int} {w wr : World} (h : Mid p F r c s wt st w wr) : Mid p F r c s wt st w wr.drew :=
  ⟨h.1.below (Below.refl _ _).drew, h.2.trans (But1.of (Below.refl _ _).drew (Nat.le_of_lt (h.1.lt p h.1.pF)))⟩
theorem Mid.style {p : Nat} {F : Nat → Prop} {r c : Nat} {s : Scr} {wt : List Int} {st : Int} {w wr : World} (h : Mid p F r c s wt st w wr) : wr.cell? ⟨p, 5, none⟩ = some (.int .i64 st) ∧ wr.frozen? ⟨p, 5, none⟩ = false := by
  obtain ⟨g, gk, a, n, k, _, _, _, hT, _⟩ := h.1.mem
  exact hT 5 _ rfl

theorem or7 {st : Int} (h : 0 ≤ st ∧ st ≤ 7) : bits BinOp.or IntKind.i64 st (IntKind.i64.wrap 1) = styleN st 7 := by
  rcases (show st = 0 ∨ st = 1 ∨ st = 2 ∨ st = 3 ∨ st = 4 ∨ st = 5 ∨ st = 6 ∨ st = 7 by omega) with rfl | rfl | rfl | rfl | rfl | rfl | rfl | rfl <;> decide +kernel
theorem or4 {st : Int} (h : 0 ≤ st ∧ st ≤ 7) : bits BinOp.or IntKind.i64 st (IntKind.i64.wrap 2) = styleN st 4 := by
  rcases (show st = 0 ∨ st = 1 ∨ st = 2 ∨ st = 3 ∨ st = 4 ∨ st = 5 ∨ st = 6 ∨ st = 7 by omega) with rfl | rfl | rfl | rfl | rfl | rfl | rfl | rfl <;> decide +kernel
theorem or1 {st : Int} (h : 0 ≤ st ∧ st ≤ 7) : bits BinOp.or IntKind.i64 st (IntKind.i64.wrap 4) = styleN st 1 := by
  rcases (show st = 0 ∨ st = 1 ∨ st = 2 ∨ st = 3 ∨ st = 4 ∨ st = 5 ∨ st = 6 ∨ st = 7 by omega) with rfl | rfl | rfl | rfl | rfl | rfl | rfl | rfl <;> decide +kernel
theorem style_in {st x : Int} (h : 0 ≤ st ∧ st ≤ 7) (hx : x = 0 ∨ x = 7 ∨ x = 4 ∨ x = 1) : 0 ≤ styleN st x ∧ styleN st x ≤ 7 := by
  rcases (show st = 0 ∨ st = 1 ∨ st = 2 ∨ st = 3 ∨ st = 4 ∨ st = 5 ∨ st = 6 ∨ st = 7 by omega) with rfl | rfl | rfl | rfl | rfl | rfl | rfl | rfl <;> rcases hx with rfl | rfl | rfl | rfl <;> decide
theorem mid_at (st : Int) : (∀ j, j ≤ 3 → midS 0 0 j = 0) ∧ (midS 7 st 0 = st ∧ midS 7 st 1 = styleN st 7 ∧ midS 7 st 2 = styleN st 7 ∧ midS 7 st 3 = styleN st 7) ∧ (midS 4 st 0 = st ∧ midS 4 st 1 = st ∧ midS 4 st 2 = styleN st 4 ∧ midS 4 st 3 = styleN st 4) ∧ (midS 1 st 0 = st ∧ midS 1 st 1 = st ∧ midS 1 st 2 = st ∧ midS 1 st 3 = styleN st 1) := by
  refine ⟨fun j hj => ?_, ?_, ?_, ?_⟩
  · rcases (show j = 0 ∨ j = 1 ∨ j = 2 ∨ j = 3 by omega) with rfl | rfl | rfl | rfl <;> simp [midS, hitN]
  all_goals simp [midS, hitN]
theorem ix0 (w : World) : (Instr.index 73 (.agg #[.int .i64 7, .int .i64 4, .int .i64 1]) (.int .i64 0)).run Tryz.prog w = .ok (.int .i64 7) w := by kernel_rfl
theorem ix1 (w : World) : (Instr.index 73 (.agg #[.int .i64 7, .int .i64 4, .int .i64 1]) (.int .i64 1)).run Tryz.prog w = .ok (.int .i64 4) w := by kernel_rfl
theorem ix2 (w : World) : (Instr.index 73 (.agg #[.int .i64 7, .int .i64 4, .int .i64 1]) (.int .i64 2)).run Tryz.prog w = .ok (.int .i64 1) w := by kernel_rfl

set_option maxHeartbeats 8000000 in
set_option maxRecDepth 20000 in
theorem restyleT (p : Nat) (F : Nat → Prop) (r c : Nat) (s : Scr) (wt : List Int) (B b off n cap : Nat) (ns : List Int) (w : World) (hW : Wd w) (h : Trm w p F r c s wt) (hFB : ∀ j, F j → B ≤ j) (hn : ns.length = n) (hn1 : 1 ≤ n) (hn2 : n ≤ 10) (hin : ∀ x ∈ ns, x = 0 ∨ x = 7 ∨ x = 4 ∨ x = 1) (hI : IntsF F w b off ns) :
    Calls Tryz.prog 71 #[.pointer (some ⟨p, 0, none⟩), .slice (some ⟨b, off, none⟩) n cap] w fun e w' => e = .returned (.tuple #[]) ∧ Turned p F r c ⟨s.g, s.row, s.col, ns.foldl styleN s.st⟩ wt B w w' := by
  have hnz : ((n : Int) == 0) = false := beq_eq_false_iff_ne.2 (by omega)
  have hpF := h.pF
  have hplt := h.lt p hpF
  have hp10 := h.top p hpF
  have hbp : b ≠ p := fun e => hI.out (e ▸ hpF)
  have M0 := Lib.hid (show Mid p F r c s wt s.st w w from ⟨h, But1.of (Below.refl _ _) (Nat.le_of_lt hplt)⟩)
  have HW := Lib.hid hW
  have HI := Lib.hid hI
  have HIN := Lib.hid hin
  have HN := Lib.hid hn
  clear hW h hI hin hn
  go_enter Tryz.func71, Tryz.ntmps71
  go_wp2
  go_loopw [16] (fun i wr => ∃ k : Nat, k ≤ n ∧ i = .int .i64 k ∧ Mid p F r c s wt ((ns.take k).foldl styleN s.st) w wr) (fun i _ => n - (RowKit.intOf i).toNat)
  case atStart => exact ⟨0, Nat.zero_le _, rfl, M0.out⟩
  case round =>
    clear M0
    obtain ⟨k, hk, rfl, hM⟩ := hrel
    obtain ⟨st, hst⟩ : ∃ st, st = (ns.take k).foldl styleN s.st := ⟨_, rfl⟩
    rw [← hst] at hM
    have hs07 := hM.1.inv.st
    simp only at hs07
    have HST := Lib.hid hst
    have HM := Lib.hid hM
    by_cases hlt : k < n
    · obtain ⟨x, hx⟩ : ∃ x, ns[k]? = some x := ⟨ns[k]'(by have := HN.out; omega), by simp⟩
      have hxin := HIN.out x (List.mem_of_getElem? hx)
      have hcx : wr.cell? ⟨b, off + k, none⟩ = some (.int .i64 x) := (World.cell?_of_block (w := w) (hM.2.block b HI.out.lt hbp)).trans (HI.out.cells k x hx)
      obtain ⟨q0, q1, q2⟩ := (HW.out.of hM.2.size (fun j hj => hM.2.low.block j (by omega))).sty
      obtain ⟨c5, k5⟩ := hM.style
      have hkn : (k : Int) < (n : Int) := by omega
      have hk0 : (0 : Int) ≤ (k : Int) := by omega
      have hend : (ns.take (k + 1)).foldl styleN s.st = styleN st x := by rw [List.take_add_one, hx, Option.toList_some, List.foldl_append, hst]; rfl
      have HEND := Lib.hid hend
      clear hend hst hM hx
      obtain ⟨ma0, ma7, ma4, ma1⟩ := mid_at st
      have MA0 := Lib.hid ma0
      have MA7 := Lib.hid ma7
      have MA4 := Lib.hid ma4
      have MA1 := Lib.hid ma1
      clear ma0 ma7 ma4 ma1
      rcases hxin with rfl | rfl | rfl | rfl
      · have M1 := Lib.hid (HM.out.put 0 (by decide))
        go_wp2
        go_loopw [26] (fun i wx => ∃ j : Nat, j ≤ 3 ∧ i = .int .i64 j ∧ Mid p F r c s wt (midS 0 0 j) w wx) (fun i _ => 3 - (RowKit.intOf i).toNat)
        case atStart => exact ⟨0, by omega, rfl, by rw [MA0.out 0 (by omega)]; exact M1.out⟩
        case round =>
          obtain ⟨j, hj, rfl, hM2⟩ := hrel
          obtain ⟨d5, e5⟩ := hM2.style
          have HM2 := Lib.hid hM2
          clear hM2
          rcases (show j = 0 ∨ j = 1 ∨ j = 2 ∨ j = 3 by omega) with rfl | rfl | rfl | rfl
          · rw [(MA0.out 0 (by omega))] at d5 HM2
            have hix := ix0
            rw [show ((0 : Nat) : Int) = 0 from rfl]
            go_wp2
            go_roundw
            case rel => exact ⟨1, by omega, by go_num, by rw [(MA0.out 1 (by omega))]; exact HM2.out⟩
            case measure => simp [RowKit.intOf]
          · rw [(MA0.out 1 (by omega))] at d5 HM2
            have hix := ix1
            rw [show ((1 : Nat) : Int) = 1 from rfl]
            go_wp2
            go_roundw
            case rel => exact ⟨2, by omega, by go_num, by rw [(MA0.out 2 (by omega))]; exact HM2.out⟩
            case measure => simp [RowKit.intOf]
          · rw [(MA0.out 2 (by omega))] at d5 HM2
            have hix := ix2
            rw [show ((2 : Nat) : Int) = 2 from rfl]
            go_wp2
            go_roundw
            case rel => exact ⟨3, by omega, by go_num, by rw [(MA0.out 3 (by omega))]; exact HM2.out⟩
            case measure => simp [RowKit.intOf]
          · rw [(MA0.out 3 (by omega))] at d5 HM2
            rw [show ((3 : Nat) : Int) = 3 from rfl]
            go_wp2
            go_roundw
            case rel => exact ⟨k + 1, by omega, by go_num, by rw [HEND.out]; exact HM2.out⟩
            case measure => simp [RowKit.intOf]; omega
      · go_wp2
        go_loopw [26] (fun i wx => ∃ j : Nat, j ≤ 3 ∧ i = .int .i64 j ∧ Mid p F r c s wt (midS 7 st j) w wx) (fun i _ => 3 - (RowKit.intOf i).toNat)
        case atStart => exact ⟨0, by omega, rfl, by rw [MA7.out.1]; exact HM.out⟩
        case round =>
          obtain ⟨j, hj, rfl, hM2⟩ := hrel
          obtain ⟨d5, e5⟩ := hM2.style
          have HM2 := Lib.hid hM2
          clear hM2
          rcases (show j = 0 ∨ j = 1 ∨ j = 2 ∨ j = 3 by omega) with rfl | rfl | rfl | rfl
          · rw [MA7.out.1] at d5 HM2
            have hix := ix0
            rw [show ((0 : Nat) : Int) = 0 from rfl]
            go_wp2
            go_region_law (first | fail)
            all_goals
              rw [or7 hs07]
              go_simp
              go_wp2
              go_roundw
              case rel => exact ⟨1, by omega, by go_num, by rw [MA7.out.2.1]; exact (HM2.out.put _ (style_in hs07 (by simp))).drew⟩
              case measure => simp [RowKit.intOf]
          · rw [MA7.out.2.1] at d5 HM2
            have hix := ix1
            rw [show ((1 : Nat) : Int) = 1 from rfl]
            go_wp2
            go_roundw
            case rel => exact ⟨2, by omega, by go_num, by rw [MA7.out.2.2.1]; exact HM2.out⟩
            case measure => simp [RowKit.intOf]
          · rw [MA7.out.2.2.1] at d5 HM2
            have hix := ix2
            rw [show ((2 : Nat) : Int) = 2 from rfl]
            go_wp2
            go_roundw
            case rel => exact ⟨3, by omega, by go_num, by rw [MA7.out.2.2.2]; exact HM2.out⟩
            case measure => simp [RowKit.intOf]
          · rw [MA7.out.2.2.2] at d5 HM2
            rw [show ((3 : Nat) : Int) = 3 from rfl]
            go_wp2
            go_roundw
            case rel => exact ⟨k + 1, by omega, by go_num, by rw [HEND.out]; exact HM2.out⟩
            case measure => simp [RowKit.intOf]; omega
      · go_wp2
        go_loopw [26] (fun i wx => ∃ j : Nat, j ≤ 3 ∧ i = .int .i64 j ∧ Mid p F r c s wt (midS 4 st j) w wx) (fun i _ => 3 - (RowKit.intOf i).toNat)
        case atStart => exact ⟨0, by omega, rfl, by rw [MA4.out.1]; exact HM.out⟩
        case round =>
          obtain ⟨j, hj, rfl, hM2⟩ := hrel
          obtain ⟨d5, e5⟩ := hM2.style
          have HM2 := Lib.hid hM2
          clear hM2
          rcases (show j = 0 ∨ j = 1 ∨ j = 2 ∨ j = 3 by omega) with rfl | rfl | rfl | rfl
          · rw [MA4.out.1] at d5 HM2
            have hix := ix0
            rw [show ((0 : Nat) : Int) = 0 from rfl]
            go_wp2
            go_roundw
            case rel => exact ⟨1, by omega, by go_num, by rw [MA4.out.2.1]; exact HM2.out⟩
            case measure => simp [RowKit.intOf]
          · rw [MA4.out.2.1] at d5 HM2
            have hix := ix1
            rw [show ((1 : Nat) : Int) = 1 from rfl]
            go_wp2
            go_region_law (first | fail)
            all_goals
              rw [or4 hs07]
              go_simp
              go_wp2
              go_roundw
              case rel => exact ⟨2, by omega, by go_num, by rw [MA4.out.2.2.1]; exact (HM2.out.put _ (style_in hs07 (by simp))).drew⟩
              case measure => simp [RowKit.intOf]
          · rw [MA4.out.2.2.1] at d5 HM2
            have hix := ix2
            rw [show ((2 : Nat) : Int) = 2 from rfl]
            go_wp2
            go_roundw
            case rel => exact ⟨3, by omega, by go_num, by rw [MA4.out.2.2.2]; exact HM2.out⟩
            case measure => simp [RowKit.intOf]
          · rw [MA4.out.2.2.2] at d5 HM2
            rw [show ((3 : Nat) : Int) = 3 from rfl]
            go_wp2
            go_roundw
            case rel => exact ⟨k + 1, by omega, by go_num, by rw [HEND.out]; exact HM2.out⟩
            case measure => simp [RowKit.intOf]; omega
      · go_wp2
        go_loopw [26] (fun i wx => ∃ j : Nat, j ≤ 3 ∧ i = .int .i64 j ∧ Mid p F r c s wt (midS 1 st j) w wx) (fun i _ => 3 - (RowKit.intOf i).toNat)
        case atStart => exact ⟨0, by omega, rfl, by rw [MA1.out.1]; exact HM.out⟩
        case round =>
          obtain ⟨j, hj, rfl, hM2⟩ := hrel
          obtain ⟨d5, e5⟩ := hM2.style
          have HM2 := Lib.hid hM2
          clear hM2
          rcases (show j = 0 ∨ j = 1 ∨ j = 2 ∨ j = 3 by omega) with rfl | rfl | rfl | rfl
          · rw [MA1.out.1] at d5 HM2
            have hix := ix0
            rw [show ((0 : Nat) : Int) = 0 from rfl]
            go_wp2
            go_roundw
            case rel => exact ⟨1, by omega, by go_num, by rw [MA1.out.2.1]; exact HM2.out⟩
            case measure => simp [RowKit.intOf]
          · rw [MA1.out.2.1] at d5 HM2
            have hix := ix1
            rw [show ((1 : Nat) : Int) = 1 from rfl]
            go_wp2
            go_roundw
            case rel => exact ⟨2, by omega, by go_num, by rw [MA1.out.2.2.1]; exact HM2.out⟩
            case measure => simp [RowKit.intOf]
          · rw [MA1.out.2.2.1] at d5 HM2
            have hix := ix2
            rw [show ((2 : Nat) : Int) = 2 from rfl]
            go_wp2
            go_region_law (first | fail)
            all_goals
              rw [or1 hs07]
              go_simp
              go_wp2
              go_roundw
              case rel => exact ⟨3, by omega, by go_num, by rw [MA1.out.2.2.2]; exact (HM2.out.put _ (style_in hs07 (by simp))).drew⟩
              case measure => simp [RowKit.intOf]
          · rw [MA1.out.2.2.2] at d5 HM2
            rw [show ((3 : Nat) : Int) = 3 from rfl]
            go_wp2
            go_roundw
            case rel => exact ⟨k + 1, by omega, by go_num, by rw [HEND.out]; exact HM2.out⟩
            case measure => simp [RowKit.intOf]; omega
    · obtain rfl : k = n := by omega
      have hall : st = ns.foldl styleN s.st := by rw [hst, List.take_of_length_le (by rw [HN.out]; exact Nat.le_refl _)]
      rw [hall] at hM
      have HE := Lib.hid (show Turned p F r c ⟨s.g, s.row, s.col, ns.foldl styleN s.st⟩ wt B w wr from ⟨F, hM.1, fun _ h => .inl h, hM.2.only hpF (hFB p hpF)⟩)
      clear hM hst
      go_wp2
      go_end0
      exact ⟨rfl, HE.out⟩
end Go.Proofs.YtnbpkabnaipimaaGreatDoor
