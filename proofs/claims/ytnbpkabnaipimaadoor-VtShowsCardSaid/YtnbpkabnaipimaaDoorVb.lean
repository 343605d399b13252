/- The contract of isProperRow: whether cells are whole ones, one behind the other. Conditions: the table of widths lies in the world; the cells lie in memory. -/
import Derived.Test.YtnbpkabnaipimaaDoorVa
import Derived.Test.YtnbpkabnaipimaaDoorWhole
import Derived.Test.YtnbpkabnaipimaaDoorInv
import Derived.Deep.RegionWith
import Derived.BigQuiet
import Derived.Deep.QuietTactic
import Derived.WalkSmall
namespace Go.Proofs.YtnbpkabnaipimaaDoor
open Go Go.RowKit

theorem below_drewN {B : Nat} {a w : World} (h : Below B a w) (n : Nat) : Below B a (w.drewN n) := h.trans ⟨rfl, rfl, rfl, Nat.le_refl _, fun _ _ => rfl⟩
theorem sizeCell : ∀ w : World, (sizeOf (Tryd.prog.elem 22)).run Tryd.prog w = .ok 2 w := fun _ => by kernel_rfl
theorem undCells : Tryd.prog.underlying 22 = some (.slice (Tryd.prog.elem 22)) := by kernel_rfl
/-- What is left of a slice of cells. -/
theorem cut_from (b off m cap i : Nat) (hi : i ≤ m) (hm : m ≤ cap) : ∃ b' off', (∀ w : World, (Instr.slice 22 (.slice (some ⟨b, off, none⟩) m cap) (some (.int .i64 i)) none none).run Tryd.prog w = .ok (.slice (some ⟨b', off', none⟩) (m - i) (cap - i)) w) ∧ (m - i ≠ 0 → b' = b ∧ off' = off + i * 2) := by
  by_cases h : cap = i
  · refine ⟨b, off, fun w => ?_, fun h' => absurd h' (by omega)⟩
    rw [run_slice_l (P := Tryd.prog) w 22 (some ⟨b, off, none⟩) m cap undCells .i64 (i : Int) (by omega) (by omega), sizeCell]
    simp only [Result.andThen, sliced]
    simp [h]
  · refine ⟨b, off + i * 2, fun w => ?_, fun _ => ⟨rfl, rfl⟩⟩
    rw [run_slice_l (P := Tryd.prog) w 22 (some ⟨b, off, none⟩) m cap undCells .i64 (i : Int) (by omega) (by omega), sizeCell]
    simp only [Result.andThen, sliced]
    simp [h, Addr.add_lit]

theorem ok_not {x : Cl} {t : List Cl} (h : okR x.r = false ∨ x.s < 0 ∨ 7 < x.s) : ¬ RowOk wd okR (x :: t) := by
  intro hr
  cases hr with
  | one _ _ h1 _ h3 h4 _ =>
    rcases h with h | h | h
    · rw [h] at h1; cases h1
    · omega
    · omega
  | two _ _ h1 _ h3 h4 _ =>
    rcases h with h | h | h
    · rw [h] at h1; cases h1
    · omega
    · omega
theorem ok_one {x : Cl} {t : List Cl} (h1 : okR x.r = true) (h2 : wd x.r = 1) (h3 : 0 ≤ x.s) (h4 : x.s ≤ 7) : RowOk wd okR (x :: t) ↔ RowOk wd okR t :=
  ⟨fun h => h.tail1 wd okR h2, fun h => .one x t h1 h2 h3 h4 h⟩
theorem ok_two {x y : Cl} {t : List Cl} (h1 : okR x.r = true) (h2 : wd x.r = 2) (h3 : 0 ≤ x.s) (h4 : x.s ≤ 7) : RowOk wd okR (x :: y :: t) ↔ y = ⟨0, x.s⟩ ∧ RowOk wd okR t := by
  constructor
  · intro h
    obtain ⟨u, e, hu⟩ := h.tail2 wd okR h2
    cases e
    exact ⟨rfl, hu⟩
  · rintro ⟨rfl, h⟩
    exact .two x t h1 h2 h3 h4 h
theorem not_two {x : Cl} (h2 : wd x.r = 2) : ¬ RowOk wd okR [x] := by
  intro h
  obtain ⟨u, e, _⟩ := h.tail2 wd okR h2
  cases e

/-- What isProperRow answers. -/
def GotR (l : List Cl) (w : World) (e : Ending) (w' : World) : Prop := ∃ b, e = .returned (.bool b) ∧ (b = true ↔ RowOk wd okR l) ∧ Below w.heap.size w w'

/-- Cells in a block, from a place on. -/
def CellsAt (w : World) (b off : Nat) (l : List Cl) : Prop := ∀ j u, (flat l)[j]? = some u → w.cell? ⟨b, off + j, none⟩ = some u
theorem CellsAt.drop {w : World} {b off i : Nat} {l : List Cl} (h : CellsAt w b off l) : CellsAt w b (off + i * 2) (l.drop i) := by
  intro j u hu
  rw [flat_drop, List.getElem?_drop] at hu
  rw [Nat.add_assoc]
  exact h _ _ hu
theorem CellsAt.below {w w' : World} {b off n : Nat} {l : List Cl} (h : CellsAt w b off l) (hn : b < n) (hb : Below n w w') : CellsAt w' b off l :=
  fun j u hu => (hb.cell (by exact hn)).trans (h j u hu)

set_option maxHeartbeats 4000000 in
set_option maxRecDepth 20000 in
theorem isProperRow (b off n cap : Nat) (l : List Cl) (w : World) (hT : Tab w) (hl : l.length = n) (hn : n ≤ 100000) (hcap : n ≤ cap) (hb : b < w.heap.size) (hc : CellsAt w b off l) :
    Calls Tryd.prog 15 #[.slice (some ⟨b, off, none⟩) n cap] w (GotR l w) := by
  have HT := Lib.hid hT
  have hpos := hT.pos
  have HC := Lib.hid hc
  clear hT hc
  go_enter Tryd.func15, Tryd.ntmps15
  go_wp2
  go_loopw [0] (fun v wr => ∃ rest b' off' c, v = .slice (some ⟨b', off', none⟩) rest.length c ∧ rest.length ≤ c ∧ rest.length ≤ n ∧ (rest.length ≠ 0 → b' = b ∧ CellsAt wr b' off' rest) ∧ (RowOk wd okR l ↔ RowOk wd okR rest) ∧ Below w.heap.size w wr) (fun v _ => match v with | .slice _ k _ => k | _ => 0)
  case atStart => exact ⟨l, b, off, cap, by rw [hl], by omega, by omega, fun _ => ⟨rfl, HC.out⟩, Iff.rfl, Below.refl _ _⟩
  case round =>
    clear HC hl
    obtain ⟨rest, b', off', c, rfl, hrc, hrn, hcells, hiff, hbel⟩ := hrel
    have HB := Lib.hid hbel
    have HI := Lib.hid hiff
    have hsz := hbel.size
    have HTr := Lib.hid (HT.out.below hpos hbel)
    clear hbel hiff
    cases rest with
    | nil =>
      clear hcells
      simp only [List.length_nil] at hrc ⊢
      go_wp2
      go_ret
      exact ⟨true, rfl, ⟨fun _ => HI.out.2 .nil, fun _ => rfl⟩, HB.out⟩
    | cons x t =>
      obtain ⟨hbb, hcx⟩ := hcells (by simp)
      subst hbb
      have hb' : b' < wr.heap.size := Nat.lt_of_lt_of_le hb hsz
      obtain ⟨c0, c1⟩ := clCells (w := wr) (l := x :: t) hcx 0 x rfl
      simp only [Nat.zero_mul, Nat.add_zero] at c0 c1
      have HCX := Lib.hid hcx
      have hm0 : (0 : Int) < ((t.length + 1 : Nat) : Int) := by omega
      simp only [List.length_cons] at hrc hrn ⊢
      clear hcells hcx
      obtain ⟨x, s⟩ := x
      simp only at c0 c1
      have hbW : Below wr.heap.size wr (wr.alloc (Obj.cells #[.int .i32 x, .int .i64 s] 47)) := (Below.refl _ _).alloc (Nat.le_refl _) _
      have BW := Lib.hid hbW
      have HTW := Lib.hid ((HTr.out).below (Nat.lt_of_lt_of_le hpos hsz) hbW)
      have HOF := Lib.hid (of x _ HTW.out)
      have D0 := Lib.hid (show (wr.alloc (Obj.cells #[.int .i32 x, .int .i64 s] 47)).cell? ⟨wr.heap.size, 0, none⟩ = some (.int .i32 x) by go_simp)
      have D1 := Lib.hid (show (wr.alloc (Obj.cells #[.int .i32 x, .int .i64 s] 47)).cell? ⟨wr.heap.size, 1, none⟩ = some (.int .i64 s) by go_simp)
      have HSZ := Lib.hid (show (wr.alloc (Obj.cells #[.int .i32 x, .int .i64 s] 47)).heap.size = wr.heap.size + 1 by simp)
      clear hbW
      go_wp2_with fail
      (with_reducible refine HOF.out.mono ?_)
      rintro e w1 ⟨rfl, hb1⟩
      have B1 := Lib.hid (BW.out.trans (hb1.mono (by rw [HSZ.out]; omega)))
      have d0 := (hb1.cell (p := ⟨wr.heap.size, 0, none⟩) (by rw [HSZ.out]; exact Nat.lt_succ_self _)).trans D0.out
      have E1 := Lib.hid ((hb1.cell (p := ⟨wr.heap.size, 1, none⟩) (by rw [HSZ.out]; exact Nat.lt_succ_self _)).trans D1.out)
      have HSH := Lib.hid (isShown x w1 (HTW.out.below (by rw [HSZ.out]; omega) hb1))
      have hs1 : wr.heap.size + 1 ≤ w1.heap.size := by have := hb1.size; rw [HSZ.out] at this; exact this
      clear hb1 HOF D0 D1 HTW BW
      go_wp2_with fail
      (with_reducible refine HSH.out.mono ?_)
      rintro e w2 ⟨rfl, hb2⟩
      have B2 := Lib.hid (HB.out.trans ((B1.out.trans (hb2.mono (by omega))).mono hsz))
      have BR := Lib.hid (B1.out.trans (hb2.mono (by omega)))
      have d0' := (hb2.cell (p := ⟨wr.heap.size, 0, none⟩) (by exact hs1)).trans d0
      have d1' := (hb2.cell (p := ⟨wr.heap.size, 1, none⟩) (by exact hs1)).trans E1.out
      have hs2 := hb2.size
      clear hb2 HSH d0 E1 B1
      cases hok : okR x
      · have HN := Lib.hid (ok_not (x := ⟨x, s⟩) (t := t) (.inl hok))
        clear hok
        go_wp2
        go_ret
        exact ⟨false, rfl, ⟨fun h => (by cases h), fun h => absurd (HI.out.1 h) HN.out⟩, B2.out⟩
      · by_cases hs0 : s < 0
        · have HN := Lib.hid (ok_not (x := ⟨x, s⟩) (t := t) (.inr (.inl hs0)))
          clear hok
          go_wp2
          go_ret
          exact ⟨false, rfl, ⟨fun h => (by cases h), fun h => absurd (HI.out.1 h) HN.out⟩, B2.out⟩
        · by_cases hs7 : 7 < s
          · have HN := Lib.hid (ok_not (x := ⟨x, s⟩) (t := t) (.inr (.inr hs7)))
            clear hok
            go_wp2
            go_ret
            exact ⟨false, rfl, ⟨fun h => (by cases h), fun h => absurd (HI.out.1 h) HN.out⟩, B2.out⟩
          · rcases okR_wide hok with hw | hw
            · have HN := Lib.hid (ok_one (x := ⟨x, s⟩) (t := t) hok hw (by simpa using hs0) (by simpa using hs7))
              obtain ⟨b2, o2, hsl, hpl⟩ := cut_from b' off' (t.length + 1) c 1 (by omega) hrc
              have hlen1 : t.length + 1 - 1 = t.length := by omega
              rw [hlen1] at hsl hpl
              have hsl' := hsl
              rw [show ((1 : Nat) : Int) = 1 from rfl] at hsl'
              have HPL := Lib.hid hpl
              have hnl : ¬ ((t.length : Int) + 1 < 1) := by omega
              rw [hw]
              clear hok hpl hsl
              go_wp2_with fail
              go_quiet (fail)
              go_wp2
              go_roundw
              case rel => exact ⟨t, b2, o2, c - 1, rfl, by omega, by omega, fun h => ⟨(HPL.out h).1, by
                obtain ⟨e1, e2⟩ := HPL.out h
                rw [e2, e1]
                exact ((HCX.out.drop (i := 1)).below hb' (below_drewN BR.out _))⟩, HI.out.trans HN.out, below_drewN B2.out _⟩
              case measure => (simp; try omega)
            · cases t with
              | nil =>
                have HN := Lib.hid (not_two (x := ⟨x, s⟩) hw)
                rw [hw]
                clear hok
                go_wp2
                go_ret
                exact ⟨false, rfl, ⟨fun h => (by cases h), fun h => absurd (HI.out.1 h) HN.out⟩, B2.out⟩
              | cons y u =>
                have HN := Lib.hid (ok_two (x := ⟨x, s⟩) (y := y) (t := u) hok hw (by simpa using hs0) (by simpa using hs7))
                obtain ⟨y0, y1⟩ := clCells (w := wr) (l := ⟨x, s⟩ :: y :: u) HCX.out 1 y rfl
                rw [Nat.one_mul] at y0 y1
                obtain ⟨y, z⟩ := y
                simp only at y0 y1
                have hlw : wr.heap.size < w2.heap.size := by omega
                have KS := Lib.hid (fun (W : World) (h : Below w2.heap.size w2 W) => (show Below w2.heap.size w2 W ∧ W.cell? ⟨wr.heap.size, 0, none⟩ = some (.int .i32 x) ∧ W.cell? ⟨wr.heap.size, 1, none⟩ = some (.int .i64 s) ∧ W.cell? ⟨b', off' + 2, none⟩ = some (.int .i32 y) ∧ W.cell? ⟨b', off' + 2 + 1, none⟩ = some (.int .i64 z) from
                  ⟨h, (h.cell (by exact hlw)).trans d0', (h.cell (by exact hlw)).trans d1', (h.cell (by show b' < _; omega)).trans ((BR.out.cell (by exact hb')).trans y0), (h.cell (by show b' < _; omega)).trans ((BR.out.cell (by exact hb')).trans y1)⟩))
                rw [hw]
                simp only [List.length_cons] at hrc hrn hm0 ⊢
                have hnl : ¬ (u.length : Int) + 1 + 1 < 2 := by omega
                have hix : (1 : Int) < (u.length : Int) + 1 + 1 := by omega
                by_cases hy : y = 0
                · subst hy
                  by_cases hz : z = s
                  · obtain rfl : s = z := hz.symm
                    clear hz
                    go_wp2_with fail
                    go_region_held3 (fun W => Below w2.heap.size w2 W ∧ W.cell? ⟨wr.heap.size, 0, none⟩ = some (.int .i32 x) ∧ W.cell? ⟨wr.heap.size, 1, none⟩ = some (.int .i64 s) ∧ W.cell? ⟨b', off' + 2, none⟩ = some (.int .i32 0) ∧ W.cell? ⟨b', off' + 2 + 1, none⟩ = some (.int .i64 s))
                      (first | exact KS.out _ (Below.refl _ _).drew | exact KS.out _ (Below.refl _ _) | exact KS.out _ (And.left (a := Below w2.heap.size w2 _) (by assumption)).drew | exact KS.out _ (by assumption) | assumption)
                      (first | (go_at_call 27; (with_reducible refine (second _ _ _).mono ?_); rintro e w' ⟨rfl, hb⟩; have hb := Below.trans (And.left (a := Below w2.heap.size w2 _) (by assumption)) (hb.mono (And.left (a := Below w2.heap.size w2 _) (by assumption)).size)))
                    have hBx := And.left (a := Below w2.heap.size w2 _) (by assumption)
                    obtain ⟨b2, o2, hsl, hpl⟩ := cut_from b' off' (u.length + 1 + 1) c 2 (by omega) hrc
                    have hlen2 : u.length + 1 + 1 - 2 = u.length := by omega
                    rw [hlen2] at hsl hpl
                    rw [show ((2 : Nat) : Int) = 2 from rfl] at hsl
                    have HPL := Lib.hid hpl
                    clear hok hpl
                    have HBX := Lib.hid hBx
                    clear hBx
                    go_wp2
                    go_roundw
                    case rel => exact ⟨u, b2, o2, c - 2, rfl, by omega, by omega, fun h => ⟨(HPL.out h).1, by
                      obtain ⟨e1, e2⟩ := HPL.out h
                      rw [e2, e1]
                      exact ((HCX.out.drop (i := 2)).below hb' (BR.out.trans (HBX.out.mono (by omega))))⟩, HI.out.trans (HN.out.trans ⟨fun h => h.2, fun h => ⟨by first | rfl | trivial, h⟩⟩), B2.out.trans (HBX.out.mono (Nat.le_trans hsz (by omega)))⟩
                    case measure => (simp; try omega)
                  · clear hok
                    go_wp2_with fail
                    go_region_held3 (fun W => Below w2.heap.size w2 W ∧ W.cell? ⟨wr.heap.size, 0, none⟩ = some (.int .i32 x) ∧ W.cell? ⟨wr.heap.size, 1, none⟩ = some (.int .i64 s) ∧ W.cell? ⟨b', off' + 2, none⟩ = some (.int .i32 0) ∧ W.cell? ⟨b', off' + 2 + 1, none⟩ = some (.int .i64 z))
                      (first | exact KS.out _ (Below.refl _ _).drew | exact KS.out _ (Below.refl _ _) | exact KS.out _ (And.left (a := Below w2.heap.size w2 _) (by assumption)).drew | exact KS.out _ (by assumption) | assumption)
                      (first | (go_at_call 27; (with_reducible refine (second _ _ _).mono ?_); rintro e w' ⟨rfl, hb⟩; have hb := Below.trans (And.left (a := Below w2.heap.size w2 _) (by assumption)) (hb.mono (And.left (a := Below w2.heap.size w2 _) (by assumption)).size)))
                    go_wp2
                    go_ret
                    exact ⟨false, rfl, ⟨fun h => (by cases h), fun h => absurd (HN.out.1 (HI.out.1 h)).1 (by simp [hz])⟩, B2.out.trans ((And.left (a := Below w2.heap.size w2 _) (by assumption)).mono (Nat.le_trans hsz (by omega)))⟩
                · clear hok
                  go_wp2_with fail
                  go_region_held3 (fun W => Below w2.heap.size w2 W ∧ W.cell? ⟨wr.heap.size, 0, none⟩ = some (.int .i32 x) ∧ W.cell? ⟨wr.heap.size, 1, none⟩ = some (.int .i64 s) ∧ W.cell? ⟨b', off' + 2, none⟩ = some (.int .i32 y) ∧ W.cell? ⟨b', off' + 2 + 1, none⟩ = some (.int .i64 z))
                    (first | exact KS.out _ (Below.refl _ _).drew | exact KS.out _ (Below.refl _ _) | exact KS.out _ (And.left (a := Below w2.heap.size w2 _) (by assumption)).drew | exact KS.out _ (by assumption) | assumption)
                    (first | (go_at_call 27; (with_reducible refine (second _ _ _).mono ?_); rintro e w' ⟨rfl, hb⟩; have hb := Below.trans (And.left (a := Below w2.heap.size w2 _) (by assumption)) (hb.mono (And.left (a := Below w2.heap.size w2 _) (by assumption)).size)))
                  go_wp2
                  go_ret
                  exact ⟨false, rfl, ⟨fun h => (by cases h), fun h => absurd (HN.out.1 (HI.out.1 h)).1 (by simp [hy])⟩, B2.out.trans ((And.left (a := Below w2.heap.size w2 _) (by assumption)).mono (Nat.le_trans hsz (by omega)))⟩
end Go.Proofs.YtnbpkabnaipimaaDoor
