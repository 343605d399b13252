/- The law VtShows over contracts of the program's functions. Conditions: the grids' cells lie in memory. -/
import Derived.Test.YtnbpkabnaipimaaDoorTerm
namespace Go.Proofs.YtnbpkabnaipimaaDoor
open Go Go.RowKit Go.Lib

theorem only_kept {F : Nat → Prop} {B : Nat} {V w w' : World} (h : Below B V w) (k : Only F B w w') : Below B V w' := h.trans k.below
/-- Proper, where the answer is known. -/
theorem proper_is {Wd : World → Prop} (S : Said Wd) (R C : Int) (a : Option Addr) (n cap : Nat) (l : List Cl) (b : Bool) (hb : b = true ↔ Prp R C l) (V W : World) (hV : Below V.heap.size V W) (hw : Wd W) (hn : n ≤ 300) (hc : n ≤ cap) (hl : RowAt W a n l) :
    Calls Tryd.prog 4 #[GridV R C a n cap] W fun e w' => e = .returned (.bool b) ∧ Below V.heap.size V w' :=
  (S.proper R C a n cap l W hw (by omega) hc hl).mono fun e w' ⟨x, he, hi, hbw⟩ => ⟨by
    rw [he]
    exact ret_bool (by rw [Bool.eq_iff_iff, hi, hb]), hV.trans (hbw.mono hV.size)⟩

theorem paintP_le (same : Bool) (rows cols : Nat) (f t : List Cl) (hr : rows ≤ 60) (hc : cols ≤ 60) : (paintP same rows cols f t).length ≤ 60000 := by
  have := rowsP_le same cols f t rows hc
  unfold paintP
  rw [List.length_append]
  split
  · simp; omega
  · simp [clearB]; omega

section
variable {Wd : World → Prop} {Trm : World → Nat → (Nat → Prop) → Nat → Nat → Scr → List Int → Prop} (S : Said Wd)
include S
theorem shows_long (R C : Int) (fa : Option Addr) (fn fc : Nat) (Q D : Int) (ta : Option Addr) (tn tc : Nat) (cu : Int) (w : World) (hw : Wd w) (h : 300 < fn ∨ 300 < tn) :
    Calls Tryd.prog 3 #[GridV R C fa fn fc, GridV Q D ta tn tc, .int .u16 cu] w fun e w' => e = .returned (.bool true) ∧ Below w.heap.size w w' := by
  have HW := Lib.hid hw
  have HS := Lib.hid S
  clear S hw
  have hb : ∀ o1 o2, Below w.heap.size w ((w.alloc o1).alloc o2) := fun o1 o2 => ((Below.refl _ _).alloc (Nat.le_refl _) o1).alloc (by simp) o2
  have HB := Lib.hid hb
  clear hb
  by_cases h1 : (300 : Int) < (fn : Int)
  · go_enter Tryd.func3, Tryd.ntmps3
    go_wp2_with (go_at_call 5; refine (HS.out.knows _ (HS.out.keep HW.out (HB.out _ _))).mono ?_; rintro e w' ⟨rfl, hb⟩)
    go_ret
    exact ⟨rfl, (HB.out _ _).trans (hb.mono (by simp; omega))⟩
  · have h2 : (300 : Int) < (tn : Int) := by omega
    go_enter Tryd.func3, Tryd.ntmps3
    go_wp2_with (go_at_call 5; refine (HS.out.knows _ (HS.out.keep HW.out (HB.out _ _))).mono ?_; rintro e w' ⟨rfl, hb⟩)
    go_ret
    exact ⟨rfl, (HB.out _ _).trans (hb.mono (by simp; omega))⟩

set_option maxHeartbeats 8000000 in
set_option maxRecDepth 20000 in
theorem shows_bad (R C : Int) (fa : Option Addr) (fn fc : Nat) (f : List Cl) (Q D : Int) (ta : Option Addr) (tn tc : Nat) (t : List Cl) (cu : Int) (w : World) (hw : Wd w) (h1 : fn ≤ 300) (h2 : tn ≤ 300) (hfc : fn ≤ fc) (htc : tn ≤ tc) (hf : RowAt w fa fn f) (ht : RowAt w ta tn t) (hbad : ¬ (Prp R C f ∧ Prp Q D t)) :
    Calls Tryd.prog 3 #[GridV R C fa fn fc, GridV Q D ta tn tc, .int .u16 cu] w fun e w' => e = .returned (.bool true) ∧ Below w.heap.size w w' := by
  have HW := Lib.hid hw
  have HS := Lib.hid S
  have HF := Lib.hid hf
  have HT := Lib.hid ht
  clear S hw hf ht
  have h1' : ¬ (300 : Int) < (fn : Int) := by omega
  have h2' : ¬ (300 : Int) < (tn : Int) := by omega
  obtain ⟨V, hV⟩ : ∃ V, V = (w.alloc (Obj.cells #[.int .i64 R, .int .i64 C, .slice fa fn fc] 24)).alloc (Obj.cells #[.int .i64 Q, .int .i64 D, .slice ta tn tc] 24) := ⟨_, rfl⟩
  have hbV : Below w.heap.size w V := by rw [hV]; exact ((Below.refl _ _).alloc (Nat.le_refl _) _).alloc (by simp) _
  have x0 : V.cell? ⟨w.heap.size, 0, none⟩ = some (.int .i64 R) := by rw [hV]; go_simp
  have x1 : V.cell? ⟨w.heap.size, 1, none⟩ = some (.int .i64 C) := by rw [hV]; go_simp
  have x2 : V.cell? ⟨w.heap.size, 2, none⟩ = some (.slice fa fn fc) := by rw [hV]; go_simp
  have y0 : V.cell? ⟨w.heap.size + 1, 0, none⟩ = some (.int .i64 Q) := by rw [hV]; go_simp
  have y1 : V.cell? ⟨w.heap.size + 1, 1, none⟩ = some (.int .i64 D) := by rw [hV]; go_simp
  have y2 : V.cell? ⟨w.heap.size + 1, 2, none⟩ = some (.slice ta tn tc) := by rw [hV]; go_simp
  have hsV : w.heap.size + 2 = V.heap.size := by rw [hV]; simp
  have HC := Lib.hid (show ∀ W : World, Below V.heap.size V W → (W.cell? ⟨w.heap.size, 0, none⟩ = some (.int .i64 R) ∧ W.cell? ⟨w.heap.size, 1, none⟩ = some (.int .i64 C) ∧ W.cell? ⟨w.heap.size, 2, none⟩ = some (.slice fa fn fc)) ∧ W.cell? ⟨w.heap.size + 1, 0, none⟩ = some (.int .i64 Q) ∧ W.cell? ⟨w.heap.size + 1, 1, none⟩ = some (.int .i64 D) ∧ W.cell? ⟨w.heap.size + 1, 2, none⟩ = some (.slice ta tn tc) from fun W hb =>
    ⟨⟨(hb.cell (by show w.heap.size < _; omega)).trans x0, (hb.cell (by show w.heap.size < _; omega)).trans x1, (hb.cell (by show w.heap.size < _; omega)).trans x2⟩, (hb.cell (by show w.heap.size + 1 < _; omega)).trans y0, (hb.cell (by show w.heap.size + 1 < _; omega)).trans y1, (hb.cell (by show w.heap.size + 1 < _; omega)).trans y2⟩)
  have HBV := Lib.hid hbV
  have HWV := Lib.hid (HS.out.keep HW.out hbV)
  have HFV := Lib.hid (HF.out.below hbV)
  have HTV := Lib.hid (HT.out.below hbV)
  clear hbV x0 x1 x2 y0 y1 y2 HF HT HW
  obtain ⟨⟨x0, x1, x2⟩, y0, y1, y2⟩ := HC.out V (Below.refl _ _)
  have KN := Lib.hid (show ∀ W, Below V.heap.size V W → Calls Tryd.prog 5 #[] W fun e w' => e = .returned (.bool true) ∧ Below V.heap.size V w' from fun W hb =>
    (HS.out.knows W (HS.out.keep HWV.out hb)).mono fun e w' ⟨he, hbw⟩ => ⟨he, hb.trans (hbw.mono hb.size)⟩)
  by_cases hpf : Prp R C f
  · have hpt : ¬ Prp Q D t := fun h => hbad ⟨hpf, h⟩
    have KF := Lib.hid (fun (W : World) (hb : Below V.heap.size V W) => proper_is HS.out R C fa fn fc f true ⟨fun _ => hpf, fun _ => rfl⟩ V W hb (HS.out.keep HWV.out hb) h1 hfc (HFV.out.below hb))
    have KT := Lib.hid (fun (W : World) (hb : Below V.heap.size V W) => proper_is HS.out Q D ta tn tc t false ⟨fun h => (by cases h), fun h => absurd h hpt⟩ V W hb (HS.out.keep HWV.out hb) h2 htc (HTV.out.below hb))
    clear hpf hpt hbad
    go_enter Tryd.func3, Tryd.ntmps3
    go_wp2_with fail
    rw [← hV]
    clear hV
    (with_reducible refine (KF.out _ (Below.refl _ _)).mono ?_)
    rintro e w1 ⟨rfl, hb1⟩
    have HB1 := Lib.hid hb1
    obtain ⟨⟨a0, a1, a2⟩, b0, b1, b2⟩ := HC.out w1 hb1
    clear hb1 x0 x1 x2 y0 y1 y2
    go_wp2_with (first
      | (go_at_call 4; (with_reducible refine (KT.out _ HB1.out).mono ?_); rintro e w2 ⟨rfl, hb2⟩)
      | (go_at_call 5; (with_reducible refine (KN.out _ hb2).mono ?_); rintro e w3 ⟨rfl, hb3⟩))
    go_ret
    exact ⟨rfl, HBV.out.trans (hb3.mono (by omega))⟩
  · have KF := Lib.hid (fun (W : World) (hb : Below V.heap.size V W) => proper_is HS.out R C fa fn fc f false ⟨fun h => (by cases h), fun h => absurd h hpf⟩ V W hb (HS.out.keep HWV.out hb) h1 hfc (HFV.out.below hb))
    clear hpf hbad
    go_enter Tryd.func3, Tryd.ntmps3
    go_wp2_with fail
    rw [← hV]
    clear hV
    (with_reducible refine (KF.out _ (Below.refl _ _)).mono ?_)
    rintro e w1 ⟨rfl, hb1⟩
    go_wp2_with (go_at_call 5; (with_reducible refine (KN.out _ hb1).mono ?_); rintro e w3 ⟨rfl, hb3⟩)
    go_ret
    exact ⟨rfl, HBV.out.trans (hb3.mono (by omega))⟩
end
end Go.Proofs.YtnbpkabnaipimaaDoor
