/- That the document's examples hold at this program ('knows'). Condition: the table holds what its initialiser lays. -/
import Derived.Test.YtdeckkmlcbbjcaaDoorWalkC
namespace Go.Proofs.YtdeckkmlcbbjcaaDoor
open Go Go.RowKit

theorem below_new {W w' : World} {o : Obj} (h : Below (W.alloc o).heap.size (W.alloc o) w') : Below W.heap.size W w' :=
  ((Below.refl _ _).alloc (Nat.le_refl _) o).trans (h.mono (by simp))
theorem tab_alloc {W : World} (o : Obj) (hT : Tab W) : Tab (W.alloc o) :=
  hT.below hT.pos ((Below.refl _ _).alloc (Nat.le_refl _) o)
theorem seq3 (W : World) : SeqAt (W.alloc (.cells #[.int .i32 20013, .int .i32 97, .int .i32 769] 21)) (some ⟨W.heap.size, 0, none⟩) 3 [20013, 97, 769] := by
  refine ⟨rfl, .inr ⟨_, _, rfl, by simp, fun j z hz => ?_⟩⟩
  rw [Nat.zero_add, cell_of_row _ W.heap.size j _ 21 (0, 0) (heap_alloc_new W _)]
  match j, hz with
  | 0, hz => simp at hz; subst hz; rfl
  | 1, hz => simp at hz; subst hz; rfl
  | 2, hz => simp at hz; subst hz; rfl
  | (j + 3), hz => simp at hz

theorem of_a (w : World) (hT : Tab w) : Calls Tryd.prog 6 #[.int .i32 20013] w fun e w' => e = .returned (.int .i64 2) ∧ Below w.heap.size w w' := of 20013 w hT
theorem of_b (w : World) (hT : Tab w) : Calls Tryd.prog 6 #[.int .i32 97] w fun e w' => e = .returned (.int .i64 1) ∧ Below w.heap.size w w' := of 97 w hT
theorem of_c (w : World) (hT : Tab w) : Calls Tryd.prog 6 #[.int .i32 769] w fun e w' => e = .returned (.int .i64 0) ∧ Below w.heap.size w w' := of 769 w hT

theorem knows (w : World) (hT : Tab w) :
    Calls Tryd.prog 5 #[] w fun e w' => e = .returned (.bool true) ∧ Below w.heap.size w w' := by
  have hs := seq3 w
  have ht := tab_alloc (.cells #[.int .i32 20013, .int .i32 97, .int .i32 769] 21) hT
  have hp := ht.pos
  have hB := (Below.refl w.heap.size w).alloc (Nat.le_refl _) (.cells #[.int .i32 20013, .int .i32 97, .int .i32 769] 21)
  have HS := Lib.hid hs
  have HT := Lib.hid ht
  have HP := Lib.hid hp
  have HB := Lib.hid hB
  clear hs ht hp hB hT
  go_enter Tryd.func5, Tryd.ntmps5
  go_wp2_with fail
  refine (of_a _ HT.out).mono ?_
  rintro e w1 ⟨rfl, b1⟩
  have B1 := Lib.hid b1
  clear b1
  go_wp2_with fail
  refine (of_b _ (HT.out.below HP.out B1.out)).mono ?_
  rintro e w2 ⟨rfl, b2⟩
  have B2 := Lib.hid (B1.out.trans (b2.mono B1.out.size))
  clear b2
  go_wp2_with fail
  refine (of_c _ (HT.out.below HP.out B2.out)).mono ?_
  rintro e w3 ⟨rfl, b3⟩
  have B3 := Lib.hid (B2.out.trans (b3.mono B2.out.size))
  clear b3
  go_wp2_with fail
  refine (text _ _ _ [20013, 97, 769] _ (by omega) (HT.out.below HP.out B3.out) (HS.out.below (Nat.le_refl _) B3.out)).mono ?_
  rw [show sw [20013, 97, 769] = 3 by decide]
  rintro e w4 ⟨rfl, b4⟩
  have B4 := Lib.hid (B3.out.trans (b4.mono B3.out.size))
  clear b4
  go_wp2_with fail
  refine (fit _ _ _ [20013, 97, 769] _ _ (by omega) (by omega) (HT.out.below HP.out B4.out) (HS.out.below (Nat.le_refl _) B4.out)).mono ?_
  rw [show ((fitZ [20013, 97, 769] 2 : Nat) : Int) = 1 by decide]
  rintro e w5 ⟨rfl, b5⟩
  have B5 := Lib.hid (B4.out.trans (b5.mono B4.out.size))
  clear b5
  go_wp2
  go_ret
  exact ⟨rfl, below_new B5.out⟩
end Go.Proofs.YtdeckkmlcbbjcaaDoor
