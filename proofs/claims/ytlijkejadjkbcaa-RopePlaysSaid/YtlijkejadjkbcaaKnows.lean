/- knows: the examples. -/
import Derived.Test.YtlijkejadjkbcaaRopeE
namespace Go.Proofs.Ytlijkejadjkbcaa
open Go Go.RowKit

theorem seq_new (w : World) (zs : List Int) : SeqAt .i32 (w.alloc (Obj.cells (ints zs).toArray 21)) (some ⟨w.heap.size, 0, none⟩) zs.length zs := by
  refine ⟨rfl, .inr ⟨w.heap.size, 0, rfl, by simp, fun j z hz => ?_⟩⟩
  have := new_cells w (ints zs) 21 j (.int .i32 z) (by simp [ints, hz])
  rwa [Addr.add_lit] at this

def exam : List Int := [97, 98, 10, 99]
theorem exam_brk : brk exam = 1 := by decide
theorem exam_beh : beh exam 1 = 3 := by decide
theorem exam_ok : exam.all Lib.validRune = true := by decide

theorem knows (w : World) : Calls Try.prog 6 #[] w fun e w' => e = .returned (.bool true) ∧ Below w.heap.size w w' := by
  have OF := of_good (some ⟨w.heap.size, 0, none⟩) 4 4 exam (w.alloc (Obj.cells (ints exam).toArray 21)) (by omega) (fun h => by cases h) (seq_new w exam) exam_ok
  have e : ints exam = [.int .i32 97, .int .i32 98, .int .i32 10, .int .i32 99] := rfl
  rw [e] at OF
  have OO := Lib.hid OF
  clear OF e
  go_enter Try.func6, Try.ntmps6
  go_wp2_with fail
  (with_reducible refine OO.out.mono ?_)
  rintro e w1 ⟨rb, ns, rfl, R1, t1, hrb, b1⟩
  have B1 := Lib.hid (show Below w.heap.size w w1 from ((Below.refl _ _).alloc (Nat.le_refl _) _).trans (b1.mono (by simp)))
  have ST : Calls Try.prog 20 #[.pointer (some ⟨rb, 0, none⟩), .int .i64 1] w1 fun e w' => e = .returned (.tuple #[.int .i64 3, .int .i64 0]) ∧ Below w1.heap.size w1 w' := by
    have h := start_yes rb ns 1 w1 R1 (by rw [t1]; decide)
    rw [t1, exam_beh] at h
    exact h
  have SS := Lib.hid ST
  have RR := Lib.hid R1
  have T1 := Lib.hid t1
  clear ST R1 t1 b1
  go_wp2_with fail
  (with_reducible refine SS.out.mono ?_)
  rintro e w2 ⟨rfl, b2⟩
  have B2 := Lib.hid b2
  have SN := Lib.hid (slice_nil w2)
  clear b2
  go_wp2_with fail
  (with_reducible refine SN.out.mono ?_)
  rintro e w3 ⟨v, rfl, o3, b3⟩
  obtain ⟨a3, c3, rfl⟩ := own_form2 o3
  have B3 := Lib.hid (B2.out.trans (b3.mono B2.out.size))
  have LI : Calls Try.prog 23 #[.pointer (some ⟨rb, 0, none⟩)] w3 fun e w' => e = .returned (.int .i64 2) ∧ Below w3.heap.size w3 w' := by
    have h := lines rb ns w3 (RR.out.below B3.out)
    rw [T1.out, exam_brk] at h
    exact h
  have LL := Lib.hid LI
  clear LI o3 b3
  go_wp2_with fail
  (with_reducible refine LL.out.mono ?_)
  rintro e w4 ⟨rfl, b4⟩
  have B4 := Lib.hid (B3.out.trans (b4.mono B3.out.size))
  have LN := Lib.hid (lines_nil w4)
  clear b4
  go_wp2_with fail
  (with_reducible refine LN.out.mono ?_)
  rintro e w5 ⟨rfl, b5⟩
  have B5 := Lib.hid (B4.out.trans (b5.mono B4.out.size))
  have IN := Lib.hid (insert_nil 0 none 0 0 w5)
  clear b5
  go_wp2_with fail
  (with_reducible refine IN.out.mono ?_)
  rintro e w' ⟨rfl, rfl⟩
  go_wp2
  go_ret
  exact ⟨rfl, B1.out.trans (B5.out.mono B1.out.size)⟩
end Go.Proofs.Ytlijkejadjkbcaa
