/- The contract of the program's Add. Conditions: the selections lie in memory, not too many. -/
import Derived.Test.YtdpmkfjomkemhaaNorms
import Derived.Test.YtdpmkfjomkemhaaConcat
import Derived.OwnWalk
namespace Go.Proofs.Ytdpmkfjomkemhaa
open Go Go.RowKit

set_option maxHeartbeats 4000000 in
theorem addAt (a : Option Addr) (n c : Nat) (s : Sl) (m : Int) (ls : List Sl) (w : World) (hn : n ≤ 900) (hno : a = none → n = 0 ∧ c = 0) (hl : RowAt Sl.cells 24 w a n ls) :
    Calls Try.prog 14 #[.slice a n c, .agg #[.int .i64 s.a, .int .i64 s.h], .int .i64 m] w (GotA w (ownOf (if m < 0 then 0 else m) (ls ++ [s]))) := by
  have HL := Lib.hid hl
  have HNO := Lib.hid hno
  clear hl hno
  obtain ⟨M, hM⟩ : ∃ M : Int, M = if m < 0 then 0 else m := ⟨_, rfl⟩
  rw [← hM]
  have HM := Lib.hid hM
  clear hM
  go_enter Try.func14, Try.ntmps14
  go_wp2_with fail
  have B0 := Lib.hid (show Below w.heap.size w (((w.alloc (Obj.cells #[.int .i64 s.a, .int .i64 s.h] 24)).alloc (Obj.cells #[.int .i64 s.a, .int .i64 s.h] 24)).alloc (Obj.cells #[.slice a n c, .slice (some ⟨w.heap.size + 1, 0, none⟩) 1 1] 22)) from
    (((Below.refl _ w).alloc (Nat.le_refl _) _).alloc (by simp) _).alloc (by simp; omega) _)
  have c0 : (((w.alloc (Obj.cells #[.int .i64 s.a, .int .i64 s.h] 24)).alloc (Obj.cells #[.int .i64 s.a, .int .i64 s.h] 24)).alloc (Obj.cells #[.slice a n c, .slice (some ⟨w.heap.size + 1, 0, none⟩) 1 1] 22)).cell? ⟨w.heap.size + 1 + 1, 0, none⟩ = some (.slice a n c) := by go_simp
  have c1 : (((w.alloc (Obj.cells #[.int .i64 s.a, .int .i64 s.h] 24)).alloc (Obj.cells #[.int .i64 s.a, .int .i64 s.h] 24)).alloc (Obj.cells #[.slice a n c, .slice (some ⟨w.heap.size + 1, 0, none⟩) 1 1] 22)).cell? ⟨w.heap.size + 1 + 1, 1, none⟩ = some (.slice (some ⟨w.heap.size + 1, 0, none⟩) 1 1) := by go_simp
  have d0 : (((w.alloc (Obj.cells #[.int .i64 s.a, .int .i64 s.h] 24)).alloc (Obj.cells #[.int .i64 s.a, .int .i64 s.h] 24)).alloc (Obj.cells #[.slice a n c, .slice (some ⟨w.heap.size + 1, 0, none⟩) 1 1] 22)).cell? ⟨w.heap.size + 1, 0, none⟩ = some (.int .i64 s.a) := by go_simp
  have d1 : (((w.alloc (Obj.cells #[.int .i64 s.a, .int .i64 s.h] 24)).alloc (Obj.cells #[.int .i64 s.a, .int .i64 s.h] 24)).alloc (Obj.cells #[.slice a n c, .slice (some ⟨w.heap.size + 1, 0, none⟩) 1 1] 22)).cell? ⟨w.heap.size + 1, 1, none⟩ = some (.int .i64 s.h) := by go_simp
  have hsz : w.heap.size + 1 + 1 < (((w.alloc (Obj.cells #[.int .i64 s.a, .int .i64 s.h] 24)).alloc (Obj.cells #[.int .i64 s.a, .int .i64 s.h] 24)).alloc (Obj.cells #[.slice a n c, .slice (some ⟨w.heap.size + 1, 0, none⟩) 1 1] 22)).heap.size := by simp
  generalize (((w.alloc (Obj.cells #[.int .i64 s.a, .int .i64 s.h] 24)).alloc (Obj.cells #[.int .i64 s.a, .int .i64 s.h] 24)).alloc (Obj.cells #[.slice a n c, .slice (some ⟨w.heap.size + 1, 0, none⟩) 1 1] 22)) = V at *
  have hrow : RowAt Sl.cells 24 V (some ⟨w.heap.size + 1, 0, none⟩) 1 [s] := ⟨rfl, .inr ⟨w.heap.size + 1, 0, rfl, by omega, fun j u hj => by
    rw [flat_one] at hj
    match j, hj with
    | 0, hj => cases hj; exact d0
    | 1, hj => cases hj; exact d1⟩⟩
  have C := Lib.hid (concatAt (w.heap.size + 1 + 1) (w.heap.size + 1) n c a ls s V (by omega) HNO.out (HL.out.below B0.out) hrow hsz c0 c1)
  clear c0 c1 d0 d1 hsz hrow
  (with_reducible refine C.out.mono ?_)
  rintro e w1 ⟨v1, rfl, own1, hb1⟩
  obtain ⟨a1, k1, rfl, _, _, hr1⟩ := own_row sl_len (by decide) own1
  have C2 := Lib.hid (normalAt a1 (n + 1) k1 m (ls ++ [s]) w1 (by omega) hr1)
  rw [← HM.out] at C2
  have B1 := Lib.hid (B0.out.trans (hb1.mono B0.out.size))
  clear own1 hb1 hr1 C
  go_wp2_with fail
  (with_reducible refine C2.out.mono ?_)
  rintro e w2 ⟨v2, out, rfl, hm, own2, hb2⟩
  have B2 := Lib.hid (B1.out.trans (hb2.mono B1.out.size))
  have O2 := Lib.hid (own_mono own2 B1.out.size)
  have HMd := Lib.hid hm
  obtain ⟨a2, k2, rfl, _, _, _⟩ := own_row sl_len (by decide) own2
  clear own2 hb2 hm C2
  by_cases h16 : 16 < out.length
  · have h16z : (16 : Int) < (out.length : Int) := by omega
    go_wp2
    go_ret2
    exact ⟨out, none, 0, 0, HMd.out, B2.out, .inl ⟨h16, rfl, rfl⟩⟩
  · have h16z : ¬ (16 : Int) < (out.length : Int) := by omega
    go_wp2
    go_ret2
    exact ⟨out, a2, out.length, k2, HMd.out, B2.out, .inr ⟨h16, rfl, O2.out, rfl⟩⟩
end Go.Proofs.Ytdpmkfjomkemhaa
