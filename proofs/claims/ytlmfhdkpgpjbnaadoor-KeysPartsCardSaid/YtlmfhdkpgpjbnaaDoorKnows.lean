/- The contracts of New, Waiting, Feed of no decoder, and that the document's examples hold. Conditions: three variables of the library's hold something. -/
import Derived.Test.YtlmfhdkpgpjbnaaDoorFeed
import Derived.Lib.SlBytesConst
import Derived.KernelRfl
namespace Go.Proofs.YtlmfhdkpgpjbnaaDoor
open Go Go.RowKit Go.Lib

theorem newAt (w : World) : Calls Tryd.prog 4 #[] w fun e w' => e = .returned (.pointer (some ⟨w.heap.size, 0, none⟩)) ∧ w' = w.alloc (Obj.cells #[.slice none 0 0] 33) := by
  go_enter Tryd.func4, Tryd.ntmps4
  go_wp2
  go_ret
  exact ⟨rfl, rfl⟩
theorem waitingAt (d : Nat) (a : Option Addr) (n c : Nat) (w : World) (h : w.cell? ⟨d, 0, none⟩ = some (.slice a n c)) : Calls Tryd.prog 7 #[.pointer (some ⟨d, 0, none⟩)] w fun e w' => e = .returned (.int .i64 n) ∧ w' = w := by
  go_enter Tryd.func7, Tryd.ntmps7
  go_wp2
  go_ret
  exact ⟨rfl, rfl⟩
theorem feedNone (a : Option Addr) (n c : Nat) (w : World) : Calls Tryd.prog 6 #[.pointer none, .slice a n c] w fun e w' => e = .returned (.slice none 0 0) ∧ w' = w := by
  go_enter Tryd.func6, Tryd.ntmps6
  go_wp2
  go_ret
  exact ⟨rfl, rfl⟩

theorem ex1 : firstP [27, 91, 49, 59, 53, 67, 27, 120] = (⟨9, 0, 4⟩, 6) := by kernel_rfl
theorem ex2 : firstP [27, 120] = (⟨1, 120, 2⟩, 2) := by kernel_rfl
theorem ex3 : firstP [] = (noKy, 0) := by kernel_rfl
theorem exRun : Run [27, 91, 49, 59, 53, 67, 27, 120] [⟨9, 0, 4⟩, ⟨1, 120, 2⟩] [] := by
  have h3 : Run [] [] [] := .done [] (by rw [ex3])
  have h2 := Run.step [27, 120] [] [] (by rw [ex2]; decide) (by rw [ex2]; exact h3)
  rw [ex2] at h2
  have h1 := Run.step [27, 91, 49, 59, 53, 67, 27, 120] _ [] (by rw [ex1]; decide) (by rw [ex1]; exact h2)
  rw [ex1] at h1
  exact h1

/-- A decoder that New made. -/
theorem DecAt.new (w : World) (N : Nat → Prop) : DecAt (w.alloc (Obj.cells #[.slice none 0 0] 33)) w.heap.size [] N :=
  ⟨by simp, by go_simp, none, 0, by go_simp, .inl rfl, Nat.le_refl _, by omega, fun _ => ⟨rfl, rfl⟩, (fun ad h => by cases h), (fun _ ad h => by cases h)⟩
theorem DecAt.below {w w' : World} {d : Nat} {l : List UInt8} {N : Nat → Prop} (h : DecAt w d l N) (hb : Below w.heap.size w w') : DecAt w' d l N := by
  obtain ⟨hl, hf, a, c, h0, h1, h2, h3, h4, h5, h6⟩ := h
  exact ⟨Nat.lt_of_lt_of_le hl hb.size, (hb.frozen (by exact hl)).trans hf, a, c, (hb.cell (by exact hl)).trans h0, h1.below hb, h2, h3, h4, h5, h6⟩

set_option maxHeartbeats 4000000 in
set_option maxRecDepth 100000 in
theorem knowsAt (w : World) (hw : Wd w) : Calls Tryd.prog 5 #[] w fun e w' => e = .returned (.bool true) ∧ Below w.heap.size w w' := by
  have kc := fun (w : World) (C : Array Value) (n c : Nat) => Lib.run_convert_bytes_const (P := Tryd.prog) w 22 5 C n c Tryd.underlying22 Tryd.underlying5
  have kc1 := kc (w.alloc (Obj.cells #[.slice none 0 0] 33)) #[.int .u8 27, .int .u8 91, .int .u8 49, .int .u8 59, .int .u8 53, .int .u8 67, .int .u8 27, .int .u8 120] 8 8
  have e1 : (w.alloc (Obj.cells #[.slice none 0 0] 33)).heap.size = w.heap.size + 1 := by simp
  rw [e1] at kc1
  have B0 := Lib.hid (show Below w.heap.size w (w.alloc (Obj.cells #[.slice none 0 0] 33)) from (Below.refl _ _).alloc (Nat.le_refl _) _)
  have B1 := Lib.hid (show Below (w.alloc (Obj.cells #[.slice none 0 0] 33)).heap.size (w.alloc (Obj.cells #[.slice none 0 0] 33)) ((w.alloc (Obj.cells #[.slice none 0 0] 33)).alloc (Obj.cells #[.int .u8 27, .int .u8 91, .int .u8 49, .int .u8 59, .int .u8 53, .int .u8 67, .int .u8 27, .int .u8 120] 5 (8, 9))) from (Below.refl _ _).alloc (Nat.le_refl _) _)
  have FD := Lib.hid (feedAt (fun _ => True) w.heap.size [] [27, 91, 49, 59, 53, 67, 27, 120] (some ⟨w.heap.size + 1, 0, none⟩) 8 ((w.alloc (Obj.cells #[.slice none 0 0] 33)).alloc (Obj.cells #[.int .u8 27, .int .u8 91, .int .u8 49, .int .u8 59, .int .u8 53, .int .u8 67, .int .u8 27, .int .u8 120] 5 (8, 9))) ((DecAt.new w _).below B1.out)
    (.inr ⟨w.heap.size + 1, 0, rfl, by simp, fun j hj => by
      have hc := World.cell?_alloc_mark (w.alloc (Obj.cells #[.slice none 0 0] 33)) #[.int .u8 27, .int .u8 91, .int .u8 49, .int .u8 59, .int .u8 53, .int .u8 67, .int .u8 27, .int .u8 120] 5 (8, 9) (0 + j)
      rw [e1] at hc
      rw [hc, Nat.zero_add]
      have hj' : j < 8 := hj
      match j, hj' with
      | 0, _ => rfl
      | 1, _ => rfl
      | 2, _ => rfl
      | 3, _ => rfl
      | 4, _ => rfl
      | 5, _ => rfl
      | 6, _ => rfl
      | 7, _ => rfl⟩) (fun h => by cases h) (by simp) (by simp) ((hw.below B0.out).below B1.out))
  clear e1 hw
  go_enter Tryd.func5, Tryd.ntmps5
  go_wp2_with (go_at_call 4; (with_reducible refine (newAt _).mono ?_); rintro e w' ⟨rfl, rfl⟩)
  refine FD.out.mono ?_
  rintro e w3 ⟨v, ks, r, rfl, hrun, own, _, hb3, _⟩
  obtain ⟨rfl, rfl⟩ := hrun.same exRun
  obtain ⟨g, cap, rfl⟩ : ∃ g cap, v = .slice (some ⟨g, 0, none⟩) 2 cap := by
    rcases own.2 with ⟨_, h0⟩ | ⟨g, cap, _, hv, _⟩
    · cases h0
    · exact ⟨g, cap, hv⟩
  have c0 : w3.cell? ⟨g, 0, none⟩ = some (.int .i64 9) := own.cellAt 0 (by decide)
  have c1 : w3.cell? ⟨g, 1, none⟩ = some (.int .i32 0) := own.cellAt 1 (by decide)
  have c2 : w3.cell? ⟨g, 2, none⟩ = some (.int .i64 4) := own.cellAt 2 (by decide)
  have c3 : w3.cell? ⟨g, 3, none⟩ = some (.int .i64 1) := own.cellAt 3 (by decide)
  have c4 : w3.cell? ⟨g, 4, none⟩ = some (.int .i32 120) := own.cellAt 4 (by decide)
  have c5 : w3.cell? ⟨g, 5, none⟩ = some (.int .i64 2) := own.cellAt 5 (by decide)
  have kc2 := kc w3 #[.int .u8 97] 1 1
  have B3 := Lib.hid (show Below w.heap.size w w3 from (B0.out.trans (B1.out.mono (by simp))).trans hb3)
  clear own hb3 hrun kc kc1 FD
  go_wp2_with (go_at_call 6; (with_reducible refine (feedNone _ _ _ _).mono ?_); rintro e w' ⟨rfl, rfl⟩)
  go_ret
  exact ⟨rfl, B3.out.alloc B3.out.size _⟩
end Go.Proofs.YtlmfhdkpgpjbnaaDoor
