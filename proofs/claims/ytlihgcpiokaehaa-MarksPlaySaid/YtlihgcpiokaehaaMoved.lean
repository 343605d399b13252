/- Where a range moves, the program's and the reference's. Conditions: the range and the edit may be, not too many runes. -/
import Derived.Test.YtlihgcpiokaehaaBase
import Derived.Deep.RegionHeld3
namespace Go.Proofs.Ytlihgcpiokaehaa
open Go Go.RowKit

/-- What a range moves to: where it begins, where it ends. -/
def mf (f x d : Int) (n : Nat) (l : Bool) : Int := pl f x d n (!l)
def mt (f t x d : Int) (n : Nat) (l r : Bool) : Int := if mf f x d n l < pl t x d n r then pl t x d n r else mf f x d n l

theorem pl_bounds {p x d : Int} {n : Nat} {h : Bool} (hp : 0 ≤ p ∧ p ≤ 2147483648) (hx : 0 ≤ x ∧ 0 ≤ d ∧ x + d ≤ 2147483648) : 0 ≤ pl p x d n h ∧ pl p x d n h ≤ 2147483648 + n := by
  unfold pl
  repeat' split
  all_goals omega

theorem moved (f t x d : Int) (l r : Bool) (a : Option Addr) (n c : Nat) (w : World) (hf : 0 ≤ f ∧ f ≤ t ∧ t ≤ 2147483648) (hx : 0 ≤ x ∧ 0 ≤ d ∧ x + d ≤ 2147483648) (hn : n ≤ 1000000) :
    Calls Try.prog 26 #[.agg #[.int .i64 f, .int .i64 t, .bool l, .bool r], .agg #[.int .i64 x, .int .i64 d, .slice a n c]] w fun e w' => e = .returned (.agg #[.int .i64 (mf f x d n l), .int .i64 (mt f t x d n l r), .bool l, .bool r]) ∧ ∃ o1 o2 o3 o4 o5, w' = (((((w.alloc o1).alloc o2).alloc o3).alloc o4).alloc o5).drew := by
  have P1 := fun w => movedPlace f x d a n c (!l) w (by omega) (by omega) (by omega) (by omega)
  have P2 := fun w => movedPlace t x d a n c r w (by omega) (by omega) (by omega) (by omega)
  have b1 := pl_bounds (h := !l) (n := n) (p := f) (x := x) (d := d) (by omega) hx
  have b2 := pl_bounds (h := r) (n := n) (p := t) (x := x) (d := d) (by omega) hx
  generalize hA : pl f x d n (!l) = A at P1 b1
  generalize hB : pl t x d n r = B at P2 b2
  have HE : mf f x d n l = A := hA
  have HT : mt f t x d n l r = if A < B then B else A := by unfold mt; rw [HE, hB]
  rw [HE, HT]
  have H1 := Lib.hid P1
  have H2 := Lib.hid P2
  clear P1 P2 HE HT hA hB
  go_enter Try.func26, Try.ntmps26
  go_wp2_with fail
  (with_reducible refine (H1.out _).mono ?_)
  rintro e w1 ⟨rfl, rfl⟩
  go_wp2_with fail
  refine wp_region_noPanic ?_
  refine wp_region_held_drew (S := (fun w' => w'.cell? ⟨w.heap.size, 0, none⟩ = some (.int .i64 A) ∧ w'.cell? ⟨w.heap.size, 3, none⟩ = some (.bool r) ∧ w'.cell? ⟨w.heap.size + 1, 0, none⟩ = some (.int .i64 x) ∧ w'.cell? ⟨w.heap.size + 1, 1, none⟩ = some (.int .i64 d) ∧ w'.cell? ⟨w.heap.size + 1, 2, none⟩ = some (.slice a n c))) (by kernel_rfl) ?_ (fun hHeld => ?_)
  · (refine ⟨?_, ?_, ?_, ?_, ?_⟩ <;> go_simp)
  refine wpAnyH_take (i := 0) (oi := { dst := some 15, op := Op.fieldAddr 25 (Operand.tmp 2) 0, type := 0, pos := "range.go:42", after := #[], guard := none }) (v := ?_) rfl (by kernel_rfl) (by kernel_rfl) (by kernel_rfl) (fun _ _ _ h => h) (Or.inl ⟨by rfl, ?_⟩) (by assumption) ?_
  rotate_left
  · (intro w hSw; (try dsimp only at hSw); go_simp; try with_reducible rfl)
  (try simp only [Act.put, List.setIfInBounds_toArray, List.set_cons_zero, List.set_cons_succ])
  refine wpAnyH_take (i := 1) (oi := { dst := some 16, op := Op.fieldAddr 23 (Operand.tmp 15) 0, type := 0, pos := "range.go:42", after := #[{ on := 0, ground := Ground.data }], guard := none }) (v := ?_) rfl (by kernel_rfl) (by kernel_rfl) (by kernel_rfl) (fun _ _ _ h => h) (Or.inl ⟨by rfl, ?_⟩) (by assumption) ?_
  rotate_left
  · (intro w hSw; (try dsimp only at hSw); go_simp; try with_reducible rfl)
  (try simp only [Act.put, List.setIfInBounds_toArray, List.set_cons_zero, List.set_cons_succ])
  refine wpAnyH_take (i := 2) (oi := { dst := some 17, op := Op.load 3 (Operand.tmp 16), type := 3, pos := "range.go:42", after := #[{ on := 1, ground := Ground.data }], guard := none }) (v := ?_) rfl (by kernel_rfl) (by kernel_rfl) (by kernel_rfl) (fun _ _ _ h => h) (Or.inl ⟨by rfl, ?_⟩) (by assumption) ?_
  rotate_left
  · (intro w hSw; (try dsimp only at hSw); go_simp; try with_reducible rfl)
  (try simp only [Act.put, List.setIfInBounds_toArray, List.set_cons_zero, List.set_cons_succ])
  refine wpAnyH_take (i := 3) (oi := { dst := some 18, op := Op.fieldAddr 25 (Operand.tmp 2) 0, type := 0, pos := "range.go:42", after := #[], guard := none }) (v := ?_) rfl (by kernel_rfl) (by kernel_rfl) (by kernel_rfl) (fun _ _ _ h => h) (Or.inl ⟨by rfl, ?_⟩) (by assumption) ?_
  rotate_left
  · (intro w hSw; (try dsimp only at hSw); go_simp; try with_reducible rfl)
  (try simp only [Act.put, List.setIfInBounds_toArray, List.set_cons_zero, List.set_cons_succ])
  refine wpAnyH_take (i := 4) (oi := { dst := some 19, op := Op.fieldAddr 23 (Operand.tmp 18) 1, type := 0, pos := "range.go:42", after := #[{ on := 3, ground := Ground.data }], guard := none }) (v := ?_) rfl (by kernel_rfl) (by kernel_rfl) (by kernel_rfl) (fun _ _ _ h => h) (Or.inl ⟨by rfl, ?_⟩) (by assumption) ?_
  rotate_left
  · (intro w hSw; (try dsimp only at hSw); go_simp; try with_reducible rfl)
  (try simp only [Act.put, List.setIfInBounds_toArray, List.set_cons_zero, List.set_cons_succ])
  refine wpAnyH_take (i := 6) (oi := { dst := some 21, op := Op.load 28 (Operand.tmp 3), type := 28, pos := "range.go:42", after := #[], guard := none }) (v := ?_) rfl (by kernel_rfl) (by kernel_rfl) (by kernel_rfl) (fun _ _ _ h => h) (Or.inl ⟨by rfl, ?_⟩) (by assumption) ?_
  rotate_left
  · (intro w hSw; (try dsimp only at hSw); go_simp; try with_reducible rfl)
  (try simp only [Act.put, List.setIfInBounds_toArray, List.set_cons_zero, List.set_cons_succ])
  refine wpAnyH_take (i := 7) (oi := { dst := some 22, op := Op.fieldAddr 25 (Operand.tmp 2) 2, type := 0, pos := "range.go:42", after := #[], guard := none }) (v := ?_) rfl (by kernel_rfl) (by kernel_rfl) (by kernel_rfl) (fun _ _ _ h => h) (Or.inl ⟨by rfl, ?_⟩) (by assumption) ?_
  rotate_left
  · (intro w hSw; (try dsimp only at hSw); go_simp; try with_reducible rfl)
  (try simp only [Act.put, List.setIfInBounds_toArray, List.set_cons_zero, List.set_cons_succ])
  refine wpAnyH_take (i := 8) (oi := { dst := some 23, op := Op.load 4 (Operand.tmp 22), type := 4, pos := "range.go:42", after := #[{ on := 7, ground := Ground.data }], guard := none }) (v := ?_) rfl (by kernel_rfl) (by kernel_rfl) (by kernel_rfl) (fun _ _ _ h => h) (Or.inl ⟨by rfl, ?_⟩) (by assumption) ?_
  rotate_left
  · (intro w hSw; (try dsimp only at hSw); go_simp; try with_reducible rfl)
  (try simp only [Act.put, List.setIfInBounds_toArray, List.set_cons_zero, List.set_cons_succ])
  refine wpAnyH_ready (rs := [5]) (by kernel_rfl) (by simp) ?_
  refine AllReadyH.cons (o := { dst := some 20, op := Op.load 3 (Operand.tmp 19), type := 3, pos := "range.go:42", after := #[{ on := 4, ground := Ground.data }], guard := none }) rfl (fun K hK => ?_) AllReadyH.nil
  go_simp
  refine hK.out _ _ ?_ (fun hHeld2 => ?_)
  · (refine ⟨?_, ?_, ?_, ?_, ?_⟩ <;> go_simp)
  clear hK K
  (try simp only [Act.put, List.setIfInBounds_toArray, List.set_cons_zero, List.set_cons_succ])
  clear hHeld; have hHeld := hHeld2; clear hHeld2
  refine wpAnyH_ready (rs := [9]) (by kernel_rfl) (by simp) ?_
  refine AllReadyH.cons (o := { dst := some 24, op := Op.call { callee := Callee.value (Operand.func 38), args := #[Operand.tmp 20, Operand.tmp 21, Operand.tmp 23], argTypes := #[3, 28, 4] }, type := 3, pos := "range.go:42", after := #[{ on := 5, ground := Ground.data }, { on := 6, ground := Ground.data }, { on := 8, ground := Ground.data }], guard := none }) rfl (fun K hK => ?_) AllReadyH.nil
  (go_simp; go_at_call 38; (with_reducible refine (H2.out _).mono ?_); rintro e w1 ⟨rfl, rfl⟩; go_wp2_with fail)
  refine hK.out _ _ ?_ (fun hHeld2 => ?_)
  · (refine ⟨?_, ?_, ?_, ?_, ?_⟩ <;> go_simp)
  clear hK K
  (try simp only [Act.put, List.setIfInBounds_toArray, List.set_cons_zero, List.set_cons_succ])
  clear hHeld; have hHeld := hHeld2; clear hHeld2
  refine wpAnyH_ready (rs := [10]) (by kernel_rfl) (by simp) ?_
  refine AllReadyH.cons (o := { dst := some 25, op := Op.call { callee := Callee.builtin Builtin.max, args := #[Operand.tmp 17, Operand.tmp 24], argTypes := #[3, 3] }, type := 3, pos := "range.go:42", after := #[{ on := 2, ground := Ground.data }, { on := 9, ground := Ground.data }], guard := none }) rfl (fun K hK => ?_) AllReadyH.nil
  go_simp
  refine hK.out _ _ ?_ (fun hHeld2 => ?_)
  · (refine ⟨?_, ?_, ?_, ?_, ?_⟩ <;> go_simp)
  clear hK K
  (try simp only [Act.put, List.setIfInBounds_toArray, List.set_cons_zero, List.set_cons_succ])
  clear hHeld; have hHeld := hHeld2; clear hHeld2
  refine wpAnyH_take (i := 11) (oi := { dst := some 26, op := Op.fieldAddr 25 (Operand.tmp 2) 0, type := 0, pos := "range.go:42", after := #[{ on := 0, ground := Ground.phase }, { on := 1, ground := Ground.phase }, { on := 2, ground := Ground.phase }, { on := 3, ground := Ground.phase }, { on := 4, ground := Ground.phase }, { on := 5, ground := Ground.phase }, { on := 6, ground := Ground.phase }, { on := 7, ground := Ground.phase }, { on := 8, ground := Ground.phase }, { on := 9, ground := Ground.phase }, { on := 10, ground := Ground.phase }], guard := none }) (v := ?_) rfl (by kernel_rfl) (by kernel_rfl) (by kernel_rfl) (fun _ _ _ h => h) (Or.inl ⟨by rfl, ?_⟩) (by assumption) ?_
  rotate_left
  · (intro w hSw; (try dsimp only at hSw); go_simp; try with_reducible rfl)
  (try simp only [Act.put, List.setIfInBounds_toArray, List.set_cons_zero, List.set_cons_succ])
  refine wpAnyH_take (i := 12) (oi := { dst := some 27, op := Op.fieldAddr 23 (Operand.tmp 26) 1, type := 0, pos := "range.go:42", after := #[{ on := 11, ground := Ground.data }, { on := 0, ground := Ground.phase }, { on := 1, ground := Ground.phase }, { on := 2, ground := Ground.phase }, { on := 3, ground := Ground.phase }, { on := 4, ground := Ground.phase }, { on := 5, ground := Ground.phase }, { on := 6, ground := Ground.phase }, { on := 7, ground := Ground.phase }, { on := 8, ground := Ground.phase }, { on := 9, ground := Ground.phase }, { on := 10, ground := Ground.phase }], guard := none }) (v := ?_) rfl (by kernel_rfl) (by kernel_rfl) (by kernel_rfl) (fun _ _ _ h => h) (Or.inl ⟨by rfl, ?_⟩) (by assumption) ?_
  rotate_left
  · (intro w hSw; (try dsimp only at hSw); go_simp; try with_reducible rfl)
  (try simp only [Act.put, List.setIfInBounds_toArray, List.set_cons_zero, List.set_cons_succ])
  refine wpAnyH_ready (rs := [13]) (by kernel_rfl) (by simp) ?_
  refine AllReadyH.cons (o := { dst := none, op := Op.store 3 (Operand.tmp 27) (Operand.tmp 25), type := 0, pos := "range.go:42", after := #[{ on := 12, ground := Ground.data }, { on := 10, ground := Ground.data }, { on := 9, ground := Ground.chain }, { on := 0, ground := Ground.phase }, { on := 1, ground := Ground.phase }, { on := 2, ground := Ground.phase }, { on := 3, ground := Ground.phase }, { on := 4, ground := Ground.phase }, { on := 5, ground := Ground.phase }, { on := 6, ground := Ground.phase }, { on := 7, ground := Ground.phase }, { on := 8, ground := Ground.phase }, { on := 9, ground := Ground.phase }, { on := 10, ground := Ground.phase }], guard := none }) rfl (fun K hK => ?_) AllReadyH.nil
  go_simp
  refine hK.out _ _ ?_ (fun hHeld2 => ?_)
  · (refine ⟨?_, ?_, ?_, ?_, ?_⟩ <;> go_simp)
  clear hK K
  (try simp only [Act.put, List.setIfInBounds_toArray, List.set_cons_zero, List.set_cons_succ])
  clear hHeld; have hHeld := hHeld2; clear hHeld2
  refine wpAnyH_done (by kernel_rfl) ?_ _
  refine NoPanic.normal ?_
  clear hHeld
  all_goals go_wp2
  all_goals (try simp only [Exit.inBlock, Exit.then])
  · refine bodyPost_ret (v := .agg #[.int .i64 A, .int .i64 B, .bool l, .bool r]) ?_ rfl ⟨rfl, ?_⟩
    · rw [results_cell1 rfl]
      go_simp
    · exact ⟨_, _, _, _, _, rfl⟩
  · refine bodyPost_ret (v := .agg #[.int .i64 A, .int .i64 A, .bool l, .bool r]) ?_ rfl ⟨rfl, ?_⟩
    · rw [results_cell1 rfl]
      go_simp
    · exact ⟨_, _, _, _, _, rfl⟩

theorem refMove (f t x d : Int) (l r : Bool) (i : Int) (a : Option Addr) (n c : Nat) (w : World) (hf : 0 ≤ f ∧ f ≤ t ∧ t ≤ 2147483648) (hx : 0 ≤ x ∧ 0 ≤ d ∧ x + d ≤ 2147483648) (hn : n ≤ 1000000) :
    Calls Try.prog 11 #[.agg #[.int .i64 f, .int .i64 t, .bool l, .bool r, .int .i64 i], .agg #[.int .i64 x, .int .i64 d, .slice a n c]] w fun e w' => e = .returned (.agg #[.int .i64 (mf f x d n l), .int .i64 (mt f t x d n l r), .bool l, .bool r, .int .i64 i]) ∧ ∃ o1 o2 o3 o4 o5, w' = (((((w.alloc o1).alloc o2).alloc o3).alloc o4).alloc o5) := by
  have P1 := fun w => refPlace f x d a n c (!l) w (by omega) (by omega) (by omega) (by omega)
  have P2 := fun w => refPlace t x d a n c r w (by omega) (by omega) (by omega) (by omega)
  generalize hA : pl f x d n (!l) = A at P1
  generalize hB : pl t x d n r = B at P2
  have HE : mf f x d n l = A := hA
  have HT : mt f t x d n l r = if A < B then B else A := by unfold mt; rw [HE, hB]
  rw [HE, HT]
  clear HT
  obtain ⟨C, hC⟩ : ∃ C, C = if A < B then B else A := ⟨_, rfl⟩
  rw [← hC]
  have H1 := Lib.hid P1
  have H2 := Lib.hid P2
  clear P1 P2 HE hA hB
  go_enter Try.func11, Try.ntmps11
  go_wp2_with fail
  (with_reducible refine (H1.out _).mono ?_)
  rintro e w1 ⟨rfl, rfl⟩
  go_wp2_with fail
  (with_reducible refine (H2.out _).mono ?_)
  rintro e w1 ⟨rfl, rfl⟩
  by_cases hAB : B < A
  · obtain rfl : C = A := by rw [hC, if_neg (by omega)]
    clear hC
    go_wp2
    all_goals (try simp only [Exit.inBlock, Exit.then])
    · refine bodyPost_ret (v := .agg #[.int .i64 C, .int .i64 C, .bool l, .bool r, .int .i64 i]) ?_ rfl ⟨rfl, ?_⟩
      · rw [results_cell1 rfl]
        go_simp
      · exact ⟨_, _, _, _, _, rfl⟩
  · obtain rfl : C = B := by rw [hC]; split <;> omega
    clear hC
    go_wp2
    all_goals (try simp only [Exit.inBlock, Exit.then])
    · refine bodyPost_ret (v := .agg #[.int .i64 A, .int .i64 C, .bool l, .bool r, .int .i64 i]) ?_ rfl ⟨rfl, ?_⟩
      · rw [results_cell1 rfl]
        go_simp
      · exact ⟨_, _, _, _, _, rfl⟩

/-- The program's Move, of what may be. -/
theorem move_yes (f t x d : Int) (l r : Bool) (a : Option Addr) (n c : Nat) (w : World) (hm : may f t = true) (hx : fair x d = true) (hn : n ≤ 1000000) :
    Calls Try.prog 7 #[.agg #[.int .i64 f, .int .i64 t, .bool l, .bool r], .agg #[.int .i64 x, .int .i64 d, .slice a n c]] w fun e w' => e = .returned (.tuple #[.agg #[.int .i64 (mf f x d n l), .int .i64 (mt f t x d n l r), .bool l, .bool r], .int .i64 0]) ∧ Below w.heap.size w w' := by
  have V := valid f t l r
  have E := validEdit x d a n c
  rw [hm] at V
  rw [hx] at E
  have hm' := of_decide_eq_true hm
  have hx' := of_decide_eq_true hx
  have M := moved f t x d l r a n c
  have HV := Lib.hid V
  have HE := Lib.hid E
  have HM := Lib.hid (fun w => M w hm' hx' hn)
  clear V E M hm hx hm' hx'
  go_enter Try.func7, Try.ntmps7
  go_wp2_with fail
  (with_reducible refine (HV.out _).mono ?_)
  rintro e w1 ⟨rfl, rfl⟩
  go_wp2_with fail
  (with_reducible refine (HE.out _).mono ?_)
  rintro e w1 ⟨rfl, rfl⟩
  go_wp2_with fail
  (with_reducible refine (HM.out _).mono ?_)
  rintro e w1 ⟨rfl, o1, o2, o3, o4, o5, rfl⟩
  go_wp2
  (try simp only [Exit.inBlock, Exit.then])
  refine bodyPost_ret (v := .tuple #[.agg #[.int .i64 (mf f x d n l), .int .i64 (mt f t x d n l r), .bool l, .bool r], .int .i64 0]) ?_ rfl ⟨rfl, ?_⟩
  · rw [results_cell_tmp rfl]
    go_simp
  · (repeat' (first | exact Below.refl _ _ | refine Below.drew ?_ | refine Below.alloc ?_ (by simp <;> omega) _))

/-- The program's Move, of what may not be. -/
theorem move_no (f t x d : Int) (l r : Bool) (a : Option Addr) (n c : Nat) (w : World) (h : may f t = false ∨ (may f t = true ∧ fair x d = false)) :
    Calls Try.prog 7 #[.agg #[.int .i64 f, .int .i64 t, .bool l, .bool r], .agg #[.int .i64 x, .int .i64 d, .slice a n c]] w fun e w' => e = .returned (.tuple #[.agg #[.int .i64 0, .int .i64 0, .bool false, .bool false], .int .i64 1]) ∧ Below w.heap.size w w' := by
  have V := valid f t l r
  have E := validEdit x d a n c
  rcases h with h | ⟨h, h'⟩
  · rw [h] at V
    have HV := Lib.hid V
    clear V E h
    go_enter Try.func7, Try.ntmps7
    go_wp2_with fail
    (with_reducible refine (HV.out _).mono ?_)
    rintro e w1 ⟨rfl, rfl⟩
    go_wp2
    (try simp only [Exit.inBlock, Exit.then])
    refine bodyPost_ret (v := .tuple #[.agg #[.int .i64 0, .int .i64 0, .bool false, .bool false], .int .i64 1]) ?_ rfl ⟨rfl, ?_⟩
    · rw [results_cell_tmp rfl]
      go_simp
    · (repeat' (first | exact Below.refl _ _ | refine Below.drew ?_ | refine Below.alloc ?_ (by simp <;> omega) _))
  · rw [h] at V
    rw [h'] at E
    have HV := Lib.hid V
    have HE := Lib.hid E
    clear V E h h'
    go_enter Try.func7, Try.ntmps7
    go_wp2_with fail
    (with_reducible refine (HV.out _).mono ?_)
    rintro e w1 ⟨rfl, rfl⟩
    go_wp2_with fail
    (with_reducible refine (HE.out _).mono ?_)
    rintro e w1 ⟨rfl, rfl⟩
    go_wp2
    (try simp only [Exit.inBlock, Exit.then])
    refine bodyPost_ret (v := .tuple #[.agg #[.int .i64 0, .int .i64 0, .bool false, .bool false], .int .i64 1]) ?_ rfl ⟨rfl, ?_⟩
    · rw [results_cell_tmp rfl]
      go_simp
    · (repeat' (first | exact Below.refl _ _ | refine Below.drew ?_ | refine Below.alloc ?_ (by simp <;> omega) _))
end Go.Proofs.Ytlihgcpiokaehaa
