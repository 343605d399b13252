/- The contracts of valid, behind, list, Len, Lines and between. -/
import Derived.Test.YtlijkejadjkbcaaChop
namespace Go.Proofs.Ytlijkejadjkbcaa
open Go Go.RowKit

theorem valid_none (a : Option Addr) (cap : Nat) (w : World) :
    Calls Try.prog 25 #[.slice a 0 cap] w fun e w' => e = .returned (.bool true) ∧ w = w' := by
  go_enter Try.func25, Try.ntmps25
  go_wp2
  go_loop [7] (fun i => i = .int .i64 0) (fun _ => 0)
  case atStart => rfl
  case round =>
    subst hrel
    go_wp2
    go_ret
    exact ⟨rfl, rfl⟩

theorem valid_cells (b off n cap : Nat) (zs : List Int) (w : World) (hn : n ≤ 1099511627776) (hl : zs.length = n)
    (hc : ∀ j z, zs[j]? = some z → w.cell? ⟨b, off + j, none⟩ = some (.int .i32 z)) :
    Calls Try.prog 25 #[.slice (some ⟨b, off, none⟩) n cap] w fun e w' => e = .returned (.bool (zs.all Lib.validRune)) ∧ w = w' := by
  have HC := Lib.hid hc
  have HL := Lib.hid hl
  clear hc hl
  go_enter Try.func25, Try.ntmps25
  go_wp2
  go_loop [7] (fun i => ∃ k : Nat, k ≤ n ∧ i = .int .i64 k ∧ (zs.take k).all Lib.validRune = true) (fun i => n - (RowKit.intOf i).toNat)
  case atStart => exact ⟨0, Nat.zero_le _, rfl, rfl⟩
  case round =>
    obtain ⟨k, hk, rfl, hall⟩ := hrel
    have HA := Lib.hid hall
    clear hall
    by_cases hlt : k < n
    · obtain ⟨z, hz⟩ : ∃ z, zs[k]? = some z := ⟨zs[k]'(by have := HL.out; omega), by simp⟩
      have c1 := HC.out k z hz
      have hltz : (k : Int) < (n : Int) := by omega
      have HZ := Lib.hid hz
      clear hz
      cases hv : Lib.validRune z
      · have E := Lib.hid (show zs.all Lib.validRune = false by
          rw [List.all_eq_false]
          exact ⟨z, List.mem_of_getElem? HZ.out, by simp [hv]⟩)
        go_wp2_with (go_at_call 36; refine (right _ _).mono ?_; rintro e w' ⟨rfl, rfl⟩)
        go_ret
        exact ⟨ret_bool E.out.symm, rfl⟩
      · have HV := Lib.hid hv
        go_wp2_with (go_at_call 36; refine (right _ _).mono ?_; rintro e w' ⟨rfl, rfl⟩)
        go_round
        case rel =>
          refine ⟨k + 1, by omega, by go_num, ?_⟩
          rw [List.take_add_one, HZ.out, List.all_append, HA.out]
          simp [HV.out]
        case measure => simp [RowKit.intOf]; omega
    · have E := Lib.hid (show zs.all Lib.validRune = true by
        have h := HA.out
        rwa [List.take_of_length_le (by have := HL.out; omega)] at h)
      go_wp2
      go_ret
      exact ⟨ret_bool E.out.symm, rfl⟩

/-- valid: are all runes right? -/
theorem valid (a : Option Addr) (n cap : Nat) (zs : List Int) (w : World) (hn : n ≤ 1099511627776) (h : SeqAt .i32 w a n zs) :
    Calls Try.prog 25 #[.slice a n cap] w fun e w' => e = .returned (.bool (zs.all Lib.validRune)) ∧ w = w' := by
  obtain ⟨hl, rfl | ⟨b, off, rfl, hlt, hc⟩⟩ := h
  · obtain rfl : zs = [] := List.eq_nil_of_length_eq_zero hl
    exact valid_none a cap w
  · exact valid_cells b off n cap zs w hn hl hc

/-- The place just behind so many new lines. -/
def beh : List Int → Nat → Nat
  | _, 0 => 0
  | [], _ + 1 => 0
  | z :: r, q + 1 => 1 + beh r (if z = 10 then q else q + 1)
theorem beh_zero (l : List Int) : beh l 0 = 0 := by cases l <;> rfl
theorem beh_nil (q : Nat) : beh [] q = 0 := by cases q <;> rfl
theorem brk_cons (z : Int) (r : List Int) : brk (z :: r) = (if z = 10 then 1 else 0) + brk r := by
  unfold brk
  by_cases h : z = 10 <;> simp [h]; omega
theorem beh_append (l m : List Int) (q : Nat) : beh (l ++ m) q = if q ≤ brk l then beh l q else l.length + beh m (q - brk l) := by
  induction l generalizing q with
  | nil =>
    cases q with
    | zero => simp [brk_nil, beh_zero]
    | succ q => simp [brk_nil]
  | cons z r ih =>
    cases q with
    | zero => simp [beh_zero]
    | succ q =>
      rw [List.cons_append, beh, ih, brk_cons]
      by_cases h : z = 10
      · simp only [h, if_true]
        by_cases h2 : q ≤ brk r
        · rw [if_pos h2, if_pos (by omega), beh]; simp
        · rw [if_neg h2, if_neg (by omega), List.length_cons, show q + 1 - (1 + brk r) = q - brk r by omega]; omega
      · simp only [h, if_false]
        by_cases h2 : q + 1 ≤ brk r
        · rw [if_pos h2, if_pos (by omega), beh]; simp [h]
        · rw [if_neg h2, if_neg (by omega), List.length_cons, show q + 1 - (0 + brk r) = q + 1 - brk r by omega]; omega
theorem beh_le (l : List Int) (q : Nat) : beh l q ≤ l.length := by
  induction l generalizing q with
  | nil => simp [beh_nil]
  | cons z r ih =>
    cases q with
    | zero => simp [beh_zero]
    | succ q => rw [beh, List.length_cons]; have := ih (if z = 10 then q else q + 1); omega
theorem brk_beh (l : List Int) (q : Nat) (h : q ≤ brk l) : brk (l.take (beh l q)) = q := by
  induction l generalizing q with
  | nil => simp [brk_nil] at h; subst h; rfl
  | cons z r ih =>
    cases q with
    | zero => simp [beh_zero, brk_nil]
    | succ q =>
      rw [brk_cons] at h
      rw [beh, Nat.add_comm, List.take_succ_cons, brk_cons]
      by_cases hz : z = 10
      · simp only [hz, if_true] at h ⊢
        rw [ih q (by omega)]; omega
      · simp only [hz, if_false] at h ⊢
        rw [ih (q + 1) (by omega)]; omega
theorem beh_drop (l : List Int) (k : Nat) (z : Int) (q : Nat) (h : l[k]? = some z) : beh (l.drop k) (q + 1) = 1 + beh (l.drop (k + 1)) (if z = 10 then q else q + 1) := by
  obtain ⟨hlt, rfl⟩ := List.getElem?_eq_some_iff.1 h
  rw [List.drop_eq_getElem_cons hlt, beh]

theorem behind (b off n cap q : Nat) (zs : List Int) (w : World) (hn : n ≤ 2500) (hq : q ≤ 5000) (hl : zs.length = n)
    (hc : ∀ j z, zs[j]? = some z → w.cell? ⟨b, off + j, none⟩ = some (.int .i32 z)) :
    Calls Try.prog 34 #[.slice (some ⟨b, off, none⟩) n cap, .int .i64 q] w fun e w' => e = .returned (.int .i64 (beh zs q)) ∧ w = w' := by
  have HC := Lib.hid hc
  have HL := Lib.hid hl
  clear hc hl
  go_enter Try.func34, Try.ntmps34
  go_wp2
  go_loop [1, 9] (fun v i => ∃ k p : Nat, k ≤ n ∧ p ≤ 5000 ∧ v = .int .i64 p ∧ i = .int .i64 k ∧ k + beh (zs.drop k) p = beh zs q) (fun _ i => n - (RowKit.intOf i).toNat)
  case atStart => exact ⟨0, q, Nat.zero_le _, hq, rfl, rfl, by simp⟩
  case round =>
    obtain ⟨k, p, hk, hp, rfl, rfl, he⟩ := hrel
    by_cases hlt : k < n
    · obtain ⟨z, hz⟩ : ∃ z, zs[k]? = some z := ⟨zs[k]'(by have := HL.out; omega), by simp⟩
      have c1 := HC.out k z hz
      have hltz : (k : Int) < (n : Int) := by omega
      cases p with
      | zero =>
        rw [beh_zero] at he
        have HE := Lib.hid he
        clear he hz
        go_wp2
        go_ret
        exact ⟨by rw [← HE.out]; simp, rfl⟩
      | succ p =>
        rw [beh_drop zs k z p hz] at he
        have hpz : ((p + 1 : Nat) : Int) ≠ 0 := by omega
        by_cases h10 : z = 10
        · rw [if_pos h10] at he
          have HE := Lib.hid he
          clear he hz
          subst h10
          go_wp2
          go_round
          case rel => exact ⟨k + 1, p, by omega, by omega, by go_num, by go_num, by have := HE.out; omega⟩
          case measure => simp [RowKit.intOf]; omega
        · rw [if_neg h10] at he
          have HE := Lib.hid he
          clear he hz
          go_wp2
          go_round
          case rel => exact ⟨k + 1, p + 1, by omega, by omega, by go_num, by go_num, by have := HE.out; omega⟩
          case measure => simp [RowKit.intOf]; omega
    · have E := Lib.hid (show n = beh zs q by
        rw [← he, List.drop_of_length_le (by have := HL.out; omega), beh_nil]; omega)
      clear he
      go_wp2
      go_ret
      exact ⟨by rw [← E.out]; rfl, rfl⟩

/-- A rope in memory. -/
structure RopeAt (w : World) (rb : Nat) (ns : List Nd) : Prop where
  body : ∃ a n cap, w.rowIs rb 56 1 (fun _ => .slice a n cap) ∧ Nodes w (some rb) a n cap ns
  le : (text ns).length ≤ 2000
theorem RopeAt.below {w w' : World} {rb : Nat} {ns : List Nd} (h : RopeAt w rb ns) (hb : Below w.heap.size w w') : RopeAt w' rb ns := by
  obtain ⟨⟨a, n, cap, hr, hN⟩, hl⟩ := h
  exact ⟨⟨a, n, cap, hr.of_block (hb.block rb hr.lt), hN.below hb⟩, hl⟩

theorem list (rb : Nat) (v : Value) (w : World) (h : w.cell? ⟨rb, 0, none⟩ = some v) :
    Calls Try.prog 31 #[.pointer (some ⟨rb, 0, none⟩)] w fun e w' => e = .returned v ∧ w = w' := by
  go_enter Try.func31, Try.ntmps31
  go_wp2
  go_ret
  exact ⟨rfl, rfl⟩
theorem list_nil (w : World) :
    Calls Try.prog 31 #[.pointer none] w fun e w' => e = .returned (.slice none 0 0) ∧ w = w' := by
  go_enter Try.func31, Try.ntmps31
  go_wp2
  go_ret
  exact ⟨rfl, rfl⟩

theorem field0 (x y z : Int) (w : World) : (Instr.field 63 (.agg #[.int .i64 x, .int .i64 y, .int .i64 z]) 0).run Try.prog w = .ok (.int .i64 x) w := by kernel_rfl
theorem field1 (x y z : Int) (w : World) : (Instr.field 63 (.agg #[.int .i64 x, .int .i64 y, .int .i64 z]) 1).run Try.prog w = .ok (.int .i64 y) w := by kernel_rfl
theorem field2 (x y z : Int) (w : World) : (Instr.field 63 (.agg #[.int .i64 x, .int .i64 y, .int .i64 z]) 2).run Try.prog w = .ok (.int .i64 z) w := by kernel_rfl

theorem len (rb : Nat) (ns : List Nd) (w : World) (h : RopeAt w rb ns) :
    Calls Try.prog 22 #[.pointer (some ⟨rb, 0, none⟩)] w fun e w' => e = .returned (.int .i64 (text ns).length) ∧ Below w.heap.size w w' := by
  obtain ⟨⟨a, n, cap, hr, hN⟩, hl⟩ := h
  have hc : w.cell? ⟨rb, 0, none⟩ = some (.slice a n cap) := hr.cell (by omega)
  have CT := Lib.hid (count (some rb) a n cap ns w hN (by omega))
  have LS := Lib.hid (list rb _ w hc)
  clear hr hN hl
  have hfd := field0
  go_enter Try.func22, Try.ntmps22
  go_wp2_with fail
  (with_reducible refine LS.out.mono ?_)
  rintro e w' ⟨rfl, rfl⟩
  go_wp2_with fail
  (with_reducible refine CT.out.mono ?_)
  rintro e w' ⟨rfl, hb⟩
  go_wp2
  go_ret
  exact ⟨rfl, hb⟩
theorem len_nil (w : World) :
    Calls Try.prog 22 #[.pointer none] w fun e w' => e = .returned (.int .i64 0) ∧ Below w.heap.size w w' := by
  have hfd := field0
  go_enter Try.func22, Try.ntmps22
  go_wp2_with fail
  (with_reducible refine (list_nil w).mono ?_)
  rintro e w' ⟨rfl, rfl⟩
  go_wp2_with fail
  (with_reducible refine (count_none none 0 w).mono ?_)
  rintro e w' ⟨rfl, hb⟩
  go_wp2
  go_ret
  exact ⟨rfl, hb⟩
theorem lines (rb : Nat) (ns : List Nd) (w : World) (h : RopeAt w rb ns) :
    Calls Try.prog 23 #[.pointer (some ⟨rb, 0, none⟩)] w fun e w' => e = .returned (.int .i64 (brk (text ns) + 1 : Nat)) ∧ Below w.heap.size w w' := by
  obtain ⟨⟨a, n, cap, hr, hN⟩, hl⟩ := h
  have hc : w.cell? ⟨rb, 0, none⟩ = some (.slice a n cap) := hr.cell (by omega)
  have CT := Lib.hid (count (some rb) a n cap ns w hN (by omega))
  have LS := Lib.hid (list rb _ w hc)
  have hbk := Nat.le_trans (brk_le (text ns)) hl
  clear hr hN hl
  have hfd := field1
  go_enter Try.func23, Try.ntmps23
  go_wp2_with fail
  (with_reducible refine LS.out.mono ?_)
  rintro e w' ⟨rfl, rfl⟩
  go_wp2_with fail
  (with_reducible refine CT.out.mono ?_)
  rintro e w' ⟨rfl, hb⟩
  go_wp2
  go_ret
  exact ⟨by simp, hb⟩
theorem lines_nil (w : World) :
    Calls Try.prog 23 #[.pointer none] w fun e w' => e = .returned (.int .i64 1) ∧ Below w.heap.size w w' := by
  have hfd := field1
  go_enter Try.func23, Try.ntmps23
  go_wp2_with fail
  (with_reducible refine (list_nil w).mono ?_)
  rintro e w' ⟨rfl, rfl⟩
  go_wp2_with fail
  (with_reducible refine (count_none none 0 w).mono ?_)
  rintro e w' ⟨rfl, hb⟩
  go_wp2
  go_ret
  exact ⟨rfl, hb⟩

theorem between (rb : Nat) (ns : List Nd) (x y : Int) (w : World) (h : RopeAt w rb ns) :
    Calls Try.prog 28 #[.pointer (some ⟨rb, 0, none⟩), .int .i64 x, .int .i64 y] w fun e w' => e = .returned (.bool (decide (0 ≤ x ∧ x ≤ y ∧ y ≤ (text ns).length))) ∧ Below w.heap.size w w' := by
  have LN := Lib.hid (len rb ns w h)
  clear h
  by_cases h1 : 0 ≤ x
  · by_cases h2 : x ≤ y
    · go_enter Try.func28, Try.ntmps28
      go_wp2_with fail
      (with_reducible refine LN.out.mono ?_)
      rintro e w' ⟨rfl, hb⟩
      go_wp2
      go_ret
      exact ⟨ret_bool (by simp [h1, h2]), hb⟩
    · have h2' : ¬ x ≤ y := h2
      go_enter Try.func28, Try.ntmps28
      go_wp2
      go_ret
      exact ⟨ret_bool (by simp; omega), Below.refl _ _⟩
  · have h1' : ¬ 0 ≤ x := h1
    go_enter Try.func28, Try.ntmps28
    go_wp2
    go_ret
    exact ⟨ret_bool (by simp; omega), Below.refl _ _⟩
end Go.Proofs.Ytlijkejadjkbcaa
