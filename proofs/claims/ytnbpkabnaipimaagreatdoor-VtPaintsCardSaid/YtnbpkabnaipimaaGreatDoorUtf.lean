/- Contracts of what layer 1 tells: which runes are right (both sides), the bytes of any runes (the reference's). Condition: the runes lie in memory. -/
import Derived.Test.YtnbpkabnaipimaaGreatDoorWidth
import Derived.Shelf.Small.Utf8
import Derived.Shelf.Utf8.AppendRunePlain
namespace Go.Proofs.YtnbpkabnaipimaaGreatDoor
open Go Go.RowKit

theorem validRune (r : Int) (w : World) :
    Calls Tryz.prog 52 #[.int .i32 r] w fun e w' => e = .returned (.bool (Lib.validRune r)) ∧ w = w' := by
  go_enter Tryz.func52, Tryz.ntmps52
  go_wp2
  all_goals (go_ret; refine ⟨ret_bool ?_, rfl⟩; unfold Lib.validRune; rw [Bool.eq_iff_iff]; simp; omega)

theorem right (r : Int) (w : World) :
    Calls Tryz.prog 44 #[.int .i32 r] w fun e w' => e = .returned (.bool (Lib.validRune r)) ∧ w = w' := by
  go_enter Tryz.func44, Tryz.ntmps44
  go_wp2_with (go_at_call 52; refine (validRune _ _).mono ?_; rintro e w' ⟨rfl, rfl⟩)
  go_ret
  exact ⟨rfl, rfl⟩

theorem refRight (r : Int) (w : World) :
    Calls Tryz.prog 31 #[.int .i32 r] w fun e w' => e = .returned (.bool (Lib.validRune r)) ∧ w = w' := by
  go_enter Tryz.func31, Tryz.ntmps31
  go_wp2
  all_goals (go_ret; refine ⟨ret_bool ?_, rfl⟩; unfold Lib.validRune; rw [Bool.eq_iff_iff]; simp; omega)

theorem Tryz.info5 : (Tryz.prog.info? 5).map (fun i => (i.zero, i.size, i.bytes)) = some (some (.int .u8 0), 1, 1) := by kernel_rfl

/-- The bytes of runes, as cells. -/
def encCells (zs : List Int) : List Value := zs.flatMap Lib.runeCells

theorem encCells_snoc (zs : List Int) (k : Nat) (z : Int) (h : zs[k]? = some z) : encCells (zs.take (k + 1)) = encCells (zs.take k) ++ Lib.runeCells z := by
  unfold encCells
  rw [List.take_add_one, h]
  simp

theorem encCells_le (zs : List Int) : (encCells zs).length ≤ 4 * zs.length := by
  induction zs with
  | nil => simp [encCells]
  | cons z r ih =>
    have := (Lib.runeCells_le z).2
    simp only [encCells, List.flatMap_cons, List.length_append, List.length_cons] at ih ⊢
    omega

theorem runeCells_odd {r : Int} (h : Lib.validRune r = false) : Lib.runeCells 65533 = Lib.runeCells r := by
  unfold Lib.validRune at h
  simp only [decide_eq_false_iff_not] at h
  unfold Lib.runeCells
  rw [Lib.encodeRuneZ_bad (r := r) (by omega)]
  rfl

/-- A slice of integers of one kind: what lies in memory. Of an empty one nothing is known but that it is empty. -/
def SeqAt (k : IntKind) (w : World) (a : Option Addr) (n : Nat) (zs : List Int) : Prop :=
  zs.length = n ∧ (n = 0 ∨ ∃ b off, a = some ⟨b, off, none⟩ ∧ b < w.heap.size ∧ ∀ j z, zs[j]? = some z → w.cell? ⟨b, off + j, none⟩ = some (.int k z))

theorem SeqAt.below {k : IntKind} {w w' : World} {a : Option Addr} {n : Nat} {zs : List Int} (h : SeqAt k w a n zs) (hb : Below w.heap.size w w') : SeqAt k w' a n zs := by
  refine ⟨h.1, ?_⟩
  rcases h.2 with h0 | ⟨b, off, rfl, hlt, hc⟩
  · exact .inl h0
  · exact .inr ⟨b, off, rfl, Nat.lt_of_lt_of_le hlt hb.size, fun j z hz => (hb.cell (by exact hlt)).trans (hc j z hz)⟩

theorem valid_iff {r : Int} (h : Lib.validRune r = true) : (0 ≤ r ∧ r < 55296) ∨ (57343 < r ∧ r ≤ 1114111) := by
  unfold Lib.validRune at h
  simpa using h

/-- The reference's bytes of one right rune, in a new block. -/
theorem refOne (r : Int) (w : World) (h : Lib.validRune r = true) :
    Calls Tryz.prog 46 #[.int .i32 r] w fun e w' => e = .returned (.slice (some ⟨w.heap.size, 0, none⟩) (Lib.runeCells r).length (Lib.runeCells r).length) ∧ w' = w.alloc (.cells (Lib.runeCells r).toArray 5) := by
  have hv := valid_iff h
  clear h
  unfold Lib.runeCells
  rcases (show (0 ≤ r ∧ r ≤ 127) ∨ (128 ≤ r ∧ r ≤ 2047) ∨ ((2048 ≤ r ∧ r < 55296) ∨ (57343 < r ∧ r ≤ 65535)) ∨ (65536 ≤ r ∧ r ≤ 1114111) by omega) with h | h | h | h
  · rw [Lib.encodeRuneZ_one h.1 h.2]
    obtain ⟨h1, h2⟩ := h
    clear hv
    go_enter Tryz.func46, Tryz.ntmps46
    go_wp2
    go_ret
    exact ⟨rfl, rfl⟩
  · rw [Lib.encodeRuneZ_two h.1 h.2]
    obtain ⟨h1, h2⟩ := h
    clear hv
    go_enter Tryz.func46, Tryz.ntmps46
    go_wp2
    go_ret
    exact ⟨rfl, rfl⟩
  · rw [Lib.encodeRuneZ_three h]
    have h1 : 2048 ≤ r := by omega
    have h2 : r ≤ 65535 := by omega
    clear hv h
    go_enter Tryz.func46, Tryz.ntmps46
    go_wp2
    go_ret
    exact ⟨rfl, rfl⟩
  · rw [Lib.encodeRuneZ_four h.1 h.2]
    obtain ⟨h1, h2⟩ := h
    clear hv
    go_enter Tryz.func46, Tryz.ntmps46
    go_wp2
    go_ret
    exact ⟨rfl, rfl⟩

theorem new_cells (w : World) (cs : List Value) (e : TypeId) : ∀ j u, cs[j]? = some u → (w.alloc (.cells cs.toArray e)).cell? ((⟨w.heap.size, 0, none⟩ : Addr).add j) = some u := by
  intro j u hj
  have hadd : (⟨w.heap.size, 0, none⟩ : Addr).add j = ⟨w.heap.size, j, none⟩ := by unfold Addr.add; split <;> simp_all
  rw [hadd, cell_of_row _ w.heap.size j cs.toArray e (0, 0) (heap_alloc_new w _)]
  simpa using hj
theorem runeCells_one (r : Int) : ∀ u ∈ Lib.runeCells r, u.oneCell' = true := by
  intro u hu
  unfold Lib.runeCells at hu
  obtain ⟨x, _, rfl⟩ := List.mem_map.1 hu
  rfl

set_option maxHeartbeats 1600000 in
theorem refEncode_cells (b off n cap : Nat) (zs : List Int) (w : World) (hn : n ≤ 1099511627776) (hz : zs.length = n) (hbw : 0 < n → b < w.heap.size)
    (hc : ∀ j z, zs[j]? = some z → w.cell? ⟨b, off + j, none⟩ = some (.int .i32 z)) :
    Calls Tryz.prog 37 #[.slice (some ⟨b, off, none⟩) n cap] w fun e w' =>
      ∃ v, e = .returned v ∧ w'.ownsRow w.heap.size 5 1 v (encCells zs).length (encCells zs) ∧ Below w.heap.size w w' := by
  obtain ⟨i0, hi, hz0, hz1, hz2⟩ := info_parts Tryz.info5
  have HZ := Lib.hid hz; clear hz
  have HC := Lib.hid hc; clear hc
  go_enter Tryz.func37, Tryz.ntmps37
  go_wp2
  go_loopw [3, 4] (fun v i wr => ∃ k : Nat, k ≤ n ∧ i = .int .i64 k ∧ wr.ownsRow w.heap.size 5 1 v (encCells (zs.take k)).length (encCells (zs.take k)) ∧ Below w.heap.size w wr)
    (fun _ i _ => n - (intOf i).toNat)
  case atStart => exact ⟨0, Nat.zero_le _, rfl, World.ownsRow_nil _ _ _ _, Below.refl _ _⟩
  case round =>
    obtain ⟨k, hk, rfl, hown, hbel⟩ := hrel
    by_cases hlt : k < n
    · obtain ⟨z, hz⟩ : ∃ z, zs[k]? = some z := ⟨zs[k]'(by have := HZ.out; omega), by simp⟩
      have hcell : wr.cell? ⟨b, off + k, none⟩ = some (.int .i32 z) := (hbel.cell (by exact hbw (by omega))).trans (HC.out k z hz)
      have hle := encCells_le (zs.take k)
      have hlt2 : (zs.take k).length ≤ k := List.length_take_le _ _
      have hsz := hbel.size
      have HS := Lib.hid (encCells_snoc zs k z hz)
      have HZ2 := Lib.hid hz; clear hz
      have HO := Lib.hid hown; clear hown
      have hr4 := (Lib.runeCells_le z).2
      have hr5 := (Lib.runeCells_le 65533).2
      cases hv : Lib.validRune z
      · have HV := Lib.hid hv
        go_wp2_with (first
          | (go_at_call 31; refine (refRight _ _).mono ?_; rintro e w' ⟨rfl, rfl⟩)
          | (go_at_call 46; refine (refOne _ _ rfl).mono ?_; rintro e w' ⟨rfl, rfl⟩)
          | (at_builtin; refine wpList_append_own _ rfl _ _ 26 rfl w.heap.size 5 i0 (.int .u8 0) 1 1 Tryz.underlying26 hi hz0 hz1 hz2 rfl (by decide) _ _ _ rfl (HO.out.alloc _) ⟨wr.heap.size, 0, none⟩ (Lib.runeCells 65533).length (Lib.runeCells 65533).length (Lib.runeCells 65533) rfl (Nat.mul_one _).symm (new_cells _ _ _) (runeCells_one _) (by unfold maxLen; omega) (by omega) (by simp; omega) ?_))
        intro v' w2 hown' hg _
        have hbel' : Below w.heap.size w w2 := (hbel.alloc (by omega) _).grown hg (by simp; omega) (fun k hk => (HO.out.lt k hk).1)
        rw [runeCells_odd HV.out, ← List.length_append, ← HS.out] at hown'
        have HO2 := Lib.hid hown'; clear hown' hg hcell
        go_wp2
        go_roundw
        case rel => exact ⟨k + 1, by omega, by go_num, HO2.out, hbel'⟩
        case measure => simp [intOf]; omega
      · have HV := Lib.hid hv
        go_wp2_with (first
          | (go_at_call 31; refine (refRight _ _).mono ?_; rintro e w' ⟨rfl, rfl⟩)
          | (go_at_call 46; refine (refOne _ _ HV.out).mono ?_; rintro e w' ⟨rfl, rfl⟩)
          | (at_builtin; refine wpList_append_own _ rfl _ _ 26 rfl w.heap.size 5 i0 (.int .u8 0) 1 1 Tryz.underlying26 hi hz0 hz1 hz2 rfl (by decide) _ _ _ rfl (HO.out.alloc _) ⟨wr.heap.size, 0, none⟩ (Lib.runeCells z).length (Lib.runeCells z).length (Lib.runeCells z) rfl (Nat.mul_one _).symm (new_cells _ _ _) (runeCells_one _) (by unfold maxLen; omega) (by omega) (by simp; omega) ?_))
        intro v' w2 hown' hg _
        have hbel' : Below w.heap.size w w2 := (hbel.alloc (by omega) _).grown hg (by simp; omega) (fun k hk => (HO.out.lt k hk).1)
        rw [← List.length_append, ← HS.out] at hown'
        have HO2 := Lib.hid hown'; clear hown' hg hcell
        go_wp2
        go_roundw
        case rel => exact ⟨k + 1, by omega, by go_num, HO2.out, hbel'⟩
        case measure => simp [intOf]; omega
    · have HO := Lib.hid hown; clear hown
      go_wp2
      go_ret
      have e : zs.take k = zs := List.take_of_length_le (by have := HZ.out; omega)
      have ho := HO.out
      rw [e] at ho
      exact ⟨_, rfl, ho, hbel⟩

theorem refEncode_none (a : Option Addr) (cap : Nat) (w : World) :
    Calls Tryz.prog 37 #[.slice a 0 cap] w fun e w' =>
      ∃ v, e = .returned v ∧ w'.ownsRow w.heap.size 5 1 v 0 [] ∧ Below w.heap.size w w' := by
  go_enter Tryz.func37, Tryz.ntmps37
  go_wp2
  go_loopw [3, 4] (fun v i wr => v = .slice none 0 0 ∧ i = .int .i64 0 ∧ wr = w) (fun _ _ _ => 0)
  case atStart => exact ⟨rfl, rfl, rfl⟩
  case round =>
    obtain ⟨rfl, rfl, rfl⟩ := hrel
    go_wp2
    go_ret
    exact ⟨_, rfl, World.ownsRow_nil _ _ _ _, Below.refl _ _⟩

/-- The reference's Encode: the same bytes, in new memory. -/
theorem refEncode (a : Option Addr) (n cap : Nat) (zs : List Int) (w : World) (hn : n ≤ 1099511627776) (h : SeqAt .i32 w a n zs) :
    Calls Tryz.prog 37 #[.slice a n cap] w fun e w' =>
      ∃ v, e = .returned v ∧ w'.ownsRow w.heap.size 5 1 v (encCells zs).length (encCells zs) ∧ Below w.heap.size w w' := by
  obtain ⟨hl, rfl | ⟨b, off, rfl, hlt, hc⟩⟩ := h
  · obtain rfl : zs = [] := List.eq_nil_of_length_eq_zero hl
    exact refEncode_none a cap w
  · exact refEncode_cells b off n cap zs w hn hl (fun _ => hlt) hc
end Go.Proofs.YtnbpkabnaipimaaGreatDoor
