/- Contracts of the functions of layer 1 that the rope reaches: which runes are right, all of them, the bytes of any runes, and whether two lists are the same. Conditions: the runes lie in memory, and there are not more than 2^40 of them. -/
import Derived.Test.YtlijkejadjkbcaaChecked
import Derived.Test.YtlijkejadjkbcaaShelf
import Derived.WalkKit
import Derived.Lib.Small
import Derived.Lib.Hide
import Derived.Deep.QuietTactic
import Derived.BigQuiet
import Derived.WalkSmall
import Derived.Laws.AppendOwnNone
import Derived.ArgAppend
namespace Go.Proofs.Ytlijkejadjkbcaa
open Go Go.RowKit

theorem ret_bool {a b : Bool} (h : a = b) : Ending.returned (.bool a) = .returned (.bool b) := by rw [h]

theorem validRune (r : Int) (w : World) :
    Calls Try.prog 39 #[.int .i32 r] w fun e w' => e = .returned (.bool (Lib.validRune r)) ∧ w = w' := by
  go_enter Try.func39, Try.ntmps39
  go_wp2
  all_goals (go_ret; refine ⟨ret_bool ?_, rfl⟩; unfold Lib.validRune; rw [Bool.eq_iff_iff]; simp; omega)

theorem right (r : Int) (w : World) :
    Calls Try.prog 36 #[.int .i32 r] w fun e w' => e = .returned (.bool (Lib.validRune r)) ∧ w = w' := by
  go_enter Try.func36, Try.ntmps36
  go_wp2_with (go_at_call 39; refine (validRune _ _).mono ?_; rintro e w' ⟨rfl, rfl⟩)
  go_ret
  exact ⟨rfl, rfl⟩

theorem refRight (r : Int) (w : World) :
    Calls Try.prog 35 #[.int .i32 r] w fun e w' => e = .returned (.bool (Lib.validRune r)) ∧ w = w' := by
  go_enter Try.func35, Try.ntmps35
  go_wp2
  all_goals (go_ret; refine ⟨ret_bool ?_, rfl⟩; unfold Lib.validRune; rw [Bool.eq_iff_iff]; simp; omega)

theorem Try.info5 : (Try.prog.info? 5).map (fun i => (i.zero, i.size, i.bytes)) = some (some (.int .u8 0), 1, 1) := by kernel_rfl

/-- utf8.AppendRune, at this program: the library's contract. -/
theorem appendRune (B : Nat) (v : Value) (n : Nat) (xs : List Value) (r : Int) (hr0 : -2147483648 ≤ r) (hr1 : r ≤ 2147483647) (w : World) (hown : w.ownsRow B 5 1 v n xs) (hlen : n + 4 ≤ 140737488355328) (hBw : B ≤ w.heap.size) :
    Calls Try.prog 41 #[v, .int .i32 r] w fun e w' => ∃ v', e = .returned v' ∧ w'.ownsRow B 5 1 v' (n + (Lib.runeCells r).length) (xs ++ Lib.runeCells r) ∧ ∃ o, (w.alloc o).grownBy w' v.ownBlock :=
  Any.utf8_AppendRune_plain Try.lays242 (by kernel_rfl) B v n xs r hr0 hr1 w hown hlen hBw

/-- The bytes of runes, as cells. -/
def encCells (zs : List Int) : List Value := zs.flatMap Lib.runeCells

theorem encCells_snoc (zs : List Int) (k : Nat) (z : Int) (h : zs[k]? = some z) : encCells (zs.take (k + 1)) = encCells (zs.take k) ++ Lib.runeCells z := by
  unfold encCells
  rw [List.take_add_one, h]
  simp

theorem encCells_le (zs : List Int) : (encCells zs).length ≤ 4 * zs.length := by
  induction zs with
  | nil => simp [encCells]
  | cons z r ih =>
    have := (Lib.runeCells_le z).2
    simp only [encCells, List.flatMap_cons, List.length_append, List.length_cons] at ih ⊢
    omega

theorem runeCells_odd {r : Int} (h : Lib.validRune r = false) : Lib.runeCells 65533 = Lib.runeCells r := by
  unfold Lib.validRune at h
  simp only [decide_eq_false_iff_not] at h
  unfold Lib.runeCells
  rw [Lib.encodeRuneZ_bad (r := r) (by omega)]
  rfl

set_option maxHeartbeats 1600000 in
theorem encode_cells (b off n cap : Nat) (zs : List Int) (w : World) (hn : n ≤ 1099511627776) (hz : zs.length = n) (hbw : 0 < n → b < w.heap.size)
    (hb : ∀ z ∈ zs, -2147483648 ≤ z ∧ z ≤ 2147483647)
    (hc : ∀ j z, zs[j]? = some z → w.cell? ⟨b, off + j, none⟩ = some (.int .i32 z)) :
    Calls Try.prog 40 #[.slice (some ⟨b, off, none⟩) n cap] w fun e w' =>
      ∃ v, e = .returned v ∧ w'.ownsRow w.heap.size 5 1 v (encCells zs).length (encCells zs) ∧ Below w.heap.size w w' := by
  obtain ⟨i0, hi, hz0, hz1, hz2⟩ := info_parts Try.info5
  have HZ := Lib.hid hz; clear hz
  have HB := Lib.hid hb; clear hb
  have HC := Lib.hid hc; clear hc
  go_enter Try.func40, Try.ntmps40
  go_wp2_with (at_make; refine wpList_make_own _ rfl _ _ 67 rfl w.heap.size 5 i0 (.int .u8 0) 1 Try.underlying67 hi hz0 hz1 .i64 .i64 _ n rfl rfl rfl (by rw [hz2]; omega) (by unfold maxLen; omega) (Nat.le_refl _) ?_)
  intro w1 hown1 hgrow1
  have HG := Lib.hid hgrow1; clear hgrow1
  go_wp2
  go_loopw [3, 11] (fun v i wr => ∃ k : Nat, k ≤ n ∧ i = .int .i64 k ∧ wr.ownsRow w.heap.size 5 1 v (encCells (zs.take k)).length (encCells (zs.take k)) ∧ Below w.heap.size w wr)
    (fun _ i _ => n - (intOf i).toNat)
  case atStart => exact ⟨0, Nat.zero_le _, rfl, hown1, (Below.refl _ _).grown HG.out (Nat.le_refl _) (by simp)⟩
  case round =>
    obtain ⟨k, hk, rfl, hown, hbel⟩ := hrel
    by_cases hlt : k < n
    · obtain ⟨z, hz⟩ : ∃ z, zs[k]? = some z := ⟨zs[k]'(by have := HZ.out; omega), by simp⟩
      have hzb := HB.out z (List.mem_of_getElem? hz)
      have hcell : wr.cell? ⟨b, off + k, none⟩ = some (.int .i32 z) := (hbel.cell (by exact hbw (by omega))).trans (HC.out k z hz)
      have hle := encCells_le (zs.take k)
      have hlt2 : (zs.take k).length ≤ k := List.length_take_le _ _
      have hsz := hbel.size
      have HS := Lib.hid (encCells_snoc zs k z hz)
      have HZ2 := Lib.hid hz; clear hz
      have HO := Lib.hid hown; clear hown
      cases hv : Lib.validRune z
      · have HV := Lib.hid hv
        go_wp2_with (first
          | (go_at_call 36; refine (right _ _).mono ?_; rintro e w' ⟨rfl, rfl⟩)
          | (go_at_call 41; refine (appendRune w.heap.size _ _ _ 65533 (by decide) (by decide) _ HO.out (by omega) (by omega)).mono ?_))
        rintro e w2 ⟨v', rfl, hown', o, hg⟩
        have hbel' : Below w.heap.size w w2 := (hbel.alloc (by omega) o).grown hg (by simp; omega) (fun k hk => (HO.out.lt k hk).1)
        rw [runeCells_odd HV.out, ← List.length_append, ← HS.out] at hown'
        have HO2 := Lib.hid hown'; clear hown' hg hcell
        go_wp2
        go_roundw
        case rel => exact ⟨k + 1, by omega, by go_num, HO2.out, hbel'⟩
        case measure => simp [intOf]; omega
      · go_wp2_with (first
          | (go_at_call 36; refine (right _ _).mono ?_; rintro e w' ⟨rfl, rfl⟩)
          | (go_at_call 41; refine (appendRune w.heap.size _ _ _ z (by omega) (by omega) _ HO.out (by omega) (by omega)).mono ?_))
        rintro e w2 ⟨v', rfl, hown', o, hg⟩
        have hbel' : Below w.heap.size w w2 := (hbel.alloc (by omega) o).grown hg (by simp; omega) (fun k hk => (HO.out.lt k hk).1)
        rw [← List.length_append, ← HS.out] at hown'
        have HO2 := Lib.hid hown'; clear hown' hg hcell
        go_wp2
        go_roundw
        case rel => exact ⟨k + 1, by omega, by go_num, HO2.out, hbel'⟩
        case measure => simp [intOf]; omega
    · have HO := Lib.hid hown; clear hown
      go_wp2
      go_ret
      have e : zs.take k = zs := List.take_of_length_le (by have := HZ.out; omega)
      have ho := HO.out
      rw [e] at ho
      exact ⟨_, rfl, ho, hbel⟩

/-- A slice of integers of one kind: what lies in memory. Of an empty one nothing is known but that it is empty. -/
def SeqAt (k : IntKind) (w : World) (a : Option Addr) (n : Nat) (zs : List Int) : Prop :=
  zs.length = n ∧ (n = 0 ∨ ∃ b off, a = some ⟨b, off, none⟩ ∧ b < w.heap.size ∧ ∀ j z, zs[j]? = some z → w.cell? ⟨b, off + j, none⟩ = some (.int k z))

theorem SeqAt.below {k : IntKind} {w w' : World} {a : Option Addr} {n : Nat} {zs : List Int} (h : SeqAt k w a n zs) (hb : Below w.heap.size w w') : SeqAt k w' a n zs := by
  refine ⟨h.1, ?_⟩
  rcases h.2 with h0 | ⟨b, off, rfl, hlt, hc⟩
  · exact .inl h0
  · exact .inr ⟨b, off, rfl, Nat.lt_of_lt_of_le hlt hb.size, fun j z hz => (hb.cell (by exact hlt)).trans (hc j z hz)⟩

theorem encode_none (a : Option Addr) (cap : Nat) (w : World) :
    Calls Try.prog 40 #[.slice a 0 cap] w fun e w' =>
      ∃ v, e = .returned v ∧ w'.ownsRow w.heap.size 5 1 v 0 [] ∧ Below w.heap.size w w' := by
  obtain ⟨i0, hi, hz0, hz1, hz2⟩ := info_parts Try.info5
  go_enter Try.func40, Try.ntmps40
  go_wp2_with (at_make; refine wpList_make_own _ rfl _ _ 67 rfl w.heap.size 5 i0 (.int .u8 0) 1 Try.underlying67 hi hz0 hz1 .i64 .i64 _ 0 rfl rfl rfl (by omega) (by unfold maxLen; omega) (Nat.le_refl _) ?_)
  intro w1 hown1 hgrow1
  have HG := Lib.hid hgrow1; clear hgrow1
  have HO := Lib.hid hown1; clear hown1
  go_wp2
  go_loopw [3, 11] (fun v i wr => v = .slice (some ⟨w.heap.size, 0, none⟩) 0 0 ∧ i = .int .i64 0 ∧ wr = w1) (fun _ _ _ => 0)
  case atStart => exact ⟨rfl, rfl, rfl⟩
  case round =>
    obtain ⟨rfl, rfl, rfl⟩ := hrel
    go_wp2
    go_ret
    exact ⟨_, rfl, HO.out, (Below.refl _ _).grown HG.out (Nat.le_refl _) (by simp)⟩

/-- utf.Encode: the bytes of any runes, in new memory. -/
theorem encode (a : Option Addr) (n cap : Nat) (zs : List Int) (w : World) (hn : n ≤ 1099511627776) (h : SeqAt .i32 w a n zs) (hb : ∀ z ∈ zs, -2147483648 ≤ z ∧ z ≤ 2147483647) :
    Calls Try.prog 40 #[.slice a n cap] w fun e w' =>
      ∃ v, e = .returned v ∧ w'.ownsRow w.heap.size 5 1 v (encCells zs).length (encCells zs) ∧ Below w.heap.size w w' := by
  obtain ⟨hl, rfl | ⟨b, off, rfl, hlt, hc⟩⟩ := h
  · obtain rfl : zs = [] := List.eq_nil_of_length_eq_zero hl
    exact encode_none a cap w
  · exact encode_cells b off n cap zs w hn hl (fun _ => hlt) hb hc

theorem valid_iff {r : Int} (h : Lib.validRune r = true) : (0 ≤ r ∧ r < 55296) ∨ (57343 < r ∧ r ≤ 1114111) := by
  unfold Lib.validRune at h
  simpa using h

/-- The reference's bytes of one right rune, in a new block. -/
theorem refOne (r : Int) (w : World) (h : Lib.validRune r = true) :
    Calls Try.prog 38 #[.int .i32 r] w fun e w' => e = .returned (.slice (some ⟨w.heap.size, 0, none⟩) (Lib.runeCells r).length (Lib.runeCells r).length) ∧ w' = w.alloc (.cells (Lib.runeCells r).toArray 5) := by
  have hv := valid_iff h
  clear h
  unfold Lib.runeCells
  rcases (show (0 ≤ r ∧ r ≤ 127) ∨ (128 ≤ r ∧ r ≤ 2047) ∨ ((2048 ≤ r ∧ r < 55296) ∨ (57343 < r ∧ r ≤ 65535)) ∨ (65536 ≤ r ∧ r ≤ 1114111) by omega) with h | h | h | h
  · rw [Lib.encodeRuneZ_one h.1 h.2]
    obtain ⟨h1, h2⟩ := h
    clear hv
    go_enter Try.func38, Try.ntmps38
    go_wp2
    go_ret
    exact ⟨rfl, rfl⟩
  · rw [Lib.encodeRuneZ_two h.1 h.2]
    obtain ⟨h1, h2⟩ := h
    clear hv
    go_enter Try.func38, Try.ntmps38
    go_wp2
    go_ret
    exact ⟨rfl, rfl⟩
  · rw [Lib.encodeRuneZ_three h]
    have h1 : 2048 ≤ r := by omega
    have h2 : r ≤ 65535 := by omega
    clear hv h
    go_enter Try.func38, Try.ntmps38
    go_wp2
    go_ret
    exact ⟨rfl, rfl⟩
  · rw [Lib.encodeRuneZ_four h.1 h.2]
    obtain ⟨h1, h2⟩ := h
    clear hv
    go_enter Try.func38, Try.ntmps38
    go_wp2
    go_ret
    exact ⟨rfl, rfl⟩

theorem new_cells (w : World) (cs : List Value) (e : TypeId) : ∀ j u, cs[j]? = some u → (w.alloc (.cells cs.toArray e)).cell? ((⟨w.heap.size, 0, none⟩ : Addr).add j) = some u := by
  intro j u hj
  have hadd : (⟨w.heap.size, 0, none⟩ : Addr).add j = ⟨w.heap.size, j, none⟩ := by unfold Addr.add; split <;> simp_all
  rw [hadd, cell_of_row _ w.heap.size j cs.toArray e (0, 0) (heap_alloc_new w _)]
  simpa using hj
theorem runeCells_one (r : Int) : ∀ u ∈ Lib.runeCells r, u.oneCell' = true := by
  intro u hu
  unfold Lib.runeCells at hu
  obtain ⟨x, _, rfl⟩ := List.mem_map.1 hu
  rfl

set_option maxHeartbeats 1600000 in
theorem refEncode_cells (b off n cap : Nat) (zs : List Int) (w : World) (hn : n ≤ 1099511627776) (hz : zs.length = n) (hbw : 0 < n → b < w.heap.size)
    (hc : ∀ j z, zs[j]? = some z → w.cell? ⟨b, off + j, none⟩ = some (.int .i32 z)) :
    Calls Try.prog 33 #[.slice (some ⟨b, off, none⟩) n cap] w fun e w' =>
      ∃ v, e = .returned v ∧ w'.ownsRow w.heap.size 5 1 v (encCells zs).length (encCells zs) ∧ Below w.heap.size w w' := by
  obtain ⟨i0, hi, hz0, hz1, hz2⟩ := info_parts Try.info5
  have HZ := Lib.hid hz; clear hz
  have HC := Lib.hid hc; clear hc
  go_enter Try.func33, Try.ntmps33
  go_wp2
  go_loopw [3, 4] (fun v i wr => ∃ k : Nat, k ≤ n ∧ i = .int .i64 k ∧ wr.ownsRow w.heap.size 5 1 v (encCells (zs.take k)).length (encCells (zs.take k)) ∧ Below w.heap.size w wr)
    (fun _ i _ => n - (intOf i).toNat)
  case atStart => exact ⟨0, Nat.zero_le _, rfl, World.ownsRow_nil _ _ _ _, Below.refl _ _⟩
  case round =>
    obtain ⟨k, hk, rfl, hown, hbel⟩ := hrel
    by_cases hlt : k < n
    · obtain ⟨z, hz⟩ : ∃ z, zs[k]? = some z := ⟨zs[k]'(by have := HZ.out; omega), by simp⟩
      have hcell : wr.cell? ⟨b, off + k, none⟩ = some (.int .i32 z) := (hbel.cell (by exact hbw (by omega))).trans (HC.out k z hz)
      have hle := encCells_le (zs.take k)
      have hlt2 : (zs.take k).length ≤ k := List.length_take_le _ _
      have hsz := hbel.size
      have HS := Lib.hid (encCells_snoc zs k z hz)
      have HZ2 := Lib.hid hz; clear hz
      have HO := Lib.hid hown; clear hown
      have hr4 := (Lib.runeCells_le z).2
      have hr5 := (Lib.runeCells_le 65533).2
      cases hv : Lib.validRune z
      · have HV := Lib.hid hv
        go_wp2_with (first
          | (go_at_call 35; refine (refRight _ _).mono ?_; rintro e w' ⟨rfl, rfl⟩)
          | (go_at_call 38; refine (refOne _ _ rfl).mono ?_; rintro e w' ⟨rfl, rfl⟩)
          | (at_builtin; refine wpList_append_own _ rfl _ _ 67 rfl w.heap.size 5 i0 (.int .u8 0) 1 1 Try.underlying67 hi hz0 hz1 hz2 rfl (by decide) _ _ _ rfl (HO.out.alloc _) ⟨wr.heap.size, 0, none⟩ (Lib.runeCells 65533).length (Lib.runeCells 65533).length (Lib.runeCells 65533) rfl (Nat.mul_one _).symm (new_cells _ _ _) (runeCells_one _) (by unfold maxLen; omega) (by omega) (by simp; omega) ?_))
        intro v' w2 hown' hg _
        have hbel' : Below w.heap.size w w2 := (hbel.alloc (by omega) _).grown hg (by simp; omega) (fun k hk => (HO.out.lt k hk).1)
        rw [runeCells_odd HV.out, ← List.length_append, ← HS.out] at hown'
        have HO2 := Lib.hid hown'; clear hown' hg hcell
        go_wp2
        go_roundw
        case rel => exact ⟨k + 1, by omega, by go_num, HO2.out, hbel'⟩
        case measure => simp [intOf]; omega
      · have HV := Lib.hid hv
        go_wp2_with (first
          | (go_at_call 35; refine (refRight _ _).mono ?_; rintro e w' ⟨rfl, rfl⟩)
          | (go_at_call 38; refine (refOne _ _ HV.out).mono ?_; rintro e w' ⟨rfl, rfl⟩)
          | (at_builtin; refine wpList_append_own _ rfl _ _ 67 rfl w.heap.size 5 i0 (.int .u8 0) 1 1 Try.underlying67 hi hz0 hz1 hz2 rfl (by decide) _ _ _ rfl (HO.out.alloc _) ⟨wr.heap.size, 0, none⟩ (Lib.runeCells z).length (Lib.runeCells z).length (Lib.runeCells z) rfl (Nat.mul_one _).symm (new_cells _ _ _) (runeCells_one _) (by unfold maxLen; omega) (by omega) (by simp; omega) ?_))
        intro v' w2 hown' hg _
        have hbel' : Below w.heap.size w w2 := (hbel.alloc (by omega) _).grown hg (by simp; omega) (fun k hk => (HO.out.lt k hk).1)
        rw [← List.length_append, ← HS.out] at hown'
        have HO2 := Lib.hid hown'; clear hown' hg hcell
        go_wp2
        go_roundw
        case rel => exact ⟨k + 1, by omega, by go_num, HO2.out, hbel'⟩
        case measure => simp [intOf]; omega
    · have HO := Lib.hid hown; clear hown
      go_wp2
      go_ret
      have e : zs.take k = zs := List.take_of_length_le (by have := HZ.out; omega)
      have ho := HO.out
      rw [e] at ho
      exact ⟨_, rfl, ho, hbel⟩

theorem refEncode_none (a : Option Addr) (cap : Nat) (w : World) :
    Calls Try.prog 33 #[.slice a 0 cap] w fun e w' =>
      ∃ v, e = .returned v ∧ w'.ownsRow w.heap.size 5 1 v 0 [] ∧ Below w.heap.size w w' := by
  go_enter Try.func33, Try.ntmps33
  go_wp2
  go_loopw [3, 4] (fun v i wr => v = .slice none 0 0 ∧ i = .int .i64 0 ∧ wr = w) (fun _ _ _ => 0)
  case atStart => exact ⟨rfl, rfl, rfl⟩
  case round =>
    obtain ⟨rfl, rfl, rfl⟩ := hrel
    go_wp2
    go_ret
    exact ⟨_, rfl, World.ownsRow_nil _ _ _ _, Below.refl _ _⟩

/-- The reference's Encode: the same bytes, in new memory. -/
theorem refEncode (a : Option Addr) (n cap : Nat) (zs : List Int) (w : World) (hn : n ≤ 1099511627776) (h : SeqAt .i32 w a n zs) :
    Calls Try.prog 33 #[.slice a n cap] w fun e w' =>
      ∃ v, e = .returned v ∧ w'.ownsRow w.heap.size 5 1 v (encCells zs).length (encCells zs) ∧ Below w.heap.size w w' := by
  obtain ⟨hl, rfl | ⟨b, off, rfl, hlt, hc⟩⟩ := h
  · obtain rfl : zs = [] := List.eq_nil_of_length_eq_zero hl
    exact refEncode_none a cap w
  · exact refEncode_cells b off n cap zs w hn hl (fun _ => hlt) hc
theorem all_none (a : Option Addr) (cap : Nat) (w : World) :
    Calls Try.prog 24 #[.slice a 0 cap] w fun e w' => e = .returned (.bool true) ∧ w = w' := by
  go_enter Try.func24, Try.ntmps24
  go_wp2
  go_loop [3] (fun i => i = .int .i64 0) (fun _ => 0)
  case atStart => rfl
  case round =>
    subst hrel
    go_wp2
    go_ret
    exact ⟨rfl, rfl⟩

theorem all_cells (b off n cap : Nat) (zs : List Int) (w : World) (hn : n ≤ 1099511627776) (hl : zs.length = n)
    (hc : ∀ j z, zs[j]? = some z → w.cell? ⟨b, off + j, none⟩ = some (.int .i32 z)) :
    Calls Try.prog 24 #[.slice (some ⟨b, off, none⟩) n cap] w fun e w' => e = .returned (.bool (zs.all Lib.validRune)) ∧ w = w' := by
  have HC := Lib.hid hc
  have HL := Lib.hid hl
  clear hc hl
  go_enter Try.func24, Try.ntmps24
  go_wp2
  go_loop [3] (fun i => ∃ k : Nat, k ≤ n ∧ i = .int .i64 k ∧ (zs.take k).all Lib.validRune = true) (fun i => n - (RowKit.intOf i).toNat)
  case atStart => exact ⟨0, Nat.zero_le _, rfl, rfl⟩
  case round =>
    obtain ⟨k, hk, rfl, hall⟩ := hrel
    have HA := Lib.hid hall
    clear hall
    by_cases hlt : k < n
    · obtain ⟨z, hz⟩ : ∃ z, zs[k]? = some z := ⟨zs[k]'(by have := HL.out; omega), by simp⟩
      have c1 := HC.out k z hz
      have hltz : (k : Int) < (n : Int) := by omega
      have HZ := Lib.hid hz
      clear hz
      cases hv : Lib.validRune z
      · have E := Lib.hid (show zs.all Lib.validRune = false by
          rw [List.all_eq_false]
          exact ⟨z, List.mem_of_getElem? HZ.out, by simp [hv]⟩)
        go_wp2_with (go_at_call 35; refine (refRight _ _).mono ?_; rintro e w' ⟨rfl, rfl⟩)
        go_ret
        exact ⟨ret_bool E.out.symm, rfl⟩
      · have HV := Lib.hid hv
        go_wp2_with (go_at_call 35; refine (refRight _ _).mono ?_; rintro e w' ⟨rfl, rfl⟩)
        go_round
        case rel =>
          refine ⟨k + 1, by omega, by go_num, ?_⟩
          rw [List.take_add_one, HZ.out, List.all_append, HA.out]
          simp [HV.out]
        case measure => simp [RowKit.intOf]; omega
    · have E := Lib.hid (show zs.all Lib.validRune = true by
        have h := HA.out
        rwa [List.take_of_length_le (by have := HL.out; omega)] at h)
      go_wp2
      go_ret
      exact ⟨ret_bool E.out.symm, rfl⟩

theorem all (a : Option Addr) (n cap : Nat) (zs : List Int) (w : World) (hn : n ≤ 1099511627776) (h : SeqAt .i32 w a n zs) :
    Calls Try.prog 24 #[.slice a n cap] w fun e w' => e = .returned (.bool (zs.all Lib.validRune)) ∧ w = w' := by
  obtain ⟨hl, rfl | ⟨b, off, rfl, hlt, hc⟩⟩ := h
  · obtain rfl : zs = [] := List.eq_nil_of_length_eq_zero hl
    exact all_none a cap w
  · exact all_cells b off n cap zs w hn hl hc

/-- append, of bytes that lie in memory or are none, onto a row that the call owns. -/
theorem wpList_append_in {P : Program} (w : World) {ops : Array Oper} {rest : List Oper} {o : Oper} {a : Act} {Q : Exit → Act → World → Prop} (hgd : o.guard = none) (s x : Operand) (t : TypeId)
    (ho : o.op = .call { callee := .builtin .append, args := #[s, x], argTypes := #[t, t] })
    (base : Nat) (e : TypeId) (i : TypeInfo) (z : Value) (bytes : Nat) (ht : P.underlying t = some (.slice e)) (hi : P.info? e = some i) (hz : i.zero = some z)
    (hsize : i.size = 1) (hby : i.bytes = bytes) (hzs : z.cells.size = 1)
    (v : Value) (n : Nat) (xs : List Value) (hs : a.eval s = v) (hown : w.ownsRow base e 1 v n xs)
    (ao : Option Addr) (m c : Nat) (news : List Value) (hx : a.eval x = .slice ao m c) (hno : ao = none → m = 0 ∧ c = 0) (hl : news.length = m) (hnews : ∀ ad, ao = some ad → ∀ j u, news[j]? = some u → w.cell? (ad.add j) = some u) (h1 : ∀ u ∈ news, u.oneCell' = true)
    (h63 : n + m ≤ maxLen) (hbytes : (n + m) * bytes ≤ 140737488355328) (hbase : base ≤ w.heap.size)
    (h : ∀ v' w', w'.ownsRow base e 1 v' (n + m) (xs ++ news) → w.grownBy w' v.ownBlock → wpList P ops Q rest (a.put o.dst v') w') : wpList P ops Q (o :: rest) a w := by
  cases ao with
  | none =>
    obtain ⟨rfl, rfl⟩ := hno rfl
    obtain rfl : news = [] := List.eq_nil_of_length_eq_zero hl
    refine wpList_append_own_none hgd s x t ho base e i 1 ht hi v n xs hs hown hx ?_
    refine h v w (by simpa using hown) ⟨rfl, rfl, rfl, Nat.le_refl _, fun _ _ _ => rfl⟩
  | some ad =>
    exact wpList_append_own w hgd s x t ho base e i z 1 bytes ht hi hz hsize hby hzs (by decide) v n xs hs hown ad m c news hx (by omega) (hnews ad rfl) h1 h63 hbytes hbase fun v' w' a b _ => h v' w' a b

open Go.Lib

theorem same_none (a c : Option Addr) (cap cap' : Nat) (w : World) :
    Calls Try.prog 15 #[.slice a 0 cap, .slice c 0 cap'] w fun e w' => e = .returned (.bool true) ∧ Below w.heap.size w w' := by
  go_enter Try.func15, Try.ntmps15
  go_wp2
  go_loop [5] (fun i => i = .int .i64 0) (fun _ => 0)
  case atStart => rfl
  case round =>
    subst hrel
    go_wp2
    go_ret
    exact ⟨rfl, Below.refl _ _⟩

set_option maxHeartbeats 1000000 in
theorem same_cells (b off b' off' n cap cap' : Nat) (zs : List Int) (w : World) (hn : n ≤ 1099511627776) (hl : zs.length = n) (hb : b < w.heap.size) (hb' : b' < w.heap.size)
    (hc : ∀ j z, zs[j]? = some z → w.cell? ⟨b, off + j, none⟩ = some (.int .i32 z)) (hc' : ∀ j z, zs[j]? = some z → w.cell? ⟨b', off' + j, none⟩ = some (.int .i32 z)) :
    Calls Try.prog 15 #[.slice (some ⟨b, off, none⟩) n cap, .slice (some ⟨b', off', none⟩) n cap'] w fun e w' => e = .returned (.bool true) ∧ Below w.heap.size w w' := by
  have HC := Lib.hid hc
  have HC' := Lib.hid hc'
  have HL := Lib.hid hl
  clear hc hc' hl
  go_enter Try.func15, Try.ntmps15
  go_wp2
  go_loopw [5] (fun i wr => ∃ k : Nat, k ≤ n ∧ i = .int .i64 k ∧ Below w.heap.size w wr) (fun i _ => n - (RowKit.intOf i).toNat)
  case atStart => exact ⟨0, Nat.zero_le _, rfl, Below.refl _ _⟩
  case round =>
    obtain ⟨k, hk, rfl, hbel⟩ := hrel
    have HB := Lib.hid hbel
    by_cases hlt : k < n
    · obtain ⟨z, hz⟩ : ∃ z, zs[k]? = some z := ⟨zs[k]'(by have := HL.out; omega), by simp⟩
      have c1 : wr.cell? ⟨b, off + k, none⟩ = some (.int .i32 z) := (hbel.cell (by exact hb)).trans (HC.out k z hz)
      have c2 : wr.cell? ⟨b', off' + k, none⟩ = some (.int .i32 z) := (hbel.cell (by exact hb')).trans (HC'.out k z hz)
      have hltz : (k : Int) < (n : Int) := by omega
      have hk0 : (0 : Int) ≤ (k : Int) := by omega
      clear hbel hz
      go_wp2_with fail
      go_quiet (fail)
      go_wp2
      go_roundw
      case rel => exact ⟨k + 1, by omega, by go_num, below_drewN HB.out _⟩
      case measure => simp [RowKit.intOf]; omega
    · clear hbel
      go_wp2
      go_ret
      exact ⟨rfl, HB.out⟩

/-- Same, at slices that hold the same runes. -/
theorem same (a c : Option Addr) (n cap cap' : Nat) (zs : List Int) (w : World) (hn : n ≤ 1099511627776) (h : SeqAt .i32 w a n zs) (h' : SeqAt .i32 w c n zs) :
    Calls Try.prog 15 #[.slice a n cap, .slice c n cap'] w fun e w' => e = .returned (.bool true) ∧ Below w.heap.size w w' := by
  by_cases h0 : n = 0
  · subst h0
    exact same_none a c cap cap' w
  · obtain ⟨hl, h1⟩ := h
    obtain ⟨_, h2⟩ := h'
    rcases h1 with h1 | ⟨b, off, rfl, hlt, hc⟩
    · exact absurd h1 h0
    · rcases h2 with h2 | ⟨b', off', rfl, hlt', hc'⟩
      · exact absurd h2 h0
      · exact same_cells b off b' off' n cap cap' zs w hn hl hlt hlt' hc hc'

theorem own_seq {w : World} {B n : Nat} {v : Value} {zs : List Int} (h : w.ownsRow B 21 1 v n (zs.map (fun x => Value.int .i32 x))) : ∃ a cap, v = .slice a n cap ∧ n ≤ cap ∧ SeqAt .i32 w a n zs := by
  have hl := h.1
  simp at hl
  rcases h.2 with ⟨rfl, rfl⟩ | ⟨g, cap, cur, rfl, hB, hg, hc, _⟩
  · exact ⟨none, 0, rfl, Nat.le_refl _, by simpa using hl, .inl rfl⟩
  · refine ⟨_, cap, rfl, hc, by omega, .inr ⟨g, 0, rfl, (Array.getElem?_eq_some_iff.1 hg).1, fun j z hz => ?_⟩⟩
    have := h.cells (g := g) rfl j (.int .i32 z) (by simp [hz])
    rwa [Addr.add_lit] at this
end Go.Proofs.Ytlijkejadjkbcaa
