/- The contract of the reference's Paint: the bytes that make one grid of another one. Conditions: both grids' cells lie in memory; the second one is proper. -/
import Derived.Test.YtnbpkabnaipimaaGreatDoorRefProper
import Derived.Test.YtnbpkabnaipimaaGreatDoorRow
namespace Go.Proofs.YtnbpkabnaipimaaGreatDoor
open Go Go.RowKit

/-- A row of a grid's cells. -/
def rowAt (cols : Nat) (l : List Cl) (r : Nat) : List Cl := (l.drop (r * cols)).take cols
/-- The bytes of one row, where it is written. -/
def rowP (same : Bool) (cols : Nat) (f t : List Cl) (r : Nat) : List Int := if same = true ∧ rowAt cols f r = rowAt cols t r then [] else headB r ++ rowB none (rowAt cols t r)
def rowsP (same : Bool) (cols : Nat) (f t : List Cl) (n : Nat) : List Int := (List.range n).flatMap (rowP same cols f t)
def paintP (same : Bool) (rows cols : Nat) (f t : List Cl) : List Int := (if same = true then [] else clearB) ++ rowsP same cols f t rows
theorem rowsP_succ (same : Bool) (cols : Nat) (f t : List Cl) (n : Nat) : rowsP same cols f t (n + 1) = rowsP same cols f t n ++ rowP same cols f t n := by
  unfold rowsP
  rw [List.range_succ, List.flatMap_append]
  simp
theorem rowAt_len {rows cols : Nat} {l : List Cl} {r : Nat} (h : r < rows) (hl : l.length = rows * cols) : (rowAt cols l r).length = cols := row_len h hl
theorem rowP_le (same : Bool) (cols : Nat) (f t : List Cl) (r : Nat) : (rowP same cols f t r).length ≤ 7 + 14 * cols := by
  unfold rowP
  split
  · simp
  · have h1 := rowB_le none (rowAt cols t r)
    have h2 : (rowAt cols t r).length ≤ cols := List.length_take_le _ _
    have h3 := digits_le ((r : Int) + 1)
    simp only [List.length_append, headB, List.length_cons, List.length_nil]
    omega
theorem rowsP_le (same : Bool) (cols : Nat) (f t : List Cl) (n : Nat) (hc : cols ≤ 60) : (rowsP same cols f t n).length ≤ n * 847 := by
  induction n with
  | zero => simp [rowsP]
  | succ n ih =>
    have := rowP_le same cols f t n
    rw [rowsP_succ, List.length_append]
    omega
/-- Rows are the same as far as their cells are. -/
def upto (f t : List Cl) (q k : Nat) : Bool := decide ((f.drop q).take k = (t.drop q).take k)
theorem upto_zero (f t : List Cl) (q : Nat) : upto f t q 0 = true := by simp [upto]
theorem upto_succ {f t : List Cl} {q k : Nat} {x y : Cl} (hx : f[q + k]? = some x) (hy : t[q + k]? = some y) : upto f t q (k + 1) = (upto f t q k && decide (x = y)) := by
  have h1 : (f.drop q).take (k + 1) = (f.drop q).take k ++ [x] := by rw [List.take_add_one, List.getElem?_drop, hx]; rfl
  have h2 : (t.drop q).take (k + 1) = (t.drop q).take k ++ [y] := by rw [List.take_add_one, List.getElem?_drop, hy]; rfl
  have hl : ((f.drop q).take k).length = ((t.drop q).take k).length := by
    have a := (List.getElem?_eq_some_iff.1 hx).1
    have b := (List.getElem?_eq_some_iff.1 hy).1
    rw [List.length_take, List.length_take, List.length_drop, List.length_drop]
    omega
  unfold upto
  rw [h1, h2, Bool.eq_iff_iff]
  simp only [decide_eq_true_eq, Bool.and_eq_true]
  constructor
  · intro h
    have := List.append_inj h hl
    exact ⟨this.1, by simpa using this.2⟩
  · rintro ⟨h, rfl⟩
    rw [h]

/-- What is painted so far. -/
def outB (same : Bool) (cols : Nat) (f t : List Cl) (n : Nat) : List Value := byV ((if same = true then [] else clearB) ++ rowsP same cols f t n)

theorem upto_end {f t : List Cl} {q j k : Nat} (h : upto f t q j = false) (hj : j ≤ k) : upto f t q k = false := by
  unfold upto at *
  simp only [decide_eq_false_iff_not] at *
  intro e
  apply h
  have := congrArg (List.take j) e
  simpa [List.take_take, Nat.min_eq_left hj] using this
theorem upto_row (f t : List Cl) (cols r : Nat) : upto f t (r * cols) cols = decide (rowAt cols f r = rowAt cols t r) := rfl
theorem outB_same {same : Bool} {cols : Nat} {f t : List Cl} {k : Nat} (h : (same && upto f t (k * cols) cols) = true) : outB same cols f t (k + 1) = outB same cols f t k := by
  simp only [Bool.and_eq_true] at h
  unfold outB
  rw [rowsP_succ]
  have : rowP same cols f t k = [] := by
    unfold rowP
    rw [upto_row] at h
    rw [if_pos ⟨h.1, by simpa using h.2⟩]
  rw [this, List.append_nil]
theorem outB_new {same : Bool} {cols : Nat} {f t : List Cl} {k : Nat} (h : (same && upto f t (k * cols) cols) = false) : outB same cols f t k ++ byV (headB k ++ rowB none (rowAt cols t k)) = outB same cols f t (k + 1) := by
  unfold outB
  rw [rowsP_succ]
  have : rowP same cols f t k = headB k ++ rowB none (rowAt cols t k) := by
    unfold rowP
    rw [if_neg]
    rintro ⟨h1, h2⟩
    rw [upto_row, h1, h2] at h
    simp at h
  rw [this]
  simp only [byV_append, List.append_assoc]
theorem outB_le (same : Bool) (cols : Nat) (f t : List Cl) (n : Nat) (hc : cols ≤ 60) : (outB same cols f t n).length ≤ 4 + n * 847 := by
  have := rowsP_le same cols f t n hc
  unfold outB
  rw [byV_len, List.length_append]
  split
  · simp; omega
  · simp [clearB]; omega
theorem row_cells {w : World} {b off cols r : Nat} {t : List Cl} (h : ∀ j u, (flat t)[j]? = some u → w.cell? ⟨b, off + j, none⟩ = some u) : ∀ j u, (flat (rowAt cols t r))[j]? = some u → w.cell? ⟨b, (off + r * cols * 2) + j, none⟩ = some u := by
  intro j u hj
  unfold rowAt at hj
  rw [flat_take, flat_drop, List.getElem?_take] at hj
  split at hj
  · rw [List.getElem?_drop] at hj
    have := h _ _ hj
    rw [Nat.add_assoc]
    exact this
  · cases hj
theorem mem_rowAt {cols r : Nat} {t : List Cl} {c : Cl} (h : c ∈ rowAt cols t r) : c ∈ t := List.mem_of_mem_drop (List.mem_of_mem_take h)

set_option maxHeartbeats 8000000 in
set_option maxRecDepth 20000 in
theorem refPaint (fa : Option Addr) (fn fc : Nat) (f : List Cl) (tb toff tn tc : Nat) (t : List Cl) (rows cols : Nat) (alike same : Bool) (w : World)
    (hr : 1 ≤ rows ∧ rows ≤ 60) (hc : 1 ≤ cols ∧ cols ≤ 60) (htn : tn = rows * cols) (htc : tn ≤ tc) (hfn : fn ≤ 100000) (hs : same = (alike && decide (fn = tn)))
    (hf : RowAt w fa fn f) (htl : t.length = tn) (htb : tb < w.heap.size) (ht : ∀ j u, (flat t)[j]? = some u → w.cell? ⟨tb, toff + j, none⟩ = some u)
    (hall : ∀ c ∈ t, mayR c.r ∧ 0 ≤ c.s ∧ c.s ≤ 7) :
    Calls Tryz.prog 9 #[.slice fa fn fc, .slice (some ⟨tb, toff, none⟩) tn tc, .int .i64 rows, .int .i64 cols, .bool alike] w fun e w' => ∃ v, e = .returned v ∧ w'.ownsRow w.heap.size 5 1 v (byV (paintP same rows cols f t)).length (byV (paintP same rows cols f t)) ∧ Below w.heap.size w w' := by
  obtain ⟨i0, hi, hz0, hz1, hz2⟩ := info_parts Tryz.info5
  have HF := Lib.hid hf
  have HT := Lib.hid ht
  have HA := Lib.hid hall
  have HL := Lib.hid htl
  clear hf ht hall htl
  obtain ⟨hr1, hr2⟩ := hr
  obtain ⟨hc1, hc2⟩ := hc
  have htn36 : tn ≤ 3600 := by rw [htn]; exact Nat.mul_le_mul hr2 hc2
  have HTN := Lib.hid htn
  clear htn
  go_enter Tryz.func9, Tryz.ntmps9
  cases same
  · cases alike
    · clear hs
      go_wp2_with (at_builtin; refine wpList_append_own _ rfl _ _ 26 rfl w.heap.size 5 i0 (.int .u8 0) 1 1 Tryz.underlying26 hi hz0 hz1 hz2 rfl (by decide) _ _ _ rfl (World.ownsRow_nil _ _ _ _) ⟨w.heap.size, 0, none⟩ 4 4 (byV [27, 91, 50, 74]) rfl rfl (new_cells _ _ _) (byV_one _) (by unfold maxLen; omega) (by omega) (by simp) ?_)
      intro v1 w1 hown1 hg _
      have HBS := Lib.hid (show Below w.heap.size w w1 from ((Below.refl _ _).alloc (Nat.le_refl _) _).grown hg (by simp) (fun k hk => by cases hk))
      have HOS := Lib.hid (own_as (ys := outB false cols f t 0) hown1 rfl)
      clear hown1 hg
      go_wp2
      go_loopw [11, 12] (fun o i wr => ∃ k : Nat, k ≤ rows ∧ i = .int .i64 k ∧ wr.ownsRow w.heap.size 5 1 o (outB false cols f t k).length (outB false cols f t k) ∧ Below w.heap.size w wr)
        (fun _ i _ => rows - (intOf i).toNat)
      case atStart => exact ⟨0, Nat.zero_le _, rfl, HOS.out, HBS.out⟩
      case round =>
        obtain ⟨W0, hW0⟩ : ∃ W0, W0 = wr := ⟨_, rfl⟩
        subst hW0
        obtain ⟨k, hk, rfl, hown, hbel⟩ := hrel
        have hsz := hbel.size
        have HO := Lib.hid hown
        have HB := Lib.hid hbel
        have hole := outB_le false cols f t k hc2
        clear hown hbel
        by_cases hlt : k < rows
        · obtain ⟨q, hq⟩ : ∃ q, q = k * cols := ⟨_, rfl⟩
          have hq0 : (k : Int) * (cols : Int) = (q : Int) := by rw [hq]; rfl
          have hqr : q + cols ≤ tn := by
            rw [HTN.out, hq]
            have := Nat.mul_le_mul_right cols (show k + 1 ≤ rows by omega)
            rw [Nat.succ_mul] at this
            exact this
          have hwq : IntKind.i64.wrap (q : Int) = (q : Int) := IntWalk.i64_in _ (by omega)
          have HQ := Lib.hid hq
          clear hq
          go_wp2_with fail
          go_loopw [13, 14] (fun s i W => ∃ j : Nat, j ≤ cols ∧ i = .int .i64 j ∧ s = .bool (false && upto f t q j) ∧ Below W0.heap.size W0 W) (fun _ i _ => cols - (intOf i).toNat)
          case atStart => exact ⟨0, Nat.zero_le _, rfl, by rw [upto_zero]; rfl, Below.refl _ _⟩
          case round =>
            obtain ⟨j, hj, rfl, rfl, hbW⟩ := hrel
            have hsW := hbW.size
            have HW := Lib.hid hbW
            clear hbW
            rw [show (false && upto f t q j) = false from rfl]
            have hfin : (false && upto f t (k * cols) cols) = false := rfl
            by_cases hjc : j < cols
            · skip
              have HRW := Lib.hid (row w.heap.size _ _ _ (k : Int) (by omega) (by omega) tb (toff + q * 2) cols (tc - q) (rowAt cols t k) (rowAt_len hlt (by rw [HL.out, HTN.out])) (by omega) wr htb (by omega) (by rw [HQ.out]; exact row_cells (fun j u hu => (HW.out.cell (by show tb < _; omega)).trans ((HB.out.cell (by exact htb)).trans (HT.out j u hu)))) (fun c hc => HA.out c (mem_rowAt hc)) (own_below HO.out HW.out) (by omega))
              obtain ⟨q2, hq2⟩ : ∃ q2, q2 = q + cols := ⟨_, rfl⟩
              have hk1 : ((k : Int) + 1) * (cols : Int) = (q2 : Int) := by rw [Int.add_mul, hq0]; omega
              have hwq2 : IntKind.i64.wrap (q2 : Int) = (q2 : Int) := IntWalk.i64_in _ (by omega)
              have hd2 : q2 - q = cols := by omega
              have hq2t : (q2 : Int) ≤ (tc : Int) := by omega
              have hqq : (q : Int) ≤ (q2 : Int) := by omega
              have hqz : (0 : Int) ≤ (q : Int) := by omega
              clear hq2
              go_wp2_with fail
              (with_reducible refine (HRW.out).mono ?_)
              rintro e w5 ⟨v5, rfl, ho5, hb5⟩
              have HO5 := Lib.hid (own_as ho5 (outB_new hfin))
              have HB5 := Lib.hid ((HB.out.trans (HW.out.mono hsz)).trans hb5)
              have hs5 := hb5.size
              clear ho5 hb5 HRW
              go_wp2
              go_roundw
              case rel => exact ⟨k + 1, by omega, by go_num, HO5.out, HB5.out⟩
              case measure => simp [intOf]; omega
            · skip
              have HRW := Lib.hid (row w.heap.size _ _ _ (k : Int) (by omega) (by omega) tb (toff + q * 2) cols (tc - q) (rowAt cols t k) (rowAt_len hlt (by rw [HL.out, HTN.out])) (by omega) wr htb (by omega) (by rw [HQ.out]; exact row_cells (fun j u hu => (HW.out.cell (by show tb < _; omega)).trans ((HB.out.cell (by exact htb)).trans (HT.out j u hu)))) (fun c hc => HA.out c (mem_rowAt hc)) (own_below HO.out HW.out) (by omega))
              obtain ⟨q2, hq2⟩ : ∃ q2, q2 = q + cols := ⟨_, rfl⟩
              have hk1 : ((k : Int) + 1) * (cols : Int) = (q2 : Int) := by rw [Int.add_mul, hq0]; omega
              have hwq2 : IntKind.i64.wrap (q2 : Int) = (q2 : Int) := IntWalk.i64_in _ (by omega)
              have hd2 : q2 - q = cols := by omega
              have hq2t : (q2 : Int) ≤ (tc : Int) := by omega
              have hqq : (q : Int) ≤ (q2 : Int) := by omega
              have hqz : (0 : Int) ≤ (q : Int) := by omega
              clear hq2
              go_wp2_with fail
              (with_reducible refine (HRW.out).mono ?_)
              rintro e w5 ⟨v5, rfl, ho5, hb5⟩
              have HO5 := Lib.hid (own_as ho5 (outB_new hfin))
              have HB5 := Lib.hid ((HB.out.trans (HW.out.mono hsz)).trans hb5)
              have hs5 := hb5.size
              clear ho5 hb5 HRW
              go_wp2
              go_roundw
              case rel => exact ⟨k + 1, by omega, by go_num, HO5.out, HB5.out⟩
              case measure => simp [intOf]; omega

        · obtain rfl : k = rows := by omega
          go_wp2
          go_ret
          exact ⟨_, rfl, HO.out, HB.out⟩
    · have hfe : ¬ fn = tn := by simpa using hs.symm
      have hfi : ¬ (fn : Int) = (tn : Int) := by omega
      clear hs
      go_wp2_with (at_builtin; refine wpList_append_own _ rfl _ _ 26 rfl w.heap.size 5 i0 (.int .u8 0) 1 1 Tryz.underlying26 hi hz0 hz1 hz2 rfl (by decide) _ _ _ rfl (World.ownsRow_nil _ _ _ _) ⟨w.heap.size, 0, none⟩ 4 4 (byV [27, 91, 50, 74]) rfl rfl (new_cells _ _ _) (byV_one _) (by unfold maxLen; omega) (by omega) (by simp) ?_)
      intro v1 w1 hown1 hg _
      have HBS := Lib.hid (show Below w.heap.size w w1 from ((Below.refl _ _).alloc (Nat.le_refl _) _).grown hg (by simp) (fun k hk => by cases hk))
      have HOS := Lib.hid (own_as (ys := outB false cols f t 0) hown1 rfl)
      clear hown1 hg
      go_wp2
      go_loopw [11, 12] (fun o i wr => ∃ k : Nat, k ≤ rows ∧ i = .int .i64 k ∧ wr.ownsRow w.heap.size 5 1 o (outB false cols f t k).length (outB false cols f t k) ∧ Below w.heap.size w wr)
        (fun _ i _ => rows - (intOf i).toNat)
      case atStart => exact ⟨0, Nat.zero_le _, rfl, HOS.out, HBS.out⟩
      case round =>
        obtain ⟨W0, hW0⟩ : ∃ W0, W0 = wr := ⟨_, rfl⟩
        subst hW0
        obtain ⟨k, hk, rfl, hown, hbel⟩ := hrel
        have hsz := hbel.size
        have HO := Lib.hid hown
        have HB := Lib.hid hbel
        have hole := outB_le false cols f t k hc2
        clear hown hbel
        by_cases hlt : k < rows
        · obtain ⟨q, hq⟩ : ∃ q, q = k * cols := ⟨_, rfl⟩
          have hq0 : (k : Int) * (cols : Int) = (q : Int) := by rw [hq]; rfl
          have hqr : q + cols ≤ tn := by
            rw [HTN.out, hq]
            have := Nat.mul_le_mul_right cols (show k + 1 ≤ rows by omega)
            rw [Nat.succ_mul] at this
            exact this
          have hwq : IntKind.i64.wrap (q : Int) = (q : Int) := IntWalk.i64_in _ (by omega)
          have HQ := Lib.hid hq
          clear hq
          go_wp2_with fail
          go_loopw [13, 14] (fun s i W => ∃ j : Nat, j ≤ cols ∧ i = .int .i64 j ∧ s = .bool (false && upto f t q j) ∧ Below W0.heap.size W0 W) (fun _ i _ => cols - (intOf i).toNat)
          case atStart => exact ⟨0, Nat.zero_le _, rfl, by rw [upto_zero]; rfl, Below.refl _ _⟩
          case round =>
            obtain ⟨j, hj, rfl, rfl, hbW⟩ := hrel
            have hsW := hbW.size
            have HW := Lib.hid hbW
            clear hbW
            rw [show (false && upto f t q j) = false from rfl]
            have hfin : (false && upto f t (k * cols) cols) = false := rfl
            by_cases hjc : j < cols
            · skip
              have HRW := Lib.hid (row w.heap.size _ _ _ (k : Int) (by omega) (by omega) tb (toff + q * 2) cols (tc - q) (rowAt cols t k) (rowAt_len hlt (by rw [HL.out, HTN.out])) (by omega) wr htb (by omega) (by rw [HQ.out]; exact row_cells (fun j u hu => (HW.out.cell (by show tb < _; omega)).trans ((HB.out.cell (by exact htb)).trans (HT.out j u hu)))) (fun c hc => HA.out c (mem_rowAt hc)) (own_below HO.out HW.out) (by omega))
              obtain ⟨q2, hq2⟩ : ∃ q2, q2 = q + cols := ⟨_, rfl⟩
              have hk1 : ((k : Int) + 1) * (cols : Int) = (q2 : Int) := by rw [Int.add_mul, hq0]; omega
              have hwq2 : IntKind.i64.wrap (q2 : Int) = (q2 : Int) := IntWalk.i64_in _ (by omega)
              have hd2 : q2 - q = cols := by omega
              have hq2t : (q2 : Int) ≤ (tc : Int) := by omega
              have hqq : (q : Int) ≤ (q2 : Int) := by omega
              have hqz : (0 : Int) ≤ (q : Int) := by omega
              clear hq2
              go_wp2_with fail
              (with_reducible refine (HRW.out).mono ?_)
              rintro e w5 ⟨v5, rfl, ho5, hb5⟩
              have HO5 := Lib.hid (own_as ho5 (outB_new hfin))
              have HB5 := Lib.hid ((HB.out.trans (HW.out.mono hsz)).trans hb5)
              have hs5 := hb5.size
              clear ho5 hb5 HRW
              go_wp2
              go_roundw
              case rel => exact ⟨k + 1, by omega, by go_num, HO5.out, HB5.out⟩
              case measure => simp [intOf]; omega
            · skip
              have HRW := Lib.hid (row w.heap.size _ _ _ (k : Int) (by omega) (by omega) tb (toff + q * 2) cols (tc - q) (rowAt cols t k) (rowAt_len hlt (by rw [HL.out, HTN.out])) (by omega) wr htb (by omega) (by rw [HQ.out]; exact row_cells (fun j u hu => (HW.out.cell (by show tb < _; omega)).trans ((HB.out.cell (by exact htb)).trans (HT.out j u hu)))) (fun c hc => HA.out c (mem_rowAt hc)) (own_below HO.out HW.out) (by omega))
              obtain ⟨q2, hq2⟩ : ∃ q2, q2 = q + cols := ⟨_, rfl⟩
              have hk1 : ((k : Int) + 1) * (cols : Int) = (q2 : Int) := by rw [Int.add_mul, hq0]; omega
              have hwq2 : IntKind.i64.wrap (q2 : Int) = (q2 : Int) := IntWalk.i64_in _ (by omega)
              have hd2 : q2 - q = cols := by omega
              have hq2t : (q2 : Int) ≤ (tc : Int) := by omega
              have hqq : (q : Int) ≤ (q2 : Int) := by omega
              have hqz : (0 : Int) ≤ (q : Int) := by omega
              clear hq2
              go_wp2_with fail
              (with_reducible refine (HRW.out).mono ?_)
              rintro e w5 ⟨v5, rfl, ho5, hb5⟩
              have HO5 := Lib.hid (own_as ho5 (outB_new hfin))
              have HB5 := Lib.hid ((HB.out.trans (HW.out.mono hsz)).trans hb5)
              have hs5 := hb5.size
              clear ho5 hb5 HRW
              go_wp2
              go_roundw
              case rel => exact ⟨k + 1, by omega, by go_num, HO5.out, HB5.out⟩
              case measure => simp [intOf]; omega

        · obtain rfl : k = rows := by omega
          go_wp2
          go_ret
          exact ⟨_, rfl, HO.out, HB.out⟩
  · have ha : alike = true := by cases alike <;> simp_all
    have hfe : tn = fn := by
      rw [ha] at hs
      have : fn = tn := by simpa using hs.symm
      exact this.symm
    subst ha
    subst hfe
    clear hs hfn
    go_wp2_with fail
    go_loopw [11, 12] (fun o i wr => ∃ k : Nat, k ≤ rows ∧ i = .int .i64 k ∧ wr.ownsRow w.heap.size 5 1 o (outB true cols f t k).length (outB true cols f t k) ∧ Below w.heap.size w wr)
      (fun _ i _ => rows - (intOf i).toNat)
    case atStart => exact ⟨0, Nat.zero_le _, rfl, World.ownsRow_nil _ _ _ _, Below.refl _ _⟩
    case round =>
      obtain ⟨W0, hW0⟩ : ∃ W0, W0 = wr := ⟨_, rfl⟩
      subst hW0
      obtain ⟨k, hk, rfl, hown, hbel⟩ := hrel
      have hsz := hbel.size
      have HO := Lib.hid hown
      have HB := Lib.hid hbel
      have hole := outB_le true cols f t k hc2
      clear hown hbel
      by_cases hlt : k < rows
      · obtain ⟨q, hq⟩ : ∃ q, q = k * cols := ⟨_, rfl⟩
        have hq0 : (k : Int) * (cols : Int) = (q : Int) := by rw [hq]; rfl
        have hqr : q + cols ≤ tn := by
          rw [HTN.out, hq]
          have := Nat.mul_le_mul_right cols (show k + 1 ≤ rows by omega)
          rw [Nat.succ_mul] at this
          exact this
        have hwq : IntKind.i64.wrap (q : Int) = (q : Int) := IntWalk.i64_in _ (by omega)
        have HQ := Lib.hid hq
        clear hq
        go_wp2_with fail
        go_loopw [13, 14] (fun s i W => ∃ j : Nat, j ≤ cols ∧ i = .int .i64 j ∧ s = .bool (true && upto f t q j) ∧ Below W0.heap.size W0 W) (fun _ i _ => cols - (intOf i).toNat)
        case atStart => exact ⟨0, Nat.zero_le _, rfl, by rw [upto_zero]; rfl, Below.refl _ _⟩
        case round =>
          obtain ⟨j, hj, rfl, rfl, hbW⟩ := hrel
          have hsW := hbW.size
          have HW := Lib.hid hbW
          clear hbW
          by_cases hjc : j < cols
          · cases hu : upto f t q j
            · have hfin : (true && upto f t (k * cols) cols) = false := by rw [← HQ.out, upto_end hu (by omega)]; rfl
              rw [show (true && false) = false from rfl]
              have HRW := Lib.hid (row w.heap.size _ _ _ (k : Int) (by omega) (by omega) tb (toff + q * 2) cols (tc - q) (rowAt cols t k) (rowAt_len hlt (by rw [HL.out, HTN.out])) (by omega) wr htb (by omega) (by rw [HQ.out]; exact row_cells (fun j u hu => (HW.out.cell (by show tb < _; omega)).trans ((HB.out.cell (by exact htb)).trans (HT.out j u hu)))) (fun c hc => HA.out c (mem_rowAt hc)) (own_below HO.out HW.out) (by omega))
              obtain ⟨q2, hq2⟩ : ∃ q2, q2 = q + cols := ⟨_, rfl⟩
              have hk1 : ((k : Int) + 1) * (cols : Int) = (q2 : Int) := by rw [Int.add_mul, hq0]; omega
              have hwq2 : IntKind.i64.wrap (q2 : Int) = (q2 : Int) := IntWalk.i64_in _ (by omega)
              have hd2 : q2 - q = cols := by omega
              have hq2t : (q2 : Int) ≤ (tc : Int) := by omega
              have hqq : (q : Int) ≤ (q2 : Int) := by omega
              have hqz : (0 : Int) ≤ (q : Int) := by omega
              clear hq2
              go_wp2_with fail
              (with_reducible refine (HRW.out).mono ?_)
              rintro e w5 ⟨v5, rfl, ho5, hb5⟩
              have HO5 := Lib.hid (own_as ho5 (outB_new hfin))
              have HB5 := Lib.hid ((HB.out.trans (HW.out.mono hsz)).trans hb5)
              have hs5 := hb5.size
              clear ho5 hb5 HRW
              go_wp2
              go_roundw
              case rel => exact ⟨k + 1, by omega, by go_num, HO5.out, HB5.out⟩
              case measure => simp [intOf]; omega
            · obtain ⟨x, hx⟩ : ∃ x, f[q + j]? = some x := ⟨f[q + j]'(by have := HF.out.1; omega), by simp⟩
              obtain ⟨y, hy⟩ : ∃ y, t[q + j]? = some y := ⟨t[q + j]'(by have := HL.out; omega), by simp⟩
              rcases HF.out.2 with hX | ⟨fb, foff, rfl, hfb, hfc⟩
              · omega
              have HU := Lib.hid (upto_succ hx hy)
              have HFC := Lib.hid hfc
              clear hfc
              obtain ⟨p, hp⟩ : ∃ p, p = q + j := ⟨_, rfl⟩
              have hp0 : (q : Int) + (j : Int) = (p : Int) := by omega
              have hpt : (p : Int) < (tn : Int) := by omega
              have hpz : (0 : Int) ≤ (p : Int) := by omega
              have hwp : IntKind.i64.wrap (p : Int) = (p : Int) := IntWalk.i64_in _ (by omega)
              rw [← hp] at hx hy
              obtain ⟨d0, d1⟩ := clCells (w := wr) (fun j u hu => (HW.out.cell (by show fb < _; omega)).trans ((HB.out.cell (by exact hfb)).trans (HFC.out j u hu))) p x hx
              obtain ⟨e0, e1⟩ := clCells (w := wr) (fun j u hu => (HW.out.cell (by show tb < _; omega)).trans ((HB.out.cell (by exact htb)).trans (HT.out j u hu))) p y hy
              clear hp
              clear hx hy
              obtain ⟨x, s⟩ := x
              obtain ⟨y, z⟩ := y
              simp only at d0 d1 e0 e1
              rw [show (true && true) = true from rfl]
              by_cases hxy : x = y
              · subst hxy
                by_cases hsz2 : s = z
                · subst hsz2
                  go_wp2_with fail
                  go_region_law (first | fail)
                  all_goals
                    go_wp2
                    go_roundw
                    case rel => exact ⟨j + 1, by omega, by go_num, by rw [HU.out, hu]; simp, HW.out.drew⟩
                    case measure => simp [intOf]; omega
                · have hne : (Cl.mk x s = Cl.mk x z) = False := by simp [hsz2]
                  go_wp2_with fail
                  go_region_law (first | fail)
                  all_goals
                    go_wp2
                    go_roundw
                    case rel => exact ⟨j + 1, by omega, by go_num, by rw [HU.out, hu]; simp [hsz2], HW.out.drew⟩
                    case measure => simp [intOf]; omega
              · have hne : (Cl.mk x s = Cl.mk y z) = False := by simp [hxy]
                go_wp2_with fail
                go_region_law (first | fail)
                all_goals
                  go_wp2
                  go_roundw
                  case rel => exact ⟨j + 1, by omega, by go_num, by rw [HU.out, hu]; simp [hxy], HW.out.drew⟩
                  case measure => simp [intOf]; omega
          · obtain rfl : j = cols := by omega
            cases hu : upto f t q j
            · have hfin : (true && upto f t (k * j) j) = false := by rw [← HQ.out, hu]; rfl
              rw [show (true && false) = false from rfl]
              have HRW := Lib.hid (row w.heap.size _ _ _ (k : Int) (by omega) (by omega) tb (toff + q * 2) j (tc - q) (rowAt j t k) (rowAt_len hlt (by rw [HL.out, HTN.out])) (by omega) wr htb (by omega) (by rw [HQ.out]; exact row_cells (fun j u hu => (HW.out.cell (by show tb < _; omega)).trans ((HB.out.cell (by exact htb)).trans (HT.out j u hu)))) (fun c hc => HA.out c (mem_rowAt hc)) (own_below HO.out HW.out) (by omega))
              obtain ⟨q2, hq2⟩ : ∃ q2, q2 = q + j := ⟨_, rfl⟩
              have hk1 : ((k : Int) + 1) * (j : Int) = (q2 : Int) := by rw [Int.add_mul, hq0]; omega
              have hwq2 : IntKind.i64.wrap (q2 : Int) = (q2 : Int) := IntWalk.i64_in _ (by omega)
              have hd2 : q2 - q = j := by omega
              have hq2t : (q2 : Int) ≤ (tc : Int) := by omega
              have hqq : (q : Int) ≤ (q2 : Int) := by omega
              have hqz : (0 : Int) ≤ (q : Int) := by omega
              clear hq2
              go_wp2_with fail
              (with_reducible refine (HRW.out).mono ?_)
              rintro e w5 ⟨v5, rfl, ho5, hb5⟩
              have HO5 := Lib.hid (own_as ho5 (outB_new hfin))
              have HB5 := Lib.hid ((HB.out.trans (HW.out.mono hsz)).trans hb5)
              have hs5 := hb5.size
              clear ho5 hb5 HRW
              go_wp2
              go_roundw
              case rel => exact ⟨k + 1, by omega, by go_num, HO5.out, HB5.out⟩
              case measure => simp [intOf]; omega
            · have hfin : (true && upto f t (k * j) j) = true := by rw [← HQ.out, hu]; rfl
              rw [show (true && true) = true from rfl]
              go_wp2
              go_roundw
              case rel => exact ⟨k + 1, by omega, by go_num, by rw [outB_same hfin]; exact own_below HO.out HW.out, HB.out.trans (HW.out.mono (by omega))⟩
              case measure => simp [intOf]; omega
      · obtain rfl : k = rows := by omega
        go_wp2
        go_ret
        exact ⟨_, rfl, HO.out, HB.out⟩
end Go.Proofs.YtnbpkabnaipimaaGreatDoor
