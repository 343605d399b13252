/- The contract of Paint. Conditions: both grids' cells lie in memory; the listed variables hold what their initialisers lay. -/
import Derived.Test.YtnbpkabnaipimaaGreatDoorVw
import Derived.Test.YtnbpkabnaipimaaGreatDoorRow
import Derived.Test.YtnbpkabnaipimaaGreatDoorEncode
import Derived.Test.YtnbpkabnaipimaaGreatDoorData
import Derived.Test.YtnbpkabnaipimaaGreatDoorLaws
import Derived.BigRegion
import Derived.Shelf.RegionOpenPlain
import Derived.Deep.RegionWith
import Derived.Test.YtnbpkabnaipimaaGreatDoorVc
import Derived.Test.YtnbpkabnaipimaaGreatDoorRefPaint
import Derived.Test.YtnbpkabnaipimaaGreatDoorShown
namespace Go.Proofs.YtnbpkabnaipimaaGreatDoor
open Go Go.RowKit Go.Lib

/-- A style's bytes so far. -/
def sofS (s : Int) (j : Nat) : List Int := [27, 91, 48] ++ (if 1 ≤ j ∧ s % 2 = 1 then [59, 55] else []) ++ (if 2 ≤ j ∧ s / 2 % 2 = 1 then [59, 52] else []) ++ (if 3 ≤ j ∧ s / 4 = 1 then [59, 49] else [])
theorem sofS_le (s : Int) (j : Nat) : (sofS s j).length ≤ 9 := by
  unfold sofS
  repeat' split
  all_goals simp
theorem sofS_end (s : Int) : sofS s 3 ++ [109] = styleB s := by simp [sofS, styleB]
def bitS (s : Int) (j : Nat) : Int := if j = 0 then s % 2 else if j = 1 then s / 2 % 2 else s / 4
theorem sofS_step : ∀ s : Fin 8, ∀ j : Fin 3, sofS (s.val : Int) (j.val + 1) = sofS (s.val : Int) j.val ++ (if bitS (s.val : Int) j.val = 1 then [59] ++ digits (if j.val = 0 then 7 else if j.val = 1 then 4 else 1) else []) := by decide
theorem sofS_succ {s : Int} (hs : 0 ≤ s ∧ s ≤ 7) (j : Nat) (hj : j < 3) : sofS s (j + 1) = sofS s j ++ (if bitS s j = 1 then [59] ++ digits (if j = 0 then 7 else if j = 1 then 4 else 1) else []) := by
  obtain ⟨k, rfl⟩ := Int.eq_ofNat_of_zero_le hs.1
  exact sofS_step ⟨k, by omega⟩ ⟨j, hj⟩
theorem and_bit : ∀ s : Fin 8, (bits BinOp.and IntKind.i64 (s.val : Int) 1 != 0) = decide (bitS (s.val : Int) 0 = 1) ∧ (bits BinOp.and IntKind.i64 (s.val : Int) 2 != 0) = decide (bitS (s.val : Int) 1 = 1) ∧ (bits BinOp.and IntKind.i64 (s.val : Int) 4 != 0) = decide (bitS (s.val : Int) 2 = 1) := by decide +kernel
theorem and_of {s : Int} (hs : 0 ≤ s ∧ s ≤ 7) : (bits BinOp.and IntKind.i64 s 1 != 0) = decide (bitS s 0 = 1) ∧ (bits BinOp.and IntKind.i64 s 2 != 0) = decide (bitS s 1 = 1) ∧ (bits BinOp.and IntKind.i64 s 4 != 0) = decide (bitS s 2 = 1) := by
  obtain ⟨k, rfl⟩ := Int.eq_ofNat_of_zero_le hs.1
  exact and_bit ⟨k, by omega⟩
theorem sx0 (w : World) : (Instr.index 73 (.agg #[.int .i64 7, .int .i64 4, .int .i64 1]) (.int .i64 0)).run Tryz.prog w = .ok (.int .i64 7) w := by kernel_rfl
theorem sx1 (w : World) : (Instr.index 73 (.agg #[.int .i64 7, .int .i64 4, .int .i64 1]) (.int .i64 1)).run Tryz.prog w = .ok (.int .i64 4) w := by kernel_rfl
theorem sx2 (w : World) : (Instr.index 73 (.agg #[.int .i64 7, .int .i64 4, .int .i64 1]) (.int .i64 2)).run Tryz.prog w = .ok (.int .i64 1) w := by kernel_rfl

/-- Above a bound memory may turn; blocks that aren't of bytes don't. -/
def BK (B : Nat) (w w' : World) : Prop := Below B w w' ∧ Lib.OthersKept 5 none w w'
theorem BK.trans {B : Nat} {a b c : World} (h : BK B a b) (k : BK B b c) : BK B a c := ⟨h.1.trans k.1, h.2.trans k.2⟩
theorem bk_refl (B : Nat) (w : World) : BK B w w := ⟨Below.refl _ _, Lib.OthersKept.refl _ _ _⟩
theorem BK.below {B : Nat} {w w' : World} (h : Below w.heap.size w w') (hB : B ≤ w.heap.size) : BK B w w' :=
  ⟨h.mono hB, fun k _ hk _ _ => (h.block k (Array.getElem?_eq_some_iff.1 hk).1).trans hk⟩
theorem grow_bk0 {B m : Nat} {v : Value} {xs : List Value} {w w2 : World} (hO : w.ownsRow B 5 1 v m xs) (hB : B ≤ w.heap.size) (hg : w.grownBy w2 v.ownBlock) : BK B w w2 :=
  ⟨grow_below0 hO hB hg, (Lib.OthersKept.refl 5 none w).grown hg fun g e => by
    rcases hO.2 with ⟨rfl, _⟩ | ⟨g', cap, cur, rfl, _, hh, _⟩
    · cases e
    · simp only [Value.ownBlock, Option.some.injEq] at e
      subst e
      exact ⟨_, _, hh⟩⟩
theorem grow_bk {B m : Nat} {v : Value} {xs : List Value} {w w2 : World} {o : Obj} (hO : w.ownsRow B 5 1 v m xs) (hB : B ≤ w.heap.size) (hg : (w.alloc o).grownBy w2 v.ownBlock) : BK B w w2 :=
  (BK.below ((Below.refl _ _).alloc (Nat.le_refl _) o) hB).trans (grow_bk0 (hO.alloc o) (by simp; omega) hg)
/-- A block that isn't of bytes stands. -/
theorem BK.cells {B b t : Nat} {w w' : World} (h : BK B w w') {cs : Array Value} {fr : Nat × Nat} (hb : w.heap[b]? = some (Obj.cells cs t fr)) (ht : t ≠ 5) : w'.heap[b]? = some (Obj.cells cs t fr) :=
  h.2 b _ hb (fun e => by cases e) (fun c fz e => by cases e; exact ht rfl)
theorem appendIntK (B : Nat) (v : Value) (m : Nat) (xs : List Value) (n : Int) (h0 : 0 ≤ n) (h1 : n ≤ 99) (w : World) (hW : Wd w) (hown : w.ownsRow B 5 1 v m xs) (hm : m + 21 ≤ 140737488355328) (hB : B ≤ w.heap.size) (hB10 : 10 ≤ B) :
    Calls Tryz.prog 27 #[v, .int .i64 n, .int .i64 10] w fun e w' => ∃ v', e = .returned v' ∧ w'.ownsRow B 5 1 v' (m + (digits n).length) (xs ++ byV (digits n)) ∧ BK B w w' := by
  refine (Any.strconv_AppendInt_10 Tryz.laysM176 B m n (by omega) (by omega) v xs w hown hB hm (fun w' hb => pow_of hW.pow (hb.block _ (Nat.lt_of_lt_of_le (by decide) hB10)))).mono ?_
  rintro e w' ⟨v', he, ho, hb, hk⟩
  refine ⟨v', he, ?_, hb, hk⟩
  rw [← itoa_digits n h0 h1, ← itoa_len n h0 h1]
  exact ho

set_option maxHeartbeats 16000000 in
set_option maxRecDepth 20000 in
theorem appendStyle (B : Nat) (v : Value) (m : Nat) (xs : List Value) (s : Int) (hs : 0 ≤ s ∧ s ≤ 7) (w : World) (hW : Wd w) (hown : w.ownsRow B 5 1 v m xs) (hm : m ≤ 100000) (hB : B ≤ w.heap.size) (hB10 : 10 ≤ B) :
    Calls Tryz.prog 28 #[v, .int .i64 s] w fun e w' => ∃ v', e = .returned v' ∧ w'.ownsRow B 5 1 v' (m + (styleB s).length) (xs ++ byV (styleB s)) ∧ BK B w w' := by
  obtain ⟨i0, hi, hz0, hz1, hz2⟩ := info_parts Tryz.info5
  obtain ⟨and0, and1, and2⟩ := and_of hs
  have AND0 := Lib.hid and0
  have AND1 := Lib.hid and1
  have AND2 := Lib.hid and2
  have HS := Lib.hid hs
  have HW := Lib.hid hW
  have HXL := Lib.hid (show xs.length = m by have := hown.1; omega)
  have HO := Lib.hid hown
  have hl3 := sofS_le s 0
  have hl0 : (sofS s 0).length = 3 := by simp [sofS]
  clear and0 and1 and2 hs hW hown hl3 hl0
  go_enter Tryz.func28, Tryz.ntmps28
  go_wp2_with (at_builtin; refine wpList_append_own _ rfl _ _ 26 rfl B 5 i0 (.int .u8 0) 1 1 Tryz.underlying26 hi hz0 hz1 hz2 rfl (by decide) _ _ _ rfl (HO.out.alloc _) ⟨w.heap.size, 0, none⟩ 3 3 (byV [27, 91, 48]) rfl rfl (new_cells _ _ _) (byV_one _) (by unfold maxLen; omega) (by omega) (by simp; omega) ?_)
  intro v1 w1 hown' hg _
  have hb' := grow_bk HO.out hB hg
  have HB1 := Lib.hid hb'
  have HO1 := Lib.hid (own_as hown' (ys := xs ++ byV (sofS s 0)) (by simp [sofS]))
  obtain ⟨q0, q1, q2⟩ := (HW.out.below' hB10 hb'.1).sty
  have hs1 := hb'.1.size
  clear hown' hg hb' HO
  go_wp2_with fail
  go_loopw [0, 11] (fun v i wr => ∃ j : Nat, j ≤ 3 ∧ i = .int .i64 j ∧ wr.ownsRow B 5 1 v (xs ++ byV (sofS s j)).length (xs ++ byV (sofS s j)) ∧ BK B w wr) (fun _ i _ => 3 - (RowKit.intOf i).toNat)
  case atStart => exact ⟨0, by omega, rfl, HO1.out, HB1.out⟩
  case round =>
    obtain ⟨j, hj, rfl, hown, hbel⟩ := hrel
    have hsz := hbel.1.size
    have HO := Lib.hid hown
    have HB := Lib.hid hbel
    have hle := sofS_le s j
    have hlen : (xs ++ byV (sofS s j)).length ≤ 100009 := by rw [List.length_append, byV_len, HXL.out]; omega
    obtain ⟨n, hn⟩ : ∃ n, n = (xs ++ byV (sofS s j)).length := ⟨_, rfl⟩
    rw [← hn] at HO hlen
    have HN := Lib.hid hn
    clear hown hbel hn HO1 HB1
    rcases (show j = 0 ∨ j = 1 ∨ j = 2 ∨ j = 3 by omega) with rfl | rfl | rfl | rfl
    · have hix := sx0
      rw [show ((0 : Nat) : Int) = 0 from rfl]
      by_cases hbit : bitS s 0 = 1
      · have hand := AND0.out
        rw [decide_eq_true hbit] at hand
        go_wp2_with (at_builtin; refine wpList_append_own _ rfl _ _ 26 rfl B 5 i0 (.int .u8 0) 1 1 Tryz.underlying26 hi hz0 hz1 hz2 rfl (by decide) _ _ _ rfl (HO.out.alloc _) ⟨wr.heap.size, 0, none⟩ 1 1 (byV [59]) rfl rfl (new_cells _ _ _) (byV_one _) (by unfold maxLen; omega) (by omega) (by simp; omega) ?_)
        intro v2 w2 hown' hg _
        have hb' := grow_bk HO.out (by omega) hg
        have HB2 := Lib.hid (HB.out.trans hb')
        have hs2 := hb'.1.size
        have AP := Lib.hid (appendIntK B v2 (n + 1) _ 7 (by decide) (by decide) w2 (HW.out.below' hB10 HB2.out.1) hown' (by omega) (by omega) hB10)
        clear hown' hg hb'
        go_wp2_with fail
        (with_reducible refine AP.out.mono ?_)
        rintro e w3 ⟨v3, rfl, ho3, hb3⟩
        have HO3 := Lib.hid (own_as ho3 (ys := xs ++ byV (sofS s 1)) (by rw [sofS_succ HS.out 0 (by decide), if_pos hbit]; simp only [byV_append, List.append_assoc]; rfl))
        have HB3 := Lib.hid (HB2.out.trans hb3)
        clear ho3 hb3 AP
        go_wp2
        go_roundw
        case rel => exact ⟨1, by omega, by go_num, HO3.out, HB3.out⟩
        case measure => simp [RowKit.intOf]
      · have hand := AND0.out
        rw [decide_eq_false hbit] at hand
        have HO3 := Lib.hid (own_as (HN.out ▸ HO.out) (ys := xs ++ byV (sofS s 1)) (by rw [sofS_succ HS.out 0 (by decide), if_neg hbit, List.append_nil]))
        go_wp2
        go_roundw
        case rel => exact ⟨1, by omega, by go_num, HO3.out, HB.out⟩
        case measure => simp [RowKit.intOf]
    · have hix := sx1
      rw [show ((1 : Nat) : Int) = 1 from rfl]
      by_cases hbit : bitS s 1 = 1
      · have hand := AND1.out
        rw [decide_eq_true hbit] at hand
        go_wp2_with (at_builtin; refine wpList_append_own _ rfl _ _ 26 rfl B 5 i0 (.int .u8 0) 1 1 Tryz.underlying26 hi hz0 hz1 hz2 rfl (by decide) _ _ _ rfl (HO.out.alloc _) ⟨wr.heap.size, 0, none⟩ 1 1 (byV [59]) rfl rfl (new_cells _ _ _) (byV_one _) (by unfold maxLen; omega) (by omega) (by simp; omega) ?_)
        intro v2 w2 hown' hg _
        have hb' := grow_bk HO.out (by omega) hg
        have HB2 := Lib.hid (HB.out.trans hb')
        have hs2 := hb'.1.size
        have AP := Lib.hid (appendIntK B v2 (n + 1) _ 4 (by decide) (by decide) w2 (HW.out.below' hB10 HB2.out.1) hown' (by omega) (by omega) hB10)
        clear hown' hg hb'
        go_wp2_with fail
        (with_reducible refine AP.out.mono ?_)
        rintro e w3 ⟨v3, rfl, ho3, hb3⟩
        have HO3 := Lib.hid (own_as ho3 (ys := xs ++ byV (sofS s 2)) (by rw [sofS_succ HS.out 1 (by decide), if_pos hbit]; simp only [byV_append, List.append_assoc]; rfl))
        have HB3 := Lib.hid (HB2.out.trans hb3)
        clear ho3 hb3 AP
        go_wp2
        go_roundw
        case rel => exact ⟨2, by omega, by go_num, HO3.out, HB3.out⟩
        case measure => simp [RowKit.intOf]
      · have hand := AND1.out
        rw [decide_eq_false hbit] at hand
        have HO3 := Lib.hid (own_as (HN.out ▸ HO.out) (ys := xs ++ byV (sofS s 2)) (by rw [sofS_succ HS.out 1 (by decide), if_neg hbit, List.append_nil]))
        go_wp2
        go_roundw
        case rel => exact ⟨2, by omega, by go_num, HO3.out, HB.out⟩
        case measure => simp [RowKit.intOf]
    · have hix := sx2
      rw [show ((2 : Nat) : Int) = 2 from rfl]
      by_cases hbit : bitS s 2 = 1
      · have hand := AND2.out
        rw [decide_eq_true hbit] at hand
        go_wp2_with (at_builtin; refine wpList_append_own _ rfl _ _ 26 rfl B 5 i0 (.int .u8 0) 1 1 Tryz.underlying26 hi hz0 hz1 hz2 rfl (by decide) _ _ _ rfl (HO.out.alloc _) ⟨wr.heap.size, 0, none⟩ 1 1 (byV [59]) rfl rfl (new_cells _ _ _) (byV_one _) (by unfold maxLen; omega) (by omega) (by simp; omega) ?_)
        intro v2 w2 hown' hg _
        have hb' := grow_bk HO.out (by omega) hg
        have HB2 := Lib.hid (HB.out.trans hb')
        have hs2 := hb'.1.size
        have AP := Lib.hid (appendIntK B v2 (n + 1) _ 1 (by decide) (by decide) w2 (HW.out.below' hB10 HB2.out.1) hown' (by omega) (by omega) hB10)
        clear hown' hg hb'
        go_wp2_with fail
        (with_reducible refine AP.out.mono ?_)
        rintro e w3 ⟨v3, rfl, ho3, hb3⟩
        have HO3 := Lib.hid (own_as ho3 (ys := xs ++ byV (sofS s 3)) (by rw [sofS_succ HS.out 2 (by decide), if_pos hbit]; simp only [byV_append, List.append_assoc]; rfl))
        have HB3 := Lib.hid (HB2.out.trans hb3)
        clear ho3 hb3 AP
        go_wp2
        go_roundw
        case rel => exact ⟨3, by omega, by go_num, HO3.out, HB3.out⟩
        case measure => simp [RowKit.intOf]
      · have hand := AND2.out
        rw [decide_eq_false hbit] at hand
        have HO3 := Lib.hid (own_as (HN.out ▸ HO.out) (ys := xs ++ byV (sofS s 3)) (by rw [sofS_succ HS.out 2 (by decide), if_neg hbit, List.append_nil]))
        go_wp2
        go_roundw
        case rel => exact ⟨3, by omega, by go_num, HO3.out, HB.out⟩
        case measure => simp [RowKit.intOf]
    · rw [show ((3 : Nat) : Int) = 3 from rfl]
      go_wp2_with (at_builtin; refine wpList_append_own _ rfl _ _ 26 rfl B 5 i0 (.int .u8 0) 1 1 Tryz.underlying26 hi hz0 hz1 hz2 rfl (by decide) _ _ _ rfl (HO.out.alloc _) ⟨wr.heap.size, 0, none⟩ 1 1 (byV [109]) rfl rfl (new_cells _ _ _) (byV_one _) (by unfold maxLen; omega) (by omega) (by simp; omega) ?_)
      intro v2 w2 hown' hg _
      have hb' := grow_bk HO.out (by omega) hg
      have HB2 := Lib.hid (HB.out.trans hb')
      have HO2 := Lib.hid (own_as hown' (ys := xs ++ byV (styleB s)) (by rw [← sofS_end]; simp only [byV_append]))
      clear hown' hg hb'
      go_wp2
      go_ret
      refine ⟨_, rfl, ?_, HB2.out⟩
      have := HO2.out
      rw [List.length_append, byV_len, HXL.out] at this
      exact this
end Go.Proofs.YtnbpkabnaipimaaGreatDoor
namespace Go.Proofs.YtnbpkabnaipimaaGreatDoor
open Go Go.RowKit Go.Lib

/-- The bytes of one right rune, in new memory, as a slice that is not nil. -/
theorem encode1 (b off cap : Nat) (c : Int) (w : World) (hin : -2147483648 ≤ c ∧ c ≤ 2147483647) (hb : b < w.heap.size) (hc : w.cell? ⟨b, off, none⟩ = some (.int .i32 c)) :
    Calls Tryz.prog 29 #[.slice (some ⟨b, off, none⟩) 1 cap] w fun e w' => ∃ g k, e = .returned (.slice (some ⟨g, 0, none⟩) (Lib.encodeRuneZ c).length k) ∧ (∀ j u, (byV (Lib.encodeRuneZ c))[j]? = some u → w'.cell? ((⟨g, 0, none⟩ : Addr).add j) = some u) ∧ Below w.heap.size w w' := by
  refine (encode (some ⟨b, off, none⟩) 1 cap [c] w (by omega) ⟨rfl, .inr ⟨b, off, rfl, hb, fun j z hz => ?_⟩⟩ (fun z hz => by simp at hz; rw [hz]; exact hin)).mono ?_
  · match j, hz with
    | 0, hz => cases hz; exact hc
    | j + 1, hz => cases hz
  · rintro e w' ⟨v, rfl, ho, hbel⟩
    rw [encCells_one, byV_len] at ho
    rcases ho.2 with ⟨rfl, h0⟩ | ⟨g, k, cur, rfl, hr⟩
    · exfalso
      exact encode_ne c (List.eq_nil_of_length_eq_zero h0)
    · exact ⟨g, k, rfl, ho.cells (g := g) rfl, hbel⟩

set_option maxHeartbeats 16000000 in
set_option maxRecDepth 20000 in
theorem rowApp (B : Nat) (v : Value) (m : Nat) (xs : List Value) (r : Int) (h0 : 0 ≤ r) (h98 : r ≤ 98) (b off n cap : Nat) (l : List Cl) (hl : l.length = n) (hn : n ≤ 1000) (w : World) (hW : Wd w) (hB10 : 10 ≤ B) (hbB : b < B) (hB : B ≤ w.heap.size)
    (hc : ∀ j u, (flat l)[j]? = some u → w.cell? ⟨b, off + j, none⟩ = some u) (hall : ∀ c ∈ l, mayR c.r ∧ 0 ≤ c.s ∧ c.s ≤ 7) (hown : w.ownsRow B 5 1 v m xs) (hm : m ≤ 60000) :
    Calls Tryz.prog 15 #[v, .int .i64 r, .slice (some ⟨b, off, none⟩) n cap] w fun e w' => ∃ v', e = .returned v' ∧ w'.ownsRow B 5 1 v' (xs ++ byV (headB r ++ rowB none l)).length (xs ++ byV (headB r ++ rowB none l)) ∧ Below B w w' := by
  obtain ⟨i0, hi, hz0, hz1, hz2⟩ := info_parts Tryz.info5
  have HXM := Lib.hid (show xs.length = m by have := hown.1; omega)
  have hx60 : xs.length ≤ 60000 := by have := HXM.out; omega
  have HO := Lib.hid hown; clear hown
  have HC := Lib.hid hc; clear hc
  have HL := Lib.hid hl; clear hl
  have HA := Lib.hid hall; clear hall
  have HW := Lib.hid hW; clear hW
  have hd2 := digits_le (r + 1)
  have hwr1 : IntKind.i64.wrap (r + 1) = r + 1 := IntWalk.i64_in _ (by omega)
  go_enter Tryz.func15, Tryz.ntmps15
  go_wp2_with (at_builtin; refine wpList_append_own _ rfl _ _ 26 rfl B 5 i0 (.int .u8 0) 1 1 Tryz.underlying26 hi hz0 hz1 hz2 rfl (by decide) _ _ _ rfl (HO.out.alloc _) ⟨w.heap.size, 0, none⟩ 2 2 (byV [27, 91]) rfl rfl (new_cells _ _ _) (byV_one _) (by unfold maxLen; omega) (by omega) (by simp; omega) ?_)
  intro v1 w1 hown' hg _
  have hb1 := grow_below HO.out (by omega) hg
  have HO1 := Lib.hid hown'
  have AP := Lib.hid (appendInt B v1 _ _ (r + 1) (by omega) (by omega) w1 (HW.out.below' hB10 hb1) hown' (by omega) (by have := hb1.size; omega) hB10)
  have HB1 := Lib.hid hb1
  have hs1 := hb1.size
  clear hown' hg hb1
  go_wp2_with fail
  (with_reducible refine AP.out.mono ?_)
  rintro e w2 ⟨v2, rfl, hown2, hb2⟩
  have HO2 := Lib.hid hown2
  have HB2 := Lib.hid hb2
  have hs2 := hb2.size
  clear hown2 hb2 AP HO1
  go_wp2_with (at_builtin; refine wpList_append_own _ rfl _ _ 26 rfl B 5 i0 (.int .u8 0) 1 1 Tryz.underlying26 hi hz0 hz1 hz2 rfl (by decide) _ _ _ rfl (HO2.out.alloc _) ⟨w2.heap.size, 0, none⟩ 3 3 (byV [59, 49, 72]) rfl rfl (new_cells _ _ _) (byV_one _) (by unfold maxLen; omega) (by omega) (by simp; omega) ?_)
  intro v3 w3 hown' hg _
  have hb3 := grow_below HO2.out (by omega) hg
  have HO3 := Lib.hid (own_as (ys := sofar xs r l 0) hown' (by simp only [sofar, headB, List.take_zero, rowB_nil, List.append_nil, byV_append, List.append_assoc]))
  have HB := Lib.hid (HB1.out.trans (HB2.out.trans hb3))
  clear hown' hg HB1 HB2 hb3 HO2 hs1 hs2
  go_wp2
  go_loopw [0, 7, 22] (fun o la i wr => ∃ k : Nat, k ≤ n ∧ i = .int .i64 k ∧ la = .int .i64 (lastI (lastS none (l.take k))) ∧ wr.ownsRow B 5 1 o (sofar xs r l k).length (sofar xs r l k) ∧ Below B w wr)
    (fun _ _ i _ => n - (RowKit.intOf i).toNat)
  case atStart => exact ⟨0, Nat.zero_le _, rfl, rfl, HO3.out, HB.out⟩
  case round =>
    clear HO3 HB HO
    obtain ⟨k, hk, rfl, rfl, hown, hbel⟩ := hrel
    have hsz := hbel.size
    have hle := sofar_le xs r l k
    by_cases hlt : k < n
    · obtain ⟨c, hck⟩ : ∃ c, l[k]? = some c := ⟨l[k]'(by have := HL.out; omega), by simp⟩
      obtain ⟨hmay, hs0, hs7⟩ := HA.out c (List.mem_of_getElem? hck)
      have hin := mayR_in hmay
      obtain ⟨c0, c1⟩ := clCells (w := w) HC.out k c hck
      have c0' : wr.cell? ⟨b, off + k * 2, none⟩ = some (.int .i32 c.r) := (hbel.cell (by exact hbB)).trans c0
      have c1' : wr.cell? ⟨b, off + k * 2 + 1, none⟩ = some (.int .i64 c.s) := (hbel.cell (by exact hbB)).trans c1
      clear c0 c1
      have HK := Lib.hid hck
      have HM := Lib.hid hmay
      have HOk := Lib.hid hown
      have HBk := Lib.hid hbel
      clear hck hmay hown hbel
      obtain ⟨x, s⟩ := c
      simp only at c0' c1' hs0 hs7 hin
      by_cases hx : x = 0
      · subst hx
        go_wp2
        go_roundw
        case rel => exact ⟨k + 1, by omega, by go_num, by rw [lastS_snoc HK.out, if_pos rfl], by rw [sofar_zero HK.out rfl]; exact own_below HOk.out ((Below.refl _ _).alloc (Nat.le_refl _) _), HBk.out.alloc (by omega) _⟩
        case measure => simp [RowKit.intOf]; omega
      · have hv : Lib.validRune x = true := HM.out.resolve_left hx
        have hel := enc_le x
        have HV := Lib.hid hv
        clear hv
        by_cases hs : lastS none (l.take k) = some s
        · have hls : lastI (lastS none (l.take k)) = s := by rw [hs]; rfl
          rw [hls]
          have HS := Lib.hid hs
          clear hs hls
          have HOa := Lib.hid (own_below HOk.out ((Below.refl _ _).alloc (Nat.le_refl _) (Obj.cells #[.int .i32 x, .int .i64 s] 41)))
          go_wp2_with (first
            | (go_at_call 29; refine (encode1 _ _ _ x _ hin (by simp) (by simp)).mono ?_; rintro e w2 ⟨g, kk, rfl, hcg, hbe⟩; have HG := Lib.hid hcg; have HE := Lib.hid (((Below.refl B wr).alloc (by omega) (Obj.cells #[.int .i32 x, .int .i64 s] 41)).alloc (by simp; omega) (Obj.cells #[.int .i32 x] 21) |>.trans (hbe.mono (by simp; omega))); have hs2 : wr.heap.size ≤ w2.heap.size := (by have := hbe.size; simp at this; omega); have HO2 := Lib.hid (own_below HOa.out ((((Below.refl _ _).alloc (Nat.le_refl _) _).trans (hbe.mono (by simp))))); clear hcg hbe)
            | (at_builtin; refine wpList_append_own _ rfl _ _ 26 rfl B 5 i0 (.int .u8 0) 1 1 Tryz.underlying26 hi hz0 hz1 hz2 rfl (by decide) _ _ _ rfl HO2.out ⟨g, 0, none⟩ (Lib.encodeRuneZ x).length kk (byV (Lib.encodeRuneZ x)) rfl (by simp [byV]) HG.out (byV_one _) (by unfold maxLen; omega) (by omega) (by omega) ?_))
          intro v4 w4 hown' hg _
          have hb4 := grow_below0 HO2.out (by omega) hg
          have HO4 := Lib.hid (own_as hown' (sofar_same HK.out hx HS.out))
          have HB4 := Lib.hid (HBk.out.trans (HE.out.trans hb4))
          have hs4 := hb4.size
          clear hown' hg hb4 HO2 HE HG HOk HOa HBk
          go_wp2
          go_roundw
          case rel => exact ⟨k + 1, by omega, by go_num, by rw [lastS_snoc HK.out, if_neg hx]; rfl, HO4.out, HB4.out⟩
          case measure => simp [RowKit.intOf]; omega
        · have hla := last_ne hs hs0
          have HS := Lib.hid hs
          generalize lastI (lastS none (l.take k)) = la at *
          clear hs
          have hbk : (wr.alloc (Obj.cells #[.int .i32 x, .int .i64 s] 41)).heap[wr.heap.size]? = some (Obj.cells #[.int .i32 x, .int .i64 s] 41) := heap_alloc_new wr _
          have HOa := Lib.hid (own_below HOk.out ((Below.refl _ _).alloc (Nat.le_refl _) (Obj.cells #[.int .i32 x, .int .i64 s] 41)))
          have HBa := Lib.hid (HBk.out.alloc (by omega) (Obj.cells #[.int .i32 x, .int .i64 s] 41))
          have HBK := Lib.hid hbk
          have AS := Lib.hid (appendStyle B u0 _ _ s ⟨hs0, hs7⟩ _ (HW.out.below' hB10 HBa.out) HOa.out (by omega) (by simp; omega) hB10)
          clear HOk HBk hbk
          go_wp2_with fail
          (with_reducible refine AS.out.mono ?_)
          rintro e w20 ⟨v20, rfl, ho2, hb2⟩
          have HBs := Lib.hid (hb2.cells HBK.out (by decide))
          obtain ⟨ca, cb⟩ := at_block HBs.out
          have hs20 : wr.heap.size + 1 ≤ w20.heap.size := by have := hb2.1.size; simp at this; omega
          have hsl := styleB_le s
          have HO20 := Lib.hid (own_as ho2 rfl)
          have hl20 : (sofar xs r l k ++ byV (styleB s)).length ≤ 80000 := by rw [List.length_append, byV_len]; omega
          obtain ⟨n20, hn20⟩ : ∃ q, q = (sofar xs r l k ++ byV (styleB s)).length := ⟨_, rfl⟩
          rw [← hn20] at HO20 hl20
          have HB20 := Lib.hid (HBa.out.trans hb2.1)
          clear ho2 hb2 AS HOa HBa hn20
          go_wp2_with (first
            | (go_at_call 29; refine (encode1 _ _ _ x _ hin (by simp) (by simp)).mono ?_; rintro e w5 ⟨g, kk, rfl, hcg, hbe⟩; have HG := Lib.hid hcg; have HE := Lib.hid ((Below.refl B w20).alloc (by omega) (Obj.cells #[.int .i32 x] 21) |>.trans (hbe.mono (by simp; omega))); have hs5 : w20.heap.size ≤ w5.heap.size := (by have := hbe.size; simp at this; omega); have HO5 := Lib.hid (own_below HO20.out ((((Below.refl _ _).alloc (Nat.le_refl _) _).trans (hbe.mono (by simp))))); clear hcg hbe)
            | (at_builtin; refine wpList_append_own _ rfl _ _ 26 rfl B 5 i0 (.int .u8 0) 1 1 Tryz.underlying26 hi hz0 hz1 hz2 rfl (by decide) _ _ _ rfl HO5.out ⟨g, 0, none⟩ (Lib.encodeRuneZ x).length kk (byV (Lib.encodeRuneZ x)) rfl (by simp [byV]) HG.out (byV_one _) (by unfold maxLen; omega) (by omega) (by omega) ?_))
          intro v4 w4 hown' hg _
          have hb4 := grow_below0 HO5.out (by omega) hg
          have HO4 := Lib.hid (own_as hown' (ys := sofar xs r l (k + 1)) (by rw [← sofar_new HK.out hx HS.out]; simp only [List.append_assoc]))
          have HB4 := Lib.hid (HB20.out.trans (HE.out.trans hb4))
          have hs4 := hb4.size
          clear hown' hg hb4 HO5 HE HG HO20 HBs ca cb
          go_wp2
          go_roundw
          case rel => exact ⟨k + 1, by omega, by go_num, by rw [lastS_snoc HK.out, if_neg hx]; rfl, HO4.out, HB4.out⟩
          case measure => simp [RowKit.intOf]; omega
    · obtain rfl : k = n := by omega
      go_wp2
      go_ret
      refine ⟨_, rfl, ?_, hbel⟩
      have e : sofar xs r l l.length = xs ++ byV (headB r ++ rowB none l) := by unfold sofar; rw [List.take_length]
      rw [← e, HL.out]
      exact hown
end Go.Proofs.YtnbpkabnaipimaaGreatDoor
namespace Go.Proofs.YtnbpkabnaipimaaGreatDoor
open Go Go.RowKit

theorem take_succ_same {f t : List Cl} {k : Nat} {x : Cl} (h : f.take k = t.take k) (hx : f[k]? = some x) (hy : t[k]? = some x) : f.take (k + 1) = t.take (k + 1) := by
  rw [List.take_add_one, List.take_add_one, h, hx, hy]

set_option maxHeartbeats 4000000 in
set_option maxRecDepth 20000 in
theorem equalAt (fa : Option Addr) (fn fc : Nat) (f : List Cl) (ta : Option Addr) (tn tc : Nat) (t : List Cl) (w : World) (hfn : fn ≤ 100000) (hf : RowAt w fa fn f) (ht : RowAt w ta tn t) :
    Calls Tryz.prog 14 #[.slice fa fn fc, .slice ta tn tc] w fun e w' => e = .returned (.bool (decide (f = t))) ∧ Below w.heap.size w w' := by
  have HF := Lib.hid hf
  have HT := Lib.hid ht
  clear hf ht
  by_cases hl : fn = tn
  · subst hl
    go_enter Tryz.func14, Tryz.ntmps14
    go_wp2
    go_loopw [13] (fun i wr => ∃ k : Nat, k ≤ fn ∧ i = .int .i64 k ∧ f.take k = t.take k ∧ Below w.heap.size w wr) (fun i _ => fn - (intOf i).toNat)
    case atStart => exact ⟨0, Nat.zero_le _, rfl, rfl, Below.refl _ _⟩
    case round =>
      obtain ⟨k, hk, rfl, heq, hbel⟩ := hrel
      have HB := Lib.hid hbel
      have HE := Lib.hid heq
      clear hbel heq
      by_cases hlt : k < fn
      · obtain ⟨x, hx⟩ : ∃ x, f[k]? = some x := ⟨f[k]'(by have := HF.out.1; omega), by simp⟩
        obtain ⟨y, hy⟩ : ∃ y, t[k]? = some y := ⟨t[k]'(by have := HT.out.1; omega), by simp⟩
        rcases HF.out.2 with hX | ⟨fb, foff, rfl, hfb, hfc⟩
        · omega
        rcases HT.out.2 with hX | ⟨tb, toff, rfl, htb, htc⟩
        · omega
        obtain ⟨d0, d1⟩ := clCells (w := wr) (fun j u hu => (HB.out.cell (by exact hfb)).trans (hfc j u hu)) k x hx
        obtain ⟨e0, e1⟩ := clCells (w := wr) (fun j u hu => (HB.out.cell (by exact htb)).trans (htc j u hu)) k y hy
        have HX := Lib.hid hx
        have HY := Lib.hid hy
        have hki : (k : Int) < (fn : Int) := by omega
        have hk0 : (0 : Int) ≤ (k : Int) := by omega
        clear hx hy hfc htc
        obtain ⟨x, s⟩ := x
        obtain ⟨y, z⟩ := y
        simp only at d0 d1 e0 e1
        by_cases hxy : x = y
        · subst hxy
          by_cases hsz : s = z
          · subst hsz
            go_wp2_with fail
            go_region_law (first | fail)
            all_goals
              go_simp
              go_wp2
              go_roundw
              case rel => exact ⟨k + 1, by omega, by go_num, take_succ_same HE.out HX.out HY.out, HB.out.drew⟩
              case measure => simp [intOf]; omega
          · have hne : ¬ f = t := fun h => by
              have h1 := HX.out
              rw [h, HY.out] at h1
              simp at h1
              exact hsz h1.symm
            go_wp2_with fail
            go_region_law (first | fail)
            all_goals
              go_simp
              go_wp2
              go_ret
              exact ⟨ret_bool (by simp [hne]), HB.out.drew⟩
        · have hne : ¬ f = t := fun h => by
            have h1 := HX.out
            rw [h, HY.out] at h1
            simp at h1
            exact hxy h1.1.symm
          go_wp2_with fail
          go_region_law (first | fail)
          all_goals
            go_simp
            go_wp2
            go_ret
            exact ⟨ret_bool (by simp [hne]), HB.out.drew⟩
      · obtain rfl : k = fn := by omega
        have he : f = t := by
          have h := HE.out
          rw [List.take_of_length_le (by rw [HF.out.1]; exact Nat.le_refl _), List.take_of_length_le (by rw [HT.out.1]; exact Nat.le_refl _)] at h
          exact h
        go_wp2
        go_ret
        exact ⟨ret_bool (by simp [he]), HB.out⟩
  · have hli : ¬ (fn : Int) = (tn : Int) := by omega
    have hne : ¬ f = t := fun h => hl (by rw [← HF.out.1, ← HT.out.1, h])
    go_enter Tryz.func14, Tryz.ntmps14
    go_wp2
    go_ret
    exact ⟨ret_bool (by simp [hne]), Below.refl _ _⟩
end Go.Proofs.YtnbpkabnaipimaaGreatDoor
namespace Go.Proofs.YtnbpkabnaipimaaGreatDoor
open Go Go.RowKit Go.Lib

theorem own_bytesN {w : World} {B B' n : Nat} {v : Value} {bs : List Int} (h : w.ownsRow B 5 1 v n (byV bs)) (hB : B' ≤ B) : BytesN B' w v bs :=
  ⟨own_bytesV h, fun a m c hv x hx => by
    rcases h.2 with ⟨e, _⟩ | ⟨g, cap, cur, e, hlo, _⟩
    · rw [hv] at e
      simp only [Value.slice.injEq] at e
      rw [hx] at e
      cases e.1
    · rw [hv] at e
      simp only [Value.slice.injEq] at e
      rw [hx] at e
      cases e.1
      exact Nat.le_trans hB hlo⟩

set_option maxHeartbeats 16000000 in
set_option maxRecDepth 20000 in
theorem paintYes (R C : Int) (q d : Nat) (fa : Option Addr) (fn fc : Nat) (f : List Cl) (ta : Option Addr) (tn tc : Nat) (t : List Cl) (w : World) (hW : Wd w) (hfn : fn ≤ 1000) (htn : tn ≤ 1000) (hfc : fn ≤ fc) (htc : tn ≤ tc) (hf : RowAt w fa fn f) (ht : RowAt w ta tn t) (hp : Prp q d t) (same : Bool) (hs : sizeSame R C q d fn tn = same) :
    Calls Tryz.prog 5 #[GridV R C fa fn fc, GridV q d ta tn tc] w fun e w' => ∃ v, e = .returned (.tuple #[v, .int .i64 0]) ∧ Below w.heap.size w w' ∧ BytesN w.heap.size w' v (paintP same q d f t) := by
  obtain ⟨i0, hi, hz0, hz1, hz2⟩ := info_parts Tryz.info5
  have hq1 : 1 ≤ q := by have := hp.1; omega
  have hq2 : q ≤ 60 := by have := hp.2.1; omega
  have hd1 : 1 ≤ d := by have := hp.2.2.1; omega
  have hd2 : d ≤ 60 := by have := hp.2.2.2.1; omega
  have htq : tn = q * d := by rw [← ht.1]; exact (prp_rows hp).1
  obtain ⟨V, hV⟩ : ∃ V, V = (w.alloc (Obj.cells #[.int .i64 R, .int .i64 C, .slice fa fn fc] 24)).alloc (Obj.cells #[.int .i64 q, .int .i64 d, .slice ta tn tc] 24) := ⟨_, rfl⟩
  have hbV : Below w.heap.size w V := by rw [hV]; exact ((Below.refl _ _).alloc (Nat.le_refl _) _).alloc (by simp) _
  have x0 : V.cell? ⟨w.heap.size, 0, none⟩ = some (.int .i64 R) := by rw [hV]; go_simp
  have x1 : V.cell? ⟨w.heap.size, 1, none⟩ = some (.int .i64 C) := by rw [hV]; go_simp
  have x2 : V.cell? ⟨w.heap.size, 2, none⟩ = some (.slice fa fn fc) := by rw [hV]; go_simp
  have y0 : V.cell? ⟨w.heap.size + 1, 0, none⟩ = some (.int .i64 q) := by rw [hV]; go_simp
  have y1 : V.cell? ⟨w.heap.size + 1, 1, none⟩ = some (.int .i64 d) := by rw [hV]; go_simp
  have y2 : V.cell? ⟨w.heap.size + 1, 2, none⟩ = some (.slice ta tn tc) := by rw [hV]; go_simp
  have hsV : w.heap.size + 2 = V.heap.size := by rw [hV]; simp
  have HC := Lib.hid (show ∀ W : World, Below V.heap.size V W → (W.cell? ⟨w.heap.size, 0, none⟩ = some (.int .i64 R) ∧ W.cell? ⟨w.heap.size, 1, none⟩ = some (.int .i64 C) ∧ W.cell? ⟨w.heap.size, 2, none⟩ = some (.slice fa fn fc)) ∧ W.cell? ⟨w.heap.size + 1, 0, none⟩ = some (.int .i64 q) ∧ W.cell? ⟨w.heap.size + 1, 1, none⟩ = some (.int .i64 d) ∧ W.cell? ⟨w.heap.size + 1, 2, none⟩ = some (.slice ta tn tc) from fun W hb =>
    ⟨⟨(hb.cell (by show w.heap.size < _; omega)).trans x0, (hb.cell (by show w.heap.size < _; omega)).trans x1, (hb.cell (by show w.heap.size < _; omega)).trans x2⟩, (hb.cell (by show w.heap.size + 1 < _; omega)).trans y0, (hb.cell (by show w.heap.size + 1 < _; omega)).trans y1, (hb.cell (by show w.heap.size + 1 < _; omega)).trans y2⟩)
  have HBV := Lib.hid hbV
  have HWV := Lib.hid (hW.below hbV)
  have HFV := Lib.hid (hf.below hbV)
  have HTV := Lib.hid (ht.below hbV)
  have HP := Lib.hid hp
  have hw10 := hW.size
  have HSV := Lib.hid hsV
  have HTQ := Lib.hid htq
  have PR := Lib.hid (show Calls Tryz.prog 8 #[GridV q d ta tn tc] V fun e w' => e = .returned (.bool true) ∧ Below V.heap.size V w' from (proper q d ta tn tc t V HWV.out.tab htn htc HTV.out).mono fun e w' h => by
    obtain ⟨b, he, hb, hbw⟩ := h
    exact ⟨by rw [he, hb.2 hp], hbw⟩)
  obtain ⟨tb, toff, rfl, htb, htc0⟩ : ∃ tb toff, ta = some ⟨tb, toff, none⟩ ∧ tb < V.heap.size ∧ ∀ j u, (flat t)[j]? = some u → V.cell? ⟨tb, toff + j, none⟩ = some u := by
    rcases HTV.out.2 with h0 | ⟨b, off, h1, h2, h3⟩
    · exfalso
      have : 1 ≤ q * d := Nat.mul_pos hq1 hd1
      omega
    · exact ⟨b, off, h1, h2, h3⟩
  have HTC := Lib.hid htc0
  have hall : ∀ c ∈ t, mayR c.r ∧ 0 ≤ c.s ∧ c.s ≤ 7 := prp_all hp
  have HALL := Lib.hid hall
  have hv10 : 10 ≤ V.heap.size := by omega
  clear htc0 hall
  clear hbV x0 x1 x2 y0 y1 y2 hf ht hW hp htq hsV
  obtain ⟨⟨x0, x1, x2⟩, y0, y1, y2⟩ := HC.out V (Below.refl _ _)
  go_enter Tryz.func5, Tryz.ntmps5
  go_wp2_with fail
  rw [← hV]
  clear hV
  (with_reducible refine PR.out.mono ?_)
  rintro e w1 ⟨rfl, hb1⟩
  have HB1 := Lib.hid hb1
  obtain ⟨⟨x0, x1, x2⟩, y0, y1, y2⟩ := HC.out w1 hb1
  have hs1 := hb1.size
  clear hb1 PR
  cases same
  · by_cases hR : R = (q : Int)
    · by_cases hC : C = (d : Int)
      · have hfne : ¬ fn = tn := fun e => by subst hR; subst hC; subst e; simp [sizeSame] at hs
        have hfi : ¬ (fn : Int) = (tn : Int) := by omega
        subst hR hC
        clear hs
        go_wp2_with (at_builtin; refine wpList_append_own _ rfl _ _ 26 rfl V.heap.size 5 i0 (.int .u8 0) 1 1 Tryz.underlying26 hi hz0 hz1 hz2 rfl (by decide) _ _ _ rfl (World.ownsRow_nil _ _ _ _) ⟨w1.heap.size, 0, none⟩ 4 4 (byV [27, 91, 50, 74]) rfl rfl (new_cells _ _ _) (byV_one _) (by unfold maxLen; omega) (by omega) (by simp; omega) ?_)
        intro v0 w0 hown1 hg _
        have HBS := Lib.hid (show Below V.heap.size V w0 from HB1.out.trans ((((Below.refl _ _).alloc (Nat.le_refl _) _).grown hg (by simp) (fun k hk => by cases hk)).mono hs1))
        have HOS := Lib.hid (own_as (ys := outB false d f t 0) hown1 rfl)
        obtain ⟨⟨x0, x1, x2⟩, y0, y1, y2⟩ := HC.out w0 HBS.out
        clear hown1 hg
        go_wp2_with fail
        go_loopw [6, 40] (fun o i wr => ∃ k : Nat, k ≤ q ∧ i = .int .i64 k ∧ wr.ownsRow V.heap.size 5 1 o (outB false d f t k).length (outB false d f t k) ∧ Below V.heap.size V wr) (fun _ i _ => q - (RowKit.intOf i).toNat)
        case atStart => exact ⟨0, Nat.zero_le _, rfl, HOS.out, HBS.out⟩
        case round =>
          obtain ⟨k, hk, rfl, hown, hbel⟩ := hrel
          obtain ⟨⟨x0, x1, x2⟩, y0, y1, y2⟩ := HC.out wr hbel
          have hsr := hbel.size
          have HO := Lib.hid hown
          have HB := Lib.hid hbel
          have hole := outB_le false d f t k hd2
          clear hown hbel
          by_cases hlt : k < q
          · obtain ⟨qq, hqq⟩ : ∃ qq, qq = k * d := ⟨_, rfl⟩
            have hq0 : (k : Int) * (d : Int) = (qq : Int) := by rw [hqq]; rfl
            have hqr : qq + d ≤ tn := by
              rw [HTQ.out, hqq]
              have := Nat.mul_le_mul_right d (show k + 1 ≤ q by omega)
              rw [Nat.succ_mul] at this
              exact this
            have HQ := Lib.hid hqq
            have hl : t.length = q * d := by rw [← HTQ.out]; exact HTV.out.1
            have HLR := Lib.hid (rowAt_len hlt hl)
            have RO1 := Lib.hid (fun W => rowOf (q : Int) k qq d tb toff tn tc W hq0 hd1 hqr htc (by omega) (by omega))
            have CELLS := Lib.hid (show ∀ W, Below V.heap.size V W → ∀ j u, (flat (rowAt d t k))[j]? = some u → W.cell? ⟨tb, (toff + qq * 2) + j, none⟩ = some u from fun W hb => by
              rw [hqq]
              exact row_cells (fun j u hu => (hb.cell (by exact htb)).trans (HTC.out j u hu)))
            have RA := Lib.hid (show ∀ (W : World) (v : Value) (m : Nat), Below V.heap.size V W → W.ownsRow V.heap.size 5 1 v m (outB false d f t k) → m ≤ 60000 → _ from fun W v m hb ho hm => rowApp V.heap.size v m _ (k : Int) (by omega) (by omega) tb (toff + qq * 2) d (tc - qq) (rowAt d t k) HLR.out (by omega) W (HWV.out.below hb) (by omega) htb hb.size (CELLS.out W hb) (fun c hc => HALL.out c (mem_rowAt hc)) ho hm)
            clear hqq hl
            go_wp2_with fail
            (with_reducible refine (RO1.out _).mono ?_)
            rintro e w2 ⟨rfl, hb2⟩
            have HB2 := Lib.hid (HB.out.trans (hb2.mono hsr))
            have HO2 := Lib.hid (own_below HO.out hb2)
            obtain ⟨⟨x0, x1, x2⟩, y0, y1, y2⟩ := HC.out w2 HB2.out
            have hs2 := HB2.out.size
            clear hb2 HO HB
            go_wp2_with fail
            (with_reducible refine (RA.out _ _ _ HB2.out HO2.out (by omega)).mono ?_)
            rintro e w5 ⟨v5, rfl, ho5, hb5⟩
            have HO5 := Lib.hid (own_as ho5 (outB_new rfl))
            have HB5 := Lib.hid (HB2.out.trans hb5)
            clear ho5 hb5 HO2 HB2
            go_wp2
            go_roundw
            case rel => exact ⟨k + 1, by omega, by go_num, HO5.out, HB5.out⟩
            case measure => simp [RowKit.intOf]; omega
          · obtain rfl : k = q := by omega
            go_wp2
            go_ret2
            refine ⟨_, rfl, HBV.out.trans (HB.out.mono HBV.out.size), ?_⟩
            exact own_bytesN HO.out HBV.out.size
      · have hCn : ¬ C = (d : Int) := hC
        subst hR
        clear hs
        go_wp2_with (at_builtin; refine wpList_append_own _ rfl _ _ 26 rfl V.heap.size 5 i0 (.int .u8 0) 1 1 Tryz.underlying26 hi hz0 hz1 hz2 rfl (by decide) _ _ _ rfl (World.ownsRow_nil _ _ _ _) ⟨w1.heap.size, 0, none⟩ 4 4 (byV [27, 91, 50, 74]) rfl rfl (new_cells _ _ _) (byV_one _) (by unfold maxLen; omega) (by omega) (by simp; omega) ?_)
        intro v0 w0 hown1 hg _
        have HBS := Lib.hid (show Below V.heap.size V w0 from HB1.out.trans ((((Below.refl _ _).alloc (Nat.le_refl _) _).grown hg (by simp) (fun k hk => by cases hk)).mono hs1))
        have HOS := Lib.hid (own_as (ys := outB false d f t 0) hown1 rfl)
        obtain ⟨⟨x0, x1, x2⟩, y0, y1, y2⟩ := HC.out w0 HBS.out
        clear hown1 hg
        go_wp2_with fail
        go_loopw [6, 40] (fun o i wr => ∃ k : Nat, k ≤ q ∧ i = .int .i64 k ∧ wr.ownsRow V.heap.size 5 1 o (outB false d f t k).length (outB false d f t k) ∧ Below V.heap.size V wr) (fun _ i _ => q - (RowKit.intOf i).toNat)
        case atStart => exact ⟨0, Nat.zero_le _, rfl, HOS.out, HBS.out⟩
        case round =>
          obtain ⟨k, hk, rfl, hown, hbel⟩ := hrel
          obtain ⟨⟨x0, x1, x2⟩, y0, y1, y2⟩ := HC.out wr hbel
          have hsr := hbel.size
          have HO := Lib.hid hown
          have HB := Lib.hid hbel
          have hole := outB_le false d f t k hd2
          clear hown hbel
          by_cases hlt : k < q
          · obtain ⟨qq, hqq⟩ : ∃ qq, qq = k * d := ⟨_, rfl⟩
            have hq0 : (k : Int) * (d : Int) = (qq : Int) := by rw [hqq]; rfl
            have hqr : qq + d ≤ tn := by
              rw [HTQ.out, hqq]
              have := Nat.mul_le_mul_right d (show k + 1 ≤ q by omega)
              rw [Nat.succ_mul] at this
              exact this
            have HQ := Lib.hid hqq
            have hl : t.length = q * d := by rw [← HTQ.out]; exact HTV.out.1
            have HLR := Lib.hid (rowAt_len hlt hl)
            have RO1 := Lib.hid (fun W => rowOf (q : Int) k qq d tb toff tn tc W hq0 hd1 hqr htc (by omega) (by omega))
            have CELLS := Lib.hid (show ∀ W, Below V.heap.size V W → ∀ j u, (flat (rowAt d t k))[j]? = some u → W.cell? ⟨tb, (toff + qq * 2) + j, none⟩ = some u from fun W hb => by
              rw [hqq]
              exact row_cells (fun j u hu => (hb.cell (by exact htb)).trans (HTC.out j u hu)))
            have RA := Lib.hid (show ∀ (W : World) (v : Value) (m : Nat), Below V.heap.size V W → W.ownsRow V.heap.size 5 1 v m (outB false d f t k) → m ≤ 60000 → _ from fun W v m hb ho hm => rowApp V.heap.size v m _ (k : Int) (by omega) (by omega) tb (toff + qq * 2) d (tc - qq) (rowAt d t k) HLR.out (by omega) W (HWV.out.below hb) (by omega) htb hb.size (CELLS.out W hb) (fun c hc => HALL.out c (mem_rowAt hc)) ho hm)
            clear hqq hl
            go_wp2_with fail
            (with_reducible refine (RO1.out _).mono ?_)
            rintro e w2 ⟨rfl, hb2⟩
            have HB2 := Lib.hid (HB.out.trans (hb2.mono hsr))
            have HO2 := Lib.hid (own_below HO.out hb2)
            obtain ⟨⟨x0, x1, x2⟩, y0, y1, y2⟩ := HC.out w2 HB2.out
            have hs2 := HB2.out.size
            clear hb2 HO HB
            go_wp2_with fail
            (with_reducible refine (RA.out _ _ _ HB2.out HO2.out (by omega)).mono ?_)
            rintro e w5 ⟨v5, rfl, ho5, hb5⟩
            have HO5 := Lib.hid (own_as ho5 (outB_new rfl))
            have HB5 := Lib.hid (HB2.out.trans hb5)
            clear ho5 hb5 HO2 HB2
            go_wp2
            go_roundw
            case rel => exact ⟨k + 1, by omega, by go_num, HO5.out, HB5.out⟩
            case measure => simp [RowKit.intOf]; omega
          · obtain rfl : k = q := by omega
            go_wp2
            go_ret2
            refine ⟨_, rfl, HBV.out.trans (HB.out.mono HBV.out.size), ?_⟩
            exact own_bytesN HO.out HBV.out.size
    · have hRn : ¬ R = (q : Int) := hR
      clear hs
      go_wp2_with (at_builtin; refine wpList_append_own _ rfl _ _ 26 rfl V.heap.size 5 i0 (.int .u8 0) 1 1 Tryz.underlying26 hi hz0 hz1 hz2 rfl (by decide) _ _ _ rfl (World.ownsRow_nil _ _ _ _) ⟨w1.heap.size, 0, none⟩ 4 4 (byV [27, 91, 50, 74]) rfl rfl (new_cells _ _ _) (byV_one _) (by unfold maxLen; omega) (by omega) (by simp; omega) ?_)
      intro v0 w0 hown1 hg _
      have HBS := Lib.hid (show Below V.heap.size V w0 from HB1.out.trans ((((Below.refl _ _).alloc (Nat.le_refl _) _).grown hg (by simp) (fun k hk => by cases hk)).mono hs1))
      have HOS := Lib.hid (own_as (ys := outB false d f t 0) hown1 rfl)
      obtain ⟨⟨x0, x1, x2⟩, y0, y1, y2⟩ := HC.out w0 HBS.out
      clear hown1 hg
      go_wp2_with fail
      go_loopw [6, 40] (fun o i wr => ∃ k : Nat, k ≤ q ∧ i = .int .i64 k ∧ wr.ownsRow V.heap.size 5 1 o (outB false d f t k).length (outB false d f t k) ∧ Below V.heap.size V wr) (fun _ i _ => q - (RowKit.intOf i).toNat)
      case atStart => exact ⟨0, Nat.zero_le _, rfl, HOS.out, HBS.out⟩
      case round =>
        obtain ⟨k, hk, rfl, hown, hbel⟩ := hrel
        obtain ⟨⟨x0, x1, x2⟩, y0, y1, y2⟩ := HC.out wr hbel
        have hsr := hbel.size
        have HO := Lib.hid hown
        have HB := Lib.hid hbel
        have hole := outB_le false d f t k hd2
        clear hown hbel
        by_cases hlt : k < q
        · obtain ⟨qq, hqq⟩ : ∃ qq, qq = k * d := ⟨_, rfl⟩
          have hq0 : (k : Int) * (d : Int) = (qq : Int) := by rw [hqq]; rfl
          have hqr : qq + d ≤ tn := by
            rw [HTQ.out, hqq]
            have := Nat.mul_le_mul_right d (show k + 1 ≤ q by omega)
            rw [Nat.succ_mul] at this
            exact this
          have HQ := Lib.hid hqq
          have hl : t.length = q * d := by rw [← HTQ.out]; exact HTV.out.1
          have HLR := Lib.hid (rowAt_len hlt hl)
          have RO1 := Lib.hid (fun W => rowOf (q : Int) k qq d tb toff tn tc W hq0 hd1 hqr htc (by omega) (by omega))
          have CELLS := Lib.hid (show ∀ W, Below V.heap.size V W → ∀ j u, (flat (rowAt d t k))[j]? = some u → W.cell? ⟨tb, (toff + qq * 2) + j, none⟩ = some u from fun W hb => by
            rw [hqq]
            exact row_cells (fun j u hu => (hb.cell (by exact htb)).trans (HTC.out j u hu)))
          have RA := Lib.hid (show ∀ (W : World) (v : Value) (m : Nat), Below V.heap.size V W → W.ownsRow V.heap.size 5 1 v m (outB false d f t k) → m ≤ 60000 → _ from fun W v m hb ho hm => rowApp V.heap.size v m _ (k : Int) (by omega) (by omega) tb (toff + qq * 2) d (tc - qq) (rowAt d t k) HLR.out (by omega) W (HWV.out.below hb) (by omega) htb hb.size (CELLS.out W hb) (fun c hc => HALL.out c (mem_rowAt hc)) ho hm)
          clear hqq hl
          go_wp2_with fail
          (with_reducible refine (RO1.out _).mono ?_)
          rintro e w2 ⟨rfl, hb2⟩
          have HB2 := Lib.hid (HB.out.trans (hb2.mono hsr))
          have HO2 := Lib.hid (own_below HO.out hb2)
          obtain ⟨⟨x0, x1, x2⟩, y0, y1, y2⟩ := HC.out w2 HB2.out
          have hs2 := HB2.out.size
          clear hb2 HO HB
          go_wp2_with fail
          (with_reducible refine (RA.out _ _ _ HB2.out HO2.out (by omega)).mono ?_)
          rintro e w5 ⟨v5, rfl, ho5, hb5⟩
          have HO5 := Lib.hid (own_as ho5 (outB_new rfl))
          have HB5 := Lib.hid (HB2.out.trans hb5)
          clear ho5 hb5 HO2 HB2
          go_wp2
          go_roundw
          case rel => exact ⟨k + 1, by omega, by go_num, HO5.out, HB5.out⟩
          case measure => simp [RowKit.intOf]; omega
        · obtain rfl : k = q := by omega
          go_wp2
          go_ret2
          refine ⟨_, rfl, HBV.out.trans (HB.out.mono HBV.out.size), ?_⟩
          exact own_bytesN HO.out HBV.out.size
  · have hRq : R = (q : Int) := by simp [sizeSame] at hs; exact hs.1.1
    have hCd : C = (d : Int) := by simp [sizeSame] at hs; exact hs.1.2
    have hft : fn = tn := by simp [sizeSame] at hs; exact hs.2
    subst hRq hCd hft
    clear hs
    obtain ⟨fb, foff, rfl, hfb, hfc0⟩ : ∃ fb foff, fa = some ⟨fb, foff, none⟩ ∧ fb < V.heap.size ∧ ∀ j u, (flat f)[j]? = some u → V.cell? ⟨fb, foff + j, none⟩ = some u := by
      rcases HFV.out.2 with h0 | ⟨b, off, h1, h2, h3⟩
      · exfalso
        have : 1 ≤ q * d := Nat.mul_pos hq1 hd1
        have := HTQ.out
        omega
      · exact ⟨b, off, h1, h2, h3⟩
    have HFC := Lib.hid hfc0
    clear hfc0
    go_wp2_with fail
    go_loopw [6, 40] (fun o i wr => ∃ k : Nat, k ≤ q ∧ i = .int .i64 k ∧ wr.ownsRow V.heap.size 5 1 o (outB true d f t k).length (outB true d f t k) ∧ Below V.heap.size V wr) (fun _ i _ => q - (RowKit.intOf i).toNat)
    case atStart => exact ⟨0, Nat.zero_le _, rfl, World.ownsRow_nil _ _ _ _, HB1.out⟩
    case round =>
      obtain ⟨k, hk, rfl, hown, hbel⟩ := hrel
      obtain ⟨⟨x0, x1, x2⟩, y0, y1, y2⟩ := HC.out wr hbel
      have hsr := hbel.size
      have HO := Lib.hid hown
      have HB := Lib.hid hbel
      have hole := outB_le true d f t k hd2
      clear hown hbel
      by_cases hlt : k < q
      · obtain ⟨qq, hqq⟩ : ∃ qq, qq = k * d := ⟨_, rfl⟩
        have hq0 : (k : Int) * (d : Int) = (qq : Int) := by rw [hqq]; rfl
        have hqr : qq + d ≤ fn := by
          rw [HTQ.out, hqq]
          have := Nat.mul_le_mul_right d (show k + 1 ≤ q by omega)
          rw [Nat.succ_mul] at this
          exact this
        have HQ := Lib.hid hqq
        have hl : t.length = q * d := by rw [← HTQ.out]; exact HTV.out.1
        have HLR := Lib.hid (rowAt_len hlt hl)
        have RO1 := Lib.hid (fun W => rowOf (q : Int) k qq d tb toff fn tc W hq0 hd1 hqr htc (by omega) (by omega))
        have CELLS := Lib.hid (show ∀ W, Below V.heap.size V W → ∀ j u, (flat (rowAt d t k))[j]? = some u → W.cell? ⟨tb, (toff + qq * 2) + j, none⟩ = some u from fun W hb => by
          rw [hqq]
          exact row_cells (fun j u hu => (hb.cell (by exact htb)).trans (HTC.out j u hu)))
        have RA := Lib.hid (show ∀ (W : World) (v : Value) (m : Nat), Below V.heap.size V W → W.ownsRow V.heap.size 5 1 v m (outB true d f t k) → m ≤ 60000 → _ from fun W v m hb ho hm => rowApp V.heap.size v m _ (k : Int) (by omega) (by omega) tb (toff + qq * 2) d (tc - qq) (rowAt d t k) HLR.out (by omega) W (HWV.out.below hb) (by omega) htb hb.size (CELLS.out W hb) (fun c hc => HALL.out c (mem_rowAt hc)) ho hm)
        clear hqq hl
        go_wp2_with fail
        (with_reducible refine (RO1.out _).mono ?_)
        rintro e w2 ⟨rfl, hb2⟩
        have HB2 := Lib.hid (HB.out.trans (hb2.mono hsr))
        have HO2 := Lib.hid (own_below HO.out hb2)
        obtain ⟨⟨x0, x1, x2⟩, y0, y1, y2⟩ := HC.out w2 HB2.out
        have hs2 := HB2.out.size
        clear hb2 HO HB
        have EQ := Lib.hid (show ∀ W, Below V.heap.size V W → Calls Tryz.prog 14 #[.slice (some ⟨tb, toff + qq * 2, none⟩) d (tc - qq), .slice (some ⟨fb, foff + qq * 2, none⟩) d (fc - qq)] W fun e w' => e = .returned (.bool (decide (rowAt d t k = rowAt d f k))) ∧ Below W.heap.size W w' from fun W hb =>
          equalAt _ d _ (rowAt d t k) _ d _ (rowAt d f k) W (by omega) ⟨HLR.out, .inr ⟨tb, _, rfl, Nat.lt_of_lt_of_le htb hb.size, CELLS.out W hb⟩⟩ ⟨rowAt_len hlt (by rw [← HTQ.out]; exact HFV.out.1), .inr ⟨fb, _, rfl, Nat.lt_of_lt_of_le hfb hb.size, by
            rw [HQ.out]
            exact row_cells (fun j u hu => (hb.cell (by exact hfb)).trans (HFC.out j u hu))⟩⟩)
        have RO2 := Lib.hid (fun W => rowOf (q : Int) k qq d fb foff fn fc W hq0 hd1 hqr hfc (by omega) (by omega))
        have hup : upto f t (k * d) d = decide (rowAt d t k = rowAt d f k) := by
          rw [upto_row, Bool.eq_iff_iff]
          simp only [decide_eq_true_eq]
          exact eq_comm
        have HUP := Lib.hid hup
        clear hup
        go_wp2_with fail
        (with_reducible refine (RO2.out _).mono ?_)
        rintro e w3 ⟨rfl, hb3⟩
        have HB3 := Lib.hid (HB2.out.trans (hb3.mono hs2))
        have HO3 := Lib.hid (own_below HO2.out hb3)
        have hs3 := HB3.out.size
        clear hb3 HO2 HB2
        by_cases heq : rowAt d t k = rowAt d f k
        · rw [decide_eq_true heq] at EQ HUP
          have HEQ := Lib.hid heq
          clear heq
          go_wp2_with fail
          (with_reducible refine (EQ.out _ HB3.out).mono ?_)
          rintro e w4 ⟨rfl, hb4⟩
          have HB4 := Lib.hid (HB3.out.trans (hb4.mono hs3))
          have HO4 := Lib.hid (own_below HO3.out hb4)
          clear hb4 HO3 HB3
          go_wp2
          go_roundw
          case rel => exact ⟨k + 1, by omega, by go_num, by rw [outB_same (by rw [HUP.out]; rfl)]; exact HO4.out, HB4.out⟩
          case measure => simp [RowKit.intOf]; omega
        · rw [decide_eq_false heq] at EQ HUP
          have HEQ := Lib.hid heq
          clear heq
          go_wp2_with fail
          (with_reducible refine (EQ.out _ HB3.out).mono ?_)
          rintro e w4 ⟨rfl, hb4⟩
          have HB4 := Lib.hid (HB3.out.trans (hb4.mono hs3))
          have HO4 := Lib.hid (own_below HO3.out hb4)
          have hs4 := HB4.out.size
          clear hb4 HO3 HB3
          go_wp2_with fail
          (with_reducible refine (RA.out _ _ _ HB4.out HO4.out (by omega)).mono ?_)
          rintro e w5 ⟨v5, rfl, ho5, hb5⟩
          have HO5 := Lib.hid (own_as ho5 (outB_new (by rw [HUP.out]; rfl)))
          have HB5 := Lib.hid (HB4.out.trans hb5)
          clear ho5 hb5 HO4 HB4
          go_wp2
          go_roundw
          case rel => exact ⟨k + 1, by omega, by go_num, HO5.out, HB5.out⟩
          case measure => simp [RowKit.intOf]; omega
      · obtain rfl : k = q := by omega
        go_wp2
        go_ret2
        refine ⟨_, rfl, HBV.out.trans (HB.out.mono HBV.out.size), ?_⟩
        exact own_bytesN HO.out HBV.out.size

/-- Paint, of any grids. -/
theorem paint (R C : Int) (fa : Option Addr) (fn fc : Nat) (f : List Cl) (Q D : Int) (ta : Option Addr) (tn tc : Nat) (t : List Cl) (w : World) (hW : Wd w) (hfn : fn ≤ 1000) (htn : tn ≤ 1000) (hfc : fn ≤ fc) (htc : tn ≤ tc) (hf : RowAt w fa fn f) (ht : RowAt w ta tn t) :
    Calls Tryz.prog 5 #[GridV R C fa fn fc, GridV Q D ta tn tc] w (GotB R C Q D fn tn f t w) := by
  by_cases hp : Prp Q D t
  · obtain ⟨q, rfl⟩ := Int.eq_ofNat_of_zero_le (show 0 ≤ Q by have := hp.1; omega)
    obtain ⟨d, rfl⟩ := Int.eq_ofNat_of_zero_le (show 0 ≤ D by have := hp.2.2.1; omega)
    exact (paintYes R C q d fa fn fc f ta tn tc t w hW hfn htn hfc htc hf ht hp _ rfl).mono fun e w' ⟨v, he, hb, hn⟩ => ⟨v, hb, .inr ⟨hp, he, hn⟩⟩
  · have hbV : Below w.heap.size w ((w.alloc (Obj.cells #[.int .i64 R, .int .i64 C, .slice fa fn fc] 24)).alloc (Obj.cells #[.int .i64 Q, .int .i64 D, .slice ta tn tc] 24)) := ((Below.refl _ _).alloc (Nat.le_refl _) _).alloc (by simp) _
    have HBV := Lib.hid hbV
    have PR := Lib.hid (show Calls Tryz.prog 8 #[GridV Q D ta tn tc] _ fun e w' => e = .returned (.bool false) ∧ Below w.heap.size w w' from (proper Q D ta tn tc t _ (hW.below hbV).tab htn htc (ht.below hbV)).mono fun e w' h => by
      obtain ⟨b, he, hb, hbw⟩ := h
      cases b
      · exact ⟨he, hbV.trans (hbw.mono hbV.size)⟩
      · exact absurd (hb.1 rfl) hp)
    have HP := Lib.hid hp
    clear hbV hp hW hf ht
    go_enter Tryz.func5, Tryz.ntmps5
    go_wp2_with fail
    (with_reducible refine PR.out.mono ?_)
    rintro e w1 ⟨rfl, hb1⟩
    have HB1 := Lib.hid hb1
    clear hb1
    go_wp2
    go_ret2
    exact ⟨_, HB1.out, .inl ⟨HP.out, rfl, own_bytesN (B := w.heap.size) (bs := []) (n := 0) (World.ownsRow_nil _ _ _ _) (Nat.le_refl _)⟩⟩
/-- What the laws ask of Proper and Paint. -/
theorem said0 : Said0 Wd where
  keep := fun h hb => h.below hb
  proper := fun R C a n cap l w hW hn hc hl => proper R C a n cap l w hW.tab hn hc hl
  paint := fun R C fa fn fc f Q D ta tn tc t w hW h1 h2 h3 h4 hf ht => paint R C fa fn fc f Q D ta tn tc t w hW h1 h2 h3 h4 hf ht
end Go.Proofs.YtnbpkabnaipimaaGreatDoor
