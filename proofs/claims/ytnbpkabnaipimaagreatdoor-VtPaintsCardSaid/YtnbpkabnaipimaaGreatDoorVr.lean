/- The contracts of slices.Repeat of one cell that is a space, and of blank: a grid of spaces, in new memory. Conditions: at most 3600 cells. -/
import Derived.Test.YtnbpkabnaipimaaGreatDoorVd
import Derived.Test.YtnbpkabnaipimaaGreatDoorVsh
import Derived.Test.YtnbpkabnaipimaaGreatDoorVa
import Derived.Laws.CopyOwn
import Derived.Laws.OwnMore
import Derived.OwnWalk
namespace Go.Proofs.YtnbpkabnaipimaaGreatDoor
open Go Go.RowKit Go.Lib

theorem Tryz.infoC : (Tryz.prog.info? 41).map (fun i => (i.zero, i.size, i.bytes)) = some (some (.agg #[.int .i32 0, .int .i64 0]), 2, 16) := by kernel_rfl

/-- copy of elements of two values each. -/
theorem run_copy2 {P : Program} (w : World) (dT sT ty elem : TypeId) (g o dLen dCap : Nat) (a : Addr) (sLen sCap : Nat) (cur : Array Value) (t : TypeId) (cs : List Value) (m : Nat)
    (hu : P.underlying dT = some (.slice elem)) (hs : (P.info? elem).map (·.size) = some 2)
    (hg : w.heap[g]? = some (.cells cur t (0, 0))) (hm : m = Nat.min sLen dLen) (hn : cs.length = m * 2)
    (hsrc : ∀ j v, cs[j]? = some v → w.cell? (a.add j) = some v) (hfit : o + cs.length ≤ cur.size) (h1 : ∀ v ∈ cs, v.oneCell' = true) :
    (Builtin.copy_ #[dT, sT] ty #[.slice (some ⟨g, o, none⟩) dLen dCap, .slice (some a) sLen sCap]).run P w =
      .ok (goInt m) (w.setRow g (cur.toList.take o ++ (cs ++ cur.toList.drop (o + cs.length))).toArray) := by
  have hl := run_loadCells_list (P := P) w a cs hsrc
  have hst := run_storeCells_at P g o t cs 0 cur w hg (by simpa using hfit) h1
  rw [hn] at hl
  cases hq : P.info? elem with
  | none => simp [hq] at hs
  | some i =>
    have hi : i.size = 2 := by simpa [hq] using hs
    simp [Builtin.copy_, run_underlying hu, Builtin.lenOf, Builtin.firstCells, sizeOf, typeInfo, hq, hi, ← hm, hl, hst]

theorem wpList_copy2 {P : Program} {w : World} {ops : Array Oper} {rest : List Oper} {o : Oper} {a : Act} {Q : Exit → Act → World → Prop} (hgd : o.guard = none) (d s : Operand) (dT sT : TypeId)
    (ho : o.op = .call { callee := .builtin .copy, args := #[d, s], argTypes := #[dT, sT] }) (elem : TypeId) (hu : P.underlying dT = some (.slice elem)) (hsz : (P.info? elem).map (·.size) = some 2)
    (g off dLen dCap : Nat) (ad : Addr) (sLen sCap : Nat) (hd : a.eval d = .slice (some ⟨g, off, none⟩) dLen dCap) (hs : a.eval s = .slice (some ad) sLen sCap)
    (cur : Array Value) (t : TypeId) (hg : w.heap[g]? = some (.cells cur t (0, 0))) (cs : List Value) (m : Nat) (hm : m = Nat.min sLen dLen) (hn : cs.length = m * 2)
    (hsrc : ∀ j v, cs[j]? = some v → w.cell? (ad.add j) = some v) (hfit : off + cs.length ≤ cur.size) (h1 : ∀ v ∈ cs, v.oneCell' = true)
    (h : ∀ w', w' = w.setRow g (cur.toList.take off ++ (cs ++ cur.toList.drop (off + cs.length))).toArray → wpList P ops Q rest (a.put o.dst (goInt m)) w') : wpList P ops Q (o :: rest) a w := by
  refine wpList_plain hgd fun K hK => ?_
  have hrun := run_copy2 (P := P) w dT sT o.type elem g off dLen dCap ad sLen sCap cur t cs m hu hsz hg hm hn hsrc hfit h1
  unfold Oper.wp
  simp only [execOp, ho, resolve, invoke, builtin]
  simp [hd, hs, hrun, Result.andThen]
  exact hK _ _ (h _ rfl)

theorem step_copy2 {P : Program} {ops : Array Oper} {o : Oper} {a : Act} {w : World} {K : Act → World → Prop} {Q : Exit → Act → World → Prop} {E : Prop} (hgd : o.guard = none) (d s : Operand) (dT sT : TypeId)
    (ho : o.op = .call { callee := .builtin .copy, args := #[d, s], argTypes := #[dT, sT] }) (elem : TypeId) (hu : P.underlying dT = some (.slice elem)) (hsz : (P.info? elem).map (·.size) = some 2)
    (g off dLen dCap : Nat) (ad : Addr) (sLen sCap : Nat) (hd : a.eval d = .slice (some ⟨g, off, none⟩) dLen dCap) (hs : a.eval s = .slice (some ad) sLen sCap)
    (cur : Array Value) (t : TypeId) (hg : w.heap[g]? = some (.cells cur t (0, 0))) (cs : List Value) (m : Nat) (hm : m = Nat.min sLen dLen) (hn : cs.length = m * 2)
    (hsrc : ∀ j v, cs[j]? = some v → w.cell? (ad.add j) = some v) (hfit : off + cs.length ≤ cur.size) (h1 : ∀ v ∈ cs, v.oneCell' = true)
    (h : ∀ w', w' = w.setRow g (cur.toList.take off ++ (cs ++ cur.toList.drop (off + cs.length))).toArray → K (a.put o.dst (goInt m)) w') :
    if Region.wanted o (yielded ops a.tmps) = true then Oper.wp P o a w K Q else E := by
  have hw : Region.wanted o (yielded ops a.tmps) = true := by simp [Region.wanted, hgd]
  rw [if_pos hw]
  have hrun := run_copy2 (P := P) w dT sT o.type elem g off dLen dCap ad sLen sCap cur t cs m hu hsz hg hm hn hsrc hfit h1
  unfold Oper.wp
  simp only [execOp, ho, resolve, invoke, builtin]
  simp [hd, hs, hrun, Result.andThen]
  exact h _ rfl

/-- A row of cells, as far as it is filled with spaces. -/
def fillL (k n : Nat) : List Cl := List.replicate k blank ++ List.replicate (n - k) ⟨0, 0⟩
theorem fill_len {k n : Nat} (h : k ≤ n) : (fillL k n).length = n := by simp [fillL]; omega
theorem fill_zero (n : Nat) : (madeCells #[Value.int .i32 0, Value.int .i64 0] (n * 2)).toList = flat (fillL 0 n) := by
  have e : ∀ k, flat (List.replicate k ⟨0, 0⟩) = (List.range (k * 2)).map fun j => if j % 2 = 0 then Value.int .i32 0 else Value.int .i64 0 := by
    intro k
    induction k with
    | zero => rfl
    | succ k ih =>
      rw [List.replicate_succ', flat_append, ih, flat_one, show (k + 1) * 2 = k * 2 + 1 + 1 by omega, List.range_succ, List.range_succ]
      simp [Cl.cells]
  have hf : fillL 0 n = List.replicate n ⟨0, 0⟩ := by simp [fillL]
  rw [hf, e n]
  unfold madeCells
  simp only [Array.toList_map, Array.toList_range]
  apply List.map_congr_left
  intro j _
  rcases Nat.mod_two_eq_zero_or_one j with h | h <;> simp [h]
theorem fill_more (k m n : Nat) : (flat (fillL k n)).take (k * 2) ++ (flat (List.replicate m blank) ++ (flat (fillL k n)).drop (k * 2 + (flat (List.replicate m blank)).length)) = flat (fillL (k + m) n) := by
  have e1 : (fillL k n).take k = List.replicate k blank := by simp [fillL]
  have e2 : (fillL k n).drop (k + m) = List.replicate (n - (k + m)) ⟨0, 0⟩ := by
    unfold fillL
    rw [List.drop_append, List.drop_of_length_le (by simp), List.drop_replicate]
    simp
    omega
  rw [flat_len, List.length_replicate, show k * 2 + m * 2 = (k + m) * 2 by omega, ← flat_take, ← flat_drop, e1, e2, ← flat_append, ← flat_append]
  unfold fillL
  rw [← List.append_assoc, List.replicate_append_replicate]
theorem flat_rep (m : Nat) : ∀ v ∈ flat (List.replicate m blank), v.oneCell' = true := flat_cells_one _
theorem fill_front {w : World} {g k m n : Nat} {t : TypeId} (hg : w.heap[g]? = some (.cells (flat (fillL k n)).toArray t (0, 0))) (hm : m ≤ k) : ∀ j v, (flat (List.replicate m blank))[j]? = some v → w.cell? ((⟨g, 0, none⟩ : Addr).add j) = some v := by
  intro j v hj
  rw [Addr.add_lit, Nat.zero_add, cell_of_row w g j _ t (0, 0) hg]
  have hjl : j < m * 2 := by
    have := (List.getElem?_eq_some_iff.1 hj).1
    rwa [flat_len, List.length_replicate] at this
  have e : flat (List.replicate m blank) = (flat (fillL k n)).take (m * 2) := by
    rw [← flat_take]
    congr 1
    unfold fillL
    rw [List.take_append_of_le_length (by simp; omega), List.take_replicate, Nat.min_eq_left hm]
  rw [e, List.getElem?_take_of_lt hjl] at hj
  simpa using hj

theorem below2 (w : World) (o o' : Obj) : Below w.heap.size w ((w.alloc o).alloc o') := ((Below.refl _ _).alloc (Nat.le_refl _) _).alloc (by simp) _
theorem bitsMul (n : Nat) (hn : n ≤ 100000) (w : World) : Calls Tryz.prog 54 #[.int .u64 1, .int .u64 n] w fun e w' => e = .returned (.tuple #[.int .u64 0, .int .u64 n]) ∧ w = w' :=
  (Any.bits_Mul Tryz.lays212 1 n (by omega) (by omega) w).mono fun e w' ⟨he, hw⟩ => ⟨by
    rw [he, Nat.one_mul, Nat.div_eq_of_lt (by omega), Nat.mod_eq_of_lt (by omega)]
    rfl, hw.symm⟩

set_option maxHeartbeats 4000000 in
set_option maxRecDepth 20000 in
/-- slices.Repeat, of one space. -/
theorem repeatB (b n : Nat) (w : World) (h1 : 1 ≤ n) (hn : n ≤ 3600) (hb : b < w.heap.size) (hc : ∀ j v, (flat (List.replicate 1 blank))[j]? = some v → w.cell? ((⟨b, 0, none⟩ : Addr).add j) = some v) :
    Calls Tryz.prog 47 #[.slice (some ⟨b, 0, none⟩) 1 1, .int .i64 n] w fun e w' => ∃ g, e = .returned (.slice (some ⟨g, 0, none⟩) n n) ∧ w.heap.size ≤ g ∧ w'.heap[g]? = some (.cells (flat (List.replicate n blank)).toArray 41 (0, 0)) ∧ Below w.heap.size w w' := by
  obtain ⟨i0, hi, hz0, hz1, hz2⟩ := info_cut Tryz.infoC
  have hwu : IntKind.u64.wrap (n : Int) = (n : Int) := by rw [IntKind.wrap_u64]; omega
  have hwi : IntKind.i64.wrap (n : Int) = (n : Int) := IntWalk.i64_in _ (by omega)
  have hn0 : ¬ (n : Int) < 0 := by omega
  have hn1 : ¬ (9223372036854775807 : Int) < (n : Int) := by omega
  have MU := Lib.hid (bitsMul n (by omega) w)
  have HC := Lib.hid hc
  clear hc
  go_enter Tryz.func47, Tryz.ntmps47
  go_wp2_with (first
    | (go_at_call 54; (with_reducible refine MU.out.mono ?_); rintro e w' ⟨rfl, rfl⟩)
    | (at_make; refine wpList_make_full _ rfl _ _ 22 rfl w.heap.size 41 i0 (.agg #[.int .i32 0, .int .i64 0]) 2 Tryz.underlying22 hi hz0 hz1 .i64 .i64 _ _ n rfl rfl rfl rfl (by rw [hz2]; omega) (by unfold maxLen; omega) (Nat.le_refl _) ?_))
  intro w1 hown1 hgrow1
  have hb1 : Below w.heap.size w w1 := (Below.refl _ _).grown hgrow1 (Nat.le_refl _) (by simp)
  have hg1 : w1.heap[w.heap.size]? = some (.cells (flat (fillL 0 n)).toArray 41 (0, 0)) := by
    rcases hown1.2 with ⟨h0, _⟩ | ⟨g, cap, cur, e, hB, hg, hcap, hmax, hs, ht⟩
    · cases h0
    · simp only [Value.slice.injEq, Option.some.injEq, Addr.mk.injEq] at e
      obtain ⟨⟨rfl, _⟩, _, rfl⟩ := e
      rw [hg]
      rw [fill_zero] at ht
      rw [List.take_of_length_le (by simp; omega)] at ht
      rw [← ht]
  have HG1 := Lib.hid hg1
  have HB1 := Lib.hid hb1
  have HC1 := Lib.hid (fun (j : Nat) (v : Value) (h : (flat (List.replicate 1 blank))[j]? = some v) => (show w1.cell? ((⟨b, 0, none⟩ : Addr).add j) = some v from by
    have := HC.out j v h
    rw [Addr.add_lit] at this ⊢
    exact (HB1.out.cell (by exact hb)).trans this))
  clear hown1 hgrow1 hb1 hg1 HC MU
  obtain ⟨w2, hw2⟩ : ∃ w2, w2 = w1.setRow w.heap.size ((flat (fillL 0 n)).toArray.toList.take 0 ++ (flat (List.replicate 1 blank) ++ (flat (fillL 0 n)).toArray.toList.drop (0 + (flat (List.replicate 1 blank)).length))).toArray := ⟨_, rfl⟩
  have hrun : (Builtin.copy_ #[22, 22] 3 #[.slice (some ⟨w.heap.size, 0, none⟩) n n, .slice (some ⟨b, 0, none⟩) 1 1]).run Tryz.prog w1 = .ok (goInt 1) w2 := by
    rw [hw2]
    exact run_copy2 w1 22 22 3 41 w.heap.size 0 n n ⟨b, 0, none⟩ 1 1 _ _ (flat (List.replicate 1 blank)) 1 Tryz.underlying22 (by rw [hi]; simp [hz1]) HG1.out (by show 1 = min 1 n; omega) (by rw [flat_len]; simp) HC1.out (by rw [flat_len]; simp [flat_len, fill_len]; omega) (flat_rep 1)
  have hg2 : w2.heap[w.heap.size]? = some (.cells (flat (fillL 1 n)).toArray 41 (0, 0)) := by
    rw [hw2, setRow_heap w1 w.heap.size _ _ _ _ HG1.out]
    have := fill_more 0 1 n
    simp only [Nat.zero_mul, Nat.zero_add] at this ⊢
    rw [this]
  have HG2 := Lib.hid hg2
  have HB2 := Lib.hid (show Below w.heap.size w w2 by rw [hw2]; exact below_setRow HB1.out (Nat.le_refl _) _)
  clear hw2 hg2 HG1 HC1 HB1
  go_wp2
  go_loopw [8] (fun i wr => ∃ k : Nat, 1 ≤ k ∧ k ≤ n ∧ i = .int .i64 k ∧ wr.heap[w.heap.size]? = some (.cells (flat (fillL k n)).toArray 41 (0, 0)) ∧ Below w.heap.size w wr) (fun i _ => n - (RowKit.intOf i).toNat)
  case atStart => exact ⟨1, Nat.le_refl _, h1, rfl, HG2.out, HB2.out⟩
  case round =>
    obtain ⟨k, hk1, hk, rfl, hg, hbel⟩ := hrel
    have HG := Lib.hid hg
    have HB := Lib.hid hbel
    clear hg hbel
    by_cases hlt : k < n
    · have hkn : (k : Int) < (n : Int) := by omega
      have hkn' : (k : Int) ≤ (n : Int) := by omega
      have hk0 : (0 : Int) ≤ (k : Int) := by omega
      have hne : ¬ n = k := by omega
      obtain ⟨m, hm⟩ : ∃ m, m = min k (n - k) := ⟨_, rfl⟩
      have hm1 : 1 ≤ m := by omega
      have hmk : m ≤ k := by omega
      have hkm : k + m ≤ n := by omega
      have hwk : IntKind.i64.wrap ((k : Int) + (m : Int)) = (k : Int) + (m : Int) := IntWalk.i64_in _ (by omega)
      have HMM := Lib.hid hm
      clear hm
      have hg : wr.drew.heap[w.heap.size]? = some (.cells (flat (fillL k n)).toArray 41 (0, 0)) := HG.out
      have HGd := Lib.hid hg
      clear hg
      go_wp2_with fail
      go_region_law (refine step_copy2 rfl (.tmp 41) (.tmp 44) 22 22 rfl 41 Tryz.underlying22 (by rw [hi]; simp [hz1]) w.heap.size (k * 2) (n - k) (n - k) ⟨w.heap.size, 0, none⟩ k n (by simp [Act.eval, Act.put]) (by simp [Act.eval, Act.put]) _ _ HGd.out (flat (List.replicate m blank)) m (by show m = min k (n - k); exact HMM.out) (by rw [flat_len]; simp) (fill_front HGd.out hmk) (by simp only [flat_len, List.length_replicate, List.size_toArray, fill_len hk]; omega) (flat_rep m) ?_; intro w3 hw3; have HW3 := Lib.hid hw3; clear hw3)
      all_goals
        have hg3 : w3.heap[w.heap.size]? = some (.cells (flat (fillL (k + m) n)).toArray 41 (0, 0)) := by
          rw [HW3.out, setRow_heap _ w.heap.size _ _ _ _ HGd.out]
          rw [← fill_more k m n]
        have HG3 := Lib.hid hg3
        have HB3 := Lib.hid (show Below w.heap.size w w3 by rw [HW3.out]; exact below_setRow HB.out.drew (Nat.le_refl _) _)
        clear HW3 hg3
        (try go_simp)
        go_wp2
        go_roundw
        case rel => exact ⟨k + m, by omega, by omega, by go_num, HG3.out, HB3.out⟩
        case measure => simp [RowKit.intOf]; omega
    · obtain rfl : k = n := by omega
      have hf : fillL k k = List.replicate k blank := by simp [fillL]
      have HF := Lib.hid hf
      clear hf
      go_wp2
      go_ret
      exact ⟨_, rfl, Nat.le_refl _, by rw [← HF.out]; exact HG.out, HB.out⟩

set_option maxHeartbeats 2000000 in
/-- blank: a grid of spaces, in new memory. -/
theorem blankAt (R C m : Nat) (w : World) (h1 : 1 ≤ m) (hm : m = R * C) (h3 : m ≤ 3600) :
    Calls Tryz.prog 38 #[.int .i64 R, .int .i64 C] w fun e w' => ∃ g, e = .returned (.agg #[.int .i64 R, .int .i64 C, .slice (some ⟨g, 0, none⟩) m m]) ∧ w.heap.size ≤ g ∧ w'.heap[g]? = some (.cells (flat (List.replicate m blank)).toArray 41 (0, 0)) ∧ Below w.heap.size w w' := by
  have hmI : (R : Int) * (C : Int) = (m : Int) := by rw [hm]; simp
  have hwm : IntKind.i64.wrap (m : Int) = (m : Int) := IntWalk.i64_in _ (by omega)
  have hs : (w.alloc (Obj.cells #[.int .i64 0, .int .i64 0, .slice none 0 0] 24)).heap.size = w.heap.size + 1 := by simp
  have RB := Lib.hid (repeatB (w.heap.size + 1) m ((w.alloc (Obj.cells #[.int .i64 0, .int .i64 0, .slice none 0 0] 24)).alloc (Obj.cells #[.int .i32 32, .int .i64 0] 41)) h1 h3 (by simp) (by
    have := new_cells (w.alloc (Obj.cells #[.int .i64 0, .int .i64 0, .slice none 0 0] 24)) [.int .i32 32, .int .i64 0] 41
    rw [hs] at this
    exact this))
  have BA := Lib.hid (below2 w (Obj.cells #[.int .i64 0, .int .i64 0, .slice none 0 0] 24) (Obj.cells #[.int .i32 32, .int .i64 0] 41))
  clear hm
  go_enter Tryz.func38, Tryz.ntmps38
  go_wp2_with fail
  (with_reducible refine RB.out.mono ?_)
  rintro e w1 ⟨g, rfl, hg, hgh, hb⟩
  have c0 : w1.cell? ⟨w.heap.size, 0, none⟩ = some (.int .i64 0) := (hb.cell (by simp; omega)).trans (by go_simp)
  have c1 : w1.cell? ⟨w.heap.size, 1, none⟩ = some (.int .i64 0) := (hb.cell (by simp; omega)).trans (by go_simp)
  have c2 : w1.cell? ⟨w.heap.size, 2, none⟩ = some (.slice none 0 0) := (hb.cell (by simp; omega)).trans (by go_simp)
  have f0 : w1.frozen? ⟨w.heap.size, 0, none⟩ = false := (hb.frozen (by simp; omega)).trans (by go_simp)
  have f1 : w1.frozen? ⟨w.heap.size, 1, none⟩ = false := (hb.frozen (by simp; omega)).trans (by go_simp)
  have f2 : w1.frozen? ⟨w.heap.size, 2, none⟩ = false := (hb.frozen (by simp; omega)).trans (by go_simp)
  have HB := Lib.hid (BA.out.trans (hb.mono (by simp; omega)))
  have HG := Lib.hid hgh
  have hg' : w.heap.size + 2 ≤ g := by simpa using hg
  clear hb hgh RB hg
  go_wp2
  (try simp only [Exit.inBlock, Exit.then])
  refine bodyPost_ret (v := .agg #[.int .i64 R, .int .i64 C, .slice (some ⟨g, 0, none⟩) m m]) ?_ rfl ⟨g, rfl, by omega, ?_, ((HB.out.setCell (by exact Nat.le_refl _) _).setCell (by exact Nat.le_refl _) _).setCell (by exact Nat.le_refl _) _⟩
  · rw [results_cell1 rfl]
    go_simp
  · have ne : g ≠ w.heap.size := by omega
    rw [Below.heap_setCell _ _ _ g (fun e => ne e), Below.heap_setCell _ _ _ g (fun e => ne e), Below.heap_setCell _ _ _ g (fun e => ne e)]
    exact HG.out
end Go.Proofs.YtnbpkabnaipimaaGreatDoor
