/- The contract of Proper: whether a grid is proper. Conditions: the table of widths lies in the world; the cells lie in memory. -/
import Derived.Test.YtnbpkabnaipimaaDoorVb
import Derived.RangeFuncFrom
import Derived.RangeFuncNested
import Derived.RangeFuncBound
import Derived.RangeFuncCalls
import Derived.RangeFuncLeaves
import Derived.Shelf.Abstract
import Derived.Shelf.RegionOpen
import Derived.OwnWalkIn
import Derived.TacticsInMore
import Derived.LoopNIn
import Derived.LoopIn
import Derived.BigRegionIn
import Derived.Sort.QuietIn
namespace Go.Proofs.YtnbpkabnaipimaaDoor
open Go Go.RowKit Go.Shelf
attribute [local go_sem] Oper.semAt_some

/-- slices.Chunk: a function value that holds both. -/
theorem chunk_in (F : Fence) (n : Nat) (hf : F.fn 14) (hro : F.round = none) (a : Option Addr) (m c : Nat) (C : Nat) (hC : 1 ≤ C) (w : World) :
    CallsIn F n Tryd.prog 14 #[.slice a m c, .int .i64 C] w fun e w' => e = .returned (.func (.func 24) #[] #[.pointer (some ⟨w.heap.size, 0, none⟩), .pointer (some ⟨w.heap.size + 1, 0, none⟩)]) ∧ w' = (w.alloc (.cells #[.slice a m c] 22)).alloc (.cells #[.int .i64 C] 3) := by
  have h1 : ¬ (C : Int) < 1 := by omega
  refine callsIn_of_wp Tryd.func14 rfl hf ?_ hro
  simp only [Tryd.ntmps14, List.size_toArray, List.length_cons, List.length_nil, Nat.reduceAdd, Nat.reduceSub, Array.replicate_succ, Array.replicate_zero, List.push_toArray, List.append_toArray, List.nil_append, List.cons_append]
  gi_wp2
  go_ret
  exact ⟨rfl, rfl⟩

/-- The row that a chunk is. -/
def chunkV (b off C : Nat) (q : Nat) : Value := .slice (some ⟨b, off + q * 2, none⟩) C C
def upFin (R : Nat) (k : Nat) : List (Fin R) := (List.finRange R).take k
theorem upFin_len {R k : Nat} (h : k ≤ R) : (upFin R k).length = k := by simp [upFin]; omega
theorem upFin_succ {R k : Nat} (h : k < R) : upFin R (k + 1) = upFin R k ++ [⟨k, h⟩] := by
  unfold upFin
  rw [List.take_add_one]
  simp [h]
theorem upFin_all {R : Nat} (x : Fin R) : x ∈ upFin R R := by
  unfold upFin
  rw [List.take_of_length_le (by simp)]
  exact List.mem_finRange x

set_option maxRecDepth 100000 in
set_option maxHeartbeats 4000000 in
/-- slices.Chunk's function value, at as many whole chunks, for every loop body that keeps what lay below n₀. -/
theorem chunk1_in (n : Nat) (hn : 1 ≤ n) (l Bs Bn n₀ b off R C m cap : Nat) (hC : 1 ≤ C) (hm : m = R * C) (hsm : m ≤ 100000) (hCs : C ≤ 100000) (hcap : m ≤ cap) (hBs₀ : Bs < n₀) (hBn₀ : Bn < n₀) (J Jx : List (Fin R) → World → Prop)
    (hY : ∀ pre x W, J pre W → pre.length < R → YieldAt Fence.wide (n - 1) Tryd.prog l #[chunkV b off C (x.val * C)] W fun e W' =>
      (e = .returned (.bool true) ∧ J (pre ++ [x]) W' ∧ Below n₀ W W') ∨ (e = .returned (.bool false) ∧ Jx (pre ++ [x]) W'))
    (W : World) (hBs : W.cell? ⟨Bs, 0, none⟩ = some (.slice (some ⟨b, off, none⟩) m cap)) (hBn : W.cell? ⟨Bn, 0, none⟩ = some (.int .i64 C)) (hJ : AbidesFrom W.heap.size J) (h0 : J [] W) :
    CallsIn Fence.wide n Tryd.prog 24 #[.func (.yield l) #[] #[], .pointer (some ⟨Bs, 0, none⟩), .pointer (some ⟨Bn, 0, none⟩)] W fun e W' => (∃ v, e = .returned v) ∧
      ((∃ ys, (∀ x : Fin R, x ∈ ys) ∧ J ys W') ∨ (∃ pre, True ∧ Jx pre W')) := by
  refine callsIn_of_wp Tryd.func24 rfl trivial ?_ rfl
  simp only [Tryd.ntmps24, List.size_toArray, List.length_cons, List.length_nil, Nat.reduceAdd, Nat.reduceSub, Array.replicate_succ, Array.replicate_zero, List.push_toArray, List.append_toArray, List.nil_append, List.cons_append]
  have HM := Lib.hid hm
  clear hm
  gi_wp2
  gi_loopw [4] (fun i wr => ∃ k q : Nat, k ≤ R ∧ q = k * C ∧ i = .int .i64 q ∧ J (upFin R k) wr ∧ Below n₀ W wr)
    (fun i _ => m - (intOf i).toNat)
  case atStart => exact ⟨0, 0, Nat.zero_le _, by simp, rfl, h0, Below.refl _ _⟩
  case round =>
    obtain ⟨k, q, hk, hq, rfl, hJs, hnx⟩ := hrel
    have hs : wr.cell? ⟨Bs, 0, none⟩ = some (.slice (some ⟨b, off, none⟩) m cap) := (hnx.cell (by exact hBs₀)).trans hBs
    have hc : wr.cell? ⟨Bn, 0, none⟩ = some (.int .i64 C) := (hnx.cell (by exact hBn₀)).trans hBn
    by_cases hlt : k < R
    · skip
      have hqm : q + C ≤ m := by
        have := Nat.mul_le_mul_right C (show k + 1 ≤ R by omega)
        rw [Nat.succ_mul] at this
        rw [HM.out, hq]
        omega
      have HQ := Lib.hid hq
      clear hq
      have hqi : (q : Int) < (m : Int) := by omega
      have hq0 : (0 : Int) ≤ (q : Int) := by omega
      have hqle : (q : Int) ≤ (m : Int) := by omega
      have hmin : (C : Int) ≤ ((m - q : Nat) : Int) := by omega
      obtain ⟨q2, hq2⟩ : ∃ q2 : Nat, q2 = q + C := ⟨_, rfl⟩
      have hqs : (q : Int) + (C : Int) = (q2 : Int) := by omega
      have hqc : (q2 : Int) ≤ (cap : Int) := by omega
      have hw : IntKind.i64.wrap (q2 : Int) = (q2 : Int) := IntWalk.i64_in _ (by omega)
      have hle : (q : Int) ≤ (q2 : Int) := by omega
      have hd2 : q2 - q = C := by omega
      have HQ2 := Lib.hid hq2
      clear hq2
      gi_wp2
      gi_quiet (fail)
      simp only [Int.min_eq_left hmin]
      have hJw : J (upFin R k) (wr.drewN nq) := hJ _ wr _ none hJs ⟨rfl, rfl, rfl, Nat.le_refl _, fun _ _ _ => rfl⟩ (fun r e => by cases e)
      obtain ⟨fn, tmps, assign, body, hy, hR⟩ := hY (upFin R k) ⟨k, hlt⟩ (wr.drewN nq) hJw (by rw [upFin_len hk]; exact hlt)
      unfold chunkV at hy
      dsimp only at hy
      rw [← HQ.out] at hy
      gi_wp2
      refine hR.mono ?_
      rintro e W3 (⟨rfl, hJ3, hk3⟩ | ⟨rfl, hJx3⟩)
      · have hc3 : W3.cell? ⟨Bn, 0, none⟩ = some (.int .i64 C) := (hk3.cell (by exact hBn₀)).trans (by rw [World.cell?_drewN]; exact hc)
        gi_wp2
        go_roundw
        case rel => exact ⟨k + 1, q2, by omega, by rw [Nat.succ_mul, ← HQ.out, HQ2.out], rfl, by rw [upFin_succ hlt]; exact hJ3, (below_drewN hnx _).trans hk3⟩
        case measure => simp [intOf]; omega
      · gi_wp2
        refine bodyPost_ret (results_none rfl _ _ _) rfl ?_
        exact ⟨⟨_, rfl⟩, .inr ⟨_, trivial, hJx3⟩⟩
    · obtain rfl : k = R := by omega
      have hqm : q = m := by rw [hq, HM.out]
      subst hqm
      gi_wp2
      go_end0
      exact ⟨⟨_, rfl⟩, .inl ⟨_, upFin_all, hJs⟩⟩

theorem cell_new_l (W : World) (v : Value) (t : TypeId) : (W.alloc (.cells #[v] t)).cell? ⟨W.heap.size, 0, none⟩ = some v ∧ (W.alloc (.cells #[v] t)).frozen? ⟨W.heap.size, 0, none⟩ = false := by
  constructor <;> go_simp
theorem cell_alloc_l {W : World} {a : Addr} {v : Value} (o : Obj) (h : W.cell? a = some v) : (W.alloc o).cell? a = some v := cell_kept h (World.grownBy_alloc W o none) (fun r e => by cases e)
theorem frozen_alloc_l {W : World} {a : Addr} {v : Value} (o : Obj) (h : W.cell? a = some v) (hf : W.frozen? a = false) : (W.alloc o).frozen? a = false := (frozen_kept h (World.grownBy_alloc W o none) (fun r e => by cases e)).trans hf
theorem keeps_of {W W' : World} (h : Below W.heap.size W W') : KeepsOthers W W' := ⟨h.size, fun k _ hk _ => (h.block k (Array.getElem?_eq_some_iff.1 hk).1).trans hk⟩
theorem cell_at {w : World} {cs : Array Value} {ty : TypeId} (j : Nat) (v : Value) (h : cs[j]? = some v) : (w.alloc (Obj.cells cs ty)).cell? ⟨w.heap.size, j, none⟩ = some v := by
  rw [cell_of_row _ w.heap.size j cs ty (0, 0) (heap_alloc_new w _)]
  exact h
theorem rows_iff {R C : Nat} {l : List Cl} (h1 : 1 ≤ R) (h2 : R ≤ 60) (h3 : 1 ≤ C) (h4 : C ≤ 60) (hl : l.length = R * C) : Prp (R : Int) (C : Int) l ↔ ∀ x : Fin R, RowOk wd okR ((l.drop (x.val * C)).take C) := by
  have key := cells_whole wd okR okR_zero (fun x h => okR_wide h) (rows := R) (cols := C) (l := l) hl
  constructor
  · intro h x
    exact key.1 (by simpa using h.2.2.2.2.2) x.val x.isLt
  · intro h
    exact ⟨by omega, by omega, by omega, by omega, by rw [hl]; simp, by simpa using key.2 fun r hr => h ⟨r, hr⟩⟩

set_option maxRecDepth 100000 in
set_option maxHeartbeats 4000000 in
theorem proper_in (R C m : Nat) (b off cap : Nat) (l : List Cl) (w : World) (hT : Tab w) (h1 : 1 ≤ R) (h2 : R ≤ 60) (h3 : 1 ≤ C) (h4 : C ≤ 60) (hm : m = R * C) (hl : l.length = m) (hcap : m ≤ cap) (hb : b < w.heap.size) (hc : CellsAt w b off l) :
    CallsIn Fence.wide 4 Tryd.prog 4 #[.agg #[.int .i64 R, .int .i64 C, .slice (some ⟨b, off, none⟩) m cap]] w (GotP R C l w) := by
  have hmI : (R : Int) * (C : Int) = (m : Int) := by rw [hm]; simp
  have hm36 : m ≤ 3600 := by rw [hm]; exact Nat.mul_le_mul h2 h4
  have hwm : IntKind.i64.wrap (m : Int) = (m : Int) := IntWalk.i64_in _ (by omega)
  have S1 := Lib.hid (show sideB (R : Int) = true by simp [sideB]; omega)
  have S2 := Lib.hid (show sideB (C : Int) = true by simp [sideB]; omega)
  have I1 := Lib.hid (fun W => isSide (R : Int) W)
  have I2 := Lib.hid (fun W => isSide (C : Int) W)
  rw [S1.out] at I1
  rw [S2.out] at I2
  have HM := Lib.hid hm
  have HC := Lib.hid hc
  have HT := Lib.hid hT
  have HL := Lib.hid hl
  clear hm hc hT hl S1 S2
  refine callsIn_of_wp_marks Tryd.func4 rfl trivial ?_ rfl
  simp only [Tryd.ntmps4, List.size_toArray, List.length_cons, List.length_nil, Nat.reduceAdd, Nat.reduceSub, Array.replicate_succ, Array.replicate_zero, List.push_toArray, List.append_toArray, List.nil_append, List.cons_append]
  gi_wp2_with (first
    | (refine ⟨trivial, ?_⟩; gi_at_call 13; refine (callsIn_wide.2 (I1.out _)).mono ?_; rintro e w' ⟨rfl, rfl⟩)
    | (refine ⟨trivial, ?_⟩; gi_at_call 13; refine (callsIn_wide.2 (I2.out _)).mono ?_; rintro e w' ⟨rfl, rfl⟩)
    | (refine ⟨trivial, ?_⟩; gi_at_call 14; refine (chunk_in Fence.wide _ trivial rfl _ _ _ C h3 _).mono ?_; rintro e w' ⟨rfl, rfl⟩))
  have hB0 : Below w.heap.size w ((((w.alloc (Obj.cells #[.int .i64 R, .int .i64 C, .slice (some ⟨b, off, none⟩) m cap] 24)).alloc (Obj.cells #[.bool false] 4)).alloc (Obj.cells #[.slice (some ⟨b, off, none⟩) m cap] 22)).alloc (Obj.cells #[.int .i64 C] 3)) := ((((Below.refl _ w).alloc (Nat.le_refl _) _).alloc (by simp) _).alloc (by simp; omega) _).alloc (by simp; omega) _
  have e0 := cell_new_l (w.alloc (Obj.cells #[.int .i64 R, .int .i64 C, .slice (some ⟨b, off, none⟩) m cap] 24)) (.bool false) 4
  have e1 := cell_new_l ((w.alloc (Obj.cells #[.int .i64 R, .int .i64 C, .slice (some ⟨b, off, none⟩) m cap] 24)).alloc (Obj.cells #[.bool false] 4)) (.slice (some ⟨b, off, none⟩) m cap) 22
  have e2 := cell_new_l (((w.alloc (Obj.cells #[.int .i64 R, .int .i64 C, .slice (some ⟨b, off, none⟩) m cap] 24)).alloc (Obj.cells #[.bool false] 4)).alloc (Obj.cells #[.slice (some ⟨b, off, none⟩) m cap] 22)) (.int .i64 C) 3
  simp only [World.size_alloc] at e0 e1 e2
  have hres : ((((w.alloc (Obj.cells #[.int .i64 R, .int .i64 C, .slice (some ⟨b, off, none⟩) m cap] 24)).alloc (Obj.cells #[.bool false] 4)).alloc (Obj.cells #[.slice (some ⟨b, off, none⟩) m cap] 22)).alloc (Obj.cells #[.int .i64 C] 3)).cell? ⟨w.heap.size + 1, 0, none⟩ = some (.bool false) := cell_alloc_l _ (cell_alloc_l _ e0.1)
  have hfro : ((((w.alloc (Obj.cells #[.int .i64 R, .int .i64 C, .slice (some ⟨b, off, none⟩) m cap] 24)).alloc (Obj.cells #[.bool false] 4)).alloc (Obj.cells #[.slice (some ⟨b, off, none⟩) m cap] 22)).alloc (Obj.cells #[.int .i64 C] 3)).frozen? ⟨w.heap.size + 1, 0, none⟩ = false := frozen_alloc_l _ (cell_alloc_l _ e0.1) (frozen_alloc_l _ e0.1 e0.2)
  have hcs : ((((w.alloc (Obj.cells #[.int .i64 R, .int .i64 C, .slice (some ⟨b, off, none⟩) m cap] 24)).alloc (Obj.cells #[.bool false] 4)).alloc (Obj.cells #[.slice (some ⟨b, off, none⟩) m cap] 22)).alloc (Obj.cells #[.int .i64 C] 3)).cell? ⟨w.heap.size + 1 + 1, 0, none⟩ = some (.slice (some ⟨b, off, none⟩) m cap) := cell_alloc_l _ e1.1
  have hcn := e2.1
  have hsz : ((((w.alloc (Obj.cells #[.int .i64 R, .int .i64 C, .slice (some ⟨b, off, none⟩) m cap] 24)).alloc (Obj.cells #[.bool false] 4)).alloc (Obj.cells #[.slice (some ⟨b, off, none⟩) m cap] 22)).alloc (Obj.cells #[.int .i64 C] 3)).heap.size = w.heap.size + 4 := by simp
  obtain ⟨W0, hW0⟩ : ∃ W0, ((((w.alloc (Obj.cells #[.int .i64 R, .int .i64 C, .slice (some ⟨b, off, none⟩) m cap] 24)).alloc (Obj.cells #[.bool false] 4)).alloc (Obj.cells #[.slice (some ⟨b, off, none⟩) m cap] 22)).alloc (Obj.cells #[.int .i64 C] 3)) = W0 := ⟨_, rfl⟩
  rw [hW0] at hB0 hres hfro hcs hcn hsz ⊢
  clear hW0 e0 e1 e2
  have hseq : SeqStopsK Fence.wide (4 - 1) Tryd.prog 24 #[.pointer (some ⟨w.heap.size + 1 + 1, 0, none⟩), .pointer (some ⟨w.heap.size + 1 + 1 + 1, 0, none⟩)] (fun x : Fin R => #[chunkV b off C (x.val * C)]) (Below (w.heap.size + 4)) (fun ys => ∀ x : Fin R, x ∈ ys) (fun _ => True) R W0 := fun l J Jx W hW hJ _ hY h0 =>
    chunk1_in (4 - 1) (by omega) l (w.heap.size + 1 + 1) (w.heap.size + 1 + 1 + 1) (w.heap.size + 4) b off R C m cap h3 HM.out (by omega) (by omega) hcap (by omega) (by omega) J Jx hY W ((hW.cell (p := ⟨w.heap.size + 1 + 1, 0, none⟩) (by show w.heap.size + 1 + 1 < _; omega)).trans hcs) ((hW.cell (p := ⟨w.heap.size + 1 + 1 + 1, 0, none⟩) (by show w.heap.size + 1 + 1 + 1 < _; omega)).trans hcn) hJ h0
  refine wpIn_rangeFunc_ownF rfl (by omega) (gf := 24) (lb := #[.pointer (some ⟨w.heap.size + 1 + 1, 0, none⟩), .pointer (some ⟨w.heap.size + 1 + 1 + 1, 0, none⟩)]) rfl trivial (enters_of Tryd.func24 (by kernel_rfl) rfl)
    hseq belowK_t (belowK_b (by omega)) (Below.refl _ _) (fun _ => rfl)
    (fun pre W => ((∀ x ∈ pre, RowOk wd okR ((l.drop (x.val * C)).take C)) ∧ W.cell? ⟨w.heap.size + 1, 0, none⟩ = some (.bool false) ∧ W.frozen? ⟨w.heap.size + 1, 0, none⟩ = false ∧ W.cell? ⟨w.heap.size + 1 + 1 + 1, 0, none⟩ = some (.int .i64 C)) ∧ Below w.heap.size w W)
    (fun c _ W => (c = .ret ∧ (∃ x : Fin R, ¬ RowOk wd okR ((l.drop (x.val * C)).take C)) ∧ W.cell? ⟨w.heap.size + 1, 0, none⟩ = some (.bool false)) ∧ Below w.heap.size w W)
    (OwnFrom.and (Own.from (fun s A B row hs hg hr => ⟨hs.1, cell_kept hs.2.1 hg hr, (frozen_kept hs.2.1 hg hr).trans hs.2.2.1, cell_kept hs.2.2.2 hg hr⟩) _) (ownFrom_below (Nat.le_refl _) (by omega)))
    (fun c => OwnFrom.and (Own.from (fun s A B row hs hg hr => ⟨hs.1, hs.2.1, cell_kept hs.2.2 hg hr⟩) _) (ownFrom_below (Nat.le_refl _) (by omega)))
    ⟨⟨by simp, hres, hfro, hcn⟩, hB0⟩
    (fun x => { tmps := #[.agg #[.int .i64 R, .int .i64 C, .slice (some ⟨b, off, none⟩) m cap], .pointer (some ⟨w.heap.size, 0, none⟩), .pointer (some ⟨w.heap.size + 1, 0, none⟩), chunkV b off C (x.val * C), .pointer (some ⟨w.heap.size, 0, none⟩), .int .i64 R, .bool true, .bool false, .bool false, .pointer (some ⟨w.heap.size, 1, none⟩), .int .i64 C, .bool true, .bool false, .bool false, .bool false, .pointer (some ⟨w.heap.size, 2, none⟩), .slice (some ⟨b, off, none⟩) m cap, .int .i64 m, .pointer (some ⟨w.heap.size, 0, none⟩), .int .i64 R, .pointer (some ⟨w.heap.size, 1, none⟩), .int .i64 C, .int .i64 m, .bool false, .bool false, .pointer (some ⟨w.heap.size, 2, none⟩), .slice (some ⟨b, off, none⟩) m cap, .pointer (some ⟨w.heap.size, 1, none⟩), .int .i64 C, .func (.func 24) #[] #[.pointer (some ⟨w.heap.size + 1 + 1, 0, none⟩), .pointer (some ⟨w.heap.size + 1 + 1 + 1, 0, none⟩)], chunkV b off C (x.val * C), undef, undef, undef], defers := [] }) ?assign ?body ?done ?stop
  case assign =>
    intro l x W K hK
    gi_wp2
    exact hK
  case body =>
    rintro l' pre x W ⟨⟨hp, hcr, hfr, hcn'⟩, hB⟩ _
    obtain ⟨q, hq⟩ : ∃ q, x.val * C = q := ⟨_, rfl⟩
    have hqm : q + C ≤ m := by
      have := Nat.mul_le_mul_right C (show x.val + 1 ≤ R from x.isLt)
      rw [Nat.succ_mul] at this
      rw [HM.out, ← hq]
      omega
    have HR := Lib.hid (isProperRow b (off + q * 2) C C ((l.drop q).take C) W (HT.out.below HT.out.pos hB) (by rw [List.length_take, List.length_drop, HL.out]; omega) (by omega) (Nat.le_refl _) (Nat.lt_of_lt_of_le hb hB.size) (by
      intro j u hu
      have hlt : j < C * 2 := by
        have := (List.getElem?_eq_some_iff.1 hu).1
        rw [flat_len, List.length_take] at this
        omega
      rw [flat_take, List.getElem?_take_of_lt hlt] at hu
      exact (hB.cell (by exact hb)).trans (HC.out.drop (i := q) j u hu)))
    rw [hq]
    unfold chunkV
    have hpq : ∀ y : Fin R, y = x → (l.drop (y.val * C)).take C = (l.drop q).take C := by rintro y rfl; rw [hq]
    have HPQ := Lib.hid hpq
    have HB := Lib.hid hB
    have HP := Lib.hid hp
    clear hpq hB hp
    have HRI := Lib.hid (CallsIn.inRound (n := 1) l' (callsIn_wide.2 HR.out))
    clear HR
    gi_wp2_with fail
    refine ⟨trivial, ?_⟩
    (with_reducible refine HRI.out.mono ?_)
    rintro e w' ⟨v, rfl, hv, hb'⟩
    have HV := Lib.hid hv
    have HB' := Lib.hid hb'
    clear hv hb' HRI
    have d0 : w'.cell? ⟨w.heap.size + 1, 0, none⟩ = some (.bool false) := (HB'.out.cell (by show w.heap.size + 1 < _; exact block_lt_of_cell hcr)).trans hcr
    have d1 : w'.frozen? ⟨w.heap.size + 1, 0, none⟩ = false := (HB'.out.frozen (by show w.heap.size + 1 < _; exact block_lt_of_cell hcr)).trans hfr
    have hlt3 : w.heap.size + 1 + 1 + 1 < W.heap.size := block_lt_of_cell hcn'
    cases v
    · have HX := Lib.hid (show ¬ RowOk wd okR ((l.drop (x.val * C)).take C) from fun h => by have h' := HPQ.out x rfl; rw [h'] at h; exact Bool.noConfusion (HV.out.2 h))
      clear HV
      gi_wp2
      refine ⟨(keeps_of HB'.out).trans (KeepsOthers.setCell _ _ _), ⟨rfl, ⟨x, HX.out⟩, World.cell?_setCell_same' _ _ _ (by rw [d0]; rfl)⟩, (HB.out.trans (HB'.out.mono HB.out.size)).setCell (p := ⟨w.heap.size + 1, 0, none⟩) (by simp) _⟩
    · have HX := Lib.hid (show RowOk wd okR ((l.drop (x.val * C)).take C) from by rw [HPQ.out x rfl]; exact HV.out.1 rfl)
      clear HV
      gi_wp2
      refine ⟨keeps_of HB'.out, HB'.out.mono (by omega), ⟨fun y hy => (List.mem_append.1 hy).elim (HP.out y) (fun e => by simp at e; subst e; exact HX.out), d0, d1, (HB'.out.cell (by exact hlt3)).trans hcn'⟩, HB.out.trans (HB'.out.mono HB.out.size)⟩
  case done =>
    rintro D ys W hD hys ⟨⟨hp, hcr, hfr, _⟩, hB⟩ hK
    have hall : (true = true ↔ Prp (R : Int) (C : Int) l) := ⟨fun _ => (rows_iff h1 h2 h3 h4 (by rw [HL.out, HM.out])).2 fun x => hp x (hys x), fun _ => rfl⟩
    have HALL := Lib.hid hall
    clear hall
    gi_wp2
    have hK' := (KeepsOthers.setCell W ⟨w.heap.size + 1, 0, none⟩ (.bool true)).same D _ hK rfl
    refine ⟨by simp, .inl ⟨_, _, rfl, run_takeDeferred hK', ?_⟩⟩
    have hc5 := cell_kept (World.cell?_setCell_same' W ⟨w.heap.size + 1, 0, none⟩ (.bool true) (by rw [hcr]; rfl)) (grownBy_putObj' _ D (.deferred none)) (fun r e => by cases e; exact ⟨_, hK', rfl⟩)
    refine ⟨.bool true, ?_, true, rfl, ⟨fun _ => HALL.out.1 trivial, fun _ => rfl⟩, (hB.setCell (p := ⟨w.heap.size + 1, 0, none⟩) (by simp) _).trans (belowK_b (w := w) (Nat.le_refl _) _ D _ _ (by omega) hK' rfl rfl)⟩
    simp [results, Tryd.f4, go_sem, hc5]
  case stop =>
    rintro D c pre W hD hpre ⟨⟨rfl, ⟨x, hx⟩, hcr⟩, hB⟩ hK
    gi_wp2
    refine ⟨by simp, .inl ⟨_, _, rfl, run_takeDeferred hK, ?_⟩⟩
    have hc5 := cell_kept hcr (grownBy_putObj' _ D (.deferred none)) (fun r e => by cases e; exact ⟨_, hK, rfl⟩)
    refine ⟨.bool false, ?_, false, rfl, ⟨fun h => (by cases h), fun h => absurd ((rows_iff h1 h2 h3 h4 (by rw [HL.out, HM.out])).1 h x) hx⟩, hB.trans (belowK_b (w := w) (Nat.le_refl _) W D _ _ (by omega) hK rfl rfl)⟩
    simp [results, Tryd.f4, go_sem, hc5]

theorem sideB_yes {n : Int} (h : sideB n = true) : 1 ≤ n ∧ n ≤ 60 := by simpa [sideB] using h
theorem sideB_no {n : Int} (h : sideB n = false) : ¬ (1 ≤ n ∧ n ≤ 60) := by
  intro h'
  have : sideB n = true := by simp [sideB]; omega
  rw [h] at this
  cases this

set_option maxHeartbeats 2000000 in
/-- Proper: whether a grid is proper. -/
theorem proper (R C : Int) (a : Option Addr) (n cap : Nat) (l : List Cl) (w : World) (hT : Tab w) (hn : n ≤ 1000) (hcap : n ≤ cap) (hl : RowAt w a n l) :
    Calls Tryd.prog 4 #[.agg #[.int .i64 R, .int .i64 C, .slice a n cap]] w (GotP R C l w) := by
  have I1 := Lib.hid (fun W => isSide R W)
  have I2 := Lib.hid (fun W => isSide C W)
  have HL := Lib.hid hl
  clear hl
  cases h1 : sideB R
  · rw [h1] at I1
    have HN := Lib.hid (sideB_no h1)
    clear hT h1
    go_enter Tryd.func4, Tryd.ntmps4
    go_wp2_with (go_at_call 13; (with_reducible refine (I1.out _).mono ?_); rintro e w' ⟨rfl, rfl⟩)
    (try simp only [Exit.inBlock, Exit.then])
    refine bodyPost_ret (v := .bool false) ?_ rfl ⟨false, rfl, ⟨fun h => (by cases h), fun h => absurd ⟨h.1, h.2.1⟩ HN.out⟩, ((Below.refl _ _).alloc (Nat.le_refl _) _).alloc (by simp) _⟩
    rw [results_cell1 rfl]
    go_simp
  · cases h2 : sideB C
    · rw [h1] at I1
      rw [h2] at I2
      have HN := Lib.hid (sideB_no h2)
      clear hT h1 h2
      go_enter Tryd.func4, Tryd.ntmps4
      go_wp2_with (first
        | (go_at_call 13; (with_reducible refine (I1.out _).mono ?_); rintro e w' ⟨rfl, rfl⟩)
        | (go_at_call 13; (with_reducible refine (I2.out _).mono ?_); rintro e w' ⟨rfl, rfl⟩))
      (try simp only [Exit.inBlock, Exit.then])
      refine bodyPost_ret (v := .bool false) ?_ rfl ⟨false, rfl, ⟨fun h => (by cases h), fun h => absurd ⟨h.2.2.1, h.2.2.2.1⟩ HN.out⟩, ((Below.refl _ _).alloc (Nat.le_refl _) _).alloc (by simp) _⟩
      rw [results_cell1 rfl]
      go_simp
    · obtain ⟨a1, a2⟩ := sideB_yes h1
      obtain ⟨b1, b2⟩ := sideB_yes h2
      obtain ⟨r, rfl⟩ := Int.eq_ofNat_of_zero_le (show 0 ≤ R by omega)
      obtain ⟨c, rfl⟩ := Int.eq_ofNat_of_zero_le (show 0 ≤ C by omega)
      obtain ⟨m, hm⟩ : ∃ m, m = r * c := ⟨_, rfl⟩
      have hm36 : m ≤ 3600 := by rw [hm]; exact Nat.mul_le_mul (show r ≤ 60 by omega) (show c ≤ 60 by omega)
      have hmI : (r : Int) * (c : Int) = (m : Int) := by rw [hm]; simp
      have hm1 : 1 ≤ m := by rw [hm]; exact Nat.mul_pos (by omega) (by omega)
      by_cases hnm : n = m
      · subst hnm
        rcases HL.out.2 with h0 | ⟨b, off, rfl, hb, hc⟩
        · omega
        · exact callsIn_wide.1 (proper_in r c n b off cap l w hT (by omega) (by omega) (by omega) (by omega) hm HL.out.1 hcap hb hc)
      · have hwm : IntKind.i64.wrap (m : Int) = (m : Int) := IntWalk.i64_in _ (by omega)
        have hne : ¬ (n : Int) = (m : Int) := by omega
        have hNP : ¬ Prp (r : Int) (c : Int) l := fun h => hne (by rw [← HL.out.1, h.2.2.2.2.1, hmI])
        have HN := Lib.hid hNP
        rw [h1] at I1
        rw [h2] at I2
        clear hT h1 h2 hm hNP
        go_enter Tryd.func4, Tryd.ntmps4
        go_wp2_with (first
          | (go_at_call 13; (with_reducible refine (I1.out _).mono ?_); rintro e w' ⟨rfl, rfl⟩)
          | (go_at_call 13; (with_reducible refine (I2.out _).mono ?_); rintro e w' ⟨rfl, rfl⟩))
        (try simp only [Exit.inBlock, Exit.then])
        refine bodyPost_ret (v := .bool false) ?_ rfl ⟨false, rfl, ⟨fun h => (by cases h), fun h => absurd h HN.out⟩, ((Below.refl _ _).alloc (Nat.le_refl _) _).alloc (by simp) _⟩
        rw [results_cell1 rfl]
        go_simp
end Go.Proofs.YtnbpkabnaipimaaDoor
