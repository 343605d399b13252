/- From what the rows list of the table stylus/width.spans to what the contracts ask of the world; a world for the witness. No conditions. -/
import Derived.Test.YtdeckkmlcbbjcaaDoorWalkD
import Derived.Test.YtdeckkmlcbbjcaaDoorCards
import Derived.Test.YtdeckkmlcbbjcaaDoorTie
import Derived.ProofKit
import Derived.OpenShut
import Derived.ShutString
import Derived.ChangeOld
import Derived.Deep.DeepHandedRow
import Derived.Lib.LaidU8
namespace Go.Proofs.YtdeckkmlcbbjcaaDoor
open Go Go.RowKit Go.Lib Go.ChangeShapes Go.WideShapes Go.ChangeAt
set_option maxRecDepth 100000

theorem own : ownKnob Tryd.prog.godebug = none := by kernel_rfl
theorem laidOut : laidOutB Tryd.prog = true := by kernel_rfl
theorem gSpans : Tryd.prog.globalNamed "stylus/width.spans" = some 0 := by kernel_rfl
theorem gSpansType : (Tryd.prog.globals[0]?).map (·.type) = some 32 := by kernel_rfl
theorem cells3 : Tryd.prog.cellsOf 3 = 1 := by kernel_rfl
theorem cells21 : Tryd.prog.cellsOf 21 = 1 := by kernel_rfl
theorem cells31 : Tryd.prog.cellsOf 31 = 3 := by kernel_rfl
/-- The table's data. -/
def spansData : DataW Unit := .agg (tabL.map fun x => .agg [.lit (.int .i32 x.1), .lit (.int .i32 x.2.1), .lit (.int .i64 x.2.2)])
theorem spansIs : (Rows.laid_stylus_width_spans : DataW Unit) = spansData := by kernel_rfl

/-- What every row of this seat lists. -/
def laidList : List (String × DataW Unit) := [("stylus/width.spans", Rows.laid_stylus_width_spans)]

theorem chunk (i : Nat) (hi' : i < 15) : (spansA.toList.drop (i * 3)).take 3 = [Value.int .i32 (lo i), Value.int .i32 (hi i), Value.int .i64 (wk i)] := by
  rcases cases15 hi' with rfl | rfl | rfl | rfl | rfl | rfl | rfl | rfl | rfl | rfl | rfl | rfl | rfl | rfl | rfl <;> kernel_rfl
theorem datum (i : Nat) (hi' : i < 15) : (tabL.map fun x => (DataW.agg [.lit (.int .i32 x.1), .lit (.int .i32 x.2.1), .lit (.int .i64 x.2.2)] : DataW Unit))[i]? = some (.agg [.lit (.int .i32 (lo i)), .lit (.int .i32 (hi i)), .lit (.int .i64 (wk i))]) := by
  rcases cases15 hi' with rfl | rfl | rfl | rfl | rfl | rfl | rfl | rfl | rfl | rfl | rfl | rfl | rfl | rfl | rfl <;> rfl
theorem spansSize : spansA.toList.length = 45 := by kernel_rfl

theorem struct3 {w : World} {fuel : Nat} {cs : List Value} {a b c : Int} {q : List MemPlace} (h : DataW.trod (fun _ => ()) Tryd.prog w 0 (fun _ => true) false fuel 31 cs = some (.agg [.lit (.int .i32 a), .lit (.int .i32 b), .lit (.int .i64 c)], q)) :
    cs = [Value.int .i32 a, Value.int .i32 b, Value.int .i64 c] := by
  obtain ⟨xs, n, rfl, hx, hlen, hxl, hall⟩ := DataW.trod_struct Tryd.underlying31 h
  have h0 := hall 0 _ rfl
  have h1 := hall 1 _ rfl
  have h2 := hall 2 _ rfl
  match xs, hxl with
  | [y0, y1, y2], _ =>
    simp only [List.getElem?_cons_zero, List.getElem?_cons_succ] at h0 h1 h2
    obtain ⟨z0, hc0, rfl, _⟩ := DataW.trod_int Tryd.underlying21 h0
    obtain ⟨z1, hc1, rfl, _⟩ := DataW.trod_int Tryd.underlying21 h1
    obtain ⟨z2, hc2, rfl, _⟩ := DataW.trod_int Tryd.underlying3 h2
    simp at hx
    obtain ⟨⟨rfl, rfl, rfl⟩, rfl⟩ := hx
    rw [cells31] at hlen
    match cs, hlen with
    | [v0, v1, v2], _ =>
      simp [cells21, cells3] at hc0 hc1 hc2
      rw [hc0, hc1, hc2]

theorem tabs {w : World} (h : laidMetH Tryd.prog laidList w) : Tab w := by
  have h3 : VarReads Tryd.prog w "stylus/width.spans" spansData := by rw [← spansIs]; exact laidMet.reads h (by simp [laidList])
  obtain ⟨g, t, cs, fuel, p, hg, hty, hvar, hd⟩ := h3
  obtain rfl := Option.some.inj (gSpans.symm.trans hg)
  obtain rfl := Option.some.inj (gSpansType.symm.trans hty)
  have key : ∀ i, i < 15 → (cs.toList.drop (i * 3)).take 3 = (spansA.toList.drop (i * 3)).take 3 := by
    intro i hi
    obtain ⟨fuel', d, q, hdi, he⟩ := array_elem Tryd.underlying32 hd i hi
    rw [datum i hi] at hdi
    obtain rfl := Option.some.inj hdi
    rw [cells31] at he
    rw [chunk i hi]
    exact struct3 he
  intro j v hv
  have hj : j < 45 := by
    rcases Nat.lt_or_ge j 45 with h | h
    · exact h
    · rw [List.getElem?_eq_none (by rw [spansSize]; exact h)] at hv; cases hv
  have e := congrArg (·[j % 3]?) (key (j / 3) (by omega))
  simp only [List.getElem?_take, List.getElem?_drop, if_pos (show j % 3 < 3 by omega), show j / 3 * 3 + j % 3 = j by omega] at e
  rw [Nat.zero_add, World.var?_cell hg hvar j, ← Array.getElem?_toList, e]
  exact hv

/-- One block holds these cells. -/
def laying (cs : List Value) : Obj → Obj
  | .cells _ t frozen => .cells cs.toArray t frozen
  | o => o
/-- A world for the witness: the settled one, the table as its initialiser lays it. -/
noncomputable def laidWorld (os : Os) : World :=
  { World.holding Tryd.prog os ⟨#[], #[], []⟩ with
    heap := (World.holding Tryd.prog os ⟨#[], #[], []⟩).heap.modify 0 (laying spansA.toList) }
theorem laid_met (os : Os) (args : Array Value) : laidMet Tryd.prog laidList ((laidWorld os).forCall (fun _ _ => 0) ⟨#[], args, []⟩).memory :=
  laidMet_of_run' 8 (by kernel_rfl) (by kernel_rfl)

/-- A slice of integers that came in: its elements. -/
def IsRow (k : IntKind) (w : World) (a : Option Addr) (len cap : Nat) (zs : List Int) : Prop :=
  (a = none ∧ len = 0 ∧ cap = 0 ∧ zs = []) ∨
  ∃ x, a = some x ∧ len ≤ cap ∧ cap ≤ maxLen ∧ zs.length = cap ∧ (∀ i, i < zs.length → w.cell? (x.add i) = some (.int k (zs.getD i 0))) ∧ ∀ n ∈ zs, (Lit.int k n).wf = true

theorem IsRow.seq {w : World} {a : Option Addr} {len cap : Nat} {zs : List Int} (h : IsRow .i32 w a len cap zs) : SeqAt w a len (zs.take len) := by
  rcases h with ⟨rfl, rfl, rfl, rfl⟩ | ⟨x, rfl, hl, hm, hz, hc, _⟩
  · exact ⟨by simp, .inl rfl⟩
  · refine ⟨by simp; omega, ?_⟩
    by_cases h0 : len = 0
    · exact .inl h0
    · have c0 := hc 0 (by omega)
      obtain ⟨b, off, sp⟩ := x
      have e0 : (Addr.add ⟨b, off, sp⟩ 0) = ⟨b, off, sp⟩ := by simp [Addr.add]
      rw [e0] at c0
      obtain rfl := cell_spot c0
      refine .inr ⟨b, off, rfl, block_lt_of_cell c0, fun j z hj => ?_⟩
      have hj' : j < len := by
        rcases Nat.lt_or_ge j len with h | h
        · exact h
        · rw [List.getElem?_eq_none (by simp; omega)] at hj; cases hj
      have := hc j (by omega)
      rw [Addr.add_lit] at this
      rw [this]
      rw [List.getElem?_take, if_pos hj'] at hj
      simp [List.getD, hj]
theorem IsRow.cap {w : World} {k : IntKind} {a : Option Addr} {len cap : Nat} {zs : List Int} (h : IsRow k w a len cap zs) : len ≤ cap := by
  rcases h with ⟨rfl, rfl, rfl, rfl⟩ | ⟨x, rfl, hl, _⟩
  · exact Nat.le_refl _
  · exact hl
end Go.Proofs.YtdeckkmlcbbjcaaDoor
