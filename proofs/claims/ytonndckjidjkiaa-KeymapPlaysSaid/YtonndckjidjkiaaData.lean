/- What a map is in memory: bindings one behind the other, each of four cells; what stays when other memory is written. No walk. -/
import Derived.Test.YtonndckjidjkiaaPure
import Derived.Lib.SliceRun
import Derived.Laws.AppendOwnNone
import Derived.ArgAppend
import Derived.Deep.OwnRows
import Derived.Deep.RegionLawGrows
import Derived.Deep.RegionLaw
namespace Go.Proofs.Ytonndckjidjkiaa
open Go Go.RowKit

def Bn.cells (x : Bn) : List Value := [.int .i64 x.k, .int .i32 x.r, .int .i64 x.m, .int .i64 x.c]
def flat (rs : List Bn) : List Value := rs.flatMap Bn.cells
theorem flat_cons (x : Bn) (r : List Bn) : flat (x :: r) = x.cells ++ flat r := by simp [flat]
theorem flat_append (l m : List Bn) : flat (l ++ m) = flat l ++ flat m := by simp [flat]
theorem flat_one (x : Bn) : flat [x] = x.cells := by simp [flat]
theorem flat_nil : flat [] = [] := rfl
theorem cells_len (x : Bn) : x.cells.length = 4 := rfl
theorem flat_len (rs : List Bn) : (flat rs).length = rs.length * 4 := by
  induction rs with
  | nil => rfl
  | cons x r ih => rw [flat_cons, List.length_append, ih, List.length_cons, Nat.add_mul]; simp [Bn.cells]; omega
theorem flat_get (rs : List Bn) (k i : Nat) (x : Bn) (h : rs[k]? = some x) (hi : i < 4) : (flat rs)[k * 4 + i]? = x.cells[i]? := by
  induction rs generalizing k with
  | nil => cases h
  | cons y r ih =>
    cases k with
    | zero =>
      cases h
      rw [flat_cons, List.getElem?_append_left (by simp [Bn.cells]; omega), Nat.zero_mul, Nat.zero_add]
    | succ k =>
      rw [flat_cons, List.getElem?_append_right (by simp [Bn.cells]; omega), show (k + 1) * 4 + i - y.cells.length = k * 4 + i by simp [Bn.cells]; omega]
      exact ih k (by simpa using h)
theorem flat_take (rs : List Bn) (k : Nat) : flat (rs.take k) = (flat rs).take (k * 4) := by
  induction rs generalizing k with
  | nil => simp [flat]
  | cons x r ih =>
    cases k with
    | zero => simp [flat]
    | succ k =>
      rw [List.take_succ_cons, flat_cons, flat_cons, ih, List.take_append, List.take_of_length_le (l := x.cells) (by rw [cells_len]; omega), show (k + 1) * 4 - x.cells.length = k * 4 by rw [cells_len]; omega]
theorem flat_drop (rs : List Bn) (k : Nat) : flat (rs.drop k) = (flat rs).drop (k * 4) := by
  induction rs generalizing k with
  | nil => simp [flat]
  | cons x r ih =>
    cases k with
    | zero => simp [flat]
    | succ k =>
      rw [List.drop_succ_cons, flat_cons, ih, List.drop_append, List.drop_of_length_le (l := x.cells) (by rw [cells_len]; omega), show (k + 1) * 4 - x.cells.length = k * 4 by rw [cells_len]; omega]
      rfl
theorem flat_set (rs : List Bn) (k : Nat) (x : Bn) (c : Int) (h : rs[k]? = some x) : flat (rs.set k (x.ky.with c)) = (flat rs).set (k * 4 + 3) (.int .i64 c) := by
  induction rs generalizing k with
  | nil => cases h
  | cons y r ih =>
    cases k with
    | zero =>
      cases h
      rw [List.set_cons_zero, flat_cons, flat_cons, List.set_append_left _ _ (by rw [cells_len]; omega)]
      rfl
    | succ k =>
      rw [List.set_cons_succ, flat_cons, flat_cons, ih k (by simpa using h), List.set_append_right _ _ (by rw [cells_len]; omega), show (k + 1) * 4 + 3 - y.cells.length = k * 4 + 3 by rw [cells_len]; omega]
theorem flat_cells_one (rs : List Bn) : ∀ u ∈ flat rs, u.oneCell' = true := by
  intro u hu
  simp only [flat, List.mem_flatMap, Bn.cells] at hu
  obtain ⟨x, _, h⟩ := hu
  simp at h
  rcases h with rfl | rfl | rfl | rfl <;> rfl
theorem cells_one1 (x : Bn) : ∀ u ∈ x.cells, u.oneCell' = true := by
  have := flat_cells_one [x]
  rwa [flat_one] at this

/-- Bindings in memory, in a block of type e. -/
def RowAt (e : TypeId) (w : World) (a : Option Addr) (n : Nat) (rs : List Bn) : Prop :=
  rs.length = n ∧ (n = 0 ∨ ∃ b off, a = some ⟨b, off, none⟩ ∧ (∃ cur fr, w.heap[b]? = some (.cells cur e fr)) ∧ ∀ j u, (flat rs)[j]? = some u → w.cell? ⟨b, off + j, none⟩ = some u)

theorem lt_of_block {w : World} {k : Nat} {o : Obj} (h : w.heap[k]? = some o) : k < w.heap.size := (Array.getElem?_eq_some_iff.1 h).1

theorem RowAt.below {e : TypeId} {w w' : World} {a : Option Addr} {n : Nat} {rs : List Bn} (h : RowAt e w a n rs) (hb : Below w.heap.size w w') : RowAt e w' a n rs := by
  refine ⟨h.1, ?_⟩
  rcases h.2 with h0 | ⟨b, off, rfl, ⟨cur, fr, hh⟩, hc⟩
  · exact .inl h0
  · have hlt := lt_of_block hh
    exact .inr ⟨b, off, rfl, ⟨cur, fr, (hb.block b hlt).trans hh⟩, fun j z hz => (hb.cell (by exact hlt)).trans (hc j z hz)⟩

/-- The cells of one binding, as the walk meets them. -/
theorem bnCells {w : World} {b off : Nat} {rs : List Bn} (hc : ∀ j u, (flat rs)[j]? = some u → w.cell? ⟨b, off + j, none⟩ = some u) (k : Nat) (x : Bn) (h : rs[k]? = some x) :
    w.cell? ⟨b, off + k * 4, none⟩ = some (.int .i64 x.k) ∧ w.cell? ⟨b, off + k * 4 + 1, none⟩ = some (.int .i32 x.r) ∧ w.cell? ⟨b, off + k * 4 + 2, none⟩ = some (.int .i64 x.m) ∧ w.cell? ⟨b, off + k * 4 + 3, none⟩ = some (.int .i64 x.c) := by
  refine ⟨?_, ?_, ?_, ?_⟩
  · exact hc (k * 4) _ ((flat_get rs k 0 x h (by omega)).trans rfl)
  · exact hc (k * 4 + 1) _ ((flat_get rs k 1 x h (by omega)).trans rfl)
  · exact hc (k * 4 + 2) _ ((flat_get rs k 2 x h (by omega)).trans rfl)
  · exact hc (k * 4 + 3) _ ((flat_get rs k 3 x h (by omega)).trans rfl)

theorem own_below {w w' : World} {B e size : Nat} {v : Value} {n : Nat} {xs : List Value} (h : w.ownsRow B e size v n xs) (hb : Below w.heap.size w w') : w'.ownsRow B e size v n xs := by
  refine ⟨h.1, ?_⟩
  rcases h.2 with h0 | ⟨g, cap, cur, rfl, hB, hg, hr⟩
  · exact .inl h0
  · exact .inr ⟨g, cap, cur, rfl, hB, (hb.block g (Array.getElem?_eq_some_iff.1 hg).1).trans hg, hr⟩

theorem own_mono {w : World} {B B' e size : Nat} {v : Value} {n : Nat} {xs : List Value} (h : w.ownsRow B e size v n xs) (hb : B' ≤ B) : w.ownsRow B' e size v n xs := by
  refine ⟨h.1, ?_⟩
  rcases h.2 with h0 | ⟨g, cap, cur, rfl, hB, hr⟩
  · exact .inl h0
  · exact .inr ⟨g, cap, cur, rfl, Nat.le_trans hb hB, hr⟩

theorem own_row {w : World} {B e n : Nat} {v : Value} {rs : List Bn} (h : w.ownsRow B e 4 v n (flat rs)) : ∃ a c, v = .slice a n c ∧ n ≤ c ∧ (a = none → n = 0 ∧ c = 0) ∧ RowAt e w a n rs := by
  have hl := h.1
  rw [flat_len] at hl
  have hl' : rs.length = n := by omega
  rcases h.2 with ⟨rfl, rfl⟩ | ⟨g, cap, cur, rfl, hB, hg, hcap, _⟩
  · exact ⟨none, 0, rfl, Nat.le_refl _, fun _ => ⟨rfl, rfl⟩, hl', .inl rfl⟩
  · refine ⟨_, cap, rfl, hcap, fun h => (by cases h), hl', .inr ⟨g, 0, rfl, ⟨cur, _, hg⟩, fun j u hu => ?_⟩⟩
    have := h.cells (g := g) rfl j u hu
    rwa [Addr.add_lit] at this

/-- The cell of a map. -/
def mk1 (v : Value) : Nat → Value := fun _ => v

/-- A map in memory: its object in the block mb, the bindings in a block of the call's own. -/
structure MapAt (w : World) (B mb : Nat) (rs : List Bn) : Prop where
  row : ∃ v, w.rowIs mb 45 1 (mk1 v) ∧ w.ownsRow B 47 4 v rs.length (flat rs)
  len : rs.length ≤ 100

theorem MapAt.below {w w' : World} {B mb : Nat} {rs : List Bn} (h : MapAt w B mb rs) (hb : Below w.heap.size w w') : MapAt w' B mb rs := by
  obtain ⟨⟨v, h1, h2⟩, h3⟩ := h
  exact ⟨⟨v, h1.of_block (hb.block mb h1.lt), own_below h2 hb⟩, h3⟩
theorem MapAt.lt {w : World} {B mb : Nat} {rs : List Bn} (h : MapAt w B mb rs) : mb < w.heap.size := by
  obtain ⟨v, h1, _⟩ := h.row
  exact h1.lt

/-- As the walk meets it: the list's slice in the object's cell, the bindings in a row. -/
theorem MapAt.opened {w : World} {B mb : Nat} {rs : List Bn} (h : MapAt w B mb rs) :
    ∃ a c, w.rowIs mb 45 1 (mk1 (.slice a rs.length c)) ∧ w.ownsRow B 47 4 (.slice a rs.length c) rs.length (flat rs) ∧ rs.length ≤ c ∧ (a = none → rs.length = 0 ∧ c = 0) ∧ RowAt 47 w a rs.length rs := by
  obtain ⟨v, h1, h2⟩ := h.row
  obtain ⟨a, c, rfl, hc, hn, hr⟩ := own_row h2
  exact ⟨a, c, h1, h2, hc, hn, hr⟩

theorem new_cells (w : World) (cs : List Value) (e : TypeId) : ∀ j u, cs[j]? = some u → (w.alloc (.cells cs.toArray e)).cell? ((⟨w.heap.size, 0, none⟩ : Addr).add j) = some u := by
  intro j u hj
  have hadd : (⟨w.heap.size, 0, none⟩ : Addr).add j = ⟨w.heap.size, j, none⟩ := by unfold Addr.add; split <;> simp_all
  rw [hadd, cell_of_row _ w.heap.size j cs.toArray e (0, 0) (heap_alloc_new w _)]
  simpa using hj
theorem new4 (w : World) (x : Bn) (e : TypeId) : ∀ j u, x.cells[j]? = some u → (w.alloc (Obj.cells #[.int .i64 x.k, .int .i32 x.r, .int .i64 x.m, .int .i64 x.c] e)).cell? ((⟨w.heap.size, 0, none⟩ : Addr).add j) = some u := new_cells w x.cells e

/-- append onto a row that the call owns, as one step of a region that draws. -/
theorem step_append_own {P : Program} {ops : Array Oper} {o : Oper} {a : Act} {w : World} {K : Act → World → Prop} {Q : Exit → Act → World → Prop} {E : Prop}
    (hg : o.guard = none) (s x : Operand) (t : TypeId) (hop : o.op = Op.call { callee := Callee.builtin Builtin.append, args := #[s, x], argTypes := #[t, t] })
    (base : Nat) (e : TypeId) (i : TypeInfo) (z : Value) (size bytes : Nat) (h1 : P.underlying t = some (.slice e)) (h2 : P.info? e = some i) (h3 : i.zero = some z) (h4 : i.size = size) (h5 : i.bytes = bytes) (h6 : z.cells.size = size) (h7 : 0 < size)
    (v : Value) (n : Nat) (xs : List Value) (hs : a.eval s = v) (hown : w.ownsRow base e size v n xs)
    (ad : Addr) (m c : Nat) (news : List Value) (hx : a.eval x = .slice (some ad) m c) (hn : news.length = m * size) (hc : ∀ j u, news[j]? = some u → w.cell? (ad.add j) = some u) (h1c : ∀ u ∈ news, u.oneCell' = true)
    (b1 : n + m ≤ maxLen) (b2 : (n + m) * bytes ≤ 140737488355328) (hbase : base ≤ w.heap.size)
    (hK : ∀ v' w', w'.ownsRow base e size v' (n + m) (xs ++ news) → w.grownBy w' v.ownBlock → K (a.put o.dst v') w') :
    if Region.wanted o (yielded ops a.tmps) = true then Oper.wp P o a w K Q else E := by
  have hw : Region.wanted o (yielded ops a.tmps) = true := by simp [Region.wanted, hg]
  rw [if_pos hw]
  obtain ⟨v', w', hrun, r1, r2, _⟩ := run_append_own (P := P) w base t o.type e i z size bytes h1 h2 h3 h4 h5 h6 h7 v n xs hown ad m c news hn hc h1c b1 b2 hbase
  unfold Oper.wp
  simp [execOp, hop, resolve, invoke, builtin, hs, hx, hrun, Result.andThen]
  exact hK v' w' r1 r2

/-- All is as it was but the map's object and the rows of bindings. -/
structure Kept (mb : Nat) (w w' : World) : Prop where
  size : w.heap.size ≤ w'.heap.size
  block : ∀ k, k < w.heap.size → k ≠ mb → (∀ cur fr, w.heap[k]? ≠ some (.cells cur 47 fr)) → w'.heap[k]? = w.heap[k]?
theorem Kept.of {mb : Nat} {w w' : World} (h : Below w.heap.size w w') : Kept mb w w' := ⟨h.size, fun k hk _ _ => h.block k hk⟩
theorem Kept.trans {mb : Nat} {a b c : World} (h : Kept mb a b) (k : Kept mb b c) : Kept mb a c :=
  ⟨Nat.le_trans h.size k.size, fun i hi hn hc => (k.block i (Nat.lt_of_lt_of_le hi h.size) hn (by rw [h.block i hi hn hc]; exact hc)).trans (h.block i hi hn hc)⟩
theorem Kept.grown {mb B n : Nat} {w w' : World} {v : Value} {xs : List Value} (hown : w.ownsRow B 47 4 v n xs) (hg : w.grownBy w' v.ownBlock) : Kept mb w w' := by
  refine ⟨hg.size, fun k hk _ hc => hg.block k hk fun e => ?_⟩
  rcases hown.2 with ⟨rfl, _⟩ | ⟨g, cap, cur, rfl, _, hh, _⟩
  · cases e
  · simp only [Value.ownBlock, Option.some.injEq] at e
    subst e
    exact hc _ _ hh
theorem Kept.setMb {mb : Nat} (w : World) (i : Nat) (v : Value) : Kept mb w (w.setCell ⟨mb, i, none⟩ v) :=
  ⟨by simp [World.setCell], fun k _ hn _ => Below.heap_setCell _ _ _ _ (by simpa using hn)⟩
theorem Kept.row {mb : Nat} {w w' : World} {a : Option Addr} {n : Nat} {rs : List Bn} {e : TypeId} (h : RowAt e w a n rs) (he : e ≠ 47) (k : Kept mb w w') (hm : ∀ cur fr, w.heap[mb]? ≠ some (.cells cur e fr)) : RowAt e w' a n rs := by
  refine ⟨h.1, ?_⟩
  rcases h.2 with h0 | ⟨b, off, rfl, ⟨cur, fr, hh⟩, hc⟩
  · exact .inl h0
  · have hlt := lt_of_block hh
    have hb : w'.heap[b]? = w.heap[b]? := k.block b hlt (by rintro rfl; exact hm _ _ hh) (fun cur' fr' e' => by rw [hh] at e'; simp at e'; exact he e'.2.1)
    exact .inr ⟨b, off, rfl, ⟨cur, fr, hb.trans hh⟩, fun j z hz => (World.cell?_of_block (w := w) hb).trans (hc j z hz)⟩

theorem rowIs_typ {w : World} {b t n : Nat} {f : Nat → Value} (h : w.rowIs b t n f) : ∃ cur, w.heap[b]? = some (.cells cur t (0, 0)) := by
  obtain ⟨cur, h1, _⟩ := h
  exact ⟨cur, h1⟩

theorem own_ne {w : World} {B n b t m : Nat} {v : Value} {xs : List Value} {f : Nat → Value} (h : w.ownsRow B 47 4 v n xs) (hr : w.rowIs b t m f) (ht : t ≠ 47) : v.ownBlock ≠ some b := by
  obtain ⟨cur', h'⟩ := rowIs_typ hr
  rcases h.2 with ⟨rfl, _⟩ | ⟨g, cap, cur, rfl, _, hh, _⟩
  · simp [Value.ownBlock]
  · intro e
    simp only [Value.ownBlock, Option.some.injEq] at e
    subst e
    rw [h'] at hh
    simp at hh
    exact ht hh.2

theorem zero47 : ∀ w, (zeroValue 47).run Try.prog w = .ok (.agg #[.int .i64 0, .int .i32 0, .int .i64 0, .int .i64 0]) w := fun w => by kernel_rfl

/-- What a change leaves: the answer, the map, the rest. -/
def Changed (w : World) (B mb : Nat) (rs : List Bn) (v : Value) (e : Ending) (w' : World) : Prop :=
  e = .returned v ∧ MapAt w' B mb rs ∧ Kept mb w w' ∧ Below B w w'

theorem own_setMb {w : World} {B mb n t m i : Nat} {v : Value} {xs : List Value} {f : Nat → Value} (h : w.ownsRow B 47 4 v n xs) (hr : w.rowIs mb t m f) (ht : t ≠ 47) (u : Value) : (w.setCell ⟨mb, i, none⟩ u).ownsRow B 47 4 v n xs := by
  refine ⟨h.1, ?_⟩
  have hne := own_ne h hr ht
  rcases h.2 with h0 | ⟨g, cap, cur, rfl, hB, hg, hrr⟩
  · exact .inl h0
  · refine .inr ⟨g, cap, cur, rfl, hB, ?_, hrr⟩
    rw [Below.heap_setCell _ _ _ _ (by simp only [Value.ownBlock, ne_eq, Option.some.injEq] at hne; exact hne)]
    exact hg

theorem own_form2 {w : World} {B e n : Nat} {size : Nat} {v : Value} {xs : List Value} (h : w.ownsRow B e size v n xs) : ∃ a c, v = .slice a n c := by
  rcases h.2 with ⟨rfl, rfl⟩ | ⟨g, c, cur, rfl, _⟩
  · exact ⟨none, 0, rfl⟩
  · exact ⟨_, c, rfl⟩

theorem Kept.rowIs {mb b t n : Nat} {f : Nat → Value} {w w' : World} (k : Kept mb w w') (h : w.rowIs b t n f) (ht : t ≠ 47) (hb : b ≠ mb) : w'.rowIs b t n f := by
  obtain ⟨cur, hh⟩ := rowIs_typ h
  exact h.of_block (k.block b h.lt hb fun cur' fr' e => by rw [hh] at e; simp at e; exact ht e.2.1)

/-- The law's own list. -/
structure LAt (w : World) (la : Option Addr) (lc : Nat) (rs : List Bn) : Prop where
  row : RowAt 39 w la rs.length rs
  cap : rs.length ≤ lc
  nil : la = none → rs.length = 0 ∧ lc = 0
theorem LAt.below {w w' : World} {la : Option Addr} {lc : Nat} {rs : List Bn} (h : LAt w la lc rs) (hb : Below w.heap.size w w') : LAt w' la lc rs := ⟨h.row.below hb, h.cap, h.nil⟩
theorem LAt.kept {w w' : World} {la : Option Addr} {lc mb B : Nat} {rs ms : List Bn} (h : LAt w la lc rs) (k : Kept mb w w') (hm : MapAt w B mb ms) : LAt w' la lc rs := by
  refine ⟨Kept.row h.row (by decide) k fun cur fr e => ?_, h.cap, h.nil⟩
  obtain ⟨v, h1, _⟩ := hm.row
  obtain ⟨cur', e'⟩ := rowIs_typ h1
  rw [e'] at e
  simp at e

/-- Keys in a cell of their own. -/
def nd3 (x : Ky) : Nat → Value := fun i => [Value.int .i64 x.k, .int .i32 x.r, .int .i64 x.m].getD i (.bool false)
theorem row3 (w : World) (x : Ky) : (w.alloc (Obj.cells #[.int .i64 x.k, .int .i32 x.r, .int .i64 x.m] 23)).rowIs w.heap.size 23 3 (nd3 x) :=
  World.rowIs_alloc w #[.int .i64 x.k, .int .i32 x.r, .int .i64 x.m] 23 _ (by intro i hi; match i, hi with | 0, _ => rfl | 1, _ => rfl | 2, _ => rfl)
end Go.Proofs.Ytonndckjidjkiaa
