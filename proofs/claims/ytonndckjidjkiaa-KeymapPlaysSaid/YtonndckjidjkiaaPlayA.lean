/- Slices of the law's own list, cut and appended; how the round of KeymapPlays stands. No walk. -/
import Derived.Test.YtonndckjidjkiaaIn
import Derived.Test.YtonndckjidjkiaaDrop
namespace Go.Proofs.Ytonndckjidjkiaa
open Go Go.RowKit

theorem size28 : ∀ w : World, (sizeOf (Try.prog.elem 28)).run Try.prog w = .ok 4 w := fun _ => by kernel_rfl
theorem und28 : Try.prog.underlying 28 = some (.slice (Try.prog.elem 28)) := by kernel_rfl
theorem add_zero' (x : Addr) : x.add 0 = x := by
  obtain ⟨b, off, sp⟩ := x
  simp [Addr.add]

theorem row_take {e : TypeId} {w : World} {a : Option Addr} {n : Nat} {rs : List Bn} (h : RowAt e w a n rs) (i : Nat) (hi : i ≤ n) : RowAt e w a i (rs.take i) := by
  refine ⟨by have := h.1; simp; omega, ?_⟩
  by_cases h0 : i = 0
  · exact .inl h0
  · rcases h.2 with h1 | ⟨b, off, rfl, ht, hc⟩
    · omega
    · refine .inr ⟨b, off, rfl, ht, fun j z hz => hc j z ?_⟩
      rw [flat_take, List.getElem?_take] at hz
      split at hz
      · exact hz
      · cases hz
theorem row_holds {e : TypeId} {w : World} {a : Option Addr} {n : Nat} {rs : List Bn} (h : RowAt e w a n rs) : ∀ ad, a = some ad → ∀ j u, (flat rs)[j]? = some u → w.cell? (ad.add j) = some u := by
  intro ad ha j u hj
  rcases h.2 with h0 | ⟨b, off, rfl, _, hc⟩
  · have : rs = [] := List.eq_nil_of_length_eq_zero (by rw [h.1, h0])
    rw [this] at hj
    cases hj
  · cases ha
    rw [Addr.add_lit]
    exact hc j u hj
theorem slice_to (a : Option Addr) (n cap i : Nat) (hi : i ≤ cap) (w : World) : (Instr.slice 28 (.slice a n cap) none (some (.int .i64 i)) none).run Try.prog w = .ok (.slice a i cap) w := by
  rw [run_slice_h (P := Try.prog) w 28 a n cap und28 .i64 (i : Int) (by omega) (by omega), size28]
  simp only [Result.andThen, sliced]
  have e : (if cap = 0 then a else a.map (·.add (0 * 4))) = a := by
    split
    · rfl
    · cases a with
      | none => rfl
      | some x => simp [add_zero']
  rw [e]
  simp
theorem row_from (a : Option Addr) (n cap i : Nat) (hi : i < n) (hn : n ≤ cap) (hno : a = none → n = 0 ∧ cap = 0) : ∃ a', (∀ w : World, (Instr.slice 28 (.slice a n cap) (some (.int .i64 ((i : Int) + 1))) none none).run Try.prog w = .ok (.slice a' (n - (i + 1)) (cap - (i + 1))) w) ∧ (a' = none → n - (i + 1) = 0 ∧ cap - (i + 1) = 0) ∧ ∀ e w rs, RowAt e w a n rs → RowAt e w a' (n - (i + 1)) (rs.drop (i + 1)) := by
  refine ⟨if cap = i + 1 then a else a.map (·.add ((i + 1) * 4)), fun w => ?_, ?_, fun e w rs h => ⟨by have := h.1; simp; omega, ?_⟩⟩
  · rw [show ((i : Int) + 1) = ((i + 1 : Nat) : Int) by omega, run_slice_l (P := Try.prog) w 28 a n cap und28 .i64 ((i + 1 : Nat) : Int) (by omega) (by omega), size28]
    simp only [Result.andThen, sliced]
    simp
  · intro h
    have : a = none := by
      split at h
      · exact h
      · cases a with
        | none => rfl
        | some x => cases h
    have := hno this
    omega
  · by_cases h0 : n - (i + 1) = 0
    · exact .inl h0
    · rcases h.2 with h1 | ⟨b, off, rfl, ht, hc⟩
      · omega
      · refine .inr ⟨b, off + (i + 1) * 4, ?_, ht, fun j z hz => ?_⟩
        · rw [if_neg (by omega)]
          simp [Addr.add_lit]
        · rw [flat_drop, List.getElem?_drop] at hz
          rw [show off + (i + 1) * 4 + j = off + ((i + 1) * 4 + j) by omega]
          exact hc _ _ hz

/-- append, of what lies in memory or is none, onto a row that the call owns, as one step of a region that draws. -/
theorem step_append_in {P : Program} {ops : Array Oper} {o : Oper} {a : Act} {w : World} {K : Act → World → Prop} {Q : Exit → Act → World → Prop} {E : Prop}
    (hg : o.guard = none) (s x : Operand) (t : TypeId) (hop : o.op = Op.call { callee := Callee.builtin Builtin.append, args := #[s, x], argTypes := #[t, t] })
    (base : Nat) (e : TypeId) (i : TypeInfo) (z : Value) (size bytes : Nat) (h1 : P.underlying t = some (.slice e)) (h2 : P.info? e = some i) (h3 : i.zero = some z) (h4 : i.size = size) (h5 : i.bytes = bytes) (h6 : z.cells.size = size) (h7 : 0 < size)
    (v : Value) (n : Nat) (xs : List Value) (hs : a.eval s = v) (hown : w.ownsRow base e size v n xs)
    (ao : Option Addr) (m c : Nat) (news : List Value) (hx : a.eval x = .slice ao m c) (hno : ao = none → m = 0 ∧ c = 0) (hn : news.length = m * size) (hc : ∀ ad, ao = some ad → ∀ j u, news[j]? = some u → w.cell? (ad.add j) = some u) (h1c : ∀ u ∈ news, u.oneCell' = true)
    (b1 : n + m ≤ maxLen) (b2 : (n + m) * bytes ≤ 140737488355328) (hbase : base ≤ w.heap.size)
    (hK : ∀ v' w', w'.ownsRow base e size v' (n + m) (xs ++ news) → w.grownBy w' v.ownBlock → K (a.put o.dst v') w') :
    if Region.wanted o (yielded ops a.tmps) = true then Oper.wp P o a w K Q else E := by
  cases ao with
  | some ad => exact step_append_own hg s x t hop base e i z size bytes h1 h2 h3 h4 h5 h6 h7 v n xs hs hown ad m c news hx hn (hc ad rfl) h1c b1 b2 hbase hK
  | none =>
    obtain ⟨rfl, rfl⟩ := hno rfl
    obtain rfl : news = [] := List.eq_nil_of_length_eq_zero (by simpa using hn)
    have hw : Region.wanted o (yielded ops a.tmps) = true := by simp [Region.wanted, hg]
    rw [if_pos hw]
    have hrun := run_append_owned_none (P := P) (w := w) base t o.type e i size h1 h2 v n xs hown
    unfold Oper.wp
    simp [execOp, hop, resolve, invoke, builtin, hs, hx, hrun, Result.andThen]
    exact hK v w (by simpa using hown) ⟨rfl, rfl, rfl, Nat.le_refl _, fun _ _ _ => rfl⟩

/-- From a row of the call's own to the law's list. -/
theorem own_lat {w : World} {B n lc : Nat} {la : Option Addr} {rs : List Bn} (h : w.ownsRow B 39 4 (.slice la n lc) n (flat rs)) : LAt w la lc rs ∧ n = rs.length := by
  obtain ⟨a, c, e, hc, hno, hr⟩ := own_row h
  cases e
  have hl := hr.1
  subst hl
  exact ⟨⟨hr, hc, hno⟩, rfl⟩

theorem own_kept {w w' : World} {B B' mb n : Nat} {v : Value} {xs : List Value} {ms : List Bn} (h : w.ownsRow B 39 4 v n xs) (k : Kept mb w w') (hm : MapAt w B' mb ms) : w'.ownsRow B 39 4 v n xs := by
  refine ⟨h.1, ?_⟩
  rcases h.2 with h0 | ⟨g, cap, cur, rfl, hB, hg, hr⟩
  · exact .inl h0
  · refine .inr ⟨g, cap, cur, rfl, hB, ?_, hr⟩
    rw [k.block g (lt_of_block hg) ?_ ?_]
    · exact hg
    · rintro rfl
      obtain ⟨v, h1, _⟩ := hm.row
      obtain ⟨cur', e'⟩ := rowIs_typ h1
      rw [e'] at hg
      simp at hg
    · intro cur' fr e
      rw [hg] at e
      simp at e

/-- The law's list grows: the map stays. -/
theorem MapAt.grown {w w' : World} {B B' mb n : Nat} {v : Value} {xs : List Value} {bs : List Bn} (h : MapAt w B mb bs) (hown : w.ownsRow B' 39 4 v n xs) (hg : w.grownBy w' v.ownBlock) : MapAt w' B mb bs := by
  have key : ∀ (k : Nat) cur t fr, w.heap[k]? = some (Obj.cells cur t fr) → t ≠ 39 → w'.heap[k]? = w.heap[k]? := by
    intro k cur t fr hk ht
    refine hg.block k (lt_of_block hk) fun e => ?_
    rcases hown.2 with ⟨rfl, _⟩ | ⟨g, cap, cur', rfl, _, hh, _⟩
    · cases e
    · simp only [Value.ownBlock, Option.some.injEq] at e
      subst e
      rw [hh] at hk
      simp at hk
      exact ht hk.2.1.symm
  obtain ⟨⟨u, h1, h2⟩, h3⟩ := h
  obtain ⟨cur, hc⟩ := rowIs_typ h1
  refine ⟨⟨u, h1.of_block (key _ _ _ _ hc (by decide)), h2.1, ?_⟩, h3⟩
  rcases h2.2 with h0 | ⟨g, cap, cur, rfl, hB, hg', hr⟩
  · exact .inl h0
  · exact .inr ⟨g, cap, cur, rfl, hB, (key _ _ _ _ hg' (by decide)).trans hg', hr⟩
theorem row_grown {w w' : World} {B' b t m n : Nat} {f : Nat → Value} {v : Value} {xs : List Value} (h : w.rowIs b t m f) (ht : t ≠ 39) (hown : w.ownsRow B' 39 4 v n xs) (hg : w.grownBy w' v.ownBlock) : w'.rowIs b t m f := by
  obtain ⟨cur, hc⟩ := rowIs_typ h
  refine h.of_block (hg.block b (lt_of_block hc) fun e => ?_)
  rcases hown.2 with ⟨rfl, _⟩ | ⟨g, cap, cur', rfl, _, hh, _⟩
  · cases e
  · simp only [Value.ownBlock, Option.some.injEq] at e
    subst e
    rw [hh] at hc
    simp at hc
    exact ht hc.2.symm

/-- A deed in a cell of its own. -/
def nd5 (d : Dd) : Nat → Value := fun i => d.cells.getD i (.bool false)
theorem row5 (w : World) (d : Dd) : (w.alloc (Obj.cells #[.int .i64 d.what, .int .i64 d.n, .int .i64 d.x.k, .int .i32 d.x.r, .int .i64 d.x.m] 35)).rowIs w.heap.size 35 5 (nd5 d) :=
  World.rowIs_alloc w d.cells.toArray 35 _ (by intro i hi; match i, hi with | 0, _ => rfl | 1, _ => rfl | 2, _ => rfl | 3, _ => rfl | 4, _ => rfl)
theorem row5_cells {w : World} {b : Nat} {d : Dd} (h : w.rowIs b 35 5 (nd5 d)) : w.cell? ⟨b, 0, none⟩ = some (.int .i64 d.what) ∧ w.cell? ⟨b, 1, none⟩ = some (.int .i64 d.n) ∧ w.cell? ⟨b, 2, none⟩ = some (.int .i64 d.x.k) ∧ w.cell? ⟨b, 3, none⟩ = some (.int .i32 d.x.r) ∧ w.cell? ⟨b, 4, none⟩ = some (.int .i64 d.x.m) :=
  ⟨h.cell (i := 0) (by omega), h.cell (i := 1) (by omega), h.cell (i := 2) (by omega), h.cell (i := 3) (by omega), h.cell (i := 4) (by omega)⟩

/-- How the round stands. -/
def Stand (w : World) (mb : Nat) (l : Value) (wr : World) : Prop :=
  ∃ (la : Option Addr) (lc n : Nat) (bs ls : List Bn), l = .slice la n lc ∧ n = ls.length ∧ wr.ownsRow w.heap.size 39 4 (.slice la n lc) n (flat ls) ∧ MapAt wr w.heap.size mb bs ∧ Alike bs ls ∧ Below w.heap.size w wr

theorem Stand.below {w wr wr' : World} {mb : Nat} {l : Value} (h : Stand w mb l wr) (hb : Below wr.heap.size wr wr') : Stand w mb l wr' := by
  obtain ⟨la, lc, n, bs, ls, e, hn, ho, hm, ha, hB⟩ := h
  exact ⟨la, lc, n, bs, ls, e, hn, own_below ho hb, hm.below hb, ha, hB.trans (hb.mono hB.size)⟩

/-- What a round asks at its end: both sides' answers, the key's cells, how it stands. -/
theorem tail (w : World) (mb xb lc n : Nat) (la : Option Addr) (bs ls : List Bn) (d : Dd) (w2 : World) (hn : n = ls.length) (ho : w2.ownsRow w.heap.size 39 4 (.slice la n lc) n (flat ls)) (hm : MapAt w2 w.heap.size mb bs) (ha : Alike bs ls) (hB : Below w.heap.size w w2) (hx : w2.rowIs xb 35 5 (nd5 d)) :
    ∃ F, Hid (∀ W, Below w2.heap.size w2 W → Calls Try.prog 6 #[.pointer (some ⟨mb, 0, none⟩), .agg #[.int .i64 d.x.k, .int .i32 d.x.r, .int .i64 d.x.m]] W fun e w' => e = .returned (.int .i64 F) ∧ Below w2.heap.size w2 w') ∧
      Hid (∀ W, Below w2.heap.size w2 W → Calls Try.prog 7 #[.slice la n lc, .int .i64 d.x.k, .int .i32 d.x.r, .int .i64 d.x.m] W fun e w' => e = .returned (.int .i64 F) ∧ Below w2.heap.size w2 w') ∧
      Hid (∀ W, Below w2.heap.size w2 W → Below w2.heap.size w2 W ∧ W.cell? ⟨xb, 2, none⟩ = some (.int .i64 d.x.k) ∧ W.cell? ⟨xb, 3, none⟩ = some (.int .i32 d.x.r) ∧ W.cell? ⟨xb, 4, none⟩ = some (.int .i64 d.x.m)) ∧
      Hid (∀ W, Below w2.heap.size w2 W → Stand w mb (.slice la n lc) W) := by
  obtain ⟨hl, _⟩ := own_lat ho
  have h100 : ls.length ≤ 100 := by have := hm.len; have := ha.len; omega
  refine ⟨findZ d.x bs, Lib.hid fun W b => calls_base (find mb _ d.x bs W (hm.below b)) b, Lib.hid fun W b => ?_, Lib.hid fun W b => ?_, Lib.hid fun W b => ?_⟩
  · rw [ha.find, hn]
    exact calls_base (refFind la d.x ls lc W (hl.below b) h100) b
  · obtain ⟨_, _, h2, h3, h4⟩ := row5_cells (hx.of_block (b.block xb hx.lt))
    exact ⟨b, h2, h3, h4⟩
  · exact Stand.below ⟨la, lc, n, bs, ls, rfl, hn, ho, hm, ha, hB⟩ b
end Go.Proofs.Ytonndckjidjkiaa
