/- What the walk of MarksPlay says of each round, and what stays. No walk. -/
import Derived.Test.YtlihgcpiokaehaaRef
import Derived.Test.YtlihgcpiokaehaaDelete
import Derived.Test.YtlihgcpiokaehaaInB
namespace Go.Proofs.Ytlihgcpiokaehaa
open Go Go.RowKit

/-- A deed as it comes in. -/
structure Dd where
  what : Int
  n : Int
  x : Rn
  e : Ed
def Dd.cells (d : Dd) : List Value := [.int .i64 d.what, .int .i64 d.n, .int .i64 d.x.f, .int .i64 d.x.t, .bool d.x.l, .bool d.x.r, .int .i64 d.e.x, .int .i64 d.e.d, .slice d.e.a d.e.n d.e.c]
def nd9 (d : Dd) : Nat → Value := fun i => d.cells.getD i (.bool false)
theorem row9 (w : World) (d : Dd) : (w.alloc (Obj.cells #[.int .i64 d.what, .int .i64 d.n, .int .i64 d.x.f, .int .i64 d.x.t, .bool d.x.l, .bool d.x.r, .int .i64 d.e.x, .int .i64 d.e.d, .slice d.e.a d.e.n d.e.c] 45)).rowIs w.heap.size 45 9 (nd9 d) :=
  World.rowIs_alloc w d.cells.toArray 45 _ (by intro i hi; match i, hi with | 0, _ => rfl | 1, _ => rfl | 2, _ => rfl | 3, _ => rfl | 4, _ => rfl | 5, _ => rfl | 6, _ => rfl | 7, _ => rfl | 8, _ => rfl)
theorem row9_cells {w : World} {b : Nat} {d : Dd} (h : w.rowIs b 45 9 (nd9 d)) : w.cell? ⟨b, 0, none⟩ = some (.int .i64 d.what) ∧ w.cell? ⟨b, 1, none⟩ = some (.int .i64 d.n) ∧ w.cell? ⟨b, 2, none⟩ = some (.int .i64 d.x.f) ∧ w.cell? ⟨b, 3, none⟩ = some (.int .i64 d.x.t) ∧ w.cell? ⟨b, 4, none⟩ = some (.bool d.x.l) ∧ w.cell? ⟨b, 5, none⟩ = some (.bool d.x.r) ∧ w.cell? ⟨b, 6, none⟩ = some (.int .i64 d.e.x) ∧ w.cell? ⟨b, 7, none⟩ = some (.int .i64 d.e.d) ∧ w.cell? ⟨b, 8, none⟩ = some (.slice d.e.a d.e.n d.e.c) :=
  ⟨h.cell (i := 0) (by omega), h.cell (i := 1) (by omega), h.cell (i := 2) (by omega), h.cell (i := 3) (by omega), h.cell (i := 4) (by omega), h.cell (i := 5) (by omega), h.cell (i := 6) (by omega), h.cell (i := 7) (by omega), h.cell (i := 8) (by omega)⟩

theorem Kept.rowIs {mb b t n : Nat} {f : Nat → Value} {w w' : World} (k : Kept mb w w') (h : w.rowIs b t n f) (ht : t ≠ 69) (hb : b ≠ mb) : w'.rowIs b t n f := by
  obtain ⟨cur, hh⟩ := rowIs_typ h
  exact h.of_block (k.block b h.lt hb fun cur' fr' e => by rw [hh] at e; simp at e; exact ht e.2.1)

/-- The law's own list. -/
structure LAt (w : World) (la : Option Addr) (lc : Nat) (rs : List Rg) : Prop where
  row : RowAt 35 w la rs.length rs
  cap : rs.length ≤ lc
  nil : la = none → rs.length = 0 ∧ lc = 0
theorem LAt.below {w w' : World} {la : Option Addr} {lc : Nat} {rs : List Rg} (h : LAt w la lc rs) (hb : Below w.heap.size w w') : LAt w' la lc rs := ⟨h.row.below hb, h.cap, h.nil⟩
theorem LAt.kept {w w' : World} {la : Option Addr} {lc mb B last : Nat} {rs ms : List Rg} (h : LAt w la lc rs) (k : Kept mb w w') (hm : MarksAt w B mb ms last) : LAt w' la lc rs := by
  refine ⟨Kept.row h.row (by decide) k fun cur fr e => ?_, h.cap, h.nil⟩
  obtain ⟨v, h1, _⟩ := hm.row
  obtain ⟨cur', e'⟩ := rowIs_typ h1
  rw [e'] at e
  simp at e

/-- How the round stands. -/
def Stand (w : World) (k : Nat) (l last : Value) (wr : World) : Prop :=
  ∃ (lst : Nat) (la : Option Addr) (lc : Nat) (rs : List Rg), last = .int .i64 lst ∧ lst ≤ k ∧ l = .slice la rs.length lc ∧ LAt wr la lc rs ∧ MarksAt wr w.heap.size w.heap.size rs lst ∧ Below w.heap.size w wr

theorem stand_below {w wr wr' : World} {k' lst : Nat} {la : Option Addr} {lc : Nat} {rs : List Rg} (hl : LAt wr la lc rs) (hm : MarksAt wr w.heap.size w.heap.size rs lst) (hb : Below w.heap.size w wr) (h : Below wr.heap.size wr wr') (hk : lst ≤ k') : Stand w k' (.slice la rs.length lc) (.int .i64 lst) wr' :=
  ⟨lst, la, lc, rs, rfl, hk, rfl, hl.below h, hm.below h, hb.trans (h.mono hb.size)⟩
end Go.Proofs.Ytlihgcpiokaehaa
