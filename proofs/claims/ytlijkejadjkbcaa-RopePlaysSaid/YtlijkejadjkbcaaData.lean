/- What a rope is in memory: nodes one behind the other, each with its chunk; what stays when other memory is written. No walk. -/
import Derived.Test.YtlijkejadjkbcaaNode
namespace Go.Proofs.Ytlijkejadjkbcaa
open Go Go.RowKit

/-- A node: where its chunk lies, and the chunk. -/
structure Nd where
  g : Nat
  o : Nat
  cs : List Int

def Nd.cells (x : Nd) : List Value := [.slice (some ⟨x.g, x.o, none⟩) x.cs.length x.cs.length, .int .i64 x.cs.length, .int .i64 (brk x.cs), .int .i64 (encCells x.cs).length]
def flat (ns : List Nd) : List Value := ns.flatMap Nd.cells
def text (ns : List Nd) : List Int := ns.flatMap Nd.cs

theorem cells_len (x : Nd) : x.cells.length = 4 := rfl
theorem flat_cons (x : Nd) (r : List Nd) : flat (x :: r) = x.cells ++ flat r := by simp [flat]
theorem flat_append (l m : List Nd) : flat (l ++ m) = flat l ++ flat m := by simp [flat]
theorem flat_one (x : Nd) : flat [x] = x.cells := by simp [flat]
theorem text_cons (x : Nd) (r : List Nd) : text (x :: r) = x.cs ++ text r := by simp [text]
theorem text_append (l m : List Nd) : text (l ++ m) = text l ++ text m := by simp [text]
theorem text_one (x : Nd) : text [x] = x.cs := by simp [text]
theorem text_nil : text [] = [] := rfl
theorem brk_append (l m : List Int) : brk (l ++ m) = brk l + brk m := by simp [brk]
theorem brk_nil : brk [] = 0 := rfl
theorem enc_append (l m : List Int) : encCells (l ++ m) = encCells l ++ encCells m := by simp [encCells]
theorem flat_len (ns : List Nd) : (flat ns).length = ns.length * 4 := by
  induction ns with
  | nil => rfl
  | cons x r ih => rw [flat_cons, List.length_append, ih, List.length_cons, Nat.add_mul]; simp [Nd.cells]; omega
theorem flat_get (ns : List Nd) (k i : Nat) (x : Nd) (h : ns[k]? = some x) (hi : i < 4) : (flat ns)[k * 4 + i]? = x.cells[i]? := by
  induction ns generalizing k with
  | nil => cases h
  | cons y r ih =>
    cases k with
    | zero =>
      cases h
      rw [flat_cons, List.getElem?_append_left (by simp [Nd.cells]; omega), Nat.zero_mul, Nat.zero_add]
    | succ k =>
      rw [flat_cons, List.getElem?_append_right (by simp [Nd.cells]; omega), show (k + 1) * 4 + i - y.cells.length = k * 4 + i by simp [Nd.cells]; omega]
      exact ih k (by simpa using h)
theorem flat_take (ns : List Nd) (k : Nat) : flat (ns.take k) = (flat ns).take (k * 4) := by
  induction ns generalizing k with
  | nil => simp [flat]
  | cons x r ih =>
    cases k with
    | zero => simp [flat]
    | succ k =>
      rw [List.take_succ_cons, flat_cons, flat_cons, ih, List.take_append, List.take_of_length_le (l := x.cells) (by rw [cells_len]; omega), show (k + 1) * 4 - x.cells.length = k * 4 by rw [cells_len]; omega]
theorem flat_drop (ns : List Nd) (k : Nat) : flat (ns.drop k) = (flat ns).drop (k * 4) := by
  induction ns generalizing k with
  | nil => simp [flat]
  | cons x r ih =>
    cases k with
    | zero => simp [flat]
    | succ k =>
      rw [List.drop_succ_cons, flat_cons, ih, List.drop_append, List.drop_of_length_le (l := x.cells) (by rw [cells_len]; omega), show (k + 1) * 4 - x.cells.length = k * 4 by rw [cells_len]; omega]
      rfl
theorem cells_one (ns : List Nd) : ∀ u ∈ flat ns, u.oneCell' = true := by
  intro u hu
  simp only [flat, List.mem_flatMap, Nd.cells] at hu
  obtain ⟨x, _, h⟩ := hu
  simp at h
  rcases h with rfl | rfl | rfl | rfl <;> rfl

/-- All blocks below B but one are as they were. -/
structure But (rb : Option Nat) (B : Nat) (w w' : World) : Prop where
  size : w.heap.size ≤ w'.heap.size
  block : ∀ k, k < B → rb ≠ some k → w'.heap[k]? = w.heap[k]?

theorem But.of {rb : Option Nat} {B : Nat} {w w' : World} (h : Below B w w') : But rb B w w' := ⟨h.size, fun k hk _ => h.block k hk⟩
theorem But.cell {rb : Option Nat} {B : Nat} {w w' : World} (h : But rb B w w') {p : Addr} (hp : p.block < B) (hn : rb ≠ some p.block) : w'.cell? p = w.cell? p := World.cell?_of_block (w := w) (h.block _ hp hn)
theorem But.trans {rb : Option Nat} {B : Nat} {a b c : World} (h : But rb B a b) (k : But rb B b c) : But rb B a c := ⟨Nat.le_trans h.size k.size, fun i hi hn => (k.block i hi hn).trans (h.block i hi hn)⟩
theorem But.mono {rb : Option Nat} {B B' : Nat} {w w' : World} (h : But rb B w w') (hB : B' ≤ B) : But rb B' w w' := ⟨h.size, fun k hk hn => h.block k (Nat.lt_of_lt_of_le hk hB) hn⟩

/-- A node's chunk lies in memory, in another block than rb. -/
structure Chunk (w : World) (rb : Option Nat) (x : Nd) : Prop where
  pos : 0 < x.cs.length
  le : x.cs.length ≤ 64
  valid : x.cs.all Lib.validRune = true
  typ : ∃ cur, w.heap[x.g]? = some (.cells cur 21 (0, 0))
  ne : rb ≠ some x.g
  cell : ∀ j z, x.cs[j]? = some z → w.cell? ⟨x.g, x.o + j, none⟩ = some (.int .i32 z)

theorem lt_of_block {w : World} {k : Nat} {o : Obj} (h : w.heap[k]? = some o) : k < w.heap.size := (Array.getElem?_eq_some_iff.1 h).1
theorem Chunk.lt {w : World} {rb : Option Nat} {x : Nd} (h : Chunk w rb x) : x.g < w.heap.size := by
  obtain ⟨c, hc⟩ := h.typ
  exact lt_of_block hc
theorem Chunk.but {w w' : World} {rb : Option Nat} {x : Nd} (h : Chunk w rb x) (b : But rb w.heap.size w w') : Chunk w' rb x :=
  ⟨h.pos, h.le, h.valid, by obtain ⟨c, hc⟩ := h.typ; exact ⟨c, (b.block _ h.lt h.ne).trans hc⟩, h.ne, fun j z hz => (b.cell (by exact h.lt) (by exact h.ne)).trans (h.cell j z hz)⟩
theorem Chunk.re {w : World} {rb : Option Nat} {rb' : Nat} {x : Nd} (h : Chunk w rb x) (hb : w.heap.size ≤ rb') : Chunk w (some rb') x :=
  ⟨h.pos, h.le, h.valid, h.typ, by have := h.lt; simp; omega, h.cell⟩
theorem Chunk.bounds {w : World} {rb : Option Nat} {x : Nd} (h : Chunk w rb x) : ∀ z ∈ x.cs, -2147483648 ≤ z ∧ z ≤ 2147483647 := by
  intro z hz
  have := valid_iff (List.all_eq_true.1 h.valid z hz)
  omega

/-- A chunk stays when a row of nodes grows. -/
theorem Chunk.grown {w w' : World} {rb : Option Nat} {x : Nd} {B n : Nat} {v : Value} {xs : List Value} (h : Chunk w rb x) (hown : w.ownsRow B 65 4 v n xs) (hg : w.grownBy w' v.ownBlock) : Chunk w' rb x := by
  obtain ⟨c, hc⟩ := h.typ
  have hne : v.ownBlock ≠ some x.g := by
    rcases hown.2 with ⟨rfl, _⟩ | ⟨g, cap, cur, rfl, _, hh, _⟩
    · simp [Value.ownBlock]
    · intro e
      simp only [Value.ownBlock, Option.some.injEq] at e
      rw [e, hc] at hh
      simp at hh
  have hb := hg.block x.g h.lt (by intro e; exact hne e.symm)
  exact ⟨h.pos, h.le, h.valid, ⟨c, hb.trans hc⟩, h.ne, fun j z hz => (World.cell?_of_block (w := w) hb).trans (h.cell j z hz)⟩
theorem Chunk.alloc {w : World} {rb : Option Nat} {x : Nd} (h : Chunk w rb x) (o : Obj) : Chunk (w.alloc o) rb x := h.but (But.of ((Below.refl _ _).alloc (Nat.le_refl _) _))

/-- A slice of nodes in memory. -/
structure Nodes (w : World) (rb : Option Nat) (a : Option Addr) (n cap : Nat) (ns : List Nd) : Prop where
  len : ns.length = n
  le : n ≤ cap
  row : n = 0 ∨ ∃ b off, a = some ⟨b, off, none⟩ ∧ b < w.heap.size ∧ rb ≠ some b ∧ ∀ j u, (flat ns)[j]? = some u → w.cell? ⟨b, off + j, none⟩ = some u
  chunks : ∀ x ∈ ns, Chunk w rb x

theorem Nodes.but {w w' : World} {rb : Option Nat} {a : Option Addr} {n cap : Nat} {ns : List Nd} (h : Nodes w rb a n cap ns) (k : But rb w.heap.size w w') : Nodes w' rb a n cap ns := by
  refine ⟨h.len, h.le, ?_, fun x hx => (h.chunks x hx).but k⟩
  rcases h.row with h0 | ⟨b, off, rfl, hlt, hne, hc⟩
  · exact .inl h0
  · exact .inr ⟨b, off, rfl, Nat.lt_of_lt_of_le hlt k.size, hne, fun j u hu => (k.cell (by exact hlt) (by exact hne)).trans (hc j u hu)⟩
theorem Nodes.below {w w' : World} {rb : Option Nat} {a : Option Addr} {n cap : Nat} {ns : List Nd} (h : Nodes w rb a n cap ns) (k : Below w.heap.size w w') : Nodes w' rb a n cap ns := h.but (But.of k)
theorem Nodes.re {w : World} {rb : Option Nat} {rb' : Nat} {a : Option Addr} {n cap : Nat} {ns : List Nd} (h : Nodes w rb a n cap ns) (k : w.heap.size ≤ rb') : Nodes w (some rb') a n cap ns := by
  refine ⟨h.len, h.le, ?_, fun x hx => (h.chunks x hx).re k⟩
  rcases h.row with h0 | ⟨b, off, rfl, hlt, hne, hc⟩
  · exact .inl h0
  · exact .inr ⟨b, off, rfl, hlt, by simp; omega, hc⟩
theorem Nodes.empty (w : World) (rb : Option Nat) (a : Option Addr) (cap : Nat) : Nodes w rb a 0 cap [] := ⟨rfl, Nat.zero_le _, .inl rfl, fun x hx => by cases hx⟩

theorem text_len {w : World} {rb : Option Nat} {ns : List Nd} (h : ∀ x ∈ ns, Chunk w rb x) : ns.length ≤ (text ns).length := by
  induction ns with
  | nil => exact Nat.le_refl _
  | cons x r ih =>
    rw [text_cons, List.length_append, List.length_cons]
    have := (h x (List.mem_cons_self ..)).pos
    have := ih fun y hy => h y (List.mem_cons_of_mem _ hy)
    omega
theorem text_take_le (ns : List Nd) (k : Nat) : (text (ns.take k)).length ≤ (text ns).length := by
  have : text ns = text (ns.take k) ++ text (ns.drop k) := by rw [← text_append, List.take_append_drop]
  rw [this, List.length_append]; omega
theorem text_snoc (ns : List Nd) (k : Nat) (x : Nd) (h : ns[k]? = some x) : text (ns.take (k + 1)) = text (ns.take k) ++ x.cs := by
  rw [List.take_add_one, h]; simp [text]

/-- The cells of one node, as the walk meets them. -/
theorem nodeCells {w : World} {b off : Nat} {ns : List Nd} (hc : ∀ j u, (flat ns)[j]? = some u → w.cell? ⟨b, off + j, none⟩ = some u) (k : Nat) (x : Nd) (h : ns[k]? = some x) :
    w.cell? ⟨b, off + k * 4, none⟩ = some (.slice (some ⟨x.g, x.o, none⟩) x.cs.length x.cs.length) ∧ w.cell? ⟨b, off + k * 4 + 1, none⟩ = some (.int .i64 x.cs.length) ∧ w.cell? ⟨b, off + k * 4 + 2, none⟩ = some (.int .i64 (brk x.cs)) ∧ w.cell? ⟨b, off + k * 4 + 3, none⟩ = some (.int .i64 (encCells x.cs).length) := by
  refine ⟨?_, ?_, ?_, ?_⟩
  · exact hc (k * 4) _ ((flat_get ns k 0 x h (by omega)).trans rfl)
  · exact hc (k * 4 + 1) _ ((flat_get ns k 1 x h (by omega)).trans rfl)
  · exact hc (k * 4 + 2) _ ((flat_get ns k 2 x h (by omega)).trans rfl)
  · exact hc (k * 4 + 3) _ ((flat_get ns k 3 x h (by omega)).trans rfl)
end Go.Proofs.Ytlijkejadjkbcaa
