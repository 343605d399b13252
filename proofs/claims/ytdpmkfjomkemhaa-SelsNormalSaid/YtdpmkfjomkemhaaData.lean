/- What selections and groups are in memory: structs one behind the other; and the contracts of the reference's Low, High and within. Conditions: none. -/
import Derived.Test.YtdpmkfjomkemhaaChecked
import Derived.Test.YtdpmkfjomkemhaaGroups
import Derived.WalkKit
import Derived.Lib.Small
import Derived.Lib.Hide
import Derived.Deep.QuietTactic
import Derived.BigQuiet
import Derived.WalkSmall
import Derived.Laws.ResultCell
import Derived.Lib.SliceRun
import Derived.Laws.AppendOwnNone
import Derived.ArgAppend
import Derived.Deep.OwnRows
import Derived.Deep.RegionHeld3
namespace Go.Proofs.Ytdpmkfjomkemhaa
open Go Go.RowKit

theorem ret_bool {a b : Bool} (h : a = b) : Ending.returned (.bool a) = .returned (.bool b) := by rw [h]
theorem ret_int {a b : Int} (h : a = b) : Ending.returned (.int .i64 a) = .returned (.int .i64 b) := by rw [h]

/-- Structs one behind the other. -/
def flat {α : Type} (c : α → List Value) (l : List α) : List Value := l.flatMap c
section
variable {α : Type} {c : α → List Value} {s : Nat} (hs : ∀ x, (c x).length = s)
theorem flat_cons (x : α) (r : List α) : flat c (x :: r) = c x ++ flat c r := by simp [flat]
theorem flat_append (l m : List α) : flat c (l ++ m) = flat c l ++ flat c m := by simp [flat]
theorem flat_one (x : α) : flat c [x] = c x := by simp [flat]
include hs
theorem flat_len (l : List α) : (flat c l).length = l.length * s := by
  induction l with
  | nil => simp [flat]
  | cons x r ih => rw [flat_cons, List.length_append, ih, List.length_cons, Nat.add_mul, hs]; omega
theorem flat_get (l : List α) (k i : Nat) (x : α) (h : l[k]? = some x) (hi : i < s) : (flat c l)[k * s + i]? = (c x)[i]? := by
  induction l generalizing k with
  | nil => cases h
  | cons y r ih =>
    cases k with
    | zero =>
      cases h
      rw [flat_cons, List.getElem?_append_left (by rw [hs]; omega), Nat.zero_mul, Nat.zero_add]
    | succ k =>
      rw [flat_cons, List.getElem?_append_right (by rw [hs, Nat.add_mul]; omega), show (k + 1) * s + i - (c y).length = k * s + i by rw [hs, Nat.add_mul]; omega]
      exact ih k (by simpa using h)
theorem flat_take (l : List α) (k : Nat) : flat c (l.take k) = (flat c l).take (k * s) := by
  induction l generalizing k with
  | nil => simp [flat]
  | cons x r ih =>
    cases k with
    | zero => simp [flat]
    | succ k =>
      rw [List.take_succ_cons, flat_cons, flat_cons, ih, List.take_append, List.take_of_length_le (l := c x) (by rw [hs, Nat.add_mul]; omega), show (k + 1) * s - (c x).length = k * s by rw [hs, Nat.add_mul]; omega]
theorem flat_drop (l : List α) (k : Nat) : flat c (l.drop k) = (flat c l).drop (k * s) := by
  induction l generalizing k with
  | nil => simp [flat]
  | cons x r ih =>
    cases k with
    | zero => simp [flat]
    | succ k =>
      rw [List.drop_succ_cons, flat_cons, ih, List.drop_append, List.drop_of_length_le (l := c x) (by rw [hs, Nat.add_mul]; omega), show (k + 1) * s - (c x).length = k * s by rw [hs, Nat.add_mul]; omega]
      rfl
end

def Sl.cells (s : Sl) : List Value := [.int .i64 s.a, .int .i64 s.h]
def Gp.cells (g : Gp) : List Value := [.int .i64 g.lo, .int .i64 g.hi, .int .i64 g.who]
theorem sl_len (s : Sl) : s.cells.length = 2 := rfl
theorem gp_len (g : Gp) : g.cells.length = 3 := rfl
theorem sl_one (l : List Sl) : ∀ u ∈ flat Sl.cells l, u.oneCell' = true := by
  intro u hu
  simp only [flat, List.mem_flatMap, Sl.cells] at hu
  obtain ⟨x, _, h⟩ := hu
  simp at h
  rcases h with rfl | rfl <;> rfl
theorem gp_one (l : List Gp) : ∀ u ∈ flat Gp.cells l, u.oneCell' = true := by
  intro u hu
  simp only [flat, List.mem_flatMap, Gp.cells] at hu
  obtain ⟨x, _, h⟩ := hu
  simp at h
  rcases h with rfl | rfl | rfl <;> rfl

/-- Structs in memory. -/
def RowAt {α : Type} (c : α → List Value) (_e : TypeId) (w : World) (a : Option Addr) (n : Nat) (l : List α) : Prop :=
  l.length = n ∧ (n = 0 ∨ ∃ b off, a = some ⟨b, off, none⟩ ∧ b < w.heap.size ∧ ∀ j u, (flat c l)[j]? = some u → w.cell? ⟨b, off + j, none⟩ = some u)

theorem lt_of_block {w : World} {k : Nat} {o : Obj} (h : w.heap[k]? = some o) : k < w.heap.size := (Array.getElem?_eq_some_iff.1 h).1

theorem RowAt.below {α : Type} {c : α → List Value} {e : TypeId} {w w' : World} {a : Option Addr} {n : Nat} {l : List α} (h : RowAt c e w a n l) (hb : Below w.heap.size w w') : RowAt c e w' a n l := by
  refine ⟨h.1, ?_⟩
  rcases h.2 with h0 | ⟨b, off, rfl, hlt, hc⟩
  · exact .inl h0
  · exact .inr ⟨b, off, rfl, Nat.lt_of_lt_of_le hlt hb.size, fun j z hz => (hb.cell (by exact hlt)).trans (hc j z hz)⟩

theorem own_below {w w' : World} {B e size : Nat} {v : Value} {n : Nat} {xs : List Value} (h : w.ownsRow B e size v n xs) (hb : Below w.heap.size w w') : w'.ownsRow B e size v n xs := by
  refine ⟨h.1, ?_⟩
  rcases h.2 with h0 | ⟨g, cap, cur, rfl, hB, hg, hr⟩
  · exact .inl h0
  · exact .inr ⟨g, cap, cur, rfl, hB, (hb.block g (Array.getElem?_eq_some_iff.1 hg).1).trans hg, hr⟩
theorem own_row {α : Type} {c : α → List Value} {s : Nat} (hs : ∀ x, (c x).length = s) (hs0 : 0 < s) {w : World} {B e n : Nat} {v : Value} {l : List α} (h : w.ownsRow B e s v n (flat c l)) :
    ∃ a k, v = .slice a n k ∧ n ≤ k ∧ (a = none → n = 0 ∧ k = 0) ∧ RowAt c e w a n l := by
  have hl := h.1
  rw [flat_len hs] at hl
  have hl' : l.length = n := Nat.eq_of_mul_eq_mul_right hs0 hl
  rcases h.2 with ⟨rfl, rfl⟩ | ⟨g, cap, cur, rfl, hB, hg, hcap, _⟩
  · exact ⟨none, 0, rfl, Nat.le_refl _, fun _ => ⟨rfl, rfl⟩, hl', .inl rfl⟩
  · refine ⟨_, cap, rfl, hcap, fun h => (by cases h), hl', .inr ⟨g, 0, rfl, (Array.getElem?_eq_some_iff.1 hg).1, fun j u hu => ?_⟩⟩
    have := h.cells (g := g) rfl j u hu
    rwa [Addr.add_lit] at this

theorem slCells {w : World} {b off : Nat} {l : List Sl} (hc : ∀ j u, (flat Sl.cells l)[j]? = some u → w.cell? ⟨b, off + j, none⟩ = some u) (k : Nat) (x : Sl) (h : l[k]? = some x) :
    w.cell? ⟨b, off + k * 2, none⟩ = some (.int .i64 x.a) ∧ w.cell? ⟨b, off + k * 2 + 1, none⟩ = some (.int .i64 x.h) :=
  ⟨hc (k * 2) _ ((flat_get sl_len l k 0 x h (by omega)).trans rfl), hc (k * 2 + 1) _ ((flat_get sl_len l k 1 x h (by omega)).trans rfl)⟩
theorem gpCells {w : World} {b off : Nat} {l : List Gp} (hc : ∀ j u, (flat Gp.cells l)[j]? = some u → w.cell? ⟨b, off + j, none⟩ = some u) (k : Nat) (x : Gp) (h : l[k]? = some x) :
    w.cell? ⟨b, off + k * 3, none⟩ = some (.int .i64 x.lo) ∧ w.cell? ⟨b, off + k * 3 + 1, none⟩ = some (.int .i64 x.hi) ∧ w.cell? ⟨b, off + k * 3 + 2, none⟩ = some (.int .i64 x.who) :=
  ⟨hc (k * 3) _ ((flat_get gp_len l k 0 x h (by omega)).trans rfl), hc (k * 3 + 1) _ ((flat_get gp_len l k 1 x h (by omega)).trans rfl), hc (k * 3 + 2) _ ((flat_get gp_len l k 2 x h (by omega)).trans rfl)⟩

theorem new_cells (w : World) (cs : List Value) (e : TypeId) : ∀ j u, cs[j]? = some u → (w.alloc (.cells cs.toArray e)).cell? ((⟨w.heap.size, 0, none⟩ : Addr).add j) = some u := by
  intro j u hj
  have hadd : (⟨w.heap.size, 0, none⟩ : Addr).add j = ⟨w.heap.size, j, none⟩ := by unfold Addr.add; split <;> simp_all
  rw [hadd, cell_of_row _ w.heap.size j cs.toArray e (0, 0) (heap_alloc_new w _)]
  simpa using hj

theorem low (s : Sl) (w : World) : Calls Try.prog 12 #[.agg #[.int .i64 s.a, .int .i64 s.h]] w fun e w' => e = .returned (.int .i64 s.lo) ∧ w' = w.alloc (Obj.cells #[.int .i64 s.a, .int .i64 s.h] 24) := by
  obtain ⟨a, h⟩ := s
  go_enter Try.func12, Try.ntmps12
  go_wp2
  all_goals (go_ret; refine ⟨ret_int ?_, rfl⟩; unfold Sl.lo; simp only; split <;> omega)
theorem high (s : Sl) (w : World) : Calls Try.prog 13 #[.agg #[.int .i64 s.a, .int .i64 s.h]] w fun e w' => e = .returned (.int .i64 s.hi) ∧ w' = w.alloc (Obj.cells #[.int .i64 s.a, .int .i64 s.h] 24) := by
  obtain ⟨a, h⟩ := s
  go_enter Try.func13, Try.ntmps13
  go_wp2
  all_goals (go_ret; refine ⟨ret_int ?_, rfl⟩; unfold Sl.hi; simp only; split <;> omega)

/-- A place within a text. -/
def win (p n : Int) : Int := if n < p then (if n < 0 then 0 else n) else if p < 0 then 0 else p
theorem refWithin (p n : Int) (w : World) : Calls Try.prog 18 #[.int .i64 p, .int .i64 n] w fun e w' => e = .returned (.int .i64 (win p n)) ∧ w' = w := by
  go_enter Try.func18, Try.ntmps18
  go_wp2
  all_goals (go_ret; refine ⟨ret_int ?_, rfl⟩; unfold win; repeat' split)
  all_goals omega
theorem win_in {p n : Int} (h : 0 ≤ n) : 0 ≤ win p n ∧ win p n ≤ n := by
  unfold win
  repeat' split
  all_goals omega
theorem win_id {p n : Int} (h : 0 ≤ p ∧ p ≤ n) : win p n = p := by
  unfold win
  repeat' split
  all_goals omega

theorem lowB (B : Nat) (V : World) (s : Sl) (W : World) (h : Below B V W) (hB : B ≤ W.heap.size) : Calls Try.prog 12 #[.agg #[.int .i64 s.a, .int .i64 s.h]] W fun e w' => e = .returned (.int .i64 s.lo) ∧ Below B V w' :=
  (low s W).mono fun e w' ⟨he, hw⟩ => ⟨he, by subst hw; exact h.alloc hB _⟩
theorem highB (B : Nat) (V : World) (s : Sl) (W : World) (h : Below B V W) (hB : B ≤ W.heap.size) : Calls Try.prog 13 #[.agg #[.int .i64 s.a, .int .i64 s.h]] W fun e w' => e = .returned (.int .i64 s.hi) ∧ Below B V w' :=
  (high s W).mono fun e w' ⟨he, hw⟩ => ⟨he, by subst hw; exact h.alloc hB _⟩
end Go.Proofs.Ytdpmkfjomkemhaa
