/- How selections and slices of them come in. No conditions. -/
import Derived.Test.YtdpmkfjomkemhaaRows
import Derived.Test.YtdpmkfjomkemhaaData
import Derived.ProofKit
import Derived.OpenShut
import Derived.Deep.Slices
import Derived.Lib.LaidU8
namespace Go.Proofs.Ytdpmkfjomkemhaa
open Go Go.RowKit Go.Lib Go.ChangeShapes Go.WideShapes Go.ChangeAt

theorem own : ownKnob Try.prog.godebug = none := by kernel_rfl
theorem laidOut : laidOutB Try.prog = true := by kernel_rfl
theorem cells3 : Try.prog.cellsOf 3 = 1 := by kernel_rfl
theorem cells24 : Try.prog.cellsOf 24 = 2 := by kernel_rfl

theorem sel_open {H : Type} {enc : TypeId × Value → H} {W : World} {fuel : Nat} {cs : List Value} {x : DataW H × List MemPlace} (h : DataW.trod enc Try.prog W 0 (fun _ => true) true fuel 24 cs = some x) :
    ∃ s : Sl, cs = s.cells := by
  obtain ⟨xs, n, rfl, hx, hlen, hxl, hall⟩ := DataW.trod_struct Try.underlying24 h
  have h0 := hall 0 _ rfl
  have h1 := hall 1 _ rfl
  match xs, hxl with
  | [y0, y1], _ =>
    simp only [List.getElem?_cons_zero, List.getElem?_cons_succ] at h0 h1
    obtain ⟨z0, hc0, rfl, _⟩ := DataW.trod_int Try.underlying3 h0
    obtain ⟨z1, hc1, rfl, _⟩ := DataW.trod_int Try.underlying3 h1
    rw [cells24] at hlen
    match cs, hlen with
    | [v0, v1], _ =>
      simp [cells3] at hc0 hc1
      subst hc0 hc1
      exact ⟨⟨z0, z1⟩, rfl⟩

/-- Structs in memory that came in. -/
def Rows {α : Type} (K : Nat) (cells : α → List Value) (w : World) (a : Option Addr) (n : Nat) (ys : List α) : Prop :=
  ys.length = n ∧ (n = 0 ∨ ∃ b off, a = some ⟨b, off, none⟩ ∧ b < w.heap.size ∧ ∀ k y, ys[k]? = some y → ∀ i u, (cells y)[i]? = some u → w.cell? ⟨b, off + k * K + i, none⟩ = some u)

theorem opened_rows {α : Type} {H : Type} {enc : TypeId × Value → H} {W : World} {v : Value} {d : DataW H} {p : List MemPlace} {base K : Nat} (cells : α → List Value) (tS tE : TypeId) (hS : Try.prog.underlying tS = some (.slice tE)) (hC : Try.prog.cellsOf tE = K)
    (hopen : ∀ fuel cs (x : DataW H × List MemPlace), DataW.trod enc Try.prog W 0 (fun _ => true) true fuel tE cs = some x → ∃ y, cs = cells y) (hlen : ∀ y, (cells y).length = K) (hK : 0 < K)
    (hv : Value.okWide Try.prog W .any base tS v) (h0 : ∃ fuel, DataW.trod enc Try.prog W 0 (fun _ => true) true fuel tS v.cells.toList = some (d, p)) :
    ∃ a n c ys, v = .slice a n c ∧ n ≤ c ∧ (a = none → n = 0 ∧ c = 0) ∧ Rows K cells W a n ys := by
  obtain ⟨a0, len0, cap0, rfl⟩ := okWide_slice hS hv
  obtain ⟨fuel, hf⟩ := h0
  rcases Go.Deep.open_slice hS hf with ⟨hcs, _⟩ | ⟨a, len, cap, m, n, D, Pl, hcs, _, hl, hm, hmm, _, hi⟩
  · simp [Value.cells] at hcs
    obtain ⟨rfl, rfl, rfl⟩ := hcs
    exact ⟨none, 0, 0, [], rfl, Nat.le_refl _, fun _ => ⟨rfl, rfl⟩, rfl, .inl rfl⟩
  · simp [Value.cells] at hcs
    obtain ⟨rfl, rfl, rfl⟩ := hcs
    refine ⟨some a, len0, cap0, ?_⟩
    by_cases hz : len0 = 0
    · subst hz
      exact ⟨[], rfl, hl, fun h => (by cases h), rfl, .inl rfl⟩
    · have hmc : len0 ≤ m := by rw [hmm]; split <;> omega
      obtain ⟨b, off, sp⟩ := a
      have key : ∀ i, i < m → ∃ y : α, ∀ j u, (cells y)[j]? = some u → W.cell? (((⟨b, off, sp⟩ : Addr).add (i * K)).add j) = some u := by
        intro i him
        obtain ⟨cs', hc, ht⟩ := hi i him
        rw [hC] at hc
        obtain ⟨y, rfl⟩ := hopen _ _ _ ht
        obtain ⟨_, _, hat⟩ := World.cells?_some hc
        refine ⟨y, fun j u hj => ?_⟩
        have hj4 : j < K := by
          have := (List.getElem?_eq_some_iff.1 hj).1
          rwa [hlen] at this
        rw [hat j hj4, ← hj]
      obtain ⟨y0, hy0⟩ := key 0 (by omega)
      have c0 := hy0 0 ((cells y0)[0]'(by rw [hlen]; exact hK)) (by simp)
      have e0 : ((⟨b, off, sp⟩ : Addr).add (0 * K)).add 0 = ⟨b, off, sp⟩ := by simp [Addr.add]
      rw [e0] at c0
      obtain rfl := cell_spot c0
      have key2 : ∀ i, ∃ y : α, i < m → ∀ j u, (cells y)[j]? = some u → W.cell? ⟨b, off + i * K + j, none⟩ = some u := by
        intro i
        by_cases him : i < m
        · obtain ⟨y, hy⟩ := key i him
          refine ⟨y, fun _ j u hj => ?_⟩
          have := hy j u hj
          rwa [Addr.add_lit, Addr.add_lit] at this
        · exact ⟨y0, fun h => absurd h him⟩
      refine ⟨(List.range len0).map fun i => Classical.choose (key2 i), rfl, hl, fun h => (by cases h), by simp, .inr ⟨b, off, rfl, block_lt_of_cell c0, fun k y hk => ?_⟩⟩
      rw [List.getElem?_map] at hk
      obtain ⟨i, hi', rfl⟩ := Option.map_eq_some_iff.1 hk
      obtain ⟨hlt, rfl⟩ := List.getElem?_eq_some_iff.1 hi'
      simp at hlt
      simp only [List.getElem_range]
      exact Classical.choose_spec (key2 k) (by omega)

theorem flat_at {α : Type} {c : α → List Value} {s : Nat} (hs : ∀ x, (c x).length = s) (l : List α) (j : Nat) (u : Value) (h : (flat c l)[j]? = some u) : ∃ k i y, j = k * s + i ∧ l[k]? = some y ∧ (c y)[i]? = some u := by
  induction l generalizing j with
  | nil => cases h
  | cons x r ih =>
    rw [flat_cons] at h
    by_cases hj : j < s
    · rw [List.getElem?_append_left (by rw [hs]; exact hj)] at h
      exact ⟨0, j, x, by omega, rfl, h⟩
    · rw [List.getElem?_append_right (by rw [hs]; omega), hs] at h
      obtain ⟨k, i, y, e, hk, hi⟩ := ih (j - s) h
      exact ⟨k + 1, i, y, by rw [Nat.add_mul]; omega, hk, hi⟩
end Go.Proofs.Ytdpmkfjomkemhaa
