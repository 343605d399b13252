/- How slices of structs come in: the cells of each, in memory. No conditions. -/
import Derived.Test.YtlihgcpiokaehaaIn
import Derived.Lib.LaidU8
namespace Go.Proofs.Ytlihgcpiokaehaa
open Go Go.RowKit Go.Lib Go.ChangeShapes Go.WideShapes Go.ChangeAt

/-- Structs in memory that came in. -/
def Rows {α : Type} (K : Nat) (cells : α → List Value) (w : World) (a : Option Addr) (n : Nat) (ys : List α) : Prop :=
  ys.length = n ∧ (n = 0 ∨ ∃ b off, a = some ⟨b, off, none⟩ ∧ b < w.heap.size ∧ ∀ k y, ys[k]? = some y → ∀ i u, (cells y)[i]? = some u → w.cell? ⟨b, off + k * K + i, none⟩ = some u)

theorem opened_rows {α : Type} {H : Type} {enc : TypeId × Value → H} {W : World} {v : Value} {d : DataW H} {p : List MemPlace} {base K : Nat} (cells : α → List Value) (tS tE : TypeId) (hS : Try.prog.underlying tS = some (.slice tE)) (hC : Try.prog.cellsOf tE = K)
    (hopen : ∀ fuel cs (x : DataW H × List MemPlace), DataW.trod enc Try.prog W 0 (fun _ => true) true fuel tE cs = some x → ∃ y, cs = cells y) (hlen : ∀ y, (cells y).length = K) (hK : 0 < K)
    (hv : Value.okWide Try.prog W .any base tS v) (h0 : ∃ fuel, DataW.trod enc Try.prog W 0 (fun _ => true) true fuel tS v.cells.toList = some (d, p)) :
    ∃ a n c ys, v = .slice a n c ∧ Rows K cells W a n ys := by
  obtain ⟨a0, len0, cap0, rfl⟩ := okWide_slice hS hv
  obtain ⟨fuel, hf⟩ := h0
  rcases Go.Deep.open_slice hS hf with ⟨hcs, _⟩ | ⟨a, len, cap, m, n, D, Pl, hcs, _, hl, hm, hmm, _, hi⟩
  · simp [Value.cells] at hcs
    obtain ⟨rfl, rfl, rfl⟩ := hcs
    exact ⟨none, 0, 0, [], rfl, rfl, .inl rfl⟩
  · simp [Value.cells] at hcs
    obtain ⟨rfl, rfl, rfl⟩ := hcs
    refine ⟨some a, len0, cap0, ?_⟩
    by_cases hz : len0 = 0
    · subst hz
      exact ⟨[], rfl, rfl, .inl rfl⟩
    · have hmc : len0 ≤ m := by rw [hmm]; split <;> omega
      obtain ⟨b, off, sp⟩ := a
      have key : ∀ i, i < m → ∃ y : α, ∀ j u, (cells y)[j]? = some u → W.cell? (((⟨b, off, sp⟩ : Addr).add (i * K)).add j) = some u := by
        intro i him
        obtain ⟨cs', hc, ht⟩ := hi i him
        rw [hC] at hc
        obtain ⟨y, rfl⟩ := hopen _ _ _ ht
        obtain ⟨_, _, hat⟩ := World.cells?_some hc
        refine ⟨y, fun j u hj => ?_⟩
        have hj4 : j < K := by
          have := (List.getElem?_eq_some_iff.1 hj).1
          rwa [hlen] at this
        rw [hat j hj4, ← hj]
      obtain ⟨y0, hy0⟩ := key 0 (by omega)
      have c0 := hy0 0 ((cells y0)[0]'(by rw [hlen]; exact hK)) (by simp)
      have e0 : ((⟨b, off, sp⟩ : Addr).add (0 * K)).add 0 = ⟨b, off, sp⟩ := by simp [Addr.add]
      rw [e0] at c0
      obtain rfl := cell_spot c0
      have key2 : ∀ i, ∃ y : α, i < m → ∀ j u, (cells y)[j]? = some u → W.cell? ⟨b, off + i * K + j, none⟩ = some u := by
        intro i
        by_cases him : i < m
        · obtain ⟨y, hy⟩ := key i him
          refine ⟨y, fun _ j u hj => ?_⟩
          have := hy j u hj
          rwa [Addr.add_lit, Addr.add_lit] at this
        · exact ⟨y0, fun h => absurd h him⟩
      refine ⟨(List.range len0).map fun i => Classical.choose (key2 i), rfl, by simp, .inr ⟨b, off, rfl, block_lt_of_cell c0, fun k y hk => ?_⟩⟩
      rw [List.getElem?_map] at hk
      obtain ⟨i, hi', rfl⟩ := Option.map_eq_some_iff.1 hk
      obtain ⟨hlt, rfl⟩ := List.getElem?_eq_some_iff.1 hi'
      simp at hlt
      simp only [List.getElem_range]
      exact Classical.choose_spec (key2 k) (by omega)
end Go.Proofs.Ytlihgcpiokaehaa
