/- What a walk of the sort's functions wants at each step. No walk. -/
import Derived.Test.YtdpmkfjomkemhaaSpan
import Derived.Test.YtdpmkfjomkemhaaShelf
namespace Go.Proofs.Ytdpmkfjomkemhaa
open Go Go.RowKit Go.Sort Go.Proofs

/-- A world of the sort's. -/
abbrev W2 (w0 : World) (blk off : Nat) (d : Array Sl) (W : World) : Prop := SWK Sl.cells 2 w0 blk off d W
theorem grown_of_below {w w' : World} (h : Below w.heap.size w w') (hd : w.drawn ≤ w'.drawn) : ∃ q os', w' = grow (w.drewN q) os' := by
  refine ⟨w'.drawn - w.drawn, w'.heap.extract w.heap.size w'.heap.size, ?_⟩
  obtain ⟨heap, tape, drawn, os, output⟩ := w
  obtain ⟨heap', tape', drawn', os', output'⟩ := w'
  have h1 := h.os
  have h2 := h.tape
  have h3 := h.output
  have h4 := h.size
  have h5 := h.block
  simp only at h1 h2 h3 h4 h5 hd
  subst h1 h2 h3
  unfold grow World.drewN
  simp only [World.mk.injEq, true_and, and_true]
  refine ⟨?_, by omega⟩
  refine Array.ext_getElem? fun i => ?_
  rw [Array.getElem?_append]
  split
  · rename_i hi
    exact h5 i hi
  · rename_i hi
    rw [Array.getElem?_extract]
    split
    · congr 1
      omega
    · rw [Array.getElem?_eq_none (by omega)]
theorem below_of_W2 {w0 W : World} {blk off : Nat} {d : Array Sl} (h : W2 w0 blk off d W) (hblk : blk < w0.heap.size) : Below blk w0 W := by
  obtain ⟨n, os, rfl⟩ := h
  have hs : (putRowK Sl.cells 2 (Sort.ahead w0 n) blk off d).heap.size = w0.heap.size := size_putRowK _ _ _ _ _ _
  refine ⟨rfl, rfl, rfl, by unfold sortWorldK; rw [size_grow, hs]; exact Nat.le_add_right _ _, fun k hk => ?_⟩
  unfold sortWorldK
  show ((putRowK Sl.cells 2 (Sort.ahead w0 n) blk off d).heap ++ os)[k]? = _
  rw [Array.getElem?_append, if_pos (by rw [hs]; omega)]
  unfold putRowK putRow mapBlock
  simp only [Array.getElem?_modify]
  rw [if_neg (by omega)]
  rfl
theorem row_of_holds {W : World} {blk off : Nat} {d : Array Sl} (h : HoldsK Sl.cells 2 W blk off d) (hb : blk < W.heap.size) : RowAt Sl.cells 24 W (some ⟨blk, off, none⟩) d.size d.toList := by
  refine ⟨by simp, .inr ⟨blk, off, rfl, hb, fun j u hu => ?_⟩⟩
  have hj : j < d.size * 2 := by
    have := (List.getElem?_eq_some_iff.1 hu).1
    rw [flat_len sl_len] at this
    simpa using this
  obtain ⟨i, c, rfl, hc⟩ : ∃ i c, j = i * 2 + c ∧ c < 2 := ⟨j / 2, j % 2, by omega, by omega⟩
  have hi : i < d.size := by omega
  have hx : d.toList[i]? = some d[i]! := by simp [hi]
  rw [flat_get sl_len _ i c _ hx hc] at hu
  rw [← Nat.add_assoc, (h.cell hi hc).1, getElem!_pos _ c (by rw [sl_len]; exact hc)]
  rw [List.getElem?_eq_getElem (by rw [sl_len]; exact hc)] at hu
  exact hu
theorem holds_of_own {W : World} {B g n c : Nat} {l : List Sl} (h : W.ownsRow B 24 2 (.slice (some ⟨g, 0, none⟩) n c) n (flat Sl.cells l)) : HoldsK Sl.cells 2 W g 0 l.toArray := by
  have hc := h.cells (g := g) rfl
  rcases h.2 with ⟨h1, _⟩ | ⟨g', cap, cur, he, hB, hg, hcap, hm, hs, ht⟩
  · cases h1
  · cases he
    intro j hj
    rw [size_flatK] at hj
    obtain ⟨i, k, rfl, hk⟩ : ∃ i k, j = i * 2 + k ∧ k < 2 := ⟨j / 2, j % 2, by omega, by omega⟩
    have hi : i < l.length := by simp at hj; omega
    refine ⟨?_, ?_⟩
    · rw [get_flatK _ _ _ _ hj, show (i * 2 + k) / 2 = i by omega, show (i * 2 + k) % 2 = k by omega]
      have hx : l[i]? = some l.toArray[i]! := by simp [hi]
      have := hc (i * 2 + k) _ ((flat_get sl_len l i k _ hx hk).trans (List.getElem?_eq_getElem (by rw [sl_len]; exact hk)))
      rw [Addr.add_lit] at this
      rw [this, getElem!_pos _ k (by rw [sl_len]; exact hk)]
      rfl
    · unfold World.frozen?
      rw [hg]
      simp
end Go.Proofs.Ytdpmkfjomkemhaa
