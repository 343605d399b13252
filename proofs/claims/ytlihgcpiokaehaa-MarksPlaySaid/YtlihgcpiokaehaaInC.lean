/- How deeds come in. No conditions. -/
import Derived.Test.YtlihgcpiokaehaaInB
import Derived.Test.YtlihgcpiokaehaaPlayA
namespace Go.Proofs.Ytlihgcpiokaehaa
open Go Go.RowKit Go.Lib Go.ChangeShapes Go.WideShapes Go.ChangeAt

theorem cells45 : Try.prog.cellsOf 45 = 9 := by kernel_rfl

theorem deed_open {H : Type} {enc : TypeId × Value → H} {W : World} {fuel : Nat} {cs : List Value} {x : DataW H × List MemPlace} (h : DataW.trod enc Try.prog W 0 (fun _ => true) true fuel 45 cs = some x) :
    ∃ d : Dd, cs = d.cells := by
  obtain ⟨xs, n, rfl, hx, hlen, hxl, hall⟩ := DataW.trod_struct Try.underlying45 h
  have h0 := hall 0 _ rfl
  have h1 := hall 1 _ rfl
  have h2 := hall 2 _ rfl
  have h3 := hall 3 _ rfl
  match xs, hxl with
  | [y0, y1, y2, y3], _ =>
    simp only [List.getElem?_cons_zero, List.getElem?_cons_succ] at h0 h1 h2 h3
    obtain ⟨z0, hc0, rfl, _⟩ := DataW.trod_int Try.underlying3 h0
    obtain ⟨z1, hc1, rfl, _⟩ := DataW.trod_int Try.underlying3 h1
    obtain ⟨r, hc2⟩ := range_open h2
    obtain ⟨e, hc3⟩ := edit_open h3
    rw [cells45] at hlen
    match cs, hlen with
    | [v0, v1, v2, v3, v4, v5, v6, v7, v8], _ =>
      simp [cells3, cells25, cells28, Rn.cells, Ed.cells] at hc0 hc1 hc2 hc3
      obtain ⟨rfl, rfl, rfl, rfl⟩ := hc2
      obtain ⟨rfl, rfl, rfl⟩ := hc3
      subst hc0 hc1
      exact ⟨⟨z0, z1, r, e⟩, rfl⟩
end Go.Proofs.Ytlihgcpiokaehaa
