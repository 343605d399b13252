/- How ranges, edits and slices of them come in. No conditions. -/
import Derived.Test.YtlihgcpiokaehaaRows
import Derived.Test.YtlihgcpiokaehaaMoved
import Derived.ProofKit
import Derived.OpenShut
import Derived.Deep.Slices
namespace Go.Proofs.Ytlihgcpiokaehaa
open Go Go.RowKit Go.Lib Go.ChangeShapes Go.WideShapes Go.ChangeAt

theorem own : ownKnob Try.prog.godebug = none := by kernel_rfl
theorem laidOut : laidOutB Try.prog = true := by kernel_rfl

theorem cells3 : Try.prog.cellsOf 3 = 1 := by kernel_rfl
theorem cells4 : Try.prog.cellsOf 4 = 1 := by kernel_rfl
theorem cells23 : Try.prog.cellsOf 23 = 2 := by kernel_rfl
theorem cells25 : Try.prog.cellsOf 25 = 4 := by kernel_rfl
theorem cells26 : Try.prog.cellsOf 26 = 1 := by kernel_rfl
theorem cells28 : Try.prog.cellsOf 28 = 3 := by kernel_rfl

/-- A range as it comes in. -/
structure Rn where
  f : Int
  t : Int
  l : Bool
  r : Bool
def Rn.cells (x : Rn) : List Value := [.int .i64 x.f, .int .i64 x.t, .bool x.l, .bool x.r]
/-- An edit as it comes in: of its runes only how many. -/
structure Ed where
  x : Int
  d : Int
  a : Option Addr
  n : Nat
  c : Nat
def Ed.cells (e : Ed) : List Value := [.int .i64 e.x, .int .i64 e.d, .slice e.a e.n e.c]

theorem span_open {H : Type} {enc : TypeId × Value → H} {W : World} {fuel : Nat} {cs : List Value} {x : DataW H × List MemPlace} (h : DataW.trod enc Try.prog W 0 (fun _ => true) true fuel 23 cs = some x) :
    ∃ f t : Int, cs = [.int .i64 f, .int .i64 t] := by
  obtain ⟨xs, n, rfl, hx, hlen, hxl, hall⟩ := DataW.trod_struct Try.underlying23 h
  have h0 := hall 0 _ rfl
  have h1 := hall 1 _ rfl
  match xs, hxl with
  | [y0, y1], _ =>
    simp only [List.getElem?_cons_zero, List.getElem?_cons_succ] at h0 h1
    obtain ⟨z0, hc0, rfl, _⟩ := DataW.trod_int Try.underlying3 h0
    obtain ⟨z1, hc1, rfl, _⟩ := DataW.trod_int Try.underlying3 h1
    rw [cells23] at hlen
    match cs, hlen with
    | [v0, v1], _ =>
      simp [cells3] at hc0 hc1
      subst hc0 hc1
      exact ⟨z0, z1, rfl⟩

theorem range_open {H : Type} {enc : TypeId × Value → H} {W : World} {fuel : Nat} {cs : List Value} {x : DataW H × List MemPlace} (h : DataW.trod enc Try.prog W 0 (fun _ => true) true fuel 25 cs = some x) :
    ∃ y : Rn, cs = y.cells := by
  obtain ⟨xs, n, rfl, hx, hlen, hxl, hall⟩ := DataW.trod_struct Try.underlying25 h
  have h0 := hall 0 _ rfl
  have h1 := hall 1 _ rfl
  have h2 := hall 2 _ rfl
  match xs, hxl with
  | [y0, y1, y2], _ =>
    simp only [List.getElem?_cons_zero, List.getElem?_cons_succ] at h0 h1 h2
    obtain ⟨f, t, hc0⟩ := span_open h0
    obtain ⟨l, hc1, rfl⟩ := DataW.trod_bool Try.underlying4 h1
    obtain ⟨r, hc2, rfl⟩ := DataW.trod_bool Try.underlying4 h2
    rw [cells25] at hlen
    match cs, hlen with
    | [v0, v1, v2, v3], _ =>
      simp [cells4, cells23] at hc0 hc1 hc2
      obtain ⟨rfl, rfl⟩ := hc0
      subst hc1 hc2
      exact ⟨⟨f, t, l, r⟩, rfl⟩

theorem edit_open {H : Type} {enc : TypeId × Value → H} {W : World} {fuel : Nat} {cs : List Value} {x : DataW H × List MemPlace} (h : DataW.trod enc Try.prog W 0 (fun _ => true) true fuel 28 cs = some x) :
    ∃ y : Ed, cs = y.cells := by
  obtain ⟨xs, n, rfl, hx, hlen, hxl, hall⟩ := DataW.trod_struct Try.underlying28 h
  have h0 := hall 0 _ rfl
  have h1 := hall 1 _ rfl
  have h2 := hall 2 _ rfl
  match xs, hxl with
  | [y0, y1, y2], _ =>
    simp only [List.getElem?_cons_zero, List.getElem?_cons_succ] at h0 h1 h2
    obtain ⟨x, hc0, rfl, _⟩ := DataW.trod_int Try.underlying3 h0
    obtain ⟨d, hc1, rfl, _⟩ := DataW.trod_int Try.underlying3 h1
    obtain ⟨a, m, c, hc2⟩ : ∃ a m c, _ = [Value.slice a m c] := by
      rcases open_ints Try.underlying26 Try.underlying21 (by kernel_rfl) h2 with ⟨hcs, _⟩ | ⟨x, l, c, zs, hcs, _⟩
      · exact ⟨_, _, _, hcs⟩
      · exact ⟨_, _, _, hcs⟩
    rw [cells28] at hlen
    match cs, hlen with
    | [v0, v1, v2], _ =>
      simp [cells3, cells26] at hc0 hc1 hc2
      subst hc0 hc1 hc2
      exact ⟨⟨x, d, a, m, c⟩, rfl⟩
end Go.Proofs.Ytlihgcpiokaehaa
