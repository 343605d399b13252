/- How keys and slices of deeds come in. No conditions. -/
import Derived.Test.YtonndckjidjkiaaRows
import Derived.Test.YtonndckjidjkiaaFinds
import Derived.ProofKit
import Derived.OpenShut
import Derived.Deep.Slices
import Derived.Lib.LaidU8
namespace Go.Proofs.Ytonndckjidjkiaa
open Go Go.RowKit Go.Lib Go.ChangeShapes Go.WideShapes Go.ChangeAt

theorem own : ownKnob Try.prog.godebug = none := by kernel_rfl
theorem laidOut : laidOutB Try.prog = true := by kernel_rfl

theorem cells3 : Try.prog.cellsOf 3 = 1 := by kernel_rfl
theorem cells21 : Try.prog.cellsOf 21 = 1 := by kernel_rfl
theorem cells23 : Try.prog.cellsOf 23 = 3 := by kernel_rfl
theorem cells35 : Try.prog.cellsOf 35 = 5 := by kernel_rfl

theorem i64_in {m : Int} (h : (Lit.int .i64 m).wf = true) : -9223372036854775808 ≤ m ∧ m ≤ 9223372036854775807 := by
  simpa [Lit.wf, IntKind.min, IntKind.max, IntKind.signed, IntKind.bits] using h

def Ky.cells (x : Ky) : List Value := [.int .i64 x.k, .int .i32 x.r, .int .i64 x.m]

theorem key_open {H : Type} {enc : TypeId × Value → H} {W : World} {fuel : Nat} {cs : List Value} {x : DataW H × List MemPlace} (h : DataW.trod enc Try.prog W 0 (fun _ => true) true fuel 23 cs = some x) :
    ∃ y : Ky, cs = y.cells := by
  obtain ⟨xs, n, rfl, hx, hlen, hxl, hall⟩ := DataW.trod_struct Try.underlying23 h
  have h0 := hall 0 _ rfl
  have h1 := hall 1 _ rfl
  have h2 := hall 2 _ rfl
  match xs, hxl with
  | [y0, y1, y2], _ =>
    simp only [List.getElem?_cons_zero, List.getElem?_cons_succ] at h0 h1 h2
    obtain ⟨z0, hc0, rfl, _⟩ := DataW.trod_int Try.underlying3 h0
    obtain ⟨z1, hc1, rfl, _⟩ := DataW.trod_int Try.underlying21 h1
    obtain ⟨z2, hc2, rfl, _⟩ := DataW.trod_int Try.underlying3 h2
    rw [cells23] at hlen
    match cs, hlen with
    | [v0, v1, v2], _ =>
      simp [cells3, cells21] at hc0 hc1 hc2
      subst hc0 hc1 hc2
      exact ⟨⟨z0, z1, z2⟩, rfl⟩

theorem num_open {H : Type} {enc : TypeId × Value → H} {W : World} {v : Value} {d : DataW H} {p : List MemPlace} (h : ∃ fuel, DataW.trod enc Try.prog W 0 (fun _ => true) true fuel 3 v.cells.toList = some (d, p)) (hv : ∃ n, v = .int .i64 n) :
    ∃ n, v = .int .i64 n ∧ -9223372036854775808 ≤ n ∧ n ≤ 9223372036854775807 := by
  obtain ⟨m, rfl⟩ := hv
  obtain ⟨fuel, hf⟩ := h
  obtain ⟨n, hn, _, hw⟩ := DataW.trod_int Try.underlying3 hf
  simp [Value.cells] at hn
  subst hn
  exact ⟨m, rfl, i64_in hw⟩

/-- A deed as it comes in. -/
structure Dd where
  what : Int
  n : Int
  x : Ky
  hn : -9223372036854775808 ≤ n ∧ n ≤ 9223372036854775807
def Dd.cells (d : Dd) : List Value := [.int .i64 d.what, .int .i64 d.n, .int .i64 d.x.k, .int .i32 d.x.r, .int .i64 d.x.m]

theorem deed_open {H : Type} {enc : TypeId × Value → H} {W : World} {fuel : Nat} {cs : List Value} {x : DataW H × List MemPlace} (h : DataW.trod enc Try.prog W 0 (fun _ => true) true fuel 35 cs = some x) :
    ∃ d : Dd, cs = d.cells := by
  obtain ⟨xs, n, rfl, hx, hlen, hxl, hall⟩ := DataW.trod_struct Try.underlying35 h
  have h0 := hall 0 _ rfl
  have h1 := hall 1 _ rfl
  have h2 := hall 2 _ rfl
  match xs, hxl with
  | [y0, y1, y2], _ =>
    simp only [List.getElem?_cons_zero, List.getElem?_cons_succ] at h0 h1 h2
    obtain ⟨z0, hc0, rfl, _⟩ := DataW.trod_int Try.underlying3 h0
    obtain ⟨z1, hc1, rfl, hw⟩ := DataW.trod_int Try.underlying3 h1
    obtain ⟨k, hc2⟩ := key_open h2
    rw [cells35] at hlen
    match cs, hlen with
    | [v0, v1, v2, v3, v4], _ =>
      simp [cells3, cells23, Ky.cells] at hc0 hc1 hc2
      obtain ⟨rfl, rfl, rfl⟩ := hc2
      subst hc0 hc1
      exact ⟨⟨z0, z1, k, i64_in hw⟩, rfl⟩

/-- Structs in memory that came in. -/
def Rowz {α : Type} (K : Nat) (cells : α → List Value) (w : World) (a : Option Addr) (n : Nat) (ys : List α) : Prop :=
  ys.length = n ∧ (n = 0 ∨ ∃ b off, a = some ⟨b, off, none⟩ ∧ b < w.heap.size ∧ ∀ k y, ys[k]? = some y → ∀ i u, (cells y)[i]? = some u → w.cell? ⟨b, off + k * K + i, none⟩ = some u)

theorem opened_rows {α : Type} {H : Type} {enc : TypeId × Value → H} {W : World} {v : Value} {d : DataW H} {p : List MemPlace} {base K : Nat} (cells : α → List Value) (tS tE : TypeId) (hS : Try.prog.underlying tS = some (.slice tE)) (hC : Try.prog.cellsOf tE = K)
    (hopen : ∀ fuel cs (x : DataW H × List MemPlace), DataW.trod enc Try.prog W 0 (fun _ => true) true fuel tE cs = some x → ∃ y, cs = cells y) (hlen : ∀ y, (cells y).length = K) (hK : 0 < K)
    (hv : Value.okWide Try.prog W .any base tS v) (h0 : ∃ fuel, DataW.trod enc Try.prog W 0 (fun _ => true) true fuel tS v.cells.toList = some (d, p)) :
    ∃ a n c ys, v = .slice a n c ∧ Rowz K cells W a n ys := by
  obtain ⟨a0, len0, cap0, rfl⟩ := okWide_slice hS hv
  obtain ⟨fuel, hf⟩ := h0
  rcases Go.Deep.open_slice hS hf with ⟨hcs, _⟩ | ⟨a, len, cap, m, n, D, Pl, hcs, _, hl, hm, hmm, _, hi⟩
  · simp [Value.cells] at hcs
    obtain ⟨rfl, rfl, rfl⟩ := hcs
    exact ⟨none, 0, 0, [], rfl, rfl, .inl rfl⟩
  · simp [Value.cells] at hcs
    obtain ⟨rfl, rfl, rfl⟩ := hcs
    refine ⟨some a, len0, cap0, ?_⟩
    by_cases hz : len0 = 0
    · subst hz
      exact ⟨[], rfl, rfl, .inl rfl⟩
    · have hmc : len0 ≤ m := by rw [hmm]; split <;> omega
      obtain ⟨b, off, sp⟩ := a
      have key : ∀ i, i < m → ∃ y : α, ∀ j u, (cells y)[j]? = some u → W.cell? (((⟨b, off, sp⟩ : Addr).add (i * K)).add j) = some u := by
        intro i him
        obtain ⟨cs', hc, ht⟩ := hi i him
        rw [hC] at hc
        obtain ⟨y, rfl⟩ := hopen _ _ _ ht
        obtain ⟨_, _, hat⟩ := World.cells?_some hc
        refine ⟨y, fun j u hj => ?_⟩
        have hj4 : j < K := by
          have := (List.getElem?_eq_some_iff.1 hj).1
          rwa [hlen] at this
        rw [hat j hj4, ← hj]
      obtain ⟨y0, hy0⟩ := key 0 (by omega)
      have c0 := hy0 0 ((cells y0)[0]'(by rw [hlen]; exact hK)) (by simp)
      have e0 : ((⟨b, off, sp⟩ : Addr).add (0 * K)).add 0 = ⟨b, off, sp⟩ := by simp [Addr.add]
      rw [e0] at c0
      obtain rfl := cell_spot c0
      have key2 : ∀ i, ∃ y : α, i < m → ∀ j u, (cells y)[j]? = some u → W.cell? ⟨b, off + i * K + j, none⟩ = some u := by
        intro i
        by_cases him : i < m
        · obtain ⟨y, hy⟩ := key i him
          refine ⟨y, fun _ j u hj => ?_⟩
          have := hy j u hj
          rwa [Addr.add_lit, Addr.add_lit] at this
        · exact ⟨y0, fun h => absurd h him⟩
      refine ⟨(List.range len0).map fun i => Classical.choose (key2 i), rfl, by simp, .inr ⟨b, off, rfl, block_lt_of_cell c0, fun k y hk => ?_⟩⟩
      rw [List.getElem?_map] at hk
      obtain ⟨i, hi', rfl⟩ := Option.map_eq_some_iff.1 hk
      obtain ⟨hlt, rfl⟩ := List.getElem?_eq_some_iff.1 hi'
      simp at hlt
      simp only [List.getElem_range]
      exact Classical.choose_spec (key2 k) (by omega)
end Go.Proofs.Ytonndckjidjkiaa
