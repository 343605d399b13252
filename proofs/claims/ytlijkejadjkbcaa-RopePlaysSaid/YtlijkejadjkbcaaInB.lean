/- How deeds come in: each one's numbers and its runes, in memory. No conditions. -/
import Derived.Test.YtlijkejadjkbcaaIn
import Derived.Test.YtlijkejadjkbcaaPlayA
import Derived.Deep.Slices
namespace Go.Proofs.Ytlijkejadjkbcaa
open Go Go.RowKit Go.Lib Go.ChangeShapes Go.WideShapes Go.ChangeAt

theorem cells3 : Try.prog.cellsOf 3 = 1 := by kernel_rfl
theorem cells22 : Try.prog.cellsOf 22 = 1 := by kernel_rfl
theorem cells32 : Try.prog.cellsOf 32 = 4 := by kernel_rfl

theorem row_open {H : Type} {enc : TypeId × Value → H} {W : World} {fuel : Nat} {cs : List Value} {x : DataW H × List MemPlace} (h : DataW.trod enc Try.prog W 0 (fun _ => true) true fuel 22 cs = some x) :
    ∃ a n c zs, cs = [.slice a n c] ∧ IsRow .i32 W a n c zs := by
  rcases open_ints Try.underlying22 Try.underlying21 (by kernel_rfl) h with ⟨hcs, _⟩ | ⟨x, l, c, zs, hcs, _, hl, hm, hz, _, hcell, hwz⟩
  · exact ⟨none, 0, 0, [], hcs, .inl ⟨rfl, rfl, rfl, rfl⟩⟩
  · exact ⟨_, l, c, zs, hcs, .inr ⟨_, rfl, hl, hm, by simpa using hz, hcell, hwz⟩⟩

theorem deed_open {H : Type} {enc : TypeId × Value → H} {W : World} {fuel : Nat} {cs : List Value} {x : DataW H × List MemPlace} (h : DataW.trod enc Try.prog W 0 (fun _ => true) true fuel 32 cs = some x) :
    ∃ d : Dd, cs = [.int .i64 d.what, .int .i64 d.x, .int .i64 d.y, .slice d.a d.n d.c] ∧ DdAt W d := by
  obtain ⟨xs, n, rfl, hx, hlen, hxl, hall⟩ := DataW.trod_struct Try.underlying32 h
  have h0 := hall 0 _ rfl
  have h1 := hall 1 _ rfl
  have h2 := hall 2 _ rfl
  have h3 := hall 3 _ rfl
  match xs, hxl with
  | [y0, y1, y2, y3], _ =>
    simp only [List.getElem?_cons_zero, List.getElem?_cons_succ] at h0 h1 h2 h3
    obtain ⟨z0, hc0, rfl, _⟩ := DataW.trod_int Try.underlying3 h0
    obtain ⟨z1, hc1, rfl, _⟩ := DataW.trod_int Try.underlying3 h1
    obtain ⟨z2, hc2, rfl, _⟩ := DataW.trod_int Try.underlying3 h2
    obtain ⟨a, m, c, zs, hc3, hrow⟩ := row_open h3
    rw [cells32] at hlen
    match cs, hlen with
    | [v0, v1, v2, v3], _ =>
      simp [cells3, cells22] at hc0 hc1 hc2 hc3
      subst hc0 hc1 hc2 hc3
      exact ⟨⟨z0, z1, z2, a, m, c, zs.take m⟩, rfl, hrow.seq, hrow.cap.2⟩

/-- Where deed i lies. -/
def DeedCells (W : World) (b off : Nat) (i : Nat) (d : Dd) : Prop :=
  (W.cell? ⟨b, off + i * 4, none⟩ = some (.int .i64 d.what) ∧ W.cell? ⟨b, off + i * 4 + 1, none⟩ = some (.int .i64 d.x) ∧ W.cell? ⟨b, off + i * 4 + 2, none⟩ = some (.int .i64 d.y) ∧ W.cell? ⟨b, off + i * 4 + 3, none⟩ = some (.slice d.a d.n d.c)) ∧ DdAt W d

theorem opened_deeds {H : Type} {enc : TypeId × Value → H} {W : World} {v : Value} {d : DataW H} {p : List MemPlace} {base : Nat} (hv : Value.okWide Try.prog W .any base 23 v) (h0 : ∃ fuel, DataW.trod enc Try.prog W 0 (fun _ => true) true fuel 23 v.cells.toList = some (d, p)) :
    ∃ a n c ds, v = .slice a n c ∧ Dds W a n ds ∧ n ≤ maxLen := by
  obtain ⟨a0, len0, cap0, rfl⟩ := okWide_slice Try.underlying23 hv
  obtain ⟨fuel, hf⟩ := h0
  rcases Go.Deep.open_slice Try.underlying23 hf with ⟨hcs, _⟩ | ⟨a, len, cap, m, n, D, Pl, hcs, _, hl, hm, hmm, _, hi⟩
  · simp [Value.cells] at hcs
    obtain ⟨rfl, rfl, rfl⟩ := hcs
    exact ⟨none, 0, 0, [], rfl, ⟨rfl, .inl rfl, fun d hd => by cases hd⟩, by unfold maxLen; omega⟩
  · simp [Value.cells] at hcs
    obtain ⟨rfl, rfl, rfl⟩ := hcs
    refine ⟨some a, len0, cap0, ?_⟩
    by_cases hz : len0 = 0
    · subst hz
      exact ⟨[], rfl, ⟨rfl, .inl rfl, fun d hd => by cases hd⟩, by unfold maxLen; omega⟩
    · have hmc : len0 ≤ m := by rw [hmm]; split <;> omega
      obtain ⟨b, off, sp⟩ := a
      have key : ∀ i, i < m → ∃ d : Dd, ∀ j u, [Value.int .i64 d.what, .int .i64 d.x, .int .i64 d.y, .slice d.a d.n d.c][j]? = some u → W.cell? (((⟨b, off, sp⟩ : Addr).add (i * 4)).add j) = some u ∧ DdAt W d := by
        intro i him
        obtain ⟨cs', hc, ht⟩ := hi i him
        rw [cells32] at hc
        obtain ⟨d, rfl, hd⟩ := deed_open ht
        obtain ⟨_, _, hat⟩ := World.cells?_some hc
        refine ⟨d, fun j u hj => ⟨?_, hd⟩⟩
        have hj4 : j < 4 := by
          have := (List.getElem?_eq_some_iff.1 hj).1
          simpa using this
        rw [hat j hj4, hj]
      obtain ⟨d0, hd0⟩ := key 0 (by omega)
      have c0 := (hd0 0 _ rfl).1
      have e0 : ((⟨b, off, sp⟩ : Addr).add (0 * 4)).add 0 = ⟨b, off, sp⟩ := by simp [Addr.add]
      rw [e0] at c0
      obtain rfl := cell_spot c0
      have key2 : ∀ i, ∃ d : Dd, i < m → DeedCells W b off i d := by
        intro i
        by_cases him : i < m
        · obtain ⟨d, hd⟩ := key i him
          refine ⟨d, fun _ => ⟨⟨?_, ?_, ?_, ?_⟩, (hd 0 _ rfl).2⟩⟩
          · have := (hd 0 _ rfl).1
            rwa [Addr.add_lit, Addr.add_lit] at this
          · have := (hd 1 _ rfl).1
            rwa [Addr.add_lit, Addr.add_lit] at this
          · have := (hd 2 _ rfl).1
            rwa [Addr.add_lit, Addr.add_lit] at this
          · have := (hd 3 _ rfl).1
            rwa [Addr.add_lit, Addr.add_lit] at this
        · exact ⟨d0, fun h => absurd h him⟩
      have hg : ∀ k d, ((List.range len0).map fun i => Classical.choose (key2 i))[k]? = some d → DeedCells W b off k d := by
        intro k d hk
        rw [List.getElem?_map] at hk
        obtain ⟨i, hi', rfl⟩ := Option.map_eq_some_iff.1 hk
        obtain ⟨hlt, rfl⟩ := List.getElem?_eq_some_iff.1 hi'
        simp at hlt
        simp only [List.getElem_range]
        exact Classical.choose_spec (key2 k) (by omega)
      refine ⟨(List.range len0).map fun i => Classical.choose (key2 i), rfl, ⟨by simp, .inr ⟨b, off, rfl, block_lt_of_cell c0, fun k d hk => (hg k d hk).1⟩, fun d hd => ?_⟩, by omega⟩
      obtain ⟨k, hk⟩ := List.mem_iff_getElem?.1 hd
      exact (hg k d hk).2
end Go.Proofs.Ytlijkejadjkbcaa
