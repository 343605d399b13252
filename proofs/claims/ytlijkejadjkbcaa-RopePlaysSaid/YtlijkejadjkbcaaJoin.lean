/- The contract of join: the nodes of all parts, one behind the other. -/
import Derived.Test.YtlijkejadjkbcaaSplit
namespace Go.Proofs.Ytlijkejadjkbcaa
open Go Go.RowKit

/-- A part: a slice of nodes. -/
structure Part where
  a : Option Addr
  n : Nat
  c : Nat
  ns : List Nd

def texts (ps : List Part) : List Int := ps.flatMap fun p => text p.ns
theorem texts_snoc (ps : List Part) (k : Nat) (p : Part) (h : ps[k]? = some p) : texts (ps.take (k + 1)) = texts (ps.take k) ++ text p.ns := by
  rw [List.take_add_one, h]; simp [texts]
theorem texts_le (ps : List Part) (k : Nat) (p : Part) (h : ps[k]? = some p) (j : Nat) : (texts (ps.take k)).length + (text (p.ns.take j)).length ≤ (texts ps).length := by
  obtain ⟨hlt, rfl⟩ := List.getElem?_eq_some_iff.1 h
  have e1 : texts ps = texts (ps.take k) ++ texts (ps.drop k) := by
    unfold texts
    rw [← List.flatMap_append, List.take_append_drop]
  have e2 : texts (ps.drop k) = text ps[k].ns ++ texts (ps.drop (k + 1)) := by
    rw [List.drop_eq_getElem_cons hlt]
    simp only [texts, List.flatMap_cons]
  have e := e1.trans (congrArg _ e2)
  have := text_take_le ps[k].ns j
  rw [e]
  simp only [List.length_append]
  omega

theorem own_form2 {w : World} {B e n : Nat} {size : Nat} {v : Value} {xs : List Value} (h : w.ownsRow B e size v n xs) : ∃ a c, v = .slice a n c := by
  rcases h.2 with ⟨rfl, rfl⟩ | ⟨g, c, cur, rfl, _⟩
  · exact ⟨none, 0, rfl⟩
  · exact ⟨_, c, rfl⟩
theorem nodes_upto (a : Option Addr) (n cap i : Nat) (hi : i ≤ cap) (w : World) : (Instr.slice 52 (.slice a n cap) none (some (.int .i64 i)) none).run Try.prog w = .ok (.slice a i cap) w := by
  rw [run_slice_h (P := Try.prog) w 52 a n cap und52 .i64 (i : Int) (by omega) (by omega), size52]
  simp only [Result.andThen, sliced]
  have e : (if cap = 0 then a else a.map (·.add (0 * 4))) = a := by
    split
    · rfl
    · cases a with
      | none => rfl
      | some x => simp [add_zero']
  rw [e]
  simp
theorem own_init {w : World} {B g L cap : Nat} {J : List Nd} {y : Nd} (h : w.ownsRow B 65 4 (.slice (some ⟨g, 0, none⟩) (L + 1) cap) (L + 1) (flat (J ++ [y]))) (hJ : J.length = L) : w.ownsRow B 65 4 (.slice (some ⟨g, 0, none⟩) L cap) L (flat J) := by
  refine ⟨by rw [flat_len, hJ], ?_⟩
  rcases h.2 with ⟨h1, _⟩ | ⟨g', c, cur, e, hB, hg, hn, hc, hs, ht⟩
  · cases h1
  · cases e
    refine .inr ⟨g, cap, cur, rfl, hB, hg, by omega, hc, hs, ?_⟩
    have : flat J = (flat (J ++ [y])).take (L * 4) := by
      rw [flat_append, List.take_append_of_le_length (by rw [flat_len, hJ]; omega), List.take_of_length_le (by rw [flat_len, hJ]; omega)]
    rw [this, ← ht, List.take_take]
    congr 1
    omega

def ints (zs : List Int) : List Value := zs.map fun z => Value.int .i32 z
theorem ints_len (zs : List Int) : (ints zs).length = zs.length := by simp [ints]
theorem ints_holds {w : World} {g o : Nat} {zs : List Int} (h : ∀ j z, zs[j]? = some z → w.cell? ⟨g, o + j, none⟩ = some (.int .i32 z)) : ∀ j u, (ints zs)[j]? = some u → w.cell? ((⟨g, o, none⟩ : Addr).add j) = some u := by
  intro j u hj
  rw [ints, List.getElem?_map] at hj
  obtain ⟨z, hz, rfl⟩ := Option.map_eq_some_iff.1 hj
  rw [Addr.add_lit]
  exact h j z hz
theorem ints_one (zs : List Int) : ∀ u ∈ ints zs, u.oneCell' = true := by
  intro u hu
  obtain ⟨x, _, rfl⟩ := List.mem_map.1 hu
  rfl
theorem lt_of_typ {w : World} {g : Nat} (h : ∃ cur, w.heap[g]? = some (.cells cur 21 (0, 0))) : g < w.heap.size := by
  obtain ⟨c, hc⟩ := h
  exact lt_of_block hc
theorem own_ints {w : World} {B n : Nat} {v : Value} {ys xs : List Int} (h : w.ownsRow B 21 1 v n (ints ys ++ ints xs)) (hn : 0 < n) : ∃ g c, v = .slice (some ⟨g, 0, none⟩) n c ∧ n ≤ c ∧ (∃ cur, w.heap[g]? = some (.cells cur 21 (0, 0))) ∧ B ≤ g ∧ ∀ j z, (ys ++ xs)[j]? = some z → w.cell? ⟨g, 0 + j, none⟩ = some (.int .i32 z) := by
  rcases h.2 with ⟨_, h0⟩ | ⟨g, c, cur, rfl, hB, hg, hc, _⟩
  · omega
  · refine ⟨g, c, rfl, hc, ⟨cur, hg⟩, hB, fun j z hz => ?_⟩
    have := h.cells (g := g) rfl j (.int .i32 z) (by rw [ints, ints, ← List.map_append, List.getElem?_map, hz]; rfl)
    rwa [Addr.add_lit] at this
theorem grown_drew {w w' : World} (h : w.drew.grownBy w' none) : Below w.heap.size w w' := below_drew_left ((Below.refl _ _).grown h (Nat.le_refl _) (fun k hk => by cases hk))
theorem chunk_join {w w' : World} {rb : Option Nat} {g n : Nat} {zs : List Int} (ht : ∃ cur, w.heap[g]? = some (.cells cur 21 (0, 0))) (hc : ∀ j z, zs[j]? = some z → w.cell? ⟨g, 0 + j, none⟩ = some (.int .i32 z)) (hv : zs.all Lib.validRune = true) (hl : zs.length = n) (hp : 0 < n) (h64 : n ≤ 64) (hb : Below w.heap.size w w') (hne : rb ≠ some g) : Chunk w' rb ⟨g, 0, zs⟩ :=
  (show Chunk w rb ⟨g, 0, zs⟩ from ⟨by simp; omega, by simp; omega, hv, ht, hne, hc⟩).but (But.of hb)
theorem row4_facts {w : World} {b t : Nat} {f : Nat → Value} (h : w.rowIs b t 4 f) :
    w.cell? ⟨b, 0, none⟩ = some (f 0) ∧ w.frozen? ⟨b, 0, none⟩ = false ∧
    (∀ v0, (w.setCell ⟨b, 0, none⟩ v0).cell? ⟨b, 1, none⟩ = some (f 1)) ∧ (∀ v0, (w.setCell ⟨b, 0, none⟩ v0).frozen? ⟨b, 1, none⟩ = false) ∧
    (∀ v0 v1, ((w.setCell ⟨b, 0, none⟩ v0).setCell ⟨b, 1, none⟩ v1).cell? ⟨b, 2, none⟩ = some (f 2)) ∧ (∀ v0 v1, ((w.setCell ⟨b, 0, none⟩ v0).setCell ⟨b, 1, none⟩ v1).frozen? ⟨b, 2, none⟩ = false) ∧
    (∀ v0 v1 v2, (((w.setCell ⟨b, 0, none⟩ v0).setCell ⟨b, 1, none⟩ v1).setCell ⟨b, 2, none⟩ v2).cell? ⟨b, 3, none⟩ = some (f 3)) ∧ (∀ v0 v1 v2, (((w.setCell ⟨b, 0, none⟩ v0).setCell ⟨b, 1, none⟩ v1).setCell ⟨b, 2, none⟩ v2).frozen? ⟨b, 3, none⟩ = false) :=
  ⟨h.cell (by omega), h.frozen 0, fun v0 => (h.set 0 v0).cell (by omega), fun v0 => (h.set 0 v0).frozen 1, fun v0 v1 => ((h.set 0 v0).set 1 v1).cell (by omega), fun v0 v1 => ((h.set 0 v0).set 1 v1).frozen 2, fun v0 v1 v2 => (((h.set 0 v0).set 1 v1).set 2 v2).cell (by omega), fun v0 v1 v2 => (((h.set 0 v0).set 1 v1).set 2 v2).frozen 3⟩

theorem Chunk.set {w : World} {rb : Option Nat} {x : Nd} (h : Chunk w rb x) {b : Nat} (hne : x.g ≠ b) (i : Nat) (v : Value) : Chunk (w.setCell ⟨b, i, none⟩ v) rb x := by
  obtain ⟨c, hc⟩ := h.typ
  have hb := Go.Deep.blk_setCell_other w ⟨b, i, none⟩ v x.g hne
  exact ⟨h.pos, h.le, h.valid, ⟨c, hb.trans hc⟩, h.ne, fun j z hz => (World.cell?_of_block (w := w) hb).trans (h.cell j z hz)⟩
theorem own_under {w w' : World} {B C e size : Nat} {v : Value} {n : Nat} {xs : List Value} (h : w.ownsRow B e size v n xs) (hb : Below C w w') (hlt : ∀ k, v.ownBlock = some k → k < C) : w'.ownsRow B e size v n xs := by
  refine ⟨h.1, ?_⟩
  rcases h.2 with h0 | ⟨g, cap, cur, rfl, hB, hg, hr⟩
  · exact .inl h0
  · exact .inr ⟨g, cap, cur, rfl, hB, (hb.block g (hlt g rfl)).trans hg, hr⟩

theorem own_cap {w : World} {B e size g L cap : Nat} {xs : List Value} (h : w.ownsRow B e size (.slice (some ⟨g, 0, none⟩) (L + 1) cap) (L + 1) xs) : L ≤ cap := by
  rcases h.2 with ⟨h1, _⟩ | ⟨g', c, cur, e, hB, hg, hn, _⟩
  · cases h1
  · cases e
    omega

theorem nil_or_snoc (l : List Nd) : l = [] ∨ ∃ m y, l = m ++ [y] := by
  rcases List.eq_nil_or_concat l with h | ⟨m, y, h⟩
  · exact .inl h
  · exact .inr ⟨m, y, by rw [h, List.concat_eq_append]⟩

/-- The last one of the nodes of a row, as it lies there. -/
theorem own_last {w : World} {B g L cap : Nat} {J : List Nd} {y : Nd} (h : w.ownsRow B 65 4 (.slice (some ⟨g, 0, none⟩) (L + 1) cap) (L + 1) (flat (J ++ [y]))) (hJ : L = J.length) :
    w.cell? ⟨g, L * 4, none⟩ = some (.slice (some ⟨y.g, y.o, none⟩) y.cs.length y.cs.length) ∧ w.cell? ⟨g, L * 4 + 1, none⟩ = some (.int .i64 y.cs.length) := by
  have hy : (J ++ [y])[L]? = some y := by rw [hJ]; simp
  refine ⟨?_, ?_⟩
  · have h1 := h.cellAt (L * 4) (by omega)
    exact h1.trans ((flat_get _ L 0 y hy (by omega)).trans rfl)
  · have h1 := h.cellAt (L * 4 + 1) (by omega)
    exact h1.trans ((flat_get _ L 1 y hy (by omega)).trans rfl)

/-- Four cells by their index. -/
def nd4 (v0 v1 v2 v3 : Value) : Nat → Value := fun i => if i = 0 then v0 else if i = 1 then v1 else if i = 2 then v2 else v3
theorem row4 (w : World) (v0 v1 v2 v3 : Value) (t : TypeId) : (w.alloc (Obj.cells #[v0, v1, v2, v3] t)).rowIs w.heap.size t 4 (nd4 v0 v1 v2 v3) :=
  World.rowIs_alloc w #[v0, v1, v2, v3] t _ (by intro i hi; match i, hi with | 0, _ => rfl | 1, _ => rfl | 2, _ => rfl | 3, _ => rfl)

set_option maxHeartbeats 4000000 in
theorem join (rb : Option Nat) (pb m : Nat) (ps : List Part) (w : World) (hm : ps.length = m) (hm3 : m ≤ 3) (hrb : ∀ k, rb = some k → k < w.heap.size) (hpb : pb < w.heap.size)
    (hp : ∀ j p, ps[j]? = some p → w.cell? ⟨pb, 0 + j, none⟩ = some (.slice p.a p.n p.c) ∧ Nodes w rb p.a p.n p.c p.ns) (ht : (texts ps).length ≤ 2500) :
    Calls Try.prog 30 #[.slice (some ⟨pb, 0, none⟩) m m] w fun e w' => ∃ a n c ns, e = .returned (.slice a n c) ∧ Nodes w' rb a n c ns ∧ text ns = texts ps ∧ Below w.heap.size w w' := by
  obtain ⟨i0, hi, hz0, hz1, hz2⟩ := info_parts Try.info65
  obtain ⟨i1, hi1, hy0, hy1, hy2⟩ := info_parts Try.info21
  have HM := Lib.hid hm
  have HRB := Lib.hid hrb
  have HPP := Lib.hid hp
  have HT := Lib.hid ht
  clear hm hrb hp ht
  go_enter Try.func30, Try.ntmps30
  go_wp2_with fail
  go_loopw [3, 11] (fun v i wr => ∃ (k : Nat) (J : List Nd), k ≤ m ∧ i = .int .i64 k ∧ wr.ownsRow w.heap.size 65 4 v J.length (flat J) ∧ (∀ x ∈ J, Chunk wr rb x) ∧ text J = texts (ps.take k) ∧ Below w.heap.size w wr) (fun _ i _ => m - (intOf i).toNat)
  case atStart => exact ⟨0, [], Nat.zero_le _, rfl, World.ownsRow_nil _ _ _ _, fun x hx => by (cases hx), rfl, Below.refl _ _⟩
  case round =>
    obtain ⟨k, J, hk, rfl, hown, hch, htx, hbel⟩ := hrel
    by_cases hltk : k < m
    · obtain ⟨p, hpx⟩ : ∃ p, ps[k]? = some p := ⟨ps[k]'(by have := HM.out; omega), by simp⟩
      obtain ⟨pc, pN⟩ := HPP.out k p hpx
      have pc' := (hbel.cell (by exact hpb)).trans pc
      rw [Nat.zero_add] at pc'
      have PN := Lib.hid pN
      have PX := Lib.hid hpx
      have OW := Lib.hid hown
      have CH := Lib.hid hch
      have TX := Lib.hid htx
      have BL := Lib.hid hbel
      have hn5 : p.n ≤ 2500 := by
        have h1 := text_len pN.chunks
        have h2 := texts_le ps k p hpx p.ns.length
        have h3 := HT.out
        have h4 := pN.len
        rw [List.take_of_length_le (Nat.le_refl _)] at h2
        omega
      obtain ⟨pa, pn, pcap, pns⟩ := p
      simp only at *
      clear hown hch htx hbel pc pN hpx
      go_wp2_with fail
      go_loopw [3, 17] (fun v i wr => ∃ (j : Nat) (J : List Nd), j ≤ pn ∧ i = .int .i64 j ∧ wr.ownsRow w.heap.size 65 4 v J.length (flat J) ∧ (∀ x ∈ J, Chunk wr rb x) ∧ text J = texts (ps.take k) ++ text (pns.take j) ∧ Below w.heap.size w wr) (fun _ i _ => pn - (intOf i).toNat)
      case atStart => exact ⟨0, J, Nat.zero_le _, rfl, OW.out, CH.out, by rw [TX.out]; simp [text_nil], BL.out⟩
      case round =>
        obtain ⟨j, J1, hj, rfl, hown, hch, htx, hbel⟩ := hrel
        by_cases hltj : j < pn
        · obtain ⟨x, hx⟩ : ∃ x, pns[j]? = some x := ⟨pns[j]'(by have := PN.out.len; omega), by simp⟩
          rcases PN.out.row with h0 | ⟨xb, xo, rfl, xlt, xne, xc⟩
          · omega
          have X := Lib.hid ((PN.out.chunks x (List.mem_of_getElem? hx)).but (But.of hbel))
          obtain ⟨d0, d1, d2, d3⟩ := nodeCells xc j x hx
          have e0 := (hbel.cell (by exact xlt)).trans d0
          have e1 := (hbel.cell (by exact xlt)).trans d1
          have e2 := (hbel.cell (by exact xlt)).trans d2
          have e3 := (hbel.cell (by exact xlt)).trans d3
          have hxp := X.out.pos
          have hx64 := X.out.le
          have TS := Lib.hid (text_snoc pns j x hx)
          have htl := texts_le ps k _ PX.out (j + 1)
          rw [TS.out, List.length_append] at htl
          have hbd : (text J1).length + x.cs.length ≤ 2500 := by rw [htx, List.length_append]; have := HT.out; omega
          have hjl := text_len hch
          have hsz := hbel.size
          have TX1 := Lib.hid htx
          have BB := Lib.hid hbel
          have CC := Lib.hid hch
          obtain ⟨cl, hcl⟩ : ∃ cl, cl = x.cs.length := ⟨_, rfl⟩
          have CL := Lib.hid hcl
          rw [← hcl] at e0 e1 hxp hx64 hbd
          have hjb : J1.length + cl ≤ 2500 := by omega
          clear htl hbel htx hch hcl d0 d1 d2 d3 xc xne hx hbd hjl
          rcases nil_or_snoc J1 with rfl | ⟨J2, y, rfl⟩
          · obtain ⟨av, cv, rfl⟩ := own_form2 hown
            have OO := Lib.hid hown
            clear hown
            simp only [List.length_nil] at *
            go_wp2_with fail
            go_quiet (fail)
            have Bq := below_drewN (Below.refl (wr.alloc (Obj.cells #[Value.slice (some ⟨x.g, x.o, none⟩) cl cl, .int .i64 cl, .int .i64 (brk x.cs), .int .i64 (encCells x.cs).length] 65)).heap.size (wr.alloc (Obj.cells #[Value.slice (some ⟨x.g, x.o, none⟩) cl cl, .int .i64 cl, .int .i64 (brk x.cs), .int .i64 (encCells x.cs).length] 65))) nq
            have R5 : ((wr.alloc (Obj.cells #[Value.slice (some ⟨x.g, x.o, none⟩) cl cl, .int .i64 cl, .int .i64 (brk x.cs), .int .i64 (encCells x.cs).length] 65)).drewN nq).rowIs wr.heap.size 65 4 (nd4 (.slice (some ⟨x.g, x.o, none⟩) cl cl) (.int .i64 cl) (.int .i64 (brk x.cs)) (.int .i64 (encCells x.cs).length)) := (row4 wr _ _ _ _ 65).of_block (Bq.block _ (by simp))
            have O5 := Lib.hid (own_below (OO.out.alloc (Obj.cells #[Value.slice (some ⟨x.g, x.o, none⟩) cl cl, .int .i64 cl, .int .i64 (brk x.cs), .int .i64 (encCells x.cs).length] 65)) Bq)
            have C5 := Lib.hid (show ∀ t ∈ _, Chunk ((wr.alloc (Obj.cells #[Value.slice (some ⟨x.g, x.o, none⟩) cl cl, .int .i64 cl, .int .i64 (brk x.cs), .int .i64 (encCells x.cs).length] 65)).drewN nq) rb t from fun t ht => ((CC.out t ht).alloc _).but (But.of Bq))
            have Z5 := Lib.hid (show Chunk ((wr.alloc (Obj.cells #[Value.slice (some ⟨x.g, x.o, none⟩) cl cl, .int .i64 cl, .int .i64 (brk x.cs), .int .i64 (encCells x.cs).length] 65)).drewN nq) rb x from (X.out.alloc _).but (But.of Bq))
            have B5 := Lib.hid (show Below w.heap.size w ((wr.alloc (Obj.cells #[Value.slice (some ⟨x.g, x.o, none⟩) cl cl, .int .i64 cl, .int .i64 (brk x.cs), .int .i64 (encCells x.cs).length] 65)).drewN nq) from below_drewN (BB.out.alloc (by omega) _) nq)
            have BR := Lib.hid (show Below wr.heap.size wr ((wr.alloc (Obj.cells #[Value.slice (some ⟨x.g, x.o, none⟩) cl cl, .int .i64 cl, .int .i64 (brk x.cs), .int .i64 (encCells x.cs).length] 65)).drewN nq) from below_drewN ((Below.refl _ _).alloc (Nat.le_refl _) _) nq)
            have hs5 : wr.heap.size < ((wr.alloc (Obj.cells #[Value.slice (some ⟨x.g, x.o, none⟩) cl cl, .int .i64 cl, .int .i64 (brk x.cs), .int .i64 (encCells x.cs).length] 65)).drewN nq).heap.size := R5.lt
            generalize (wr.alloc (Obj.cells #[Value.slice (some ⟨x.g, x.o, none⟩) cl cl, .int .i64 cl, .int .i64 (brk x.cs), .int .i64 (encCells x.cs).length] 65)).drewN nq = W5 at *
            have r0 : W5.cell? ⟨wr.heap.size, 0, none⟩ = some (.slice (some ⟨x.g, x.o, none⟩) cl cl) := R5.cell (by omega)
            have r1 : W5.cell? ⟨wr.heap.size, 1, none⟩ = some (.int .i64 cl) := R5.cell (by omega)
            have r2 : W5.cell? ⟨wr.heap.size, 2, none⟩ = some (.int .i64 (brk x.cs)) := R5.cell (by omega)
            have r3 : W5.cell? ⟨wr.heap.size, 3, none⟩ = some (.int .i64 (encCells x.cs).length) := R5.cell (by omega)
            have RR := Lib.hid R5
            clear Bq R5
            have ZC := Lib.hid (show flat [x] = [Value.slice (some ⟨x.g, x.o, none⟩) cl cl, .int .i64 cl, .int .i64 (brk x.cs), .int .i64 (encCells x.cs).length] by rw [flat_one]; simp only [Nd.cells, ← CL.out])
            go_wp2_with (at_builtin; (refine wpList_append_own _ rfl _ _ 52 rfl w.heap.size 65 i0 _ 4 48 Try.underlying52 hi hz0 hz1 hz2 rfl (by decide) _ 0 (flat ([] : List Nd)) rfl (O5.out.alloc _) ⟨W5.heap.size, 0, none⟩ 1 1 [Value.slice (some ⟨x.g, x.o, none⟩) cl cl, .int .i64 cl, .int .i64 (brk x.cs), .int .i64 (encCells x.cs).length] rfl rfl (new_cells _ _ _) (node_one _ _ _ _ _ _ _) (by unfold maxLen; omega) (by omega) (by simp; omega) ?_))
            intro v' w9 hown9 hg9 _
            have O9 := Lib.hid hown9
            have C9 := Lib.hid (show ∀ t ∈ ([] : List Nd) ++ [x], Chunk w9 rb t from fun t ht => by
              rcases List.mem_append.1 ht with h | h
              · exact ((C5.out t h).alloc _).grown (O5.out.alloc _) hg9
              · rw [List.mem_singleton.1 h]
                exact (Z5.out.alloc _).grown (O5.out.alloc _) hg9)
            have B9 := Lib.hid (show Below w.heap.size w w9 from (B5.out.alloc (by omega) _).grown hg9 (by simp; omega) (fun k hk => (O5.out.lt k hk).1))
            clear hown9 hg9
            go_wp2
            go_roundw
            case rel =>
              refine ⟨j + 1, ([] : List Nd) ++ [x], by omega, by go_num, ?_, C9.out, by rw [List.nil_append, text_one, TS.out, ← List.append_assoc, ← TX1.out]; simp [text_nil], B9.out⟩
              have h := O9.out
              rw [← ZC.out, ← flat_append] at h
              rw [show (([] : List Nd) ++ [x]).length = 0 + 1 by rfl]
              exact h
            case measure => simp [intOf]; omega
          · have hlen : (J2 ++ [y]).length = J2.length + 1 := by simp
            rw [hlen] at hown hjb
            obtain ⟨L, hL⟩ : ∃ L, L = J2.length := ⟨_, rfl⟩
            rw [← hL] at hown hjb
            have HL := Lib.hid hL
            obtain ⟨g, cap, rfl, hgB, hglt⟩ := hown.form (by omega)
            have hyc := own_last hown hL
            have Y := Lib.hid (CC.out y (by simp))
            have hyp := Y.out.pos
            have hy64 := Y.out.le
            obtain ⟨yl, hyl⟩ : ∃ yl, yl = y.cs.length := ⟨_, rfl⟩
            have YL := Lib.hid hyl
            rw [← hyl] at hyp hy64 hyc
            have OO := Lib.hid hown
            have y1 : ∀ o, (wr.alloc o).cell? ⟨g, L * 4 + 1, none⟩ = some (.int .i64 yl) := fun o => (World.cell?_alloc_lt _ _ _ hglt).trans hyc.2
            clear hown hlen hL hyl hyc
            by_cases hs : yl + cl ≤ 64
            · have hsz' : (yl : Int) + (cl : Int) ≤ 64 := by omega
              go_wp2_with fail
              go_quiet (fail)
              have Bq := below_drewN (Below.refl (wr.alloc (Obj.cells #[Value.slice (some ⟨x.g, x.o, none⟩) cl cl, .int .i64 cl, .int .i64 (brk x.cs), .int .i64 (encCells x.cs).length] 65)).heap.size (wr.alloc (Obj.cells #[Value.slice (some ⟨x.g, x.o, none⟩) cl cl, .int .i64 cl, .int .i64 (brk x.cs), .int .i64 (encCells x.cs).length] 65))) nq
              have R5 : ((wr.alloc (Obj.cells #[Value.slice (some ⟨x.g, x.o, none⟩) cl cl, .int .i64 cl, .int .i64 (brk x.cs), .int .i64 (encCells x.cs).length] 65)).drewN nq).rowIs wr.heap.size 65 4 (nd4 (.slice (some ⟨x.g, x.o, none⟩) cl cl) (.int .i64 cl) (.int .i64 (brk x.cs)) (.int .i64 (encCells x.cs).length)) := (row4 wr _ _ _ _ 65).of_block (Bq.block _ (by simp))
              have O5 := Lib.hid (own_below (OO.out.alloc (Obj.cells #[Value.slice (some ⟨x.g, x.o, none⟩) cl cl, .int .i64 cl, .int .i64 (brk x.cs), .int .i64 (encCells x.cs).length] 65)) Bq)
              have C5 := Lib.hid (show ∀ t ∈ _, Chunk ((wr.alloc (Obj.cells #[Value.slice (some ⟨x.g, x.o, none⟩) cl cl, .int .i64 cl, .int .i64 (brk x.cs), .int .i64 (encCells x.cs).length] 65)).drewN nq) rb t from fun t ht => ((CC.out t ht).alloc _).but (But.of Bq))
              have Z5 := Lib.hid (show Chunk ((wr.alloc (Obj.cells #[Value.slice (some ⟨x.g, x.o, none⟩) cl cl, .int .i64 cl, .int .i64 (brk x.cs), .int .i64 (encCells x.cs).length] 65)).drewN nq) rb x from (X.out.alloc _).but (But.of Bq))
              have B5 := Lib.hid (show Below w.heap.size w ((wr.alloc (Obj.cells #[Value.slice (some ⟨x.g, x.o, none⟩) cl cl, .int .i64 cl, .int .i64 (brk x.cs), .int .i64 (encCells x.cs).length] 65)).drewN nq) from below_drewN (BB.out.alloc (by omega) _) nq)
              have BR := Lib.hid (show Below wr.heap.size wr ((wr.alloc (Obj.cells #[Value.slice (some ⟨x.g, x.o, none⟩) cl cl, .int .i64 cl, .int .i64 (brk x.cs), .int .i64 (encCells x.cs).length] 65)).drewN nq) from below_drewN ((Below.refl _ _).alloc (Nat.le_refl _) _) nq)
              have hs5 : wr.heap.size < ((wr.alloc (Obj.cells #[Value.slice (some ⟨x.g, x.o, none⟩) cl cl, .int .i64 cl, .int .i64 (brk x.cs), .int .i64 (encCells x.cs).length] 65)).drewN nq).heap.size := R5.lt
              generalize (wr.alloc (Obj.cells #[Value.slice (some ⟨x.g, x.o, none⟩) cl cl, .int .i64 cl, .int .i64 (brk x.cs), .int .i64 (encCells x.cs).length] 65)).drewN nq = W5 at *
              have r0 : W5.cell? ⟨wr.heap.size, 0, none⟩ = some (.slice (some ⟨x.g, x.o, none⟩) cl cl) := R5.cell (by omega)
              have r1 : W5.cell? ⟨wr.heap.size, 1, none⟩ = some (.int .i64 cl) := R5.cell (by omega)
              have r2 : W5.cell? ⟨wr.heap.size, 2, none⟩ = some (.int .i64 (brk x.cs)) := R5.cell (by omega)
              have r3 : W5.cell? ⟨wr.heap.size, 3, none⟩ = some (.int .i64 (encCells x.cs).length) := R5.cell (by omega)
              have RR := Lib.hid R5
              clear Bq R5
              have hyy := own_last O5.out HL.out
              rw [← YL.out] at hyy
              have y0 := hyy.1
              clear y1 hyy
              have Y5 := Lib.hid (C5.out y (by simp))
              have HY := Lib.hid (ints_holds (w := W5.drew) (show ∀ j z, y.cs[j]? = some z → W5.drew.cell? ⟨y.g, y.o + j, none⟩ = some (.int .i32 z) from Y5.out.cell))
              have HX := Lib.hid (ints_holds (w := W5.drew) (show ∀ j z, x.cs[j]? = some z → W5.drew.cell? ⟨x.g, x.o + j, none⟩ = some (.int .i32 z) from Z5.out.cell))
              have IY := Lib.hid (show (ints y.cs).length = yl * 1 by rw [ints_len, ← YL.out, Nat.mul_one])
              have IX := Lib.hid (show (ints x.cs).length = cl * 1 by rw [ints_len, ← CL.out, Nat.mul_one])
              have hzl : (y.cs ++ x.cs).length = yl + cl := by rw [List.length_append, ← YL.out, ← CL.out]
              have VZ := Lib.hid (show (y.cs ++ x.cs).all Lib.validRune = true by rw [List.all_append, Y5.out.valid, Z5.out.valid]; rfl)
              have ZL := Lib.hid hzl
              have hLL : (L : Int) < (L : Int) + 1 := by omega
              clear hzl
              go_wp2
              go_region_law (first
                | (refine step_append_grows rfl (.tmp 43) (.tmp 45) 22 rfl 21 i1 _ 1 4 Try.underlying22 hi1 hy0 hy1 hy2 rfl (by decide) (some ⟨y.g, y.o, none⟩) yl yl (ints y.cs) (by simp [Act.eval]) (fun h => by cases h) IY.out (fun b' hb' => by cases hb'; exact HY.out) ⟨x.g, x.o, none⟩ cl cl (ints x.cs) (by simp [Act.eval]) IX.out HX.out (ints_one _) (by omega) (by unfold maxLen; omega) (by omega) ?_; intro v6 w6 own6 gr6; obtain ⟨g6, c6, rfl, hc6, hty6, hge6, hcell6⟩ := own_ints own6 (by omega); have G6 := Lib.hid gr6; have T6 := Lib.hid hty6; have D6 := Lib.hid hcell6; clear own6 gr6 hty6 hcell6)
                | (go_simp; go_at_call 37; (refine (newNode g6 0 (yl + cl) c6 (y.cs ++ x.cs) w6 (by omega) hc6 (lt_of_typ T6.out) ZL.out (all_bounds VZ.out) D6.out).mono ?_); rintro e w7 ⟨rfl, b7⟩; have B7 := Lib.hid (show Below W5.heap.size W5 w7 from (grown_drew G6.out).trans (b7.mono (grown_drew G6.out).size)); have T7 := Lib.hid (chunk_join (rb := rb) T6.out D6.out VZ.out ZL.out (by omega) hs b7 (fun e => by have := HRB.out _ e; have := hge6; simp at this; omega)); obtain ⟨c0, f0, c1, f1, c2, f2, c3, f3⟩ := row4_facts (RR.out.of_block (B7.out.block _ hs5)); clear b7))
              all_goals
                have R7 := RR.out.of_block (B7.out.block _ hs5)
                have R8 := (((R7.set 0 (Value.slice (some ⟨g6, 0, none⟩) (yl + cl) (yl + cl))).set 1 (Value.int IntKind.i64 ((yl : Int) + (cl : Int)))).set 2 (Value.int IntKind.i64 (brk (y.cs ++ x.cs)))).set 3 (Value.int IntKind.i64 (encCells (y.cs ++ x.cs)).length)
                have hg6 : wr.heap.size < g6 := by have h1 := hge6; simp at h1; omega
                have BS := Lib.hid (show Below wr.heap.size wr ((((w7.setCell ⟨wr.heap.size, 0, none⟩ (Value.slice (some ⟨g6, 0, none⟩) (yl + cl) (yl + cl))).setCell ⟨wr.heap.size, 1, none⟩ (Value.int IntKind.i64 ((yl : Int) + (cl : Int)))).setCell ⟨wr.heap.size, 2, none⟩ (Value.int IntKind.i64 (brk (y.cs ++ x.cs)))).setCell ⟨wr.heap.size, 3, none⟩ (Value.int IntKind.i64 (encCells (y.cs ++ x.cs)).length)) from ((((BR.out.trans (B7.out.mono (by omega))).setCell (Nat.le_refl _) _).setCell (Nat.le_refl _) _).setCell (Nat.le_refl _) _).setCell (Nat.le_refl _) _)
                have Z8 := Lib.hid ((((T7.out.set (b := wr.heap.size) (by simp; omega) 0 (Value.slice (some ⟨g6, 0, none⟩) (yl + cl) (yl + cl))).set (b := wr.heap.size) (by simp; omega) 1 (Value.int IntKind.i64 ((yl : Int) + (cl : Int)))).set (b := wr.heap.size) (by simp; omega) 2 (Value.int IntKind.i64 (brk (y.cs ++ x.cs)))).set (b := wr.heap.size) (by simp; omega) 3 (Value.int IntKind.i64 (encCells (y.cs ++ x.cs)).length))
                clear c0 f0 c1 f1 c2 f2 c3 f3 r0 r1 r2 r3 y0
                generalize (((w7.setCell ⟨wr.heap.size, 0, none⟩ (Value.slice (some ⟨g6, 0, none⟩) (yl + cl) (yl + cl))).setCell ⟨wr.heap.size, 1, none⟩ (Value.int IntKind.i64 ((yl : Int) + (cl : Int)))).setCell ⟨wr.heap.size, 2, none⟩ (Value.int IntKind.i64 (brk (y.cs ++ x.cs)))).setCell ⟨wr.heap.size, 3, none⟩ (Value.int IntKind.i64 (encCells (y.cs ++ x.cs)).length) = W8 at *
                have O5 := Lib.hid (own_init (own_under OO.out BS.out (fun k hk => by simp [Value.ownBlock] at hk; omega)) HL.out.symm)
                have C5 := Lib.hid (show ∀ t ∈ J2, Chunk W8 rb t from fun t ht => (CC.out t (List.mem_append_left _ ht)).but (But.of BS.out))
                have Z5 := Lib.hid Z8.out
                have B5 := Lib.hid (show Below w.heap.size w W8 from BB.out.trans (BS.out.mono hsz))
                have hs8 := BS.out.size
                have r0 : W8.cell? ⟨wr.heap.size, 0, none⟩ = some (.slice (some ⟨g6, 0, none⟩) (yl + cl) (yl + cl)) := R8.cell (by omega)
                have r1 : W8.cell? ⟨wr.heap.size, 1, none⟩ = some (.int .i64 ((yl : Int) + (cl : Int))) := R8.cell (by omega)
                have r2 : W8.cell? ⟨wr.heap.size, 2, none⟩ = some (.int .i64 (brk (y.cs ++ x.cs))) := R8.cell (by omega)
                have r3 : W8.cell? ⟨wr.heap.size, 3, none⟩ = some (.int .i64 (encCells (y.cs ++ x.cs)).length) := R8.cell (by omega)
                have hcap : L ≤ cap := own_cap OO.out
                have hup := nodes_upto (some ⟨g, 0, none⟩) (L + 1) cap L hcap
                have ZC := Lib.hid (show flat [⟨g6, 0, y.cs ++ x.cs⟩] = [Value.slice (some ⟨g6, 0, none⟩) (yl + cl) (yl + cl), .int .i64 ((yl : Int) + (cl : Int)), .int .i64 (brk (y.cs ++ x.cs)), .int .i64 (encCells (y.cs ++ x.cs)).length] by rw [flat_one]; simp only [Nd.cells, ZL.out]; simp)
                clear R7 R8
                go_wp2_with (at_builtin; (refine wpList_append_own _ rfl _ _ 52 rfl w.heap.size 65 i0 _ 4 48 Try.underlying52 hi hz0 hz1 hz2 rfl (by decide) _ L (flat J2) rfl (O5.out.alloc _) ⟨W8.heap.size, 0, none⟩ 1 1 [Value.slice (some ⟨g6, 0, none⟩) (yl + cl) (yl + cl), .int .i64 ((yl : Int) + (cl : Int)), .int .i64 (brk (y.cs ++ x.cs)), .int .i64 (encCells (y.cs ++ x.cs)).length] rfl rfl (new_cells _ _ _) (node_one _ _ _ _ _ _ _) (by unfold maxLen; omega) (by omega) (by simp; omega) ?_))
                intro v' w9 hown9 hg9 _
                have O9 := Lib.hid hown9
                have C9 := Lib.hid (show ∀ t ∈ J2 ++ [(⟨g6, 0, y.cs ++ x.cs⟩ : Nd)], Chunk w9 rb t from fun t ht => by
                  rcases List.mem_append.1 ht with h | h
                  · exact ((C5.out t h).alloc _).grown (O5.out.alloc _) hg9
                  · rw [List.mem_singleton.1 h]
                    exact (Z5.out.alloc _).grown (O5.out.alloc _) hg9)
                have B9 := Lib.hid (show Below w.heap.size w w9 from (B5.out.alloc (by omega) _).grown hg9 (by simp; omega) (fun k hk => (O5.out.lt k hk).1))
                clear hown9 hg9
                go_wp2
                go_roundw
                case rel =>
                  refine ⟨j + 1, J2 ++ [(⟨g6, 0, y.cs ++ x.cs⟩ : Nd)], by omega, by go_num, ?_, C9.out, by have h := TX1.out; rw [text_append, text_one] at h; rw [text_append, text_one, TS.out, ← List.append_assoc, ← List.append_assoc, h], B9.out⟩
                  have h := O9.out
                  rw [← ZC.out, ← flat_append] at h
                  rw [show (J2 ++ [(⟨g6, 0, y.cs ++ x.cs⟩ : Nd)]).length = L + 1 by rw [List.length_append, ← HL.out]; rfl]
                  exact h
                case measure => simp [intOf]; omega
            · have hsz' : ¬ (yl : Int) + (cl : Int) ≤ 64 := by omega
              go_wp2_with fail
              go_quiet (fail)
              have Bq := below_drewN (Below.refl (wr.alloc (Obj.cells #[Value.slice (some ⟨x.g, x.o, none⟩) cl cl, .int .i64 cl, .int .i64 (brk x.cs), .int .i64 (encCells x.cs).length] 65)).heap.size (wr.alloc (Obj.cells #[Value.slice (some ⟨x.g, x.o, none⟩) cl cl, .int .i64 cl, .int .i64 (brk x.cs), .int .i64 (encCells x.cs).length] 65))) nq
              have R5 : ((wr.alloc (Obj.cells #[Value.slice (some ⟨x.g, x.o, none⟩) cl cl, .int .i64 cl, .int .i64 (brk x.cs), .int .i64 (encCells x.cs).length] 65)).drewN nq).rowIs wr.heap.size 65 4 (nd4 (.slice (some ⟨x.g, x.o, none⟩) cl cl) (.int .i64 cl) (.int .i64 (brk x.cs)) (.int .i64 (encCells x.cs).length)) := (row4 wr _ _ _ _ 65).of_block (Bq.block _ (by simp))
              have O5 := Lib.hid (own_below (OO.out.alloc (Obj.cells #[Value.slice (some ⟨x.g, x.o, none⟩) cl cl, .int .i64 cl, .int .i64 (brk x.cs), .int .i64 (encCells x.cs).length] 65)) Bq)
              have C5 := Lib.hid (show ∀ t ∈ _, Chunk ((wr.alloc (Obj.cells #[Value.slice (some ⟨x.g, x.o, none⟩) cl cl, .int .i64 cl, .int .i64 (brk x.cs), .int .i64 (encCells x.cs).length] 65)).drewN nq) rb t from fun t ht => ((CC.out t ht).alloc _).but (But.of Bq))
              have Z5 := Lib.hid (show Chunk ((wr.alloc (Obj.cells #[Value.slice (some ⟨x.g, x.o, none⟩) cl cl, .int .i64 cl, .int .i64 (brk x.cs), .int .i64 (encCells x.cs).length] 65)).drewN nq) rb x from (X.out.alloc _).but (But.of Bq))
              have B5 := Lib.hid (show Below w.heap.size w ((wr.alloc (Obj.cells #[Value.slice (some ⟨x.g, x.o, none⟩) cl cl, .int .i64 cl, .int .i64 (brk x.cs), .int .i64 (encCells x.cs).length] 65)).drewN nq) from below_drewN (BB.out.alloc (by omega) _) nq)
              have BR := Lib.hid (show Below wr.heap.size wr ((wr.alloc (Obj.cells #[Value.slice (some ⟨x.g, x.o, none⟩) cl cl, .int .i64 cl, .int .i64 (brk x.cs), .int .i64 (encCells x.cs).length] 65)).drewN nq) from below_drewN ((Below.refl _ _).alloc (Nat.le_refl _) _) nq)
              have hs5 : wr.heap.size < ((wr.alloc (Obj.cells #[Value.slice (some ⟨x.g, x.o, none⟩) cl cl, .int .i64 cl, .int .i64 (brk x.cs), .int .i64 (encCells x.cs).length] 65)).drewN nq).heap.size := R5.lt
              generalize (wr.alloc (Obj.cells #[Value.slice (some ⟨x.g, x.o, none⟩) cl cl, .int .i64 cl, .int .i64 (brk x.cs), .int .i64 (encCells x.cs).length] 65)).drewN nq = W5 at *
              have r0 : W5.cell? ⟨wr.heap.size, 0, none⟩ = some (.slice (some ⟨x.g, x.o, none⟩) cl cl) := R5.cell (by omega)
              have r1 : W5.cell? ⟨wr.heap.size, 1, none⟩ = some (.int .i64 cl) := R5.cell (by omega)
              have r2 : W5.cell? ⟨wr.heap.size, 2, none⟩ = some (.int .i64 (brk x.cs)) := R5.cell (by omega)
              have r3 : W5.cell? ⟨wr.heap.size, 3, none⟩ = some (.int .i64 (encCells x.cs).length) := R5.cell (by omega)
              have RR := Lib.hid R5
              clear Bq R5
              have ZC := Lib.hid (show flat [x] = [Value.slice (some ⟨x.g, x.o, none⟩) cl cl, .int .i64 cl, .int .i64 (brk x.cs), .int .i64 (encCells x.cs).length] by rw [flat_one]; simp only [Nd.cells, ← CL.out])
              clear y1
              go_wp2_with (at_builtin; (refine wpList_append_own _ rfl _ _ 52 rfl w.heap.size 65 i0 _ 4 48 Try.underlying52 hi hz0 hz1 hz2 rfl (by decide) _ (L + 1) (flat (J2 ++ [y])) rfl (O5.out.alloc _) ⟨W5.heap.size, 0, none⟩ 1 1 [Value.slice (some ⟨x.g, x.o, none⟩) cl cl, .int .i64 cl, .int .i64 (brk x.cs), .int .i64 (encCells x.cs).length] rfl rfl (new_cells _ _ _) (node_one _ _ _ _ _ _ _) (by unfold maxLen; omega) (by omega) (by simp; omega) ?_))
              intro v' w9 hown9 hg9 _
              have O9 := Lib.hid hown9
              have C9 := Lib.hid (show ∀ t ∈ (J2 ++ [y]) ++ [x], Chunk w9 rb t from fun t ht => by
                rcases List.mem_append.1 ht with h | h
                · exact ((C5.out t h).alloc _).grown (O5.out.alloc _) hg9
                · rw [List.mem_singleton.1 h]
                  exact (Z5.out.alloc _).grown (O5.out.alloc _) hg9)
              have B9 := Lib.hid (show Below w.heap.size w w9 from (B5.out.alloc (by omega) _).grown hg9 (by simp; omega) (fun k hk => (O5.out.lt k hk).1))
              clear hown9 hg9
              go_wp2
              go_roundw
              case rel =>
                refine ⟨j + 1, (J2 ++ [y]) ++ [x], by omega, by go_num, ?_, C9.out, by rw [text_append, text_one, TX1.out, TS.out, List.append_assoc], B9.out⟩
                have h := O9.out
                rw [← ZC.out, ← flat_append] at h
                rw [show ((J2 ++ [y]) ++ [x]).length = (L + 1) + 1 by rw [List.length_append, List.length_append, ← HL.out]; rfl]
                exact h
              case measure => simp [intOf]; omega
        · have hj' : j = pn := by omega
          have O1 := Lib.hid hown
          have C1 := Lib.hid hch
          have B1 := Lib.hid hbel
          have T1 := Lib.hid (show text J1 = texts (ps.take (k + 1)) by
            rw [htx, texts_snoc ps k _ PX.out, List.take_of_length_le (l := pns) (by have := PN.out.len; omega)])
          clear hown hch htx hbel
          go_wp2
          go_roundw
          case rel => exact ⟨k + 1, J1, by omega, by go_num, O1.out, C1.out, T1.out, B1.out⟩
          case measure => simp [intOf]; omega
    · have e : ps.take k = ps := List.take_of_length_le (by have := HM.out; omega)
      have O1 := Lib.hid hown
      have C1 := Lib.hid hch
      have B1 := Lib.hid hbel
      have T1 := Lib.hid (show text J = texts ps by rw [htx, e])
      clear hown hch htx hbel e
      go_wp2
      go_ret
      obtain ⟨a, c, rfl, hN⟩ := own_nodes O1.out HRB.out C1.out
      exact ⟨a, _, c, J, rfl, hN, T1.out, B1.out⟩
end Go.Proofs.Ytlijkejadjkbcaa
