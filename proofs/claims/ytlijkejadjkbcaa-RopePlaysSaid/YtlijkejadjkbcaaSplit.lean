/- The contract of split: the nodes before a place and those behind it. -/
import Derived.Test.YtlijkejadjkbcaaSmall
import Derived.Deep.RegionLawGrows
import Derived.Deep.AppendLies
import Derived.Deep.RegionWith
import Derived.IntWalk
namespace Go.Proofs.Ytlijkejadjkbcaa
open Go Go.RowKit

theorem nodes_to (a : Option Addr) (n cap i : Nat) (hi : i ≤ cap) (w : World) : (Instr.slice 52 (.slice a n cap) none (some (.int .i64 i)) (some (.int .i64 i))).run Try.prog w = .ok (.slice a i i) w := by
  rw [run_slice_hm (P := Try.prog) w 52 a n cap und52 .i64 .i64 (i : Int) (i : Int) (by omega) (by omega) (by omega), size52]
  simp only [Result.andThen, sliced]
  have e : (if i = 0 then a else a.map (·.add (0 * 4))) = a := by
    split
    · rfl
    · cases a with
      | none => rfl
      | some x => simp [add_zero']
  simp [e]

theorem Nodes.take {w : World} {rb : Option Nat} {a : Option Addr} {n cap : Nat} {ns : List Nd} (h : Nodes w rb a n cap ns) (i : Nat) (hi : i ≤ n) : Nodes w rb a i i (ns.take i) := by
  refine ⟨by have := h.len; simp; omega, Nat.le_refl _, ?_, fun x hx => h.chunks x (List.mem_of_mem_take hx)⟩
  rcases h.row with h1 | ⟨b, off, rfl, hlt, hne, hc⟩
  · exact .inl (by omega)
  · refine .inr ⟨b, off, rfl, hlt, hne, fun j u hu => ?_⟩
    rw [flat_take, List.getElem?_take] at hu
    split at hu
    · exact hc j u hu
    · cases hu

theorem nodes_rest (b off n cap i : Nat) (hi : i ≤ n) (hn : n ≤ cap) : ∃ ad : Addr, (∀ w : World, (Instr.slice 52 (.slice (some ⟨b, off, none⟩) n cap) (some (.int .i64 i)) none none).run Try.prog w = .ok (.slice (some ad) (n - i) (cap - i)) w) ∧ ∀ w rb ns, Nodes w rb (some ⟨b, off, none⟩) n cap ns → Nodes w rb (some ad) (n - i) (cap - i) (ns.drop i) := by
  obtain ⟨a', h1, h2⟩ := nodes_from (some ⟨b, off, none⟩) n cap i hi hn
  cases a' with
  | some ad => exact ⟨ad, h1, h2⟩
  | none =>
    exfalso
    have h := h1 default
    rw [run_slice_l (P := Try.prog) _ 52 _ n cap und52 .i64 (i : Int) (by omega) (by omega), size52] at h
    simp only [Result.andThen, sliced] at h
    simp at h
    split at h <;> simp at h

/-- append onto a row that the call owns, as one step of a region that draws. -/
theorem step_append_own {P : Program} {ops : Array Oper} {o : Oper} {a : Act} {w : World} {K : Act → World → Prop} {Q : Exit → Act → World → Prop} {E : Prop}
    (hg : o.guard = none) (s x : Operand) (t : TypeId) (hop : o.op = Op.call { callee := Callee.builtin Builtin.append, args := #[s, x], argTypes := #[t, t] })
    (base : Nat) (e : TypeId) (i : TypeInfo) (z : Value) (size bytes : Nat) (h1 : P.underlying t = some (.slice e)) (h2 : P.info? e = some i) (h3 : i.zero = some z) (h4 : i.size = size) (h5 : i.bytes = bytes) (h6 : z.cells.size = size) (h7 : 0 < size)
    (v : Value) (n : Nat) (xs : List Value) (hs : a.eval s = v) (hown : w.ownsRow base e size v n xs)
    (ad : Addr) (m c : Nat) (news : List Value) (hx : a.eval x = .slice (some ad) m c) (hn : news.length = m * size) (hc : ∀ j u, news[j]? = some u → w.cell? (ad.add j) = some u) (h1c : ∀ u ∈ news, u.oneCell' = true)
    (b1 : n + m ≤ maxLen) (b2 : (n + m) * bytes ≤ 140737488355328) (hbase : base ≤ w.heap.size)
    (hK : ∀ v' w', w'.ownsRow base e size v' (n + m) (xs ++ news) → w.grownBy w' v.ownBlock → K (a.put o.dst v') w') :
    if Region.wanted o (yielded ops a.tmps) = true then Oper.wp P o a w K Q else E := by
  have hw : Region.wanted o (yielded ops a.tmps) = true := by simp [Region.wanted, hg]
  rw [if_pos hw]
  obtain ⟨v', w', hrun, r1, r2, _⟩ := run_append_own (P := P) w base t o.type e i z size bytes h1 h2 h3 h4 h5 h6 h7 v n xs hown ad m c news hn hc h1c b1 b2 hbase
  unfold Oper.wp
  simp [execOp, hop, resolve, invoke, builtin, hs, hx, hrun, Result.andThen]
  exact hK v' w' r1 r2

theorem text_parts (ns : List Nd) (k : Nat) : (text ns).take (text (ns.take k)).length = text (ns.take k) ∧ (text ns).drop (text (ns.take k)).length = text (ns.drop k) := by
  have h : text ns = text (ns.take k) ++ text (ns.drop k) := by rw [← text_append, List.take_append_drop]
  rw [h]
  exact ⟨List.take_left, List.drop_left⟩
theorem nodeCells_new (w : World) (cs : List Value) : ∀ j u, cs[j]? = some u → (w.alloc (.cells cs.toArray 65)).cell? ((⟨w.heap.size, 0, none⟩ : Addr).add j) = some u := new_cells w cs 65

theorem lt_of_cell {w : World} {p : Addr} {v : Value} (h : w.cell? p = some v) : p.block < w.heap.size := by
  by_cases hlt : p.block < w.heap.size
  · exact hlt
  · have : w.heap[p.block]? = none := Array.getElem?_eq_none (by omega)
    simp [World.cell?, this] at h
theorem cell_alloc4 (w : World) (v0 v1 v2 v3 : Value) (t : TypeId) : (w.alloc (Obj.cells #[v0, v1, v2, v3] t)).cell? ⟨w.heap.size, 0, none⟩ = some v0 := by
  have := new_cells w [v0, v1, v2, v3] t 0 v0 rfl
  rwa [Addr.add_lit] at this
theorem take_cells {w : World} {g o : Nat} {zs : List Int} (h : ∀ j z, zs[j]? = some z → w.cell? ⟨g, o + j, none⟩ = some (.int .i32 z)) (p : Nat) : ∀ j z, (zs.take p)[j]? = some z → w.cell? ⟨g, o + j, none⟩ = some (.int .i32 z) := by
  intro j z hz
  rw [List.getElem?_take] at hz
  split at hz
  · exact h j z hz
  · cases hz

theorem below_drew_left {w w' : World} (h : Below w.drew.heap.size w.drew w') : Below w.heap.size w w' := ⟨h.os, h.tape, h.output, h.size, h.block⟩
theorem Nodes.alloc {w : World} {rb : Option Nat} {a : Option Addr} {n cap : Nat} {ns : List Nd} (h : Nodes w rb a n cap ns) (o : Obj) : Nodes (w.alloc o) rb a n cap ns := h.below ((Below.refl _ _).alloc (Nat.le_refl _) _)
theorem row_holds {w : World} {rb : Option Nat} {b off n cap : Nat} {ns : List Nd} (h : Nodes w rb (some ⟨b, off, none⟩) n cap ns) (k : Nat) (hk : k ≤ n) : ∀ b', some (⟨b, off, none⟩ : Addr) = some b' → ∀ j u, (flat (ns.take k))[j]? = some u → w.cell? (b'.add j) = some u := by
  intro b' hb j u hu
  cases hb
  have h2 := h.take k hk
  rcases h2.row with h0 | ⟨b1, off1, e, hlt, hne, hc⟩
  · subst h0
    rw [List.take_zero] at hu
    cases hu
  · cases e
    rw [Addr.add_lit]
    exact hc j u hu
theorem chunk_from (g o cl p : Nat) (hp : p < cl) (w : World) : (Instr.slice 22 (.slice (some ⟨g, o, none⟩) cl cl) (some (.int .i64 p)) none none).run Try.prog w = .ok (.slice (some ⟨g, o + p, none⟩) (cl - p) (cl - p)) w := by
  rw [run_slice_l (P := Try.prog) w 22 _ cl cl und22 .i64 (p : Int) (by omega) (by omega), size22]
  simp only [Result.andThen, sliced]
  simp
  rw [if_neg (by omega)]
  simp [Addr.add_lit]
theorem drop_cells {w : World} {g o : Nat} {zs : List Int} (h : ∀ j z, zs[j]? = some z → w.cell? ⟨g, o + j, none⟩ = some (.int .i32 z)) (p : Nat) : ∀ j z, (zs.drop p)[j]? = some z → w.cell? ⟨g, o + p + j, none⟩ = some (.int .i32 z) := by
  intro j z hz
  rw [List.getElem?_drop] at hz
  rw [Nat.add_assoc]
  exact h _ z hz
theorem rest_holds {w : World} {rb : Option Nat} {ad : Addr} {n cap : Nat} {ns : List Nd} (h : Nodes w rb (some ad) n cap ns) : ∀ j u, (flat ns)[j]? = some u → w.cell? (ad.add j) = some u := by
  intro j u hu
  rcases h.row with h0 | ⟨b1, off1, e, hlt, hne, hc⟩
  · have := h.len
    rw [h0] at this
    rw [List.eq_nil_of_length_eq_zero this] at hu
    cases hu
  · cases e
    rw [Addr.add_lit]
    exact hc j u hu
theorem below_grown_none {w w' : World} {o : Obj} (h : (w.alloc o).grownBy w' none) : Below w.heap.size w w' := ((Below.refl _ _).alloc (Nat.le_refl _) _).grown h (by simp) (fun k hk => by cases hk)
theorem node_one (a : Option Addr) (n c : Nat) (x y z : Int) (k : IntKind) : ∀ u ∈ [Value.slice a n c, .int k x, .int k y, .int k z], u.oneCell' = true := by
  intro u hu
  simp at hu
  rcases hu with rfl | rfl | rfl | rfl <;> rfl

theorem split_text (ns : List Nd) (k p q : Nat) (x : Nd) (hx : ns[k]? = some x) (hq : p + (text (ns.take k)).length = q) (hp : p ≤ x.cs.length) : text (ns.take k ++ [⟨x.g, x.o, x.cs.take p⟩]) = (text ns).take q ∧ text ([⟨x.g, x.o + p, x.cs.drop p⟩] ++ ns.drop (k + 1)) = (text ns).drop q := by
  obtain ⟨hlt, rfl⟩ := List.getElem?_eq_some_iff.1 hx
  have h : text ns = text (ns.take k) ++ (ns[k].cs ++ text (ns.drop (k + 1))) := by
    rw [← text_cons, ← List.drop_eq_getElem_cons hlt, ← text_append, List.take_append_drop]
  subst hq
  rw [h, Nat.add_comm, List.take_length_add_append, List.drop_length_add_append, text_append, text_append, text_one, text_one, List.take_append_of_le_length hp, List.drop_append_of_le_length hp]
  exact ⟨rfl, rfl⟩

theorem split_none (a : Option Addr) (cap : Nat) (p : Int) (w : World) :
    Calls Try.prog 29 #[.slice a 0 cap, .int .i64 p] w fun e w' => e = .returned (.tuple #[.slice a 0 cap, .slice none 0 0]) ∧ w = w' := by
  go_enter Try.func29, Try.ntmps29
  go_wp2
  go_loop [1, 10] (fun v i => v = .int .i64 p ∧ i = .int .i64 0) (fun _ _ => 0)
  case atStart => exact ⟨rfl, rfl⟩
  case round =>
    obtain ⟨rfl, rfl⟩ := hrel
    go_wp2
    go_ret2
    exact ⟨rfl, rfl⟩

set_option maxHeartbeats 4000000 in
theorem split_cells (rb : Option Nat) (b off n cap : Nat) (ns : List Nd) (q : Nat) (w : World) (hn : n ≤ 2500) (hN : Nodes w rb (some ⟨b, off, none⟩) n cap ns) (hrb : ∀ k, rb = some k → k < w.heap.size) (hq : q ≤ (text ns).length) (ht : (text ns).length ≤ 2500) (hlt : b < w.heap.size)
    (hc : ∀ j u, (flat ns)[j]? = some u → w.cell? ⟨b, off + j, none⟩ = some u) :
    Calls Try.prog 29 #[.slice (some ⟨b, off, none⟩) n cap, .int .i64 q] w fun e w' => ∃ a1 n1 c1 bs a2 n2 c2 cs, e = .returned (.tuple #[.slice a1 n1 c1, .slice a2 n2 c2]) ∧ Nodes w' rb a1 n1 c1 bs ∧ Nodes w' rb a2 n2 c2 cs ∧ text bs = (text ns).take q ∧ text cs = (text ns).drop q ∧ Below w.heap.size w w' := by
  obtain ⟨i0, hi, hz0, hz1, hz2⟩ := info_parts Try.info65
  have hcap := hN.le
  have HN := Lib.hid hN
  have HRB := Lib.hid hrb
  have HT := Lib.hid ht
  have HC := Lib.hid hc
  have HQ := Lib.hid hq
  have hq5 : q ≤ 2500 := by omega
  clear hN hrb ht hc hq
  go_enter Try.func29, Try.ntmps29
  go_wp2_with fail
  go_loopw [1, 10] (fun v i wr => ∃ k p : Nat, k ≤ n ∧ v = .int .i64 p ∧ i = .int .i64 k ∧ p + (text (ns.take k)).length = q ∧ Below w.heap.size w wr) (fun _ i _ => n - (intOf i).toNat)
  case atStart => exact ⟨0, q, Nat.zero_le _, rfl, rfl, by simp [text_nil], Below.refl _ _⟩
  case round =>
    obtain ⟨k, p, hk, rfl, rfl, hp, hbel⟩ := hrel
    have hp5 : p ≤ 2500 := by omega
    by_cases hltk : k < n
    · obtain ⟨x, hx⟩ : ∃ x, ns[k]? = some x := ⟨ns[k]'(by have := HN.out.len; omega), by simp⟩
      have hxm : x ∈ ns := List.mem_of_getElem? hx
      have X := Lib.hid (HN.out.chunks x hxm)
      obtain ⟨d0, d1, d2, d3⟩ := nodeCells HC.out k x hx
      have e0 := (hbel.cell (by exact hlt)).trans d0
      have e1 := (hbel.cell (by exact hlt)).trans d1
      have e2 := (hbel.cell (by exact hlt)).trans d2
      have e3 := (hbel.cell (by exact hlt)).trans d3
      have hxp := X.out.pos
      have hx64 := X.out.le
      have hsz := hbel.size
      have HB := Lib.hid hbel
      have HP := Lib.hid hp
      have HX := Lib.hid hx
      have TS := Lib.hid (text_snoc ns k x hx)
      have hcl : (∃ cl, cl = x.cs.length) := ⟨_, rfl⟩
      obtain ⟨cl, hcl⟩ := hcl
      have CL := Lib.hid hcl
      rw [← hcl] at e0 e1 hxp hx64
      clear hbel hp hx d0 d1 d2 d3 hxm hcl
      by_cases hp0 : p = 0
      · subst hp0
        have hs1 := nodes_to (some ⟨b, off, none⟩) n cap k (by omega)
        obtain ⟨a2, hs2, HD'⟩ := nodes_from (some ⟨b, off, none⟩) n cap k (by omega) hcap
        have HD := Lib.hid HD'
        clear HD'
        go_wp2
        go_quiet (fail)
        go_wp2
        go_ret2
        have h1 := HP.out
        rw [Nat.zero_add] at h1
        have bl := below_drewN (HB.out.alloc (by omega) (Obj.cells #[Value.slice (some ⟨x.g, x.o, none⟩) cl cl, .int .i64 cl, .int .i64 (brk x.cs), .int .i64 (encCells x.cs).length] 65)) nq
        have tp := text_parts ns k
        rw [h1] at tp
        exact ⟨_, k, k, ns.take k, a2, n - k, cap - k, ns.drop k, rfl, (HN.out.take k (by omega)).below bl, (HD.out _ _ _ HN.out).below bl, tp.1.symm, tp.2.symm, bl⟩
      · by_cases hpl : p < cl
        · have hpz : (p : Int) < (cl : Int) := by omega
          have hp0' : (p : Int) ≠ 0 := by omega
          have hs1 := nodes_to (some ⟨b, off, none⟩) n cap k (by omega)
          have hs3 := slice_to (some ⟨x.g, x.o, none⟩) cl cl p (by omega)
          go_wp2
          have f0 := cell_alloc4 wr (.slice (some ⟨x.g, x.o, none⟩) cl cl) (.int .i64 cl) (.int .i64 (brk x.cs)) (.int .i64 (encCells x.cs).length) 65
          have B5 := Lib.hid (HB.out.alloc (by omega) (Obj.cells #[Value.slice (some ⟨x.g, x.o, none⟩) cl cl, .int .i64 cl, .int .i64 (brk x.cs), .int .i64 (encCells x.cs).length] 65))
          generalize wr.alloc (Obj.cells #[Value.slice (some ⟨x.g, x.o, none⟩) cl cl, .int .i64 cl, .int .i64 (brk x.cs), .int .i64 (encCells x.cs).length] 65) = W5 at *
          have X5 := Lib.hid (X.out.but (But.of B5.out))
          have hxl : (x.cs.take p).length = p := by rw [List.length_take, ← CL.out]; omega
          have NN := Lib.hid (newNode x.g x.o p cl (x.cs.take p) W5.drew (by omega) (by omega) X5.out.lt hxl (all_bounds (all_take X5.out.valid p)) (take_cells X5.out.cell p))
          have N5 := Lib.hid (HN.out.below B5.out)
          go_region_law (first
            | (refine step_append_grows rfl (.tmp 32) (.tmp 38) 52 rfl 65 i0 _ 4 48 Try.underlying52 hi hz0 hz1 hz2 rfl (by decide) (some ⟨b, off, none⟩) k k (flat (ns.take k)) (by simp [Act.eval]) (fun h => by cases h) (by rw [flat_len, List.length_take, HN.out.len]; omega) (row_holds (N6.out.alloc _) k (by omega)) ⟨w6.heap.size, 0, none⟩ 1 1 [.slice (some ⟨x.g, x.o, none⟩) p p, .int .i64 p, .int .i64 (brk (x.cs.take p)), .int .i64 (encCells (x.cs.take p)).length] (by simp [Act.eval]) rfl (nodeCells_new _ _) (node_one _ _ _ _ _ _ _) (by omega) (by unfold maxLen; omega) (by omega) ?_; intro v7 w7 own7 gr7; have O7 := Lib.hid own7; have G7 := Lib.hid gr7; clear own7 gr7)
            | (go_simp; go_at_call 37; (with_reducible refine NN.out.mono ?_); rintro e w6 ⟨rfl, b6⟩; have B6 := Lib.hid (below_drew_left b6); have N6 := Lib.hid (N5.out.below (below_drew_left b6)); clear b6))
          have B7 := Lib.hid (B6.out.trans ((below_grown_none G7.out).mono B6.out.size))
          have f7 := (B7.out.cell (lt_of_cell f0)).trans f0
          have X7 := Lib.hid (X5.out.but (But.of B7.out))
          have N7 := Lib.hid (N5.out.below B7.out)
          have hxl2 : (x.cs.drop p).length = cl - p := by rw [List.length_drop, ← CL.out]
          have NN8 := Lib.hid (newNode x.g (x.o + p) (cl - p) (cl - p) (x.cs.drop p) w7.drew (by omega) (by omega) X7.out.lt hxl2 (all_bounds (all_drop X7.out.valid p)) (drop_cells X7.out.cell p))
          have hs4 := chunk_from x.g x.o cl p hpl
          obtain ⟨ad, hs5', HD'⟩ := nodes_rest b off n cap (k + 1) (by omega) hcap
          have hs5 : ∀ w : World, (Instr.slice 52 (.slice (some ⟨b, off, none⟩) n cap) (some (.int .i64 ((k : Int) + 1))) none none).run Try.prog w = .ok (.slice (some ad) (n - (k + 1)) (cap - (k + 1))) w := hs5'
          have HD := Lib.hid HD'
          have hwr : IntKind.i64.wrap ((k : Int) + 1) = (k : Int) + 1 := IntWalk.i64_in _ (by omega)
          clear hs5' HD' f0 hs1 hs3
          go_wp2
          go_region_law (first
            | (refine step_append_own rfl (.tmp 45) (.tmp 49) 52 rfl w8.heap.size 65 i0 _ 4 48 Try.underlying52 hi hz0 hz1 hz2 rfl (by decide) (.slice (some ⟨w8.heap.size, 0, none⟩) 1 1) 1 [.slice (some ⟨x.g, x.o + p, none⟩) (cl - p) (cl - p), .int .i64 (cl - p : Nat), .int .i64 (brk (x.cs.drop p)), .int .i64 (encCells (x.cs.drop p)).length] (by simp [Act.eval]) (World.ownsRow_lit w8 #[.slice (some ⟨x.g, x.o + p, none⟩) (cl - p) (cl - p), .int .i64 (cl - p : Nat), .int .i64 (brk (x.cs.drop p)), .int .i64 (encCells (x.cs.drop p)).length] 1 (Nat.le_refl _) (by unfold maxLen; omega) rfl) ad (n - (k + 1)) (cap - (k + 1)) (flat (ns.drop (k + 1))) (by simp [Act.eval]) (by rw [flat_len, List.length_drop, HN.out.len]) (rest_holds (N8.out.alloc _)) (cells_one _) (by unfold maxLen; omega) (by omega) (by simp) ?_; intro v9 w9 own9 gr9; have O9 := Lib.hid own9; have G9 := Lib.hid gr9; clear own9 gr9)
            | (go_simp; go_at_call 37; (with_reducible refine NN8.out.mono ?_); rintro e w8 ⟨rfl, b8⟩; have B8 := Lib.hid (below_drew_left b8); have N8 := Lib.hid (HD.out _ _ _ (N7.out.below (below_drew_left b8))); clear b8))
          have B9 := Lib.hid (show Below w7.heap.size w7 w9 from (B8.out.alloc B8.out.size _).grown G9.out (by have := B8.out.size; simp; omega) (fun j hj => by simp [Value.ownBlock] at hj; have := B8.out.size; omega))
          have hxc1 : flat [⟨x.g, x.o, x.cs.take p⟩] = [.slice (some ⟨x.g, x.o, none⟩) p p, .int .i64 p, .int .i64 (brk (x.cs.take p)), .int .i64 (encCells (x.cs.take p)).length] := by
            rw [flat_one]; simp only [Nd.cells, hxl]
          have hxc2 : flat [⟨x.g, x.o + p, x.cs.drop p⟩] = [.slice (some ⟨x.g, x.o + p, none⟩) (cl - p) (cl - p), .int .i64 (cl - p : Nat), .int .i64 (brk (x.cs.drop p)), .int .i64 (encCells (x.cs.drop p)).length] := by
            rw [flat_one]; simp only [Nd.cells, hxl2]
          have BW := Lib.hid (B5.out.trans ((B7.out.trans (B9.out.mono B7.out.size)).mono B5.out.size))
          have X9 := Lib.hid (X7.out.but (But.of B9.out))
          have N9 := Lib.hid (N7.out.below B9.out)
          have P1 := Lib.hid (show ∃ a c, v7 = .slice a (k + 1) c ∧ Nodes w9 rb a (k + 1) c (ns.take k ++ [⟨x.g, x.o, x.cs.take p⟩]) by
            have h := O7.out
            rw [← hxc1, ← flat_append] at h
            obtain ⟨a, c, e, hn7⟩ := own_nodes (rb := rb) h (fun j hj => by have := HRB.out j hj; have := B5.out.size; have := B6.out.size; simp; omega) (fun y hy => by
              rcases List.mem_append.1 hy with h | h
              · exact N7.out.chunks y (List.mem_of_mem_take h)
              · rw [List.mem_singleton.1 h]
                exact chunk_new (n := cl) X7.out.valid CL.out.symm (by omega) (by omega) (by omega) X7.out.typ X7.out.ne X7.out.cell)
            exact ⟨a, c, e, hn7.below B9.out⟩)
          have P2 := Lib.hid (show ∃ a c, v9 = .slice a (1 + (n - (k + 1))) c ∧ Nodes w9 rb a (1 + (n - (k + 1))) c ([⟨x.g, x.o + p, x.cs.drop p⟩] ++ ns.drop (k + 1)) by
            have h := O9.out
            rw [← hxc2, ← flat_append] at h
            refine own_nodes (rb := rb) h (fun j hj => by have := HRB.out j hj; have := B5.out.size; have := B7.out.size; have := B8.out.size; omega) (fun y hy => ?_)
            rcases List.mem_append.1 hy with h | h
            · rw [List.mem_singleton.1 h]
              exact ⟨by rw [hxl2]; omega, by rw [hxl2]; omega, all_drop X9.out.valid p, X9.out.typ, X9.out.ne, drop_cells X9.out.cell p⟩
            · exact N9.out.chunks y (List.mem_of_mem_drop h))
          have TT := Lib.hid (show text (ns.take k ++ [⟨x.g, x.o, x.cs.take p⟩]) = (text ns).take q ∧ text ([⟨x.g, x.o + p, x.cs.drop p⟩] ++ ns.drop (k + 1)) = (text ns).drop q from split_text ns k p q x HX.out (by have := HP.out; omega) (by have := CL.out; omega))
          clear hxc1 hxc2 hxl hxl2
          go_wp2
          go_ret2
          obtain ⟨a1, c1, rfl, n1⟩ := P1.out
          obtain ⟨a2, c2, rfl, n2⟩ := P2.out
          exact ⟨a1, k + 1, c1, _, a2, _, c2, _, rfl, n1, n2, TT.out.1, TT.out.2, BW.out⟩
        · have hpz : ¬ (p : Int) < (cl : Int) := by omega
          have hp0' : (p : Int) ≠ 0 := by omega
          go_wp2
          go_roundw
          case rel =>
            have h1 := HP.out
            have h2 := TS.out
            have h3 := CL.out
            refine ⟨k + 1, p - cl, by omega, ?_, by go_num, ?_, HB.out.alloc (by omega) _⟩
            · congr 1; omega
            · rw [h2, List.length_append]; omega
          case measure => simp [intOf]; omega
    · go_wp2
      go_ret2
      have hk' : k = n := by omega
      subst hk'
      have e : ns.take k = ns := List.take_of_length_le (by have := HN.out.len; omega)
      rw [e] at hp
      have hq := HQ.out
      exact ⟨_, k, cap, ns, none, 0, 0, [], rfl, HN.out.below hbel, Nodes.empty _ _ _ _, by rw [List.take_of_length_le (by omega)], by rw [List.drop_of_length_le (by omega)]; rfl, hbel⟩

/-- split: what is before a place and what is behind it. -/
theorem split (rb : Option Nat) (a : Option Addr) (n cap : Nat) (ns : List Nd) (q : Nat) (w : World) (hN : Nodes w rb a n cap ns) (hrb : ∀ k, rb = some k → k < w.heap.size) (hq : q ≤ (text ns).length) (ht : (text ns).length ≤ 2500) :
    Calls Try.prog 29 #[.slice a n cap, .int .i64 q] w fun e w' => ∃ a1 n1 c1 bs a2 n2 c2 cs, e = .returned (.tuple #[.slice a1 n1 c1, .slice a2 n2 c2]) ∧ Nodes w' rb a1 n1 c1 bs ∧ Nodes w' rb a2 n2 c2 cs ∧ text bs = (text ns).take q ∧ text cs = (text ns).drop q ∧ Below w.heap.size w w' := by
  have hl := text_len hN.chunks
  have hn := hN.len
  rcases hN.row with h0 | ⟨b, off, rfl, hlt, hne, hc⟩
  · subst h0
    obtain rfl : ns = [] := List.eq_nil_of_length_eq_zero hn
    refine (split_none a cap q w).mono ?_
    rintro e w' ⟨rfl, rfl⟩
    exact ⟨a, 0, cap, [], none, 0, 0, [], rfl, Nodes.empty _ _ _ _, Nodes.empty _ _ _ _, by simp [text_nil], by simp [text_nil], Below.refl _ _⟩
  · exact split_cells rb b off n cap ns q w (by omega) hN hrb hq ht hlt hc
end Go.Proofs.Ytlijkejadjkbcaa
