/- The contract of Add; what a change of marks leaves as it was. Conditions: the marks lie in memory. -/
import Derived.Test.YtlihgcpiokaehaaGet
import Derived.Deep.RegionLawGrows
import Derived.Deep.RegionLaw
namespace Go.Proofs.Ytlihgcpiokaehaa
open Go Go.RowKit

/-- append onto a row that the call owns, as one step of a region that draws. -/
theorem step_append_own {P : Program} {ops : Array Oper} {o : Oper} {a : Act} {w : World} {K : Act → World → Prop} {Q : Exit → Act → World → Prop} {E : Prop}
    (hg : o.guard = none) (s x : Operand) (t : TypeId) (hop : o.op = Op.call { callee := Callee.builtin Builtin.append, args := #[s, x], argTypes := #[t, t] })
    (base : Nat) (e : TypeId) (i : TypeInfo) (z : Value) (size bytes : Nat) (h1 : P.underlying t = some (.slice e)) (h2 : P.info? e = some i) (h3 : i.zero = some z) (h4 : i.size = size) (h5 : i.bytes = bytes) (h6 : z.cells.size = size) (h7 : 0 < size)
    (v : Value) (n : Nat) (xs : List Value) (hs : a.eval s = v) (hown : w.ownsRow base e size v n xs)
    (ad : Addr) (m c : Nat) (news : List Value) (hx : a.eval x = .slice (some ad) m c) (hn : news.length = m * size) (hc : ∀ j u, news[j]? = some u → w.cell? (ad.add j) = some u) (h1c : ∀ u ∈ news, u.oneCell' = true)
    (b1 : n + m ≤ maxLen) (b2 : (n + m) * bytes ≤ 140737488355328) (hbase : base ≤ w.heap.size)
    (hK : ∀ v' w', w'.ownsRow base e size v' (n + m) (xs ++ news) → w.grownBy w' v.ownBlock → K (a.put o.dst v') w') :
    if Region.wanted o (yielded ops a.tmps) = true then Oper.wp P o a w K Q else E := by
  have hw : Region.wanted o (yielded ops a.tmps) = true := by simp [Region.wanted, hg]
  rw [if_pos hw]
  obtain ⟨v', w', hrun, r1, r2, _⟩ := run_append_own (P := P) w base t o.type e i z size bytes h1 h2 h3 h4 h5 h6 h7 v n xs hown ad m c news hn hc h1c b1 b2 hbase
  unfold Oper.wp
  simp [execOp, hop, resolve, invoke, builtin, hs, hx, hrun, Result.andThen]
  exact hK v' w' r1 r2

/-- All is as it was but the marks' object and the rows of ranges. -/
structure Kept (mb : Nat) (w w' : World) : Prop where
  size : w.heap.size ≤ w'.heap.size
  block : ∀ k, k < w.heap.size → k ≠ mb → (∀ cur fr, w.heap[k]? ≠ some (.cells cur 69 fr)) → w'.heap[k]? = w.heap[k]?
theorem Kept.of {mb : Nat} {w w' : World} (h : Below w.heap.size w w') : Kept mb w w' := ⟨h.size, fun k hk _ _ => h.block k hk⟩
theorem Kept.trans {mb : Nat} {a b c : World} (h : Kept mb a b) (k : Kept mb b c) : Kept mb a c :=
  ⟨Nat.le_trans h.size k.size, fun i hi hn hc => (k.block i (Nat.lt_of_lt_of_le hi h.size) hn (by rw [h.block i hi hn hc]; exact hc)).trans (h.block i hi hn hc)⟩
theorem Kept.grown {mb B n : Nat} {w w' : World} {v : Value} {xs : List Value} (hown : w.ownsRow B 69 5 v n xs) (hg : w.grownBy w' v.ownBlock) : Kept mb w w' := by
  refine ⟨hg.size, fun k hk _ hc => hg.block k hk fun e => ?_⟩
  rcases hown.2 with ⟨rfl, _⟩ | ⟨g, cap, cur, rfl, _, hh, _⟩
  · cases e
  · simp only [Value.ownBlock, Option.some.injEq] at e
    subst e
    exact hc _ _ hh
theorem Kept.setMb {mb : Nat} (w : World) (i : Nat) (v : Value) : Kept mb w (w.setCell ⟨mb, i, none⟩ v) :=
  ⟨by simp [World.setCell], fun k _ hn _ => Below.heap_setCell _ _ _ _ (by simpa using hn)⟩
theorem Kept.row {mb : Nat} {w w' : World} {a : Option Addr} {n : Nat} {rs : List Rg} {e : TypeId} (h : RowAt e w a n rs) (he : e ≠ 69) (k : Kept mb w w') (hm : ∀ cur fr, w.heap[mb]? ≠ some (.cells cur e fr)) : RowAt e w' a n rs := by
  refine ⟨h.1, ?_⟩
  rcases h.2 with h0 | ⟨b, off, rfl, ⟨cur, fr, hh⟩, hc⟩
  · exact .inl h0
  · have hlt := lt_of_block hh
    have hb : w'.heap[b]? = w.heap[b]? := k.block b hlt (by rintro rfl; exact hm _ _ hh) (fun cur' fr' e' => by rw [hh] at e'; simp at e'; exact he e'.2.1)
    exact .inr ⟨b, off, rfl, ⟨cur, fr, hb.trans hh⟩, fun j z hz => (World.cell?_of_block (w := w) hb).trans (hc j z hz)⟩

theorem rowIs_typ {w : World} {b t n : Nat} {f : Nat → Value} (h : w.rowIs b t n f) : ∃ cur, w.heap[b]? = some (.cells cur t (0, 0)) := by
  obtain ⟨cur, h1, _⟩ := h
  exact ⟨cur, h1⟩

theorem own_ne {w : World} {B n b t m : Nat} {v : Value} {xs : List Value} {f : Nat → Value} (h : w.ownsRow B 69 5 v n xs) (hr : w.rowIs b t m f) (ht : t ≠ 69) : v.ownBlock ≠ some b := by
  obtain ⟨cur', h'⟩ := rowIs_typ hr
  rcases h.2 with ⟨rfl, _⟩ | ⟨g, cap, cur, rfl, _, hh, _⟩
  · simp [Value.ownBlock]
  · intro e
    simp only [Value.ownBlock, Option.some.injEq] at e
    subst e
    rw [h'] at hh
    simp at hh
    exact ht hh.2

theorem Try.info69 : (Try.prog.info? 69).map (fun i => (i.zero, i.size, i.bytes)) = some (some (.agg #[.int .i64 0, .int .i64 0, .bool false, .bool false, .int .i64 0]), 5, 32) := by kernel_rfl

/-- What a change leaves: the answer, the marks, the rest. -/
def Changed (w : World) (B mb : Nat) (rs : List Rg) (last : Nat) (v : Value) (e : Ending) (w' : World) : Prop :=
  e = .returned v ∧ MarksAt w' B mb rs last ∧ Kept mb w w' ∧ Below B w w'

theorem own_setMb {w : World} {B mb n t m i : Nat} {v : Value} {xs : List Value} {f : Nat → Value} (h : w.ownsRow B 69 5 v n xs) (hr : w.rowIs mb t m f) (ht : t ≠ 69) (u : Value) : (w.setCell ⟨mb, i, none⟩ u).ownsRow B 69 5 v n xs := by
  refine ⟨h.1, ?_⟩
  have hne := own_ne h hr ht
  rcases h.2 with h0 | ⟨g, cap, cur, rfl, hB, hg, hrr⟩
  · exact .inl h0
  · refine .inr ⟨g, cap, cur, rfl, hB, ?_, hrr⟩
    rw [Below.heap_setCell _ _ _ _ (by simp only [Value.ownBlock, ne_eq, Option.some.injEq] at hne; exact hne)]
    exact hg

theorem add_bad (mb B last : Nat) (rs : List Rg) (f t : Int) (l r : Bool) (w : World) (h : MarksAt w B mb rs last) (hB : B ≤ w.heap.size) (hm : may f t = false) :
    Calls Try.prog 14 #[.pointer (some ⟨mb, 0, none⟩), .agg #[.int .i64 f, .int .i64 t, .bool l, .bool r]] w (Changed w B mb rs last (.tuple #[.int .i64 0, .int .i64 1])) := by
  have V := valid f t l r
  rw [hm] at V
  have HV := Lib.hid V
  have HM := Lib.hid h
  clear V hm h
  go_enter Try.func14, Try.ntmps14
  go_wp2_with fail
  (with_reducible refine (HV.out _).mono ?_)
  rintro e w1 ⟨rfl, rfl⟩
  go_wp2
  go_ret2
  have b : Below w.heap.size w ((w.alloc (Obj.cells #[.int .i64 f, .int .i64 t, .bool l, .bool r] 25)).alloc (Obj.cells #[.int .i64 f, .int .i64 t, .bool l, .bool r] 25)) := ((Below.refl _ _).alloc (Nat.le_refl _) _).alloc (by simp) _
  exact ⟨rfl, HM.out.below b, Kept.of b, b.mono hB⟩

theorem add_full (mb B last : Nat) (rs : List Rg) (f t : Int) (l r : Bool) (w : World) (h : MarksAt w B mb rs last) (hB : B ≤ w.heap.size) (hm : may f t = true) (hn : 60 ≤ rs.length) :
    Calls Try.prog 14 #[.pointer (some ⟨mb, 0, none⟩), .agg #[.int .i64 f, .int .i64 t, .bool l, .bool r]] w (Changed w B mb rs last (.tuple #[.int .i64 0, .int .i64 3])) := by
  have V := valid f t l r
  rw [hm] at V
  have HV := Lib.hid V
  have HM := Lib.hid h
  obtain ⟨a, c, h1, _⟩ := h.opened
  have m0 : w.cell? ⟨mb, 0, none⟩ = some (.slice a rs.length c) := h1.cell (i := 0) (by omega)
  have hlt := h.lt
  have hne : mb ≠ w.heap.size := by omega
  have hne2 : mb ≠ w.heap.size + 1 := by omega
  have hn' : (60 : Int) ≤ (rs.length : Int) := by omega
  generalize rs.length = n at *
  clear V hm h h1
  go_enter Try.func14, Try.ntmps14
  go_wp2_with fail
  (with_reducible refine (HV.out _).mono ?_)
  rintro e w1 ⟨rfl, rfl⟩
  go_wp2
  go_ret2
  have b : Below w.heap.size w ((w.alloc (Obj.cells #[.int .i64 f, .int .i64 t, .bool l, .bool r] 25)).alloc (Obj.cells #[.int .i64 f, .int .i64 t, .bool l, .bool r] 25)) := ((Below.refl _ _).alloc (Nat.le_refl _) _).alloc (by simp) _
  exact ⟨rfl, HM.out.below b, Kept.of b, b.mono hB⟩

theorem own_form2 {w : World} {B e n : Nat} {size : Nat} {v : Value} {xs : List Value} (h : w.ownsRow B e size v n xs) : ∃ a c, v = .slice a n c := by
  rcases h.2 with ⟨rfl, rfl⟩ | ⟨g, c, cur, rfl, _⟩
  · exact ⟨none, 0, rfl⟩
  · exact ⟨_, c, rfl⟩

theorem cells_one1 (x : Rg) : ∀ u ∈ x.cells, u.oneCell' = true := by
  have := flat_cells_one [x]
  rwa [flat_one] at this

/-- Behind the append: the object, and all else. -/
theorem add_step {W w2 : World} {B mb n : Nat} {v : Value} {xs : List Value} {f : Nat → Value} (o : Obj) (hO : W.ownsRow B 69 5 v n xs) (hR : W.rowIs mb 67 2 f) (hB : B ≤ mb) (gr : (W.drew.alloc o).grownBy w2 v.ownBlock) :
    w2.rowIs mb 67 2 f ∧ Kept mb W w2 ∧ Below B W w2 := by
  have hb : Below W.heap.size W (W.drew.alloc o) := ((Below.refl _ _).drew).alloc (Nat.le_refl _) _
  have hO' := own_below hO hb
  have hR' := hR.of_block (hb.block mb hR.lt)
  have hle : B ≤ W.heap.size := Nat.le_of_lt (Nat.lt_of_le_of_lt hB hR.lt)
  refine ⟨hR'.of_block (gr.block mb hR'.lt (fun e => own_ne hO' hR' (by decide) e.symm)), (Kept.of hb).trans (Kept.grown hO' gr), (hb.mono hle).grown gr (by simp; omega) (fun k hk => (hO'.lt k hk).1)⟩

theorem new5 (w : World) (x : Rg) : ∀ j u, x.cells[j]? = some u → (w.alloc (Obj.cells #[.int .i64 x.f, .int .i64 x.t, .bool x.l, .bool x.r, .int .i64 x.i] 69)).cell? ((⟨w.heap.size, 0, none⟩ : Addr).add j) = some u := new_cells w x.cells 69

theorem marks_more {w : World} {B mb last n : Nat} {rs : List Rg} {x : Rg} {v v2 : Value} (hR : w.rowIs mb 67 2 (mk2 v (last + 1 : Nat))) (hO : w.ownsRow B 69 5 v2 (n + 1) (flat rs ++ x.cells)) (hn : n = rs.length) (h60 : n < 60) (hg : ∀ y ∈ rs, y.good last) (hs : rs.Pairwise (fun x y => x.i < y.i)) (hx : 0 ≤ x.f ∧ x.f ≤ x.t ∧ x.t ≤ 2147483648) (hi : x.i = (last + 1 : Nat)) :
    MarksAt (w.setCell ⟨mb, 0, none⟩ v2) B mb (rs ++ [x]) (last + 1) := by
  refine ⟨⟨v2, (hR.set 0 v2).congr fun i hi => ?_, ?_⟩, by simp; omega, ?_, ?_⟩
  · match i, hi with
    | 0, _ => rfl
    | 1, _ => rfl
  · have := own_setMb (i := 0) hO hR (by decide) v2
    rw [flat_append, flat_one, List.length_append, List.length_singleton, ← hn]
    exact this
  · intro y hy
    rcases List.mem_append.1 hy with h | h
    · have := hg y h
      exact ⟨this.1, this.2.1, this.2.2.1, this.2.2.2.1, by have := this.2.2.2.2; omega⟩
    · rw [List.mem_singleton.1 h]
      exact ⟨hx.1, hx.2.1, hx.2.2, by omega, by omega⟩
  · rw [List.pairwise_append]
    refine ⟨hs, List.pairwise_singleton .., fun y hy z hz => ?_⟩
    rw [List.mem_singleton.1 hz]
    have := (hg y hy).2.2.2.2
    omega

set_option maxHeartbeats 2000000 in
theorem add_yes (mb B last : Nat) (rs : List Rg) (f t : Int) (l r : Bool) (w : World) (h : MarksAt w B mb rs last) (hB : B ≤ mb) (hm : may f t = true) (hn : rs.length < 60) (hl : last < 1000000) :
    Calls Try.prog 14 #[.pointer (some ⟨mb, 0, none⟩), .agg #[.int .i64 f, .int .i64 t, .bool l, .bool r]] w (Changed w B mb (rs ++ [⟨f, t, l, r, (last + 1 : Nat)⟩]) (last + 1) (.tuple #[.int .i64 (last + 1 : Nat), .int .i64 0])) := by
  obtain ⟨i0, hi, hz0, hz1, hz2⟩ := info_parts Try.info69
  have V := valid f t l r
  rw [hm] at V
  have HV := Lib.hid V
  have HMay := Lib.hid (of_decide_eq_true hm)
  obtain ⟨a, c, h1, hO, hc, hno, _⟩ := h.opened
  have HG := Lib.hid h.good
  have HS := Lib.hid h.sorted
  have HL := Lib.hid h.len
  have hlt := h.lt
  have b0 : Below w.heap.size w ((w.alloc (Obj.cells #[.int .i64 f, .int .i64 t, .bool l, .bool r] 25)).alloc (Obj.cells #[.int .i64 f, .int .i64 t, .bool l, .bool r] 25)) := ((Below.refl _ _).alloc (Nat.le_refl _) _).alloc (by simp) _
  have x0 : ((w.alloc (Obj.cells #[.int .i64 f, .int .i64 t, .bool l, .bool r] 25)).alloc (Obj.cells #[.int .i64 f, .int .i64 t, .bool l, .bool r] 25)).rowIs w.heap.size 25 4 (nd4 (.int .i64 f) (.int .i64 t) (.bool l) (.bool r)) := (row4 w _ _ _ _ 25).alloc _
  have r1 := h1.of_block (b0.block mb hlt)
  have o1 := own_below hO b0
  have B0 := Lib.hid b0
  have X0 := Lib.hid x0
  have R1 := Lib.hid r1
  have O1 := Lib.hid o1
  have m0 : ((w.alloc (Obj.cells #[.int .i64 f, .int .i64 t, .bool l, .bool r] 25)).alloc (Obj.cells #[.int .i64 f, .int .i64 t, .bool l, .bool r] 25)).cell? ⟨mb, 0, none⟩ = some (.slice a rs.length c) := r1.cell (i := 0) (by omega)
  have m1 : ((w.alloc (Obj.cells #[.int .i64 f, .int .i64 t, .bool l, .bool r] 25)).alloc (Obj.cells #[.int .i64 f, .int .i64 t, .bool l, .bool r] 25)).cell? ⟨mb, 1, none⟩ = some (.int .i64 last) := r1.cell (i := 1) (by omega)
  have m2 := r1.frozen 1
  have hn' : ¬ (60 : Int) ≤ (rs.length : Int) := by omega
  obtain ⟨n, hnn⟩ : ∃ n, n = rs.length := ⟨_, rfl⟩
  have HN := Lib.hid hnn
  rw [← hnn] at m0 hn' hn
  clear V hm h h1 hO hc hno b0 x0 r1 o1 hnn
  go_enter Try.func14, Try.ntmps14
  go_wp2_with fail
  (with_reducible refine (HV.out _).mono ?_)
  rintro e w1 ⟨rfl, hw⟩
  rw [← hw] at B0 X0 R1 O1 m0 m1 m2
  clear hw
  go_wp2_with fail
  have RM := Lib.hid (show (w1.setCell ⟨mb, 1, none⟩ (.int .i64 ((last : Int) + 1))).rowIs mb 67 2 (mk2 (.slice a n c) (last + 1 : Nat)) from (R1.out.set 1 _).congr fun i hi => by
    match i, hi with
    | 0, _ => rw [HN.out]; rfl
    | 1, _ => rfl)
  have OW := Lib.hid (show (w1.setCell ⟨mb, 1, none⟩ (.int .i64 ((last : Int) + 1))).ownsRow B 69 5 (.slice a n c) n (flat rs) by rw [HN.out]; exact own_setMb O1.out R1.out (by decide) _)
  have XW := Lib.hid (X0.out.setOther (a := ⟨mb, 1, none⟩) (by simp; omega) (.int .i64 ((last : Int) + 1)))
  have BW := Lib.hid (show Below B w (w1.setCell ⟨mb, 1, none⟩ (.int .i64 ((last : Int) + 1))) from (B0.out.mono (by omega)).setCell hB _)
  have KW := Lib.hid (show Kept mb w (w1.setCell ⟨mb, 1, none⟩ (.int .i64 ((last : Int) + 1))) from (Kept.of B0.out).trans (Kept.setMb w1 1 _))
  clear m0 m1 m2 R1 O1 X0 B0
  generalize (w1.setCell ⟨mb, 1, none⟩ (.int .i64 ((last : Int) + 1))) = W at *
  have q0 : W.cell? ⟨mb, 0, none⟩ = some (.slice a n c) := RM.out.cell (i := 0) (by omega)
  have q1 : W.cell? ⟨mb, 1, none⟩ = some (.int .i64 ((last : Int) + 1)) := RM.out.cell (i := 1) (by omega)
  have x0 : W.cell? ⟨w.heap.size, 0, none⟩ = some (.int .i64 f) := XW.out.cell (i := 0) (by omega)
  have x1 : W.cell? ⟨w.heap.size, 1, none⟩ = some (.int .i64 t) := XW.out.cell (i := 1) (by omega)
  have x2 : W.cell? ⟨w.heap.size, 2, none⟩ = some (.bool l) := XW.out.cell (i := 2) (by omega)
  have x3 : W.cell? ⟨w.heap.size, 3, none⟩ = some (.bool r) := XW.out.cell (i := 3) (by omega)
  have hWlt : mb < W.heap.size := RM.out.lt
  have hXlt : w.heap.size < W.heap.size := XW.out.lt
  have hne1 : mb ≠ W.heap.size := by omega
  have hne2 : w.heap.size ≠ W.heap.size := by omega
  go_region_law (first
    | (refine step_append_own rfl (.tmp 30) (.tmp 37) 65 rfl B 69 i0 _ 5 32 Try.underlying65 hi hz0 hz1 hz2 rfl (by decide) (.slice a n c) n (flat rs) (by simp [Act.eval]) (OW.out.drew.alloc _) ⟨W.heap.size, 0, none⟩ 1 1 (Rg.cells ⟨f, t, l, r, (last : Int) + 1⟩) (by simp [Act.eval]) rfl (new5 W.drew ⟨f, t, l, r, (last : Int) + 1⟩) (cells_one1 _) (by unfold maxLen; omega) (by omega) (by simp; omega) ?_; intro v2 w2 own2 gr2; obtain ⟨a2, c2, rfl⟩ := own_form2 own2; obtain ⟨R2, K2, B2⟩ := add_step _ OW.out RM.out hB gr2; have O2 := Lib.hid own2; have z0 := R2.cell (i := 0) (by omega); have z1 := R2.frozen 0; have RR2 := Lib.hid R2; have KK2 := Lib.hid K2; have BB2 := Lib.hid B2; clear own2 gr2 R2 K2 B2))
  all_goals
    have q2 : (w2.setCell ⟨mb, 0, none⟩ (.slice a2 (n + 1) c2)).cell? ⟨mb, 1, none⟩ = some (.int .i64 ((last : Int) + 1)) := (RR2.out.set 0 _).cell (i := 1) (by omega)
    have FIN := Lib.hid (show MarksAt (w2.setCell ⟨mb, 0, none⟩ (.slice a2 (n + 1) c2)) B mb (rs ++ [⟨f, t, l, r, (last + 1 : Nat)⟩]) (last + 1) from marks_more RR2.out O2.out HN.out hn HG.out HS.out HMay.out rfl)
    have FK := Lib.hid (show Kept mb w (w2.setCell ⟨mb, 0, none⟩ (.slice a2 (n + 1) c2)) from KW.out.trans (KK2.out.trans (Kept.setMb w2 0 _)))
    have FB := Lib.hid (show Below B w (w2.setCell ⟨mb, 0, none⟩ (.slice a2 (n + 1) c2)) from (BW.out.trans BB2.out).setCell hB _)
    go_wp2
    go_ret2
    exact ⟨rfl, FIN.out, FK.out, FB.out⟩
end Go.Proofs.Ytlihgcpiokaehaa
