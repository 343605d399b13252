/- The contracts of Insert, Delete. -/
import Derived.Test.YtlijkejadjkbcaaRopeC
namespace Go.Proofs.Ytlijkejadjkbcaa
open Go Go.RowKit

theorem insert_nil (x : Int) (a : Option Addr) (n c : Nat) (w : World) :
    Calls Try.prog 10 #[.pointer none, .int .i64 x, .slice a n c] w fun e w' => e = .returned (.int .i64 1) ∧ w = w' := by
  go_enter Try.func10, Try.ntmps10
  go_wp2
  go_ret
  exact ⟨rfl, rfl⟩

/-- What an edit that goes through leaves: a rope with this text, and all other blocks as they were. -/
def Edited (w : World) (rb : Nat) (zs : List Int) (e : Ending) (w' : World) : Prop :=
  ∃ ns, e = .returned (.int .i64 0) ∧ RopeAt w' rb ns ∧ text ns = zs ∧ Below rb w w' ∧ But (some rb) w.heap.size w w'

theorem But.set {w : World} {rb : Nat} {B : Nat} (v : Value) : But (some rb) B w (w.setCell ⟨rb, 0, none⟩ v) := by
  have := (Below.refl rb w).setCell (p := ⟨rb, 0, none⟩) (Nat.le_refl _) v
  refine ⟨this.size, fun k _ hn => ?_⟩
  exact Below.heap_setCell w _ v k (fun e => hn (by rw [e]))

/-- The rope behind a store of its list. -/
theorem stored {w w' : World} {rb : Nat} {ns : List Nd} {a a' : Option Addr} {n cap n' cap' : Nat} (hR : w.rowIs rb 56 1 (fun _ => .slice a n cap)) (hb : Below w.heap.size w w') (hN : Nodes w' (some rb) a' n' cap' ns) (hl : (text ns).length ≤ 2000) :
    RopeAt (w'.setCell ⟨rb, 0, none⟩ (.slice a' n' cap')) rb ns ∧ Below rb w (w'.setCell ⟨rb, 0, none⟩ (.slice a' n' cap')) ∧ But (some rb) w.heap.size w (w'.setCell ⟨rb, 0, none⟩ (.slice a' n' cap')) := by
  have h1 : w'.rowIs rb 56 1 (fun _ => .slice a n cap) := hR.of_block (hb.block rb hR.lt)
  refine ⟨⟨⟨a', n', cap', ?_, hN.but (But.set _)⟩, hl⟩, ?_, (But.of hb).trans (But.set _)⟩
  · refine (h1.set 0 (.slice a' n' cap')).congr ?_
    intro i hi
    rw [if_pos (by omega)]
  · exact (hb.mono (Nat.le_of_lt hR.lt)).setCell (Nat.le_refl _) _

theorem delete_no (rb : Nat) (ns : List Nd) (x y : Int) (w : World) (h : RopeAt w rb ns) (hp : ¬ (0 ≤ x ∧ x ≤ y ∧ y ≤ (text ns).length)) :
    Calls Try.prog 12 #[.pointer (some ⟨rb, 0, none⟩), .int .i64 x, .int .i64 y] w fun e w' => e = .returned (.int .i64 1) ∧ Below w.heap.size w w' := by
  have BT := Lib.hid (between_no rb ns x y w h hp)
  clear h
  go_enter Try.func12, Try.ntmps12
  go_wp2_with fail
  (with_reducible refine BT.out.mono ?_)
  rintro e w1 ⟨rfl, b1⟩
  go_wp2
  go_ret
  exact ⟨rfl, b1⟩

/-- The cells of parts. -/
def partCells (ps : List Part) : List Value := ps.map fun p => .slice p.a p.n p.c
theorem part_holds (w : World) (rb : Nat) (ps : List Part) (hN : ∀ p ∈ ps, Nodes w (some rb) p.a p.n p.c p.ns) : ∀ j p, ps[j]? = some p → (w.alloc (Obj.cells (partCells ps).toArray 52)).cell? ⟨w.heap.size, 0 + j, none⟩ = some (.slice p.a p.n p.c) ∧ Nodes (w.alloc (Obj.cells (partCells ps).toArray 52)) (some rb) p.a p.n p.c p.ns := by
  intro j p hp
  refine ⟨?_, (hN p (List.mem_of_getElem? hp)).alloc _⟩
  have := new_cells w (partCells ps) 52 j (.slice p.a p.n p.c) (by simp [partCells, hp])
  rwa [Addr.add_lit] at this

set_option maxHeartbeats 2000000 in
theorem delete_yes (rb : Nat) (ns : List Nd) (x y : Nat) (w : World) (h : RopeAt w rb ns) (hxy : x ≤ y) (hy : y ≤ (text ns).length) :
    Calls Try.prog 12 #[.pointer (some ⟨rb, 0, none⟩), .int .i64 x, .int .i64 y] w (Edited w rb ((text ns).take x ++ (text ns).drop y)) := by
  have BT := Lib.hid (between_yes rb ns x y w h (by omega))
  have HR := Lib.hid h
  have hle := h.le
  clear h
  obtain ⟨d, hd⟩ : ∃ d, y = x + d := ⟨y - x, by omega⟩
  have D := Lib.hid hd
  have hd2 : d ≤ 2000 := by omega
  have hdx : x + d ≤ (text ns).length := by omega
  clear hd
  go_enter Try.func12, Try.ntmps12
  go_wp2_with fail
  (with_reducible refine BT.out.mono ?_)
  rintro e w1 ⟨rfl, b1⟩
  have B1 := Lib.hid b1
  have R1 := Lib.hid (HR.out.below b1)
  clear b1
  obtain ⟨a, n, cap, hW, hN, hL⟩ := R1.out.opened
  have hc0 : w1.cell? ⟨rb, 0, none⟩ = some (.slice a n cap) := hW.cell (by omega)
  have RW := Lib.hid hW
  have CU := Lib.hid (cut rb a n cap ns x w1 hN R1.out.lt (by omega) (by omega))
  clear hN hL hW
  go_wp2_with fail
  (with_reducible refine CU.out.mono ?_)
  rintro e w2 ⟨a1, n1, c1, bs, a2, n2, c2, cs, rfl, N1, N2, t1, t2, b2⟩
  have hcl : (text cs).length = (text ns).length - x := by rw [t2, List.length_drop]
  have hlt2 : rb < w2.heap.size := Nat.lt_of_lt_of_le R1.out.lt b2.size
  have hyx : (y : Int) - (x : Int) = ((d : Nat) : Int) := by have := D.out; omega
  have HYX := Lib.hid hyx
  clear hyx
  have CU2 := Lib.hid (show Calls Try.prog 29 #[.slice a2 n2 c2, .int .i64 ((y : Int) - (x : Int))] w2 (Cut w2 rb (text cs) d) by
    rw [HYX.out]
    exact cut rb a2 n2 c2 cs d w2 N2 hlt2 (by omega) (by omega))
  have B2 := Lib.hid b2
  have NN1 := Lib.hid N1
  have T1 := Lib.hid t1
  have T2 := Lib.hid t2
  clear N1 N2 t1 t2 b2 hcl hc0
  go_wp2_with fail
  (with_reducible refine CU2.out.mono ?_)
  rintro e w3 ⟨a3, n3, c3, ds, a4, n4, c4, es, rfl, N3, N4, t3, t4, b3⟩
  have B3 := Lib.hid (B2.out.trans (b3.mono B2.out.size))
  have P := part_holds w3 rb [⟨a1, n1, c1, bs⟩, ⟨a4, n4, c4, es⟩] (by
    intro p hp
    simp only [List.mem_cons, List.not_mem_nil, or_false] at hp
    rcases hp with rfl | rfl
    · exact NN1.out.below b3
    · exact N4)
  have T3 := Lib.hid (show text bs ++ text es = (text ns).take x ++ (text ns).drop y by rw [T1.out, t4, T2.out, List.drop_drop, show x + d = y by have := D.out; omega])
  have hlen : ((text ns).take x ++ (text ns).drop y).length ≤ 2000 := by
    rw [List.length_append, List.length_take, List.length_drop]; omega
  have JN := Lib.hid (join (some rb) w3.heap.size 2 [⟨a1, n1, c1, bs⟩, ⟨a4, n4, c4, es⟩] (w3.alloc (Obj.cells (partCells [⟨a1, n1, c1, bs⟩, ⟨a4, n4, c4, es⟩]).toArray 52)) rfl (by omega) (fun k hk => by cases hk; have := b3.size; simp; omega) (by simp) P (by simp only [texts, List.flatMap_cons, List.flatMap_nil, List.append_nil]; rw [T3.out]; omega))
  simp only [partCells, List.map_cons, List.map_nil] at JN
  clear N3 N4 t3 t4 b3 P
  go_wp2_with fail
  (with_reducible refine JN.out.mono ?_)
  rintro e w5 ⟨a5, n5, c5, fs, rfl, N5, t5, b5⟩
  have B5 := Lib.hid (show Below w1.heap.size w1 w5 from (B3.out.alloc B3.out.size _).trans (b5.mono (by have := B3.out.size; simp; omega)))
  have hr5 := RW.out.of_block (B5.out.block rb RW.out.lt)
  have hc5 : w5.cell? ⟨rb, 0, none⟩ = some (.slice a n cap) := hr5.cell (by omega)
  have hf5 := hr5.frozen 0
  have NN5 := Lib.hid N5
  have T5 := Lib.hid (show text fs = (text ns).take x ++ (text ns).drop y by
    rw [t5, ← T3.out]; simp [texts])
  have HL := Lib.hid hlen
  clear N5 t5 b5 hr5 hlen
  go_wp2
  go_ret
  obtain ⟨r1, r2, r3⟩ := stored RW.out B5.out NN5.out (by rw [T5.out]; exact HL.out)
  exact ⟨fs, rfl, r1, T5.out, (B1.out.mono (Nat.le_of_lt HR.out.lt)).trans r2, (But.of B1.out).trans (r3.mono B1.out.size)⟩
end Go.Proofs.Ytlijkejadjkbcaa
