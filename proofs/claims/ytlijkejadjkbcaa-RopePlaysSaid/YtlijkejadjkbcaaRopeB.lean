/- The contracts of Slice, Start. -/
import Derived.Test.YtlijkejadjkbcaaRopeA
namespace Go.Proofs.Ytlijkejadjkbcaa
open Go Go.RowKit

theorem Chunk.below' {w w' : World} {rb : Option Nat} {x : Nd} (h : Chunk w rb x) (b : Below w.heap.size w w') : Chunk w' rb x := h.but (But.of b)

theorem own_mono {w : World} {B B' e size : Nat} {v : Value} {n : Nat} {xs : List Value} (h : w.ownsRow B e size v n xs) (hB : B' ≤ B) : w.ownsRow B' e size v n xs := by
  refine ⟨h.1, ?_⟩
  rcases h.2 with h0 | ⟨g, cap, cur, rfl, hB2, hr⟩
  · exact .inl h0
  · exact .inr ⟨g, cap, cur, rfl, Nat.le_trans hB hB2, hr⟩

/-- A slice of runes in new memory. -/
def Got (w : World) (zs : List Int) (e : Ending) (w' : World) : Prop :=
  ∃ v, e = .returned (.tuple #[v, .int .i64 0]) ∧ w'.ownsRow w.heap.size 21 1 v zs.length (ints zs) ∧ Below w.heap.size w w'

theorem slice_no (rb : Nat) (ns : List Nd) (x y : Int) (w : World) (h : RopeAt w rb ns) (hp : ¬ (0 ≤ x ∧ x ≤ y ∧ y ≤ (text ns).length)) :
    Calls Try.prog 13 #[.pointer (some ⟨rb, 0, none⟩), .int .i64 x, .int .i64 y] w fun e w' => e = .returned (.tuple #[.slice none 0 0, .int .i64 1]) ∧ Below w.heap.size w w' := by
  have BT := Lib.hid (between_no rb ns x y w h hp)
  clear h
  go_enter Try.func13, Try.ntmps13
  go_wp2_with fail
  (with_reducible refine BT.out.mono ?_)
  rintro e w1 ⟨rfl, b1⟩
  go_wp2
  go_ret2
  exact ⟨rfl, b1⟩

set_option maxHeartbeats 2000000 in
theorem slice_yes (rb : Nat) (ns : List Nd) (x y : Nat) (w : World) (h : RopeAt w rb ns) (hxy : x ≤ y) (hy : y ≤ (text ns).length) :
    Calls Try.prog 13 #[.pointer (some ⟨rb, 0, none⟩), .int .i64 x, .int .i64 y] w (Got w (((text ns).take y).drop x)) := by
  obtain ⟨i1, hi1, hy0, hy1, hy2⟩ := info_parts Try.info21
  have BT := Lib.hid (between_yes rb ns x y w h (by omega))
  have HR := Lib.hid h
  have hle := h.le
  clear h
  obtain ⟨d, hd⟩ : ∃ d, y = x + d := ⟨y - x, by omega⟩
  have D := Lib.hid hd
  have hd2 : d ≤ 2000 := by omega
  have hdx : x + d ≤ (text ns).length := by omega
  clear hd
  go_enter Try.func13, Try.ntmps13
  go_wp2_with fail
  (with_reducible refine BT.out.mono ?_)
  rintro e w1 ⟨rfl, b1⟩
  have B1 := Lib.hid b1
  have R1 := Lib.hid (HR.out.below b1)
  clear b1
  obtain ⟨a, n, cap, _, hN, hL⟩ := R1.out.opened
  have HL := Lib.hid hL
  have CU := Lib.hid (cut rb a n cap ns x w1 hN R1.out.lt (by omega) (by omega))
  clear hN hL
  go_wp2_with fail
  (with_reducible refine HL.out.mono ?_)
  rintro e w' ⟨rfl, rfl⟩
  go_wp2_with fail
  (with_reducible refine CU.out.mono ?_)
  rintro e w2 ⟨a1, n1, c1, bs, a2, n2, c2, cs, rfl, N1, N2, t1, t2, b2⟩
  have hcl : (text cs).length = (text ns).length - x := by rw [t2, List.length_drop]
  have hlt2 : rb < w2.heap.size := Nat.lt_of_lt_of_le R1.out.lt b2.size
  have hyx : (y : Int) - (x : Int) = ((d : Nat) : Int) := by have := D.out; omega
  have HYX := Lib.hid hyx
  clear hyx
  have CU2 := Lib.hid (show Calls Try.prog 29 #[.slice a2 n2 c2, .int .i64 ((y : Int) - (x : Int))] w2 (Cut w2 rb (text cs) d) by
    rw [HYX.out]
    exact cut rb a2 n2 c2 cs d w2 N2 hlt2 (by omega) (by omega))
  have B2 := Lib.hid (B1.out.trans (b2.mono B1.out.size))
  have T2 := Lib.hid t2
  clear N1 N2 t1 t2 b2 hcl
  go_wp2_with fail
  (with_reducible refine CU2.out.mono ?_)
  rintro e w3 ⟨a3, n3, c3, ds, a4, n4, c4, es, rfl, N3, N4, t3, t4, b3⟩
  have B3 := Lib.hid (B2.out.trans (b3.mono B2.out.size))
  have T3 := Lib.hid (show text ds = ((text ns).take y).drop x by rw [t3, T2.out, List.drop_take, show y - x = d by have := D.out; omega])
  have NN := Lib.hid N3
  have hlds : (text ds).length ≤ 2000 := by rw [t3, List.length_take]; omega
  have hn3 : n3 ≤ 2000 := by
    have := text_len N3.chunks
    have := N3.len
    omega
  clear N3 N4 t3 t4 b3
  go_wp2_with (at_make; refine wpList_make_own _ rfl _ _ 22 rfl w3.heap.size 21 i1 (.int .i32 0) 1 Try.underlying22 hi1 hy0 hy1 .i64 .i64 _ d rfl rfl HYX.out (by rw [hy2]; omega) (by unfold maxLen; omega) (Nat.le_refl _) ?_)
  intro w4 own4 gr4
  have O4 := Lib.hid own4
  have B4 := Lib.hid (show Below w3.heap.size w3 w4 from (Below.refl _ _).grown gr4 (Nat.le_refl _) (fun k hk => by cases hk))
  clear own4 gr4
  go_wp2_with fail
  go_loopw [12, 41] (fun v i wr => ∃ k : Nat, k ≤ n3 ∧ i = .int .i64 k ∧ wr.ownsRow w3.heap.size 21 1 v (text (ds.take k)).length (ints (text (ds.take k))) ∧ Below w3.heap.size w3 wr) (fun _ i _ => n3 - (intOf i).toNat)
  case atStart => exact ⟨0, Nat.zero_le _, rfl, O4.out, B4.out⟩
  case round =>
    obtain ⟨k, hk, rfl, hown, hbel⟩ := hrel
    by_cases hltk : k < n3
    · obtain ⟨z, hz⟩ : ∃ z, ds[k]? = some z := ⟨ds[k]'(by have := NN.out.len; omega), by simp⟩
      rcases NN.out.row with h0 | ⟨b, off, rfl, hlt, hne, hc⟩
      · omega
      have Z := Lib.hid ((NN.out.chunks z (List.mem_of_getElem? hz)).below' hbel)
      obtain ⟨d0, d1, d2, d3⟩ := nodeCells hc k z hz
      have e0 := (hbel.cell (by exact hlt)).trans d0
      have e1 := (hbel.cell (by exact hlt)).trans d1
      have e2 := (hbel.cell (by exact hlt)).trans d2
      have e3 := (hbel.cell (by exact hlt)).trans d3
      have hzp := Z.out.pos
      have hz64 := Z.out.le
      have TS := Lib.hid (text_snoc ds k z hz)
      have htk := text_take_le ds k
      obtain ⟨cl, hcl⟩ : ∃ cl, cl = z.cs.length := ⟨_, rfl⟩
      have CL := Lib.hid hcl
      have IX := Lib.hid (show (ints z.cs).length = cl * 1 by rw [ints_len, ← CL.out, Nat.mul_one])
      rw [← hcl] at e0 e1 hzp hz64
      obtain ⟨m, hm⟩ : ∃ m, m = (text (ds.take k)).length := ⟨_, rfl⟩
      have M := Lib.hid hm
      rw [← hm] at hown htk
      have OW := Lib.hid hown
      have BB := Lib.hid hbel
      have hwsz := hbel.size
      have HX := fun o => ints_holds (w := wr.alloc o) (Z.out.alloc o).cell
      have HXX := Lib.hid HX
      clear d0 d1 d2 d3 hcl hm hown hbel HX hc hz
      go_wp2_with (at_builtin; (refine wpList_append_own _ rfl _ _ 22 rfl w3.heap.size 21 i1 _ 1 4 Try.underlying22 hi1 hy0 hy1 hy2 rfl (by decide) _ m (ints (text (ds.take k))) rfl (OW.out.alloc _) ⟨z.g, z.o, none⟩ cl cl (ints z.cs) rfl IX.out (HXX.out _) (ints_one _) (by unfold maxLen; omega) (by omega) (by simp; omega) ?_))
      intro v' w6 hown6 hg6 _
      have O6 := Lib.hid hown6
      have B6 := Lib.hid (show Below w3.heap.size w3 w6 from (BB.out.alloc (by omega) _).grown hg6 (by simp; omega) (fun k hk => (OW.out.lt k hk).1))
      clear hown6 hg6
      go_wp2
      go_roundw
      case rel =>
        refine ⟨k + 1, by omega, by go_num, ?_, B6.out⟩
        have h := O6.out
        rw [TS.out, List.length_append, ← M.out, ← CL.out]
        rw [show ints (text (ds.take k) ++ z.cs) = ints (text (ds.take k)) ++ ints z.cs by simp [ints]]
        exact h
      case measure => simp [intOf]; omega
    · have hk' : k = n3 := by omega
      have e : ds.take k = ds := List.take_of_length_le (by have := NN.out.len; omega)
      rw [e] at hown
      have O := Lib.hid hown
      have B := Lib.hid hbel
      clear hown hbel e hk'
      go_wp2
      go_ret2
      have h := O.out
      rw [T3.out] at h
      exact ⟨_, rfl, own_mono h B3.out.size, B3.out.trans (B.out.mono B3.out.size)⟩
end Go.Proofs.Ytlijkejadjkbcaa
