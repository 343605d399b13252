/- The contract of Insert. -/
import Derived.Test.YtlijkejadjkbcaaRopeD
namespace Go.Proofs.Ytlijkejadjkbcaa
open Go Go.RowKit

theorem insert_no (rb : Nat) (ns : List Nd) (x : Int) (a : Option Addr) (n c : Nat) (w : World) (h : RopeAt w rb ns) (hp : ¬ (0 ≤ x ∧ x ≤ (text ns).length)) :
    Calls Try.prog 10 #[.pointer (some ⟨rb, 0, none⟩), .int .i64 x, .slice a n c] w fun e w' => e = .returned (.int .i64 1) ∧ Below w.heap.size w w' := by
  have BT := Lib.hid (between_no rb ns x x w h (by omega))
  clear h
  go_enter Try.func10, Try.ntmps10
  go_wp2_with fail
  (with_reducible refine BT.out.mono ?_)
  rintro e w1 ⟨rfl, b1⟩
  go_wp2
  go_ret
  exact ⟨rfl, b1⟩
theorem insert_bad (rb : Nat) (ns : List Nd) (x : Int) (a : Option Addr) (n c : Nat) (zs : List Int) (w : World) (h : RopeAt w rb ns) (hp : 0 ≤ x ∧ x ≤ (text ns).length) (hn : n ≤ 1099511627776) (hs : SeqAt .i32 w a n zs) (hv : zs.all Lib.validRune = false) :
    Calls Try.prog 10 #[.pointer (some ⟨rb, 0, none⟩), .int .i64 x, .slice a n c] w fun e w' => e = .returned (.int .i64 1) ∧ Below w.heap.size w w' := by
  have BT := Lib.hid (between_yes rb ns x x w h (by omega))
  have HV := Lib.hid hv
  have HS := Lib.hid hs
  clear h hv hs
  go_enter Try.func10, Try.ntmps10
  go_wp2_with fail
  (with_reducible refine BT.out.mono ?_)
  rintro e w1 ⟨rfl, b1⟩
  have V := valid a n c zs w1 hn (HS.out.below b1)
  rw [HV.out] at V
  have VV := Lib.hid V
  have B1 := Lib.hid b1
  clear V b1
  go_wp2_with fail
  (with_reducible refine VV.out.mono ?_)
  rintro e w' ⟨rfl, rfl⟩
  go_wp2
  go_ret
  exact ⟨rfl, B1.out⟩
theorem insert_full (rb : Nat) (ns : List Nd) (x : Int) (a : Option Addr) (n c : Nat) (zs : List Int) (w : World) (h : RopeAt w rb ns) (hp : 0 ≤ x ∧ x ≤ (text ns).length) (hn : n ≤ 1099511627776) (hs : SeqAt .i32 w a n zs) (hv : zs.all Lib.validRune = true) (hf : 2000 < (text ns).length + n) :
    Calls Try.prog 10 #[.pointer (some ⟨rb, 0, none⟩), .int .i64 x, .slice a n c] w fun e w' => e = .returned (.int .i64 3) ∧ Below w.heap.size w w' := by
  have BT := Lib.hid (between_yes rb ns x x w h (by omega))
  have HR := Lib.hid h
  have HV := Lib.hid hv
  have HS := Lib.hid hs
  have hle := h.le
  obtain ⟨L, hL⟩ : ∃ L, L = (text ns).length := ⟨_, rfl⟩
  rw [← hL] at hf hle hp
  have HL := Lib.hid hL
  have hf1 : (2000 : Int) - (L : Int) < (n : Int) := by omega
  clear h hv hs hL
  go_enter Try.func10, Try.ntmps10
  go_wp2_with fail
  (with_reducible refine BT.out.mono ?_)
  rintro e w1 ⟨rfl, b1⟩
  have V := valid a n c zs w1 hn (HS.out.below b1)
  rw [HV.out] at V
  have VV := Lib.hid V
  have LN := len rb ns w1 (HR.out.below b1)
  rw [← HL.out] at LN
  have LL := Lib.hid LN
  have B1 := Lib.hid b1
  clear V b1 LN
  go_wp2_with fail
  (with_reducible refine VV.out.mono ?_)
  rintro e w' ⟨rfl, rfl⟩
  go_wp2_with fail
  (with_reducible refine LL.out.mono ?_)
  rintro e w2 ⟨rfl, b2⟩
  have B2 := Lib.hid (B1.out.trans (b2.mono B1.out.size))
  clear b2
  go_wp2
  go_ret
  exact ⟨rfl, B2.out⟩

set_option maxHeartbeats 2000000 in
theorem insert_yes (rb : Nat) (ns : List Nd) (x : Nat) (a : Option Addr) (n c : Nat) (zs : List Int) (w : World) (h : RopeAt w rb ns) (hp : x ≤ (text ns).length) (hno : a = none → n = 0 ∧ c = 0) (hs : SeqAt .i32 w a n zs) (hv : zs.all Lib.validRune = true) (hf : (text ns).length + n ≤ 2000) :
    Calls Try.prog 10 #[.pointer (some ⟨rb, 0, none⟩), .int .i64 x, .slice a n c] w (Edited w rb ((text ns).take x ++ zs ++ (text ns).drop x)) := by
  have BT := Lib.hid (between_yes rb ns x x w h (by omega))
  have HR := Lib.hid h
  have HV := Lib.hid hv
  have HS := Lib.hid hs
  have HNO := Lib.hid hno
  have hle := h.le
  obtain ⟨L, hL⟩ : ∃ L, L = (text ns).length := ⟨_, rfl⟩
  rw [← hL] at hf hle hp
  have HL := Lib.hid hL
  have hf1 : ¬ (2000 : Int) - (L : Int) < (n : Int) := by omega
  clear h hv hs hL hno
  go_enter Try.func10, Try.ntmps10
  go_wp2_with fail
  (with_reducible refine BT.out.mono ?_)
  rintro e w1 ⟨rfl, b1⟩
  have V := valid a n c zs w1 (by omega) (HS.out.below b1)
  rw [HV.out] at V
  have VV := Lib.hid V
  have LN := len rb ns w1 (HR.out.below b1)
  rw [← HL.out] at LN
  have LL := Lib.hid LN
  have B1 := Lib.hid b1
  clear V b1 LN
  go_wp2_with fail
  (with_reducible refine VV.out.mono ?_)
  rintro e w' ⟨rfl, rfl⟩
  go_wp2_with fail
  (with_reducible refine LL.out.mono ?_)
  rintro e w2 ⟨rfl, b2⟩
  have B2 := Lib.hid (B1.out.trans (b2.mono B1.out.size))
  have R2 := Lib.hid (HR.out.below B2.out)
  clear b2
  obtain ⟨ar, nr, cr, hW, hN, _⟩ := R2.out.opened
  have hc0 : w2.cell? ⟨rb, 0, none⟩ = some (.slice ar nr cr) := hW.cell (by omega)
  have RW := Lib.hid hW
  have CU := Lib.hid (cut rb ar nr cr ns x w2 hN R2.out.lt (by have := HL.out; omega) (by have := HL.out; omega))
  clear hN hW
  go_wp2_with fail
  (with_reducible refine CU.out.mono ?_)
  rintro e w3 ⟨a1, n1, c1, bs, a2, n2, c2, cs, rfl, N1, N2, t1, t2, b3⟩
  have B3 := Lib.hid b3
  have NN1 := Lib.hid N1
  have NN2 := Lib.hid N2
  have T1 := Lib.hid t1
  have T2 := Lib.hid t2
  have CL := Lib.hid (clone a n c zs w3 (by omega) HNO.out ((HS.out.below B2.out).below (b3.mono (Nat.le_refl _))))
  have hlt3 : rb < w3.heap.size := Nat.lt_of_lt_of_le R2.out.lt b3.size
  clear N1 N2 t1 t2 b3 hc0
  go_wp2_with fail
  (with_reducible refine CL.out.mono ?_)
  rintro e w4 ⟨a4, c4, rfl, hc4, hs4, b4⟩
  have B4 := Lib.hid b4
  have hlt4 : rb < w4.heap.size := Nat.lt_of_lt_of_le hlt3 b4.size
  have CH := Lib.hid (chop (some rb) a4 n c4 zs w4 (by omega) hc4 HV.out (fun k hk => by cases hk; exact hlt4) (hs4 (some rb) (fun k hk => by cases hk; exact hlt3)))
  clear hs4 b4
  go_wp2_with fail
  (with_reducible refine CH.out.mono ?_)
  rintro e w5 ⟨a5, n5, c5, ds, rfl, N5, t5, b5⟩
  have B35 := Lib.hid (B4.out.trans (b5.mono B4.out.size))
  have B5 := Lib.hid (B3.out.trans (B35.out.mono B3.out.size))
  have T5 := Lib.hid t5
  have P := part_holds w5 rb [⟨a1, n1, c1, bs⟩, ⟨a5, n5, c5, ds⟩, ⟨a2, n2, c2, cs⟩] (by
    intro p hp
    simp only [List.mem_cons, List.not_mem_nil, or_false] at hp
    rcases hp with rfl | rfl | rfl
    · exact NN1.out.below B35.out
    · exact N5
    · exact NN2.out.below B35.out)
  have T3 := Lib.hid (show text bs ++ (text ds ++ text cs) = (text ns).take x ++ zs ++ (text ns).drop x by rw [T1.out, T5.out, T2.out, List.append_assoc])
  have hlen : ((text ns).take x ++ zs ++ (text ns).drop x).length ≤ 2000 := by
    have := HS.out.1
    have := HL.out
    rw [List.length_append, List.length_append, List.length_take, List.length_drop]; omega
  have hlt5 : rb < w5.heap.size := Nat.lt_of_lt_of_le hlt3 B35.out.size
  have JN := Lib.hid (join (some rb) w5.heap.size 3 [⟨a1, n1, c1, bs⟩, ⟨a5, n5, c5, ds⟩, ⟨a2, n2, c2, cs⟩] (w5.alloc (Obj.cells (partCells [⟨a1, n1, c1, bs⟩, ⟨a5, n5, c5, ds⟩, ⟨a2, n2, c2, cs⟩]).toArray 52)) rfl (by omega) (fun k hk => by cases hk; simp; omega) (by simp) P (by simp only [texts, List.flatMap_cons, List.flatMap_nil, List.append_nil]; rw [T3.out]; omega))
  simp only [partCells, List.map_cons, List.map_nil] at JN
  clear N5 t5 b5 P
  go_wp2_with fail
  (with_reducible refine JN.out.mono ?_)
  rintro e w6 ⟨a6, n6, c6, fs, rfl, N6, t6, b6⟩
  have B6 := Lib.hid (show Below w2.heap.size w2 w6 from (B5.out.alloc B5.out.size _).trans (b6.mono (by have := B5.out.size; simp; omega)))
  have hr6 := RW.out.of_block (B6.out.block rb RW.out.lt)
  have hc6 : w6.cell? ⟨rb, 0, none⟩ = some (.slice ar nr cr) := hr6.cell (by omega)
  have hf6 := hr6.frozen 0
  have NN6 := Lib.hid N6
  have T6 := Lib.hid (show text fs = (text ns).take x ++ zs ++ (text ns).drop x by
    rw [t6, ← T3.out]; simp [texts])
  have HLL := Lib.hid hlen
  clear N6 t6 b6 hr6 hlen
  go_wp2
  go_ret
  obtain ⟨r1, r2, r3⟩ := stored RW.out B6.out NN6.out (by rw [T6.out]; exact HLL.out)
  exact ⟨fs, rfl, r1, T6.out, (B2.out.mono (Nat.le_of_lt HR.out.lt)).trans r2, (But.of B2.out).trans (r3.mono B2.out.size)⟩
end Go.Proofs.Ytlijkejadjkbcaa
