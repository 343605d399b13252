/- The contracts of Of, Line, Bytes. -/
import Derived.Test.YtlijkejadjkbcaaSmall
import Derived.Test.YtlijkejadjkbcaaJoin
namespace Go.Proofs.Ytlijkejadjkbcaa
open Go Go.RowKit

theorem between_yes (rb : Nat) (ns : List Nd) (x y : Int) (w : World) (h : RopeAt w rb ns) (hb : 0 ≤ x ∧ x ≤ y ∧ y ≤ (text ns).length) :
    Calls Try.prog 28 #[.pointer (some ⟨rb, 0, none⟩), .int .i64 x, .int .i64 y] w fun e w' => e = .returned (.bool true) ∧ Below w.heap.size w w' := by
  have := between rb ns x y w h
  rw [decide_eq_true hb] at this
  exact this
theorem between_no (rb : Nat) (ns : List Nd) (x y : Int) (w : World) (h : RopeAt w rb ns) (hb : ¬ (0 ≤ x ∧ x ≤ y ∧ y ≤ (text ns).length)) :
    Calls Try.prog 28 #[.pointer (some ⟨rb, 0, none⟩), .int .i64 x, .int .i64 y] w fun e w' => e = .returned (.bool false) ∧ Below w.heap.size w w' := by
  have := between rb ns x y w h
  rw [decide_eq_false hb] at this
  exact this

/-- What split leaves. -/
def Cut (w : World) (rb : Nat) (zs : List Int) (q : Nat) (e : Ending) (w' : World) : Prop :=
  ∃ a1 n1 c1 bs a2 n2 c2 cs, e = .returned (.tuple #[.slice a1 n1 c1, .slice a2 n2 c2]) ∧ Nodes w' (some rb) a1 n1 c1 bs ∧ Nodes w' (some rb) a2 n2 c2 cs ∧ text bs = zs.take q ∧ text cs = zs.drop q ∧ Below w.heap.size w w'

theorem RopeAt.lt {w : World} {rb : Nat} {ns : List Nd} (h : RopeAt w rb ns) : rb < w.heap.size := by
  obtain ⟨⟨a, n, cap, hr, hN⟩, hl⟩ := h
  exact hr.lt
theorem cut (rb : Nat) (a : Option Addr) (n cap : Nat) (ns : List Nd) (q : Nat) (w : World) (hN : Nodes w (some rb) a n cap ns) (hrb : rb < w.heap.size) (hq : q ≤ (text ns).length) (ht : (text ns).length ≤ 2500) :
    Calls Try.prog 29 #[.slice a n cap, .int .i64 q] w (Cut w rb (text ns) q) :=
  split (some rb) a n cap ns q w hN (fun k hk => by cases hk; exact hrb) hq ht
theorem RopeAt.opened {w : World} {rb : Nat} {ns : List Nd} (h : RopeAt w rb ns) : ∃ a n cap, w.rowIs rb 56 1 (fun _ => .slice a n cap) ∧ Nodes w (some rb) a n cap ns ∧ Calls Try.prog 31 #[.pointer (some ⟨rb, 0, none⟩)] w (fun e w' => e = .returned (.slice a n cap) ∧ w = w') := by
  obtain ⟨⟨a, n, cap, hr, hN⟩, hl⟩ := h
  exact ⟨a, n, cap, hr, hN, list rb _ w (hr.cell (by omega))⟩

theorem line_no (rb : Nat) (ns : List Nd) (p : Int) (w : World) (h : RopeAt w rb ns) (hp : ¬ (0 ≤ p ∧ p ≤ (text ns).length)) :
    Calls Try.prog 16 #[.pointer (some ⟨rb, 0, none⟩), .int .i64 p] w fun e w' => e = .returned (.tuple #[.int .i64 0, .int .i64 1]) ∧ Below w.heap.size w w' := by
  have BT := Lib.hid (between_no rb ns p p w h (by omega))
  clear h
  go_enter Try.func16, Try.ntmps16
  go_wp2_with fail
  (with_reducible refine BT.out.mono ?_)
  rintro e w1 ⟨rfl, b1⟩
  go_wp2
  go_ret2
  exact ⟨rfl, b1⟩
theorem bytes_no (rb : Nat) (ns : List Nd) (p : Int) (w : World) (h : RopeAt w rb ns) (hp : ¬ (0 ≤ p ∧ p ≤ (text ns).length)) :
    Calls Try.prog 17 #[.pointer (some ⟨rb, 0, none⟩), .int .i64 p] w fun e w' => e = .returned (.tuple #[.int .i64 0, .int .i64 1]) ∧ Below w.heap.size w w' := by
  have BT := Lib.hid (between_no rb ns p p w h (by omega))
  clear h
  go_enter Try.func17, Try.ntmps17
  go_wp2_with fail
  (with_reducible refine BT.out.mono ?_)
  rintro e w1 ⟨rfl, b1⟩
  go_wp2
  go_ret2
  exact ⟨rfl, b1⟩

theorem line_yes (rb : Nat) (ns : List Nd) (p : Nat) (w : World) (h : RopeAt w rb ns) (hp : p ≤ (text ns).length) :
    Calls Try.prog 16 #[.pointer (some ⟨rb, 0, none⟩), .int .i64 p] w fun e w' => e = .returned (.tuple #[.int .i64 (brk ((text ns).take p)), .int .i64 0]) ∧ Below w.heap.size w w' := by
  have BT := Lib.hid (between_yes rb ns p p w h (by omega))
  have HR := Lib.hid h
  have hle := h.le
  clear h
  have hfd := field1
  go_enter Try.func16, Try.ntmps16
  go_wp2_with fail
  (with_reducible refine BT.out.mono ?_)
  rintro e w1 ⟨rfl, b1⟩
  have B1 := Lib.hid b1
  have R1 := Lib.hid (HR.out.below b1)
  clear b1
  obtain ⟨a, n, cap, _, hN, hL⟩ := R1.out.opened
  have HL := Lib.hid hL
  have CU := Lib.hid (cut rb a n cap ns p w1 hN R1.out.lt hp (by omega))
  clear hN hL
  go_wp2_with fail
  (with_reducible refine HL.out.mono ?_)
  rintro e w' ⟨rfl, rfl⟩
  go_wp2_with fail
  (with_reducible refine CU.out.mono ?_)
  rintro e w2 ⟨a1, n1, c1, bs, a2, n2, c2, cs, rfl, N1, N2, t1, t2, b2⟩
  have CT := Lib.hid (count (some rb) a1 n1 c1 bs w2 N1 (by rw [t1, List.length_take]; omega))
  have B2 := Lib.hid (B1.out.trans (b2.mono B1.out.size))
  have T1 := Lib.hid t1
  clear N1 N2 t1 t2 b2
  go_wp2_with fail
  (with_reducible refine CT.out.mono ?_)
  rintro e w3 ⟨rfl, b3⟩
  have B3 := Lib.hid (B2.out.trans (b3.mono B2.out.size))
  clear b3
  go_wp2
  go_ret2
  exact ⟨by rw [T1.out]; rfl, B3.out⟩
theorem bytes_yes (rb : Nat) (ns : List Nd) (p : Nat) (w : World) (h : RopeAt w rb ns) (hp : p ≤ (text ns).length) :
    Calls Try.prog 17 #[.pointer (some ⟨rb, 0, none⟩), .int .i64 p] w fun e w' => e = .returned (.tuple #[.int .i64 (encCells ((text ns).take p)).length, .int .i64 0]) ∧ Below w.heap.size w w' := by
  have BT := Lib.hid (between_yes rb ns p p w h (by omega))
  have HR := Lib.hid h
  have hle := h.le
  clear h
  have hfd := field2
  go_enter Try.func17, Try.ntmps17
  go_wp2_with fail
  (with_reducible refine BT.out.mono ?_)
  rintro e w1 ⟨rfl, b1⟩
  have B1 := Lib.hid b1
  have R1 := Lib.hid (HR.out.below b1)
  clear b1
  obtain ⟨a, n, cap, _, hN, hL⟩ := R1.out.opened
  have HL := Lib.hid hL
  have CU := Lib.hid (cut rb a n cap ns p w1 hN R1.out.lt hp (by omega))
  clear hN hL
  go_wp2_with fail
  (with_reducible refine HL.out.mono ?_)
  rintro e w' ⟨rfl, rfl⟩
  go_wp2_with fail
  (with_reducible refine CU.out.mono ?_)
  rintro e w2 ⟨a1, n1, c1, bs, a2, n2, c2, cs, rfl, N1, N2, t1, t2, b2⟩
  have CT := Lib.hid (count (some rb) a1 n1 c1 bs w2 N1 (by rw [t1, List.length_take]; omega))
  have B2 := Lib.hid (B1.out.trans (b2.mono B1.out.size))
  have T1 := Lib.hid t1
  clear N1 N2 t1 t2 b2
  go_wp2_with fail
  (with_reducible refine CT.out.mono ?_)
  rintro e w3 ⟨rfl, b3⟩
  have B3 := Lib.hid (B2.out.trans (b3.mono B2.out.size))
  clear b3
  go_wp2
  go_ret2
  exact ⟨by rw [T1.out]; rfl, B3.out⟩

theorem of_bad (a : Option Addr) (n cap : Nat) (zs : List Int) (w : World) (hn : n ≤ 1099511627776) (h : SeqAt .i32 w a n zs) (hv : zs.all Lib.validRune = false) :
    Calls Try.prog 7 #[.slice a n cap] w fun e w' => e = .returned (.tuple #[.pointer none, .int .i64 1]) ∧ Below w.heap.size w w' := by
  have V := Lib.hid (valid a n cap zs w hn h)
  have V' := V.out
  rw [hv] at V'
  have VV := Lib.hid V'
  clear V' V h hv
  go_enter Try.func7, Try.ntmps7
  go_wp2_with fail
  (with_reducible refine VV.out.mono ?_)
  rintro e w' ⟨rfl, rfl⟩
  go_wp2
  go_ret2
  exact ⟨rfl, Below.refl _ _⟩
theorem of_full (a : Option Addr) (n cap : Nat) (zs : List Int) (w : World) (hn : n ≤ 1099511627776) (h : SeqAt .i32 w a n zs) (hv : zs.all Lib.validRune = true) (hf : 2000 < n) :
    Calls Try.prog 7 #[.slice a n cap] w fun e w' => e = .returned (.tuple #[.pointer none, .int .i64 3]) ∧ Below w.heap.size w w' := by
  have V := Lib.hid (valid a n cap zs w hn h)
  have V' := V.out
  rw [hv] at V'
  have VV := Lib.hid V'
  have hf' : (2000 : Int) < (n : Int) := by omega
  clear V' V h hv
  go_enter Try.func7, Try.ntmps7
  go_wp2_with fail
  (with_reducible refine VV.out.mono ?_)
  rintro e w' ⟨rfl, rfl⟩
  go_wp2
  go_ret2
  exact ⟨rfl, Below.refl _ _⟩
/-- What Of leaves: a rope with this text, in new memory. -/
def Roped (w : World) (zs : List Int) (e : Ending) (w' : World) : Prop :=
  ∃ rb ns, e = .returned (.tuple #[.pointer (some ⟨rb, 0, none⟩), .int .i64 0]) ∧ RopeAt w' rb ns ∧ text ns = zs ∧ w.heap.size ≤ rb ∧ Below w.heap.size w w'
theorem of_good (a : Option Addr) (n cap : Nat) (zs : List Int) (w : World) (hn : n ≤ 2000) (hno : a = none → n = 0 ∧ cap = 0) (h : SeqAt .i32 w a n zs) (hv : zs.all Lib.validRune = true) :
    Calls Try.prog 7 #[.slice a n cap] w (Roped w zs) := by
  have V := Lib.hid (valid a n cap zs w (by omega) h)
  have V' := V.out
  rw [hv] at V'
  have VV := Lib.hid V'
  have HV := Lib.hid hv
  have CL := Lib.hid (clone a n cap zs w (by omega) hno h)
  have hf' : ¬ (2000 : Int) < (n : Int) := by omega
  have HL := Lib.hid h.1
  clear V' V h hv hno
  go_enter Try.func7, Try.ntmps7
  go_wp2_with fail
  (with_reducible refine VV.out.mono ?_)
  rintro e w' ⟨rfl, rfl⟩
  go_wp2_with fail
  (with_reducible refine CL.out.mono ?_)
  rintro e w1 ⟨a1, c1, rfl, hc1, hs1, b1⟩
  have CH := Lib.hid (chop none a1 n c1 zs w1 (by omega) hc1 HV.out (fun k hk => by cases hk) (hs1 none (fun k hk => by cases hk)))
  have B1 := Lib.hid b1
  clear hs1 b1
  go_wp2_with fail
  (with_reducible refine CH.out.mono ?_)
  rintro e w2 ⟨a2, n2, c2, ns, rfl, N2, t2, b2⟩
  have B2 := Lib.hid (B1.out.trans (b2.mono B1.out.size))
  have NN := Lib.hid N2
  have TT := Lib.hid t2
  clear N2 t2 b2
  go_wp2
  go_ret2
  refine ⟨w2.heap.size, ns, rfl, ⟨⟨a2, n2, c2, ?_, (NN.out.re (Nat.le_refl _)).alloc _⟩, by rw [TT.out, HL.out]; exact hn⟩, TT.out, B2.out.size, B2.out.alloc B2.out.size _⟩
  exact World.rowIs_alloc w2 #[.slice a2 n2 c2] 56 _ (by intro i hi; match i, hi with | 0, _ => rfl)
end Go.Proofs.Ytlijkejadjkbcaa
