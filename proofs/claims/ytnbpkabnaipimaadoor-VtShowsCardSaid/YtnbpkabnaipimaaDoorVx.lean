/- The contract of put: a rune is written. Conditions: a terminal in memory; the rune is one of painting; the listed variables hold what their initialisers lay. -/
import Derived.Test.YtnbpkabnaipimaaDoorVu
import Derived.Test.YtnbpkabnaipimaaDoorVm
import Derived.Test.YtnbpkabnaipimaaDoorVw
import Derived.Test.YtnbpkabnaipimaaDoorVa
namespace Go.Proofs.YtnbpkabnaipimaaDoor
open Go Go.RowKit Go.Lib

theorem cells_at {w : World} {B g m gk : Nat} {L : List Cl} (h : w.ownsRow B 47 2 (.slice (some ⟨g, 0, none⟩) m gk) m (flat L)) {i o : Nat} {x : Cl} (ho : i * 2 = o) (hx : L[i]? = some x) :
    w.cell? ⟨g, o, none⟩ = some (.int .i32 x.r) ∧ w.frozen? ⟨g, o, none⟩ = false ∧ w.cell? ⟨g, o + 1, none⟩ = some (.int .i64 x.s) ∧ w.frozen? ⟨g, o + 1, none⟩ = false := by
  subst ho
  obtain ⟨⟨a, b⟩, c, d⟩ := own_at h hx
  exact ⟨a, b, c, d⟩

/-- A terminal while a rune is written. -/
structure PutAt (F : Nat → Prop) (B p g m gk : Nat) (vs : List Value) (L : List Cl) (w W : World) : Prop where
  only : Only F B w W
  rest : ∀ k, F k → k ≠ p → k ≠ g → W.heap[k]? = w.heap[k]?
  obj : TAt W p vs
  own : W.ownsRow 0 47 2 (.slice (some ⟨g, 0, none⟩) m gk) m (flat L)
theorem Only.below' {F : Nat → Prop} {B : Nat} {w W W' : World} (h : Only F B w W) (hb : Below W.heap.size W W') (hB : B ≤ W.heap.size) : Only F B w W' :=
  ⟨h.below.trans (hb.mono hB), fun k hk hn => (hb.block k (Nat.lt_of_lt_of_le hk h.below.size)).trans (h.rest k hk hn)⟩
theorem Only.set' {F : Nat → Prop} {B : Nat} {w W : World} (h : Only F B w W) {a : Addr} (ha : F a.block) (hB : B ≤ a.block) (v : Value) : Only F B w (W.setCell a v) :=
  ⟨h.below.setCell hB v, fun k hk hn => (Below.heap_setCell W a v k (fun e => hn (by rw [e]; exact ha))).trans (h.rest k hk hn)⟩
theorem PutAt.below {F : Nat → Prop} {B p g m gk : Nat} {v : Value} {vs : List Value} {L : List Cl} {w W W' : World} (h : PutAt F B p g m gk (v :: vs) L w W) (hF : ∀ k, F k → k < w.heap.size) (hB : B ≤ p) (hb : Below W.heap.size W W') : PutAt F B p g m gk (v :: vs) L w W' :=
  ⟨h.only.below' hb (Nat.le_trans hB (Nat.le_of_lt h.obj.lt)), fun k hk h1 h2 => (hb.block k (Nat.lt_of_lt_of_le (hF k hk) h.only.below.size)).trans (h.rest k hk h1 h2), h.obj.below hb, own_below h.own hb⟩
theorem PutAt.cell {F : Nat → Prop} {B p g m gk : Nat} {vs : List Value} {L : List Cl} {w W : World} (h : PutAt F B p g m gk vs L w W) (hg : F g) (hgB : B ≤ g) (hgp : g ≠ p) {i o : Nat} (ho : i * 2 = o) (hi : i < m) (x : Cl) : PutAt F B p g m gk vs (L.set i x) w ((W.setCell ⟨g, o, none⟩ (.int .i32 x.r)).setCell ⟨g, o + 1, none⟩ (.int .i64 x.s)) := by
  subst ho
  refine ⟨(h.only.set' hg hgB _).set' hg hgB _, fun k hk h1 h2 => ?_, (h.obj.other hgp _).other hgp _, own_put h.own hi x⟩
  rw [Below.heap_setCell _ _ _ k h2, Below.heap_setCell _ _ _ k h2]
  exact h.rest k hk h1 h2
theorem PutAt.field {F : Nat → Prop} {B p g m gk : Nat} {vs : List Value} {L : List Cl} {w W : World} (h : PutAt F B p g m gk vs L w W) (hp : F p) (hpB : B ≤ p) (hgp : g ≠ p) (i : Nat) (v : Value) : PutAt F B p g m gk (vs.set i v) L w (W.setCell ⟨p, i, none⟩ v) := by
  refine ⟨h.only.set' hp hpB _, fun k hk h1 h2 => ?_, h.obj.set i v, own_block h.own (Below.heap_setCell W _ v g (fun e => hgp e))⟩
  rw [Below.heap_setCell _ _ _ k h1]
  exact h.rest k hk h1 h2

set_option maxHeartbeats 8000000 in
set_option maxRecDepth 20000 in
theorem putT (p : Nat) (F : Nat → Prop) (r c : Nat) (s s' : Scr) (wt : List Int) (B : Nat) (x : Int) (w : World) (hW : Wd w) (h : Trm w p F r c s wt) (hFB : ∀ j, F j → B ≤ j) (hD : Does wd okR s (.rune x) s') :
    Calls Tryd.prog 34 #[.pointer (some ⟨p, 0, none⟩), .int .i32 x] w fun e w' => e = .returned (.tuple #[]) ∧ Turned p F r c s' wt B w w' := by
  have hI' := Does.keeps wd okR okR_space h.inv hD
  obtain ⟨n, y, hn, hwx, hok, hrow, hcol, hst, hcn, ⟨c0, hc0, hc0r⟩, hbeh, hflat⟩ := put_pure h.inv hD
  have hrlt := h.inv.row
  have hr60 := h.r60
  have hc60 := h.c60
  have hs07 := h.inv.st
  obtain ⟨q, hq⟩ : ∃ q, q = s.row * c := ⟨_, rfl⟩
  obtain ⟨m, hm⟩ : ∃ m, m = r * c := ⟨_, rfl⟩
  have hm36 : m ≤ 3600 := by rw [hm]; exact Nat.mul_le_mul hr60 hc60
  have hqm : q + c ≤ m := by
    have := Nat.mul_le_mul_right c (show s.row + 1 ≤ r from hrlt)
    rw [Nat.succ_mul] at this
    rw [hq, hm]
    exact this
  have hqI : (s.row : Int) * (c : Int) = (q : Int) := by rw [hq]; simp
  have hpF := h.pF
  have hplt := h.lt p hpF
  obtain ⟨g, gk, a, wn, wk, hg, hgp, hgk, hT, ho, hw⟩ := h.mem
  have hglt := h.lt g hg
  rw [← hm] at hgk ho
  rw [← hq] at hc0 hbeh hflat
  unfold scrV at hT
  rw [← hm] at hT
  obtain ⟨j, hj⟩ : ∃ j, j = s.col + n := ⟨_, rfl⟩
  have hjc : j ≤ c := by omega
  have hjI : (s.col : Int) + (n : Int) = (j : Int) := by omega
  have hwj : IntKind.i64.wrap (j : Int) = (j : Int) := IntWalk.i64_in _ (by omega)
  have hsub : IntKind.i64.wrap ((c : Int) - (s.col : Int)) = (c : Int) - (s.col : Int) := IntWalk.i64_in _ (by omega)
  have hfit : ¬ ((c : Int) - (s.col : Int) < (n : Int)) := by omega
  obtain ⟨oc, hoc⟩ : ∃ oc, q * 2 + s.col * 2 = oc := ⟨_, rfl⟩
  obtain ⟨ob, hob⟩ : ∃ ob, q * 2 + j * 2 = ob := ⟨_, rfl⟩
  have HO := Lib.hid ho
  have HT := Lib.hid hT
  have HH := Lib.hid h
  have HI' := Lib.hid hI'
  have HW := Lib.hid hW
  have HWT := Lib.hid hw
  have HOF := Lib.hid (of x w hW.tab)
  rw [hwx] at HOF
  have HSH := Lib.hid (fun (W : World) (hb : Below w.heap.size w W) => isShown x W (hW.below hb).tab)
  rw [hok] at HSH
  have HRO := Lib.hid (fun (W : World) => rowOf (r : Int) s.row q c g 0 m gk W hqI h.c1 hqm hgk (by omega) (by omega))
  have HQ := Lib.hid hq
  have HM := Lib.hid hm
  have HC0 := Lib.hid hc0
  have HBE := Lib.hid hbeh
  have HFL := Lib.hid hflat
  have HJ := Lib.hid hj
  have HCOL := Lib.hid hcol
  have HROW := Lib.hid hrow
  have HST := Lib.hid hst
  clear hW h hI' hT ho hw hq hm hc0 hbeh hflat hcol hrow hst hj hwx hok hD
  go_enter Tryd.func34, Tryd.ntmps34
  go_wp2_with fail
  (with_reducible refine HOF.out.mono ?_)
  rintro e w1 ⟨rfl, hb1⟩
  have T1 := HT.out.below hb1
  obtain ⟨c1, _⟩ := T1 1 _ rfl
  obtain ⟨c4, _⟩ := T1 4 _ rfl
  have HB1 := Lib.hid hb1
  have HT1 := Lib.hid T1
  have hs1 := hb1.size
  have KS1 := Lib.hid (fun (W : World) (hbz : Below w1.heap.size w1 W) => (show Below w1.heap.size w1 W ∧ W.cell? ⟨p, 1, none⟩ = some (.int .i64 c) ∧ W.cell? ⟨p, 4, none⟩ = some (.int .i64 s.col) from ⟨hbz, (HT1.out.below hbz 1 _ rfl).1, (HT1.out.below hbz 4 _ rfl).1⟩))
  clear hb1 HOF T1
  go_wp2_with fail
  go_region_held3 (fun W => Below w1.heap.size w1 W ∧ W.cell? ⟨p, 1, none⟩ = some (.int .i64 c) ∧ W.cell? ⟨p, 4, none⟩ = some (.int .i64 s.col))
    (first | assumption | exact KS1.out _ (Below.refl _ _).drew | exact KS1.out _ (Below.refl _ _) | exact KS1.out _ (by assumption))
    (first | (go_at_call 26; (with_reducible refine (HSH.out _ (HB1.out.trans ((And.left (a := Below w1.heap.size w1 _) (by assumption)).mono hs1))).mono ?_); rintro e w' ⟨rfl, hb⟩; have hb := Below.trans (And.left (a := Below w1.heap.size w1 _) (by assumption)) (hb.mono (And.left (a := Below w1.heap.size w1 _) (by assumption)).size)))
  have hb2 := And.left (a := Below w1.heap.size w1 _) (by assumption)
  obtain ⟨w2, hw2⟩ : ∃ w2, w2 = w' := ⟨_, rfl⟩
  rw [← hw2] at hb2 ⊢
  have HB2 := Lib.hid (HB1.out.trans (hb2.mono hs1))
  have T2 := HT.out.below HB2.out
  have hs2 := HB2.out.size
  have HT2 := Lib.hid T2
  clear hw2 hb2 T2 KS1 HB1 HT1 c1 c4
  have KS2 := Lib.hid (fun (W : World) (hbz : Below w2.heap.size w2 W) => (show Below w2.heap.size w2 W ∧ W.cell? ⟨p, 0, none⟩ = some (.int .i64 r) ∧ W.cell? ⟨p, 1, none⟩ = some (.int .i64 c) ∧ W.cell? ⟨p, 2, none⟩ = some (.slice (some ⟨g, 0, none⟩) m gk) ∧ W.cell? ⟨p, 3, none⟩ = some (.int .i64 s.row) from ⟨hbz, (HT2.out.below hbz 0 _ rfl).1, (HT2.out.below hbz 1 _ rfl).1, (HT2.out.below hbz 2 _ rfl).1, (HT2.out.below hbz 3 _ rfl).1⟩))
  go_wp2_with fail
  go_region_held3 (fun W => Below w2.heap.size w2 W ∧ W.cell? ⟨p, 0, none⟩ = some (.int .i64 r) ∧ W.cell? ⟨p, 1, none⟩ = some (.int .i64 c) ∧ W.cell? ⟨p, 2, none⟩ = some (.slice (some ⟨g, 0, none⟩) m gk) ∧ W.cell? ⟨p, 3, none⟩ = some (.int .i64 s.row))
    (first | assumption | exact KS2.out _ (Below.refl _ _).drew | exact KS2.out _ (Below.refl _ _) | exact KS2.out _ (by assumption))
    (first | (go_at_call 16; (with_reducible refine (HRO.out _).mono ?_); rintro e w' ⟨rfl, hb⟩; have hb := Below.trans (And.left (a := Below w2.heap.size w2 _) (by assumption)) (hb.mono (And.left (a := Below w2.heap.size w2 _) (by assumption)).size)))
  have hb3 := And.left (a := Below w2.heap.size w2 _) (by assumption)
  obtain ⟨w3, hw3⟩ : ∃ w3, w3 = w' := ⟨_, rfl⟩
  rw [← hw3] at hb3 ⊢
  have HB3 := Lib.hid (HB2.out.trans (hb3.mono hs2))
  have T3 := HT.out.below HB3.out
  have hs3 := HB3.out.size
  obtain ⟨d0, f0⟩ := T3 0 _ rfl
  obtain ⟨d4, f4⟩ := T3 4 _ rfl
  obtain ⟨d5, f5⟩ := T3 5 _ rfl
  have O3 := own_below HO.out HB3.out
  obtain ⟨r0, _, _, _⟩ := cells_at O3 (o := oc) (by omega) HC0.out
  have hz : (c0.r == 0) = false := beq_eq_false_iff_ne.2 hc0r
  have hcl : (s.col : Int) < (c : Int) := by omega
  have hc0' : (0 : Int) ≤ (s.col : Int) := by omega
  have HT3 := Lib.hid T3
  have HO3 := Lib.hid O3
  clear hw3 hb3 T3 O3 KS2 HB2 HT2
  have hgB := hFB g hg
  have hpB := hFB p hpF
  have P3 := Lib.hid (show PutAt F B p g m gk [.int .i64 r, .int .i64 c, .slice (some ⟨g, 0, none⟩) m gk, .int .i64 s.row, .int .i64 s.col, .int .i64 s.st, .slice a wn wk] s.g.flatten w w3 from ⟨⟨HB3.out.mono (by omega), fun k hk _ => HB3.out.block k hk⟩, fun k hk _ _ => HB3.out.block k (HH.out.lt k hk), HT3.out, HO3.out⟩)
  have hne2 : n = 1 → ((n : Int) == 2) = false := fun e => beq_eq_false_iff_ne.2 (by omega)
  have heq2 : n = 2 → ((n : Int) == 2) = true := fun e => by rw [e]; rfl
  have FIN := Lib.hid (fun (W : World) (L : List Cl) (hL : L = s'.g.flatten) (hP : PutAt F B p g m gk [.int .i64 r, .int .i64 c, .slice (some ⟨g, 0, none⟩) m gk, .int .i64 s.row, .int .i64 j, .int .i64 s.st, .slice a wn wk] L w W) => (show Turned p F r c s' wt B w W from
    ⟨F, ⟨HH.out.r1, HH.out.r60, HH.out.c1, HH.out.c60, HI'.out, hpF, fun k hk => Nat.lt_of_lt_of_le (HH.out.lt k hk) hP.only.below.size, HH.out.top, g, gk, a, wn, wk, hg, hgp, by rw [← HM.out]; exact hgk, by
      unfold scrV
      rw [← HM.out, HROW.out, HCOL.out, HST.out, ← HJ.out]
      exact hP.obj, by rw [← HM.out, ← hL]; exact hP.own, HWT.out.stay hP.only.below.size hP.rest⟩, fun _ h => .inl h, hP.only⟩))
  cases y
  · rcases HBE.out with hend | ⟨hmid, e, he, her⟩
    · have hjn : ¬ (j : Int) < (c : Int) := by have := HJ.out; omega
      go_wp2_with fail
      obtain ⟨W5, hW5⟩ : ∃ W5, W5 = (w3.alloc (Obj.cells #[.int .i32 x, .int .i64 s.st] 47)) := ⟨_, rfl⟩
      have l0 : W5.cell? ⟨w3.heap.size, 0, none⟩ = some (.int .i32 x) := by rw [hW5]; go_simp
      have l1 : W5.cell? ⟨w3.heap.size, 1, none⟩ = some (.int .i64 s.st) := by rw [hW5]; go_simp
      have hP5 : PutAt F B p g m gk [.int .i64 r, .int .i64 c, .slice (some ⟨g, 0, none⟩) m gk, .int .i64 s.row, .int .i64 s.col, .int .i64 s.st, .slice a wn wk] s.g.flatten w W5 := by rw [hW5]; exact P3.out.below HH.out.lt hpB ((Below.refl _ _).alloc (Nat.le_refl _) _)
      have hs5 : w3.heap.size < W5.heap.size := by rw [hW5]; simp
      rw [← hW5]
      clear hW5
      obtain ⟨d4, f4⟩ := hP5.obj 4 _ rfl
      obtain ⟨r0, rf0, r1, rf1⟩ := cells_at hP5.own (o := oc) (by omega) HC0.out
      have P5 := Lib.hid hP5
      clear hP5
      rcases hn with hn1 | hn1
      · have hnb := hne2 hn1
        clear hne2 heq2
        go_region_law (first | fail)
        all_goals
          have hP6 := (P5.out.cell hg hgB hgp (i := q + s.col) (o := oc) (by omega) (by omega) ⟨x, s.st⟩).below HH.out.lt hpB (Below.refl _ _).drew
          obtain ⟨W6, hW6⟩ : ∃ W6, W6 = ((W5.setCell ⟨g, oc, none⟩ (.int .i32 x)).setCell ⟨g, oc + 1, none⟩ (.int .i64 s.st)).drew := ⟨_, rfl⟩
          rw [← hW6] at hP6 ⊢
          obtain ⟨d4', f4'⟩ := hP6.obj 4 _ rfl
          have hFE := FIN.out _ _ (by rw [HFL.out, hn1]; simp [putL]) (hP6.field hpF hpB hgp 4 (.int .i64 j))
          have HFE := Lib.hid hFE
          clear hW6 hP6 hFE
          go_simp
          go_wp2
          go_end0
          exact ⟨rfl, HFE.out⟩
      · have hnb := heq2 hn1
        clear hne2 heq2
        obtain ⟨k1, hk1⟩ : ∃ k1, k1 = s.col + 1 := ⟨_, rfl⟩
        have hk1I : (s.col : Int) + 1 = (k1 : Int) := by omega
        have hwk1 : IntKind.i64.wrap (k1 : Int) = (k1 : Int) := IntWalk.i64_in _ (by omega)
        have hk1c : (k1 : Int) < (c : Int) := by omega
        have hk10 : (0 : Int) ≤ (k1 : Int) := by omega
        obtain ⟨od, hod⟩ : ∃ od, q * 2 + k1 * 2 = od := ⟨_, rfl⟩
        have HK1 := Lib.hid hk1
        clear hk1
        go_region_law (first | fail)
        all_goals
          have hP6 := (P5.out.cell hg hgB hgp (i := q + s.col) (o := oc) (by omega) (by omega) ⟨x, s.st⟩).below HH.out.lt hpB (Below.refl _ _).drew
          obtain ⟨W6, hW6⟩ : ∃ W6, W6 = ((W5.setCell ⟨g, oc, none⟩ (.int .i32 x)).setCell ⟨g, oc + 1, none⟩ (.int .i64 s.st)).drew := ⟨_, rfl⟩
          have l0' : W6.cell? ⟨w3.heap.size, 0, none⟩ = some (.int .i32 x) := by
            rw [hW6, World.cell?_drew, World.cell?_setCell_other _ _ _ _ (by intro e; have e' := congrArg Addr.block e; simp only at e'; omega), World.cell?_setCell_other _ _ _ _ (by intro e; have e' := congrArg Addr.block e; simp only at e'; omega)]
            exact l0
          have l1' : W6.cell? ⟨w3.heap.size, 1, none⟩ = some (.int .i64 s.st) := by
            rw [hW6, World.cell?_drew, World.cell?_setCell_other _ _ _ _ (by intro e; have e' := congrArg Addr.block e; simp only at e'; omega), World.cell?_setCell_other _ _ _ _ (by intro e; have e' := congrArg Addr.block e; simp only at e'; omega)]
            exact l1
          have hs6 : w3.heap.size < W6.heap.size := by rw [hW6]; exact Nat.lt_of_lt_of_le hs5 (by simp)
          rw [← hW6] at hP6 ⊢
          obtain ⟨d4', f4'⟩ := hP6.obj 4 _ rfl
          have P6 := Lib.hid hP6
          clear hW6 hP6
          obtain ⟨e1, he1⟩ : ∃ e1, ((s.g.flatten).set (q + s.col) ⟨x, s.st⟩)[q + k1]? = some e1 := ⟨_, List.getElem?_eq_getElem (by have h1 := P6.out.own.1; rw [flat_len] at h1; omega)⟩
          have HE1 := Lib.hid he1
          clear he1
          go_simp
          go_wp2_with fail
          have HN1 := Lib.hid hn1
          clear hjI hwj hsub hfit hqI hob hoc hcl hz hnb hn1 hcn hjc hjn
          go_region_with (go_at_call 27; (with_reducible refine (second _ _ _).mono ?_); rintro e w7 ⟨rfl, hb⟩; have hP7 := (P6.out.below HH.out.lt hpB (Below.refl _ _).drew).below HH.out.lt hpB hb; obtain ⟨d4'', f4''⟩ := hP7.obj 4 _ rfl; obtain ⟨v0, vf0, v1, vf1⟩ := cells_at hP7.own (o := od) (by omega) HE1.out; have P7 := Lib.hid hP7; clear hP7 hb)
          all_goals
            have hP8 := P7.out.cell hg hgB hgp (i := q + k1) (o := od) (by omega) (by omega) ⟨0, s.st⟩
            obtain ⟨W8, hW8⟩ : ∃ W8, W8 = ((w7.setCell ⟨g, od, none⟩ (.int .i32 0)).setCell ⟨g, od + 1, none⟩ (.int .i64 s.st)) := ⟨_, rfl⟩
            rw [← hW8] at hP8 ⊢
            obtain ⟨d9, f9⟩ := hP8.obj 4 _ rfl
            have hFE := FIN.out _ _ (by rw [HFL.out, HN1.out, HK1.out]; simp [putL, Nat.add_assoc]) (hP8.field hpF hpB hgp 4 (.int .i64 j))
            have HFE := Lib.hid hFE
            clear hW8 hP8 hFE
            go_simp
            go_wp2
            go_end0
            exact ⟨rfl, HFE.out⟩
    · have hjn : (j : Int) < (c : Int) := by have := HJ.out; omega
      have hj0 : (0 : Int) ≤ (j : Int) := by omega
      have hez : (e.r == 0) = false := beq_eq_false_iff_ne.2 her
      obtain ⟨b0, _, _, _⟩ := cells_at HO3.out (i := q + j) (o := ob) (by omega) (by rw [HJ.out, ← Nat.add_assoc]; exact he)
      clear he her
      go_wp2_with fail
      obtain ⟨W5, hW5⟩ : ∃ W5, W5 = (w3.alloc (Obj.cells #[.int .i32 x, .int .i64 s.st] 47)) := ⟨_, rfl⟩
      have l0 : W5.cell? ⟨w3.heap.size, 0, none⟩ = some (.int .i32 x) := by rw [hW5]; go_simp
      have l1 : W5.cell? ⟨w3.heap.size, 1, none⟩ = some (.int .i64 s.st) := by rw [hW5]; go_simp
      have hP5 : PutAt F B p g m gk [.int .i64 r, .int .i64 c, .slice (some ⟨g, 0, none⟩) m gk, .int .i64 s.row, .int .i64 s.col, .int .i64 s.st, .slice a wn wk] s.g.flatten w W5 := by rw [hW5]; exact P3.out.below HH.out.lt hpB ((Below.refl _ _).alloc (Nat.le_refl _) _)
      have hs5 : w3.heap.size < W5.heap.size := by rw [hW5]; simp
      rw [← hW5]
      clear hW5
      obtain ⟨d4, f4⟩ := hP5.obj 4 _ rfl
      obtain ⟨r0, rf0, r1, rf1⟩ := cells_at hP5.own (o := oc) (by omega) HC0.out
      have P5 := Lib.hid hP5
      clear hP5
      rcases hn with hn1 | hn1
      · have hnb := hne2 hn1
        clear hne2 heq2
        go_region_law (first | fail)
        all_goals
          have hP6 := (P5.out.cell hg hgB hgp (i := q + s.col) (o := oc) (by omega) (by omega) ⟨x, s.st⟩).below HH.out.lt hpB (Below.refl _ _).drew
          obtain ⟨W6, hW6⟩ : ∃ W6, W6 = ((W5.setCell ⟨g, oc, none⟩ (.int .i32 x)).setCell ⟨g, oc + 1, none⟩ (.int .i64 s.st)).drew := ⟨_, rfl⟩
          rw [← hW6] at hP6 ⊢
          obtain ⟨d4', f4'⟩ := hP6.obj 4 _ rfl
          have hFE := FIN.out _ _ (by rw [HFL.out, hn1]; simp [putL]) (hP6.field hpF hpB hgp 4 (.int .i64 j))
          have HFE := Lib.hid hFE
          clear hW6 hP6 hFE
          go_simp
          go_wp2
          go_end0
          exact ⟨rfl, HFE.out⟩
      · have hnb := heq2 hn1
        clear hne2 heq2
        obtain ⟨k1, hk1⟩ : ∃ k1, k1 = s.col + 1 := ⟨_, rfl⟩
        have hk1I : (s.col : Int) + 1 = (k1 : Int) := by omega
        have hwk1 : IntKind.i64.wrap (k1 : Int) = (k1 : Int) := IntWalk.i64_in _ (by omega)
        have hk1c : (k1 : Int) < (c : Int) := by omega
        have hk10 : (0 : Int) ≤ (k1 : Int) := by omega
        obtain ⟨od, hod⟩ : ∃ od, q * 2 + k1 * 2 = od := ⟨_, rfl⟩
        have HK1 := Lib.hid hk1
        clear hk1
        go_region_law (first | fail)
        all_goals
          have hP6 := (P5.out.cell hg hgB hgp (i := q + s.col) (o := oc) (by omega) (by omega) ⟨x, s.st⟩).below HH.out.lt hpB (Below.refl _ _).drew
          obtain ⟨W6, hW6⟩ : ∃ W6, W6 = ((W5.setCell ⟨g, oc, none⟩ (.int .i32 x)).setCell ⟨g, oc + 1, none⟩ (.int .i64 s.st)).drew := ⟨_, rfl⟩
          have l0' : W6.cell? ⟨w3.heap.size, 0, none⟩ = some (.int .i32 x) := by
            rw [hW6, World.cell?_drew, World.cell?_setCell_other _ _ _ _ (by intro e; have e' := congrArg Addr.block e; simp only at e'; omega), World.cell?_setCell_other _ _ _ _ (by intro e; have e' := congrArg Addr.block e; simp only at e'; omega)]
            exact l0
          have l1' : W6.cell? ⟨w3.heap.size, 1, none⟩ = some (.int .i64 s.st) := by
            rw [hW6, World.cell?_drew, World.cell?_setCell_other _ _ _ _ (by intro e; have e' := congrArg Addr.block e; simp only at e'; omega), World.cell?_setCell_other _ _ _ _ (by intro e; have e' := congrArg Addr.block e; simp only at e'; omega)]
            exact l1
          have hs6 : w3.heap.size < W6.heap.size := by rw [hW6]; exact Nat.lt_of_lt_of_le hs5 (by simp)
          rw [← hW6] at hP6 ⊢
          obtain ⟨d4', f4'⟩ := hP6.obj 4 _ rfl
          have P6 := Lib.hid hP6
          clear hW6 hP6
          obtain ⟨e1, he1⟩ : ∃ e1, ((s.g.flatten).set (q + s.col) ⟨x, s.st⟩)[q + k1]? = some e1 := ⟨_, List.getElem?_eq_getElem (by have h1 := P6.out.own.1; rw [flat_len] at h1; omega)⟩
          have HE1 := Lib.hid he1
          clear he1
          go_simp
          go_wp2_with fail
          have HN1 := Lib.hid hn1
          clear hjI hwj hsub hfit hqI hob hoc hcl hz hnb hn1 hcn hjc hjn
          go_region_with (go_at_call 27; (with_reducible refine (second _ _ _).mono ?_); rintro e w7 ⟨rfl, hb⟩; have hP7 := (P6.out.below HH.out.lt hpB (Below.refl _ _).drew).below HH.out.lt hpB hb; obtain ⟨d4'', f4''⟩ := hP7.obj 4 _ rfl; obtain ⟨v0, vf0, v1, vf1⟩ := cells_at hP7.own (o := od) (by omega) HE1.out; have P7 := Lib.hid hP7; clear hP7 hb)
          all_goals
            have hP8 := P7.out.cell hg hgB hgp (i := q + k1) (o := od) (by omega) (by omega) ⟨0, s.st⟩
            obtain ⟨W8, hW8⟩ : ∃ W8, W8 = ((w7.setCell ⟨g, od, none⟩ (.int .i32 0)).setCell ⟨g, od + 1, none⟩ (.int .i64 s.st)) := ⟨_, rfl⟩
            rw [← hW8] at hP8 ⊢
            obtain ⟨d9, f9⟩ := hP8.obj 4 _ rfl
            have hFE := FIN.out _ _ (by rw [HFL.out, HN1.out, HK1.out]; simp [putL, Nat.add_assoc]) (hP8.field hpF hpB hgp 4 (.int .i64 j))
            have HFE := Lib.hid hFE
            clear hW8 hP8 hFE
            go_simp
            go_wp2
            go_end0
            exact ⟨rfl, HFE.out⟩
  · obtain ⟨hmid, e, he, her⟩ := HBE.out
    have hjn : (j : Int) < (c : Int) := by have := HJ.out; omega
    have hj0 : (0 : Int) ≤ (j : Int) := by omega
    obtain ⟨b0, bf0, b1, bf1⟩ := cells_at HO3.out (i := q + j) (o := ob) (by omega) (by rw [HJ.out, ← Nat.add_assoc]; exact he)
    rw [her] at b0
    have hget : (s.g.flatten.set (q + j) blank)[q + s.col]? = some c0 := by rw [List.getElem?_set_ne (by have := HJ.out; omega)]; exact HC0.out
    have HGET := Lib.hid hget
    have hjm : q + j < m := by omega
    clear he her hget
    go_wp2_with fail
    obtain ⟨W5, hW5⟩ : ∃ W5, W5 = (((w3.setCell ⟨g, ob, none⟩ (.int .i32 32)).setCell ⟨g, ob + 1, none⟩ (.int .i64 0)).alloc (Obj.cells #[.int .i32 x, .int .i64 s.st] 47)) := ⟨_, rfl⟩
    have l0 : W5.cell? ⟨w3.heap.size, 0, none⟩ = some (.int .i32 x) := by rw [hW5]; go_simp
    have l1 : W5.cell? ⟨w3.heap.size, 1, none⟩ = some (.int .i64 s.st) := by rw [hW5]; go_simp
    have hP5 : PutAt F B p g m gk [.int .i64 r, .int .i64 c, .slice (some ⟨g, 0, none⟩) m gk, .int .i64 s.row, .int .i64 s.col, .int .i64 s.st, .slice a wn wk] (s.g.flatten.set (q + j) blank) w W5 := by rw [hW5]; exact (P3.out.cell hg hgB hgp (i := q + j) (o := ob) (by omega) hjm blank).below HH.out.lt hpB ((Below.refl _ _).alloc (Nat.le_refl _) _)
    have hs5 : w3.heap.size < W5.heap.size := by rw [hW5]; simp
    rw [← hW5]
    clear hW5
    obtain ⟨d4, f4⟩ := hP5.obj 4 _ rfl
    obtain ⟨r0, rf0, r1, rf1⟩ := cells_at hP5.own (o := oc) (by omega) HGET.out
    have P5 := Lib.hid hP5
    clear hP5
    rcases hn with hn1 | hn1
    · have hnb := hne2 hn1
      clear hne2 heq2
      go_region_law (first | fail)
      all_goals
        have hP6 := (P5.out.cell hg hgB hgp (i := q + s.col) (o := oc) (by omega) (by omega) ⟨x, s.st⟩).below HH.out.lt hpB (Below.refl _ _).drew
        obtain ⟨W6, hW6⟩ : ∃ W6, W6 = ((W5.setCell ⟨g, oc, none⟩ (.int .i32 x)).setCell ⟨g, oc + 1, none⟩ (.int .i64 s.st)).drew := ⟨_, rfl⟩
        rw [← hW6] at hP6 ⊢
        obtain ⟨d4', f4'⟩ := hP6.obj 4 _ rfl
        have hFE := FIN.out _ _ (by rw [HFL.out, HJ.out, hn1]; simp [putL, Nat.add_assoc]) (hP6.field hpF hpB hgp 4 (.int .i64 j))
        have HFE := Lib.hid hFE
        clear hW6 hP6 hFE
        go_simp
        go_wp2
        go_end0
        exact ⟨rfl, HFE.out⟩
    · have hnb := heq2 hn1
      clear hne2 heq2
      obtain ⟨k1, hk1⟩ : ∃ k1, k1 = s.col + 1 := ⟨_, rfl⟩
      have hk1I : (s.col : Int) + 1 = (k1 : Int) := by omega
      have hwk1 : IntKind.i64.wrap (k1 : Int) = (k1 : Int) := IntWalk.i64_in _ (by omega)
      have hk1c : (k1 : Int) < (c : Int) := by omega
      have hk10 : (0 : Int) ≤ (k1 : Int) := by omega
      obtain ⟨od, hod⟩ : ∃ od, q * 2 + k1 * 2 = od := ⟨_, rfl⟩
      have HK1 := Lib.hid hk1
      clear hk1
      go_region_law (first | fail)
      all_goals
        have hP6 := (P5.out.cell hg hgB hgp (i := q + s.col) (o := oc) (by omega) (by omega) ⟨x, s.st⟩).below HH.out.lt hpB (Below.refl _ _).drew
        obtain ⟨W6, hW6⟩ : ∃ W6, W6 = ((W5.setCell ⟨g, oc, none⟩ (.int .i32 x)).setCell ⟨g, oc + 1, none⟩ (.int .i64 s.st)).drew := ⟨_, rfl⟩
        have l0' : W6.cell? ⟨w3.heap.size, 0, none⟩ = some (.int .i32 x) := by
          rw [hW6, World.cell?_drew, World.cell?_setCell_other _ _ _ _ (by intro e; have e' := congrArg Addr.block e; simp only at e'; omega), World.cell?_setCell_other _ _ _ _ (by intro e; have e' := congrArg Addr.block e; simp only at e'; omega)]
          exact l0
        have l1' : W6.cell? ⟨w3.heap.size, 1, none⟩ = some (.int .i64 s.st) := by
          rw [hW6, World.cell?_drew, World.cell?_setCell_other _ _ _ _ (by intro e; have e' := congrArg Addr.block e; simp only at e'; omega), World.cell?_setCell_other _ _ _ _ (by intro e; have e' := congrArg Addr.block e; simp only at e'; omega)]
          exact l1
        have hs6 : w3.heap.size < W6.heap.size := by rw [hW6]; exact Nat.lt_of_lt_of_le hs5 (by simp)
        rw [← hW6] at hP6 ⊢
        obtain ⟨d4', f4'⟩ := hP6.obj 4 _ rfl
        have P6 := Lib.hid hP6
        clear hW6 hP6
        obtain ⟨e1, he1⟩ : ∃ e1, (((s.g.flatten.set (q + j) blank)).set (q + s.col) ⟨x, s.st⟩)[q + k1]? = some e1 := ⟨_, List.getElem?_eq_getElem (by have h1 := P6.out.own.1; rw [flat_len] at h1; omega)⟩
        have HE1 := Lib.hid he1
        clear he1
        go_simp
        go_wp2_with fail
        have HN1 := Lib.hid hn1
        clear hjI hwj hsub hfit hqI hob hoc hcl hz hnb hn1 hcn hjc hjn
        go_region_with (go_at_call 27; (with_reducible refine (second _ _ _).mono ?_); rintro e w7 ⟨rfl, hb⟩; have hP7 := (P6.out.below HH.out.lt hpB (Below.refl _ _).drew).below HH.out.lt hpB hb; obtain ⟨d4'', f4''⟩ := hP7.obj 4 _ rfl; obtain ⟨v0, vf0, v1, vf1⟩ := cells_at hP7.own (o := od) (by omega) HE1.out; have P7 := Lib.hid hP7; clear hP7 hb)
        all_goals
          have hP8 := P7.out.cell hg hgB hgp (i := q + k1) (o := od) (by omega) (by omega) ⟨0, s.st⟩
          obtain ⟨W8, hW8⟩ : ∃ W8, W8 = ((w7.setCell ⟨g, od, none⟩ (.int .i32 0)).setCell ⟨g, od + 1, none⟩ (.int .i64 s.st)) := ⟨_, rfl⟩
          rw [← hW8] at hP8 ⊢
          obtain ⟨d9, f9⟩ := hP8.obj 4 _ rfl
          have hFE := FIN.out _ _ (by rw [HFL.out, HJ.out, HN1.out, HK1.out]; simp [putL, Nat.add_assoc]) (hP8.field hpF hpB hgp 4 (.int .i64 j))
          have HFE := Lib.hid hFE
          clear hW8 hP8 hFE
          go_simp
          go_wp2
          go_end0
          exact ⟨rfl, HFE.out⟩
end Go.Proofs.YtnbpkabnaipimaaDoor
