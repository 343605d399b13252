/- That the document's examples hold at a program with these contracts ('knows'). No conditions but the contracts. -/
import Derived.Test.YtnbpkabnaipimaaGreatDoorTerm
namespace Go.Proofs.YtnbpkabnaipimaaGreatDoor
open Go Go.RowKit Go.Lib

def exA : List Cl := [⟨97, 0⟩, ⟨98, 0⟩]
def exB : List Cl := [blank, blank]
theorem cellOk2 (l : List Cl) (x y : Cl) (hl : l = [x, y]) (hx : x.r ≠ 0 ∧ okR x.r = true ∧ wd x.r = 1 ∧ x.s = 0) (hy : y.r ≠ 0 ∧ okR y.r = true ∧ wd y.r = 1 ∧ y.s = 0) : Prp (1 : Nat) (2 : Nat) l := by
  refine ⟨by decide, by decide, by decide, by decide, by rw [hl]; rfl, fun i hi => ?_⟩
  subst hl
  have hi2 : i < 2 := hi
  rcases (show i = 0 ∨ i = 1 by omega) with rfl | rfl
  · exact ⟨x, rfl, by omega, by omega, fun h => absurd h hx.1, fun _ => ⟨hx.2.1, fun h => by omega⟩⟩
  · exact ⟨y, rfl, by omega, by omega, fun h => absurd h hy.1, fun _ => ⟨hy.2.1, fun h => by omega⟩⟩
theorem exA_prp : Prp (1 : Nat) (2 : Nat) exA := cellOk2 exA _ _ rfl ⟨by decide, by decide, by decide, rfl⟩ ⟨by decide, by decide, by decide, rfl⟩
theorem exB_prp : Prp (1 : Nat) (2 : Nat) exB := cellOk2 exB _ _ rfl ⟨by decide, by decide, by decide, rfl⟩ ⟨by decide, by decide, by decide, rfl⟩
theorem ex_bytes : paintP true 1 2 exB exA = [27, 91, 49, 59, 49, 72, 27, 91, 48, 109, 97, 98] := by decide
theorem ex_zero : ¬ Prp 0 0 [] := fun h => absurd h.1 (by decide)
theorem ex_str : strOfNums [27, 91, 49, 59, 49, 72, 27, 91, 48, 109, 97, 98] = { data := #[27, 91, 49, 59, 49, 72, 27, 91, 48, 109, 97, 98] } := by decide

/-- Proper and Paint, where the answer is known. -/
theorem proper0 {Wd : World → Prop} (S : Said0 Wd) (R C : Int) (a : Option Addr) (n cap : Nat) (l : List Cl) (b : Bool) (hb : b = true ↔ Prp R C l) (W : World) (hw : Wd W) (hn : n ≤ 300) (hc : n ≤ cap) (hl : RowAt W a n l) :
    Calls Tryz.prog 8 #[GridV R C a n cap] W fun e w' => e = .returned (.bool b) ∧ Below W.heap.size W w' :=
  (S.proper R C a n cap l W hw (by omega) hc hl).mono fun e w' ⟨x, he, hi, hbw⟩ => ⟨by
    rw [he]
    exact ret_bool (by rw [Bool.eq_iff_iff, hi, hb]), hbw⟩
theorem ex_paint {Wd : World → Prop} (S : Said0 Wd) (fa : Option Addr) (fc : Nat) (ta : Option Addr) (tc : Nat) (W : World) (hw : Wd W) (hfc : 2 ≤ fc) (htc : 2 ≤ tc) (hf : RowAt W fa 2 exB) (ht : RowAt W ta 2 exA) :
    Calls Tryz.prog 5 #[GridV 1 2 fa 2 fc, GridV 1 2 ta 2 tc] W fun e w' => ∃ v, e = .returned (.tuple #[v, .int .i64 0]) ∧ BytesN W.heap.size w' v [27, 91, 49, 59, 49, 72, 27, 91, 48, 109, 97, 98] ∧ Below W.heap.size W w' :=
  (S.paint 1 2 fa 2 fc exB 1 2 ta 2 tc exA W hw (by omega) (by omega) hfc htc hf ht).mono fun e w' ⟨v, hb, hc⟩ => by
    rcases hc with ⟨hn, _⟩ | ⟨_, he, hv⟩
    · exact absurd exA_prp hn
    · refine ⟨v, he, ?_, hb⟩
      rw [← ex_bytes]
      exact hv

section
variable {Wd : World → Prop} {Trm : World → Nat → (Nat → Prop) → Nat → Nat → Scr → List Int → Prop} (S : Said0 Wd) (T : TSaid Wd Trm)
include S T
set_option maxHeartbeats 16000000 in
set_option maxRecDepth 20000 in
theorem knows_of (w : World) (hw : Wd w) : Calls Tryz.prog 4 #[] w fun e w' => e = .returned (.bool true) ∧ Below w.heap.size w w' := by
  have HW := Lib.hid hw
  have HS := Lib.hid S
  have HT := Lib.hid T
  clear S T hw
  have KN := HT.out.new 1 2 w HW.out (by omega) (by omega) (by omega) (by omega)
  rw [show ((1 : Nat) : Int) = 1 from rfl, show ((2 : Nat) : Int) = 2 from rfl] at KN
  have KNH := Lib.hid KN
  clear KN
  go_enter Tryz.func4, Tryz.ntmps4
  go_wp2_with fail
  (with_reducible refine KNH.out.mono ?_)
  rintro e w1 ⟨p, F0, rfl, htm, hF0, hb1⟩
  have hs1 := hb1.size
  have HB1 := Lib.hid hb1
  have HTM1 := Lib.hid htm
  have HF0 := Lib.hid hF0
  clear htm hF0 hb1 KNH
  go_wp2_with fail
  (with_reducible refine (HT.out.grid p F0 1 2 _ [] w1 (HS.out.keep HW.out HB1.out) HTM1.out (by omega) (by omega)).mono ?_)
  rintro e w2 ⟨ga, gn, gk, rfl, hgn, hgk, hgo, hb2⟩
  obtain rfl : gn = 2 := hgn
  rw [show ((1 : Nat) : Int) = 1 from rfl, show ((2 : Nat) : Int) = 2 from rfl]
  obtain ⟨g, rfl, hgw⟩ : ∃ g, ga = some ⟨g, 0, none⟩ ∧ w1.heap.size ≤ g := by
    rcases hgo.2 with ⟨h, _⟩ | ⟨g, cap, cur, h, hB, _⟩
    · simp at h
    · simp only [Value.slice.injEq] at h
      exact ⟨g, h.1, hB⟩
  have hgo' : w2.ownsRow w1.heap.size 41 2 (.slice (some ⟨g, 0, none⟩) 2 gk) 2 (flat exB) := hgo
  have q0 := hgo'.cells (g := g) rfl 0 (.int .i32 32) rfl
  have q1 := hgo'.cells (g := g) rfl 1 (.int .i64 0) rfl
  have q2 := hgo'.cells (g := g) rfl 2 (.int .i32 32) rfl
  have q3 := hgo'.cells (g := g) rfl 3 (.int .i64 0) rfl
  rw [Addr.add_lit] at q0 q1 q2 q3
  simp only [Nat.zero_add] at q0 q1 q2 q3
  have hg2 : g < w2.heap.size := block_lt_of_cell q0
  have z0 : w2.frozen? ⟨g, 0, none⟩ = false := hgo'.frozenAt 0
  have z2 : w2.frozen? ⟨g, 2, none⟩ = false := hgo'.frozenAt 2
  go_wp2_with fail
  obtain ⟨W5, hW5⟩ : ∃ W5, W5 = ((w2.setCell ⟨g, 0, none⟩ (.int .i32 97)).setCell ⟨g, 2, none⟩ (.int .i32 98)).alloc (Obj.cells #[.int .i64 1, .int .i64 2, .slice (some ⟨g, 0, none⟩) 2 gk] 24) := ⟨_, rfl⟩
  have hb15 : Below w1.heap.size w1 W5 := by
    rw [hW5]
    exact ((hb2.setCell (p := ⟨g, 0, none⟩) hgw _).setCell (p := ⟨g, 2, none⟩) hgw _).alloc (by have := hb2.size; simpa using this) _
  have hO5 : W5.ownsRow w1.heap.size 41 2 (.slice (some ⟨g, 0, none⟩) 2 gk) 2 (flat exA) := by
    rw [hW5]
    exact (((hgo'.stored 0 (.int .i32 97)).1.stored 2 (.int .i32 98)).1.alloc _)
  have hne : g ≠ w2.heap.size := by omega
  have e0 : W5.cell? ⟨w2.heap.size, 0, none⟩ = some (.int .i64 1) := by rw [hW5]; go_simp
  have e1 : W5.cell? ⟨w2.heap.size, 1, none⟩ = some (.int .i64 2) := by rw [hW5]; go_simp
  have e2 : W5.cell? ⟨w2.heap.size, 2, none⟩ = some (.slice (some ⟨g, 0, none⟩) 2 gk) := by rw [hW5]; go_simp
  have hlt5 : w2.heap.size < W5.heap.size := block_lt_of_cell e0
  rw [← hW5]
  clear hW5 q0 q1 q2 q3 z0 z2 hgo hgo' hb2
  have HB15 := Lib.hid hb15
  have hs15 := hb15.size
  have hfoot1 := HT.out.foot HTM1.out
  have HFT := Lib.hid hfoot1
  have HTM5 := Lib.hid (HT.out.stay HTM1.out hb15.size (fun k hk => hb15.block k (hfoot1 k hk)))
  have HB5 := Lib.hid (HB1.out.trans (hb15.mono hs1))
  obtain ⟨a5, c5, hav, hc5, _, hr5⟩ := own_row hO5
  cases hav
  have HR5 := Lib.hid hr5
  have KS := Lib.hid (show ∀ W : World, Below W5.heap.size W5 W → (Below W5.heap.size W5 W ∧ W.cell? ⟨w2.heap.size, 0, none⟩ = some (.int .i64 1) ∧ W.cell? ⟨w2.heap.size, 1, none⟩ = some (.int .i64 2) ∧ W.cell? ⟨w2.heap.size, 2, none⟩ = some (.slice (some ⟨g, 0, none⟩) 2 gk)) from fun W hb =>
    ⟨hb, (hb.cell (by exact hlt5)).trans e0, (hb.cell (by exact hlt5)).trans e1, (hb.cell (by exact hlt5)).trans e2⟩)
  have KG := Lib.hid (show ∀ W, Below W5.heap.size W5 W → Calls Tryz.prog 11 #[.pointer (some ⟨p, 0, none⟩)] W fun e w' => ∃ a k, e = .returned (GridV 1 2 a 2 k) ∧ 2 ≤ k ∧ RowAt w' a 2 exB ∧ Below W.heap.size W w' ∧ Below W5.heap.size W5 w' from fun W hb =>
    (HT.out.grid p F0 1 2 _ [] W (HS.out.keep HW.out (HB5.out.trans (hb.mono (by omega)))) (HT.out.stay HTM5.out hb.size (fun k hk => hb.block k (HT.out.foot HTM5.out k hk))) (by omega) (by omega)).mono fun e w' ⟨a, m, k, he, hm, hk, ho, hbw⟩ => by
      obtain rfl : m = 2 := hm
      obtain ⟨a', k', hav, _, _, hr⟩ := own_row ho
      cases hav
      exact ⟨a, k, he, hk, hr, hbw, hb.trans (hbw.mono hb.size)⟩)
  have KP := Lib.hid (show ∀ (a : Option Addr) (k : Nat) W, RowAt W a 2 exB → 2 ≤ k → Below W5.heap.size W5 W → Calls Tryz.prog 5 #[GridV 1 2 a 2 k, GridV 1 2 (some ⟨g, 0, none⟩) 2 gk] W fun e w' => ∃ v, e = .returned (.tuple #[v, .int .i64 0]) ∧ BytesN W5.heap.size w' v [27, 91, 49, 59, 49, 72, 27, 91, 48, 109, 97, 98] ∧ Below W5.heap.size W5 w' from fun a k W hr hk hb =>
    (ex_paint HS.out a k _ gk W (HS.out.keep HW.out (HB5.out.trans (hb.mono (by omega)))) hk hgk hr (HR5.out.below hb)).mono fun e w' ⟨v, he, hv, hbw⟩ => ⟨v, he, ⟨hv.1, fun a n c h x hx => Nat.le_trans hb.size (hv.2 a n c h x hx)⟩, hb.trans (hbw.mono hb.size)⟩)
  clear hb15 hfoot1 hO5 hr5
  go_region_held3 (fun W => Below W5.heap.size W5 W ∧ W.cell? ⟨w2.heap.size, 0, none⟩ = some (.int .i64 1) ∧ W.cell? ⟨w2.heap.size, 1, none⟩ = some (.int .i64 2) ∧ W.cell? ⟨w2.heap.size, 2, none⟩ = some (.slice (some ⟨g, 0, none⟩) 2 gk))
    (first | exact KS.out _ (Below.refl _ _).drew | exact KS.out _ (by assumption) | assumption)
    (first
      | (go_at_call 11; (with_reducible refine (KG.out _ (And.left (by assumption))).mono ?_); rintro e w6 ⟨a6, k6, rfl, hk6, hr6, hb6, hb56⟩)
      | (go_at_call 5; (with_reducible refine (KP.out _ _ _ hr6 hk6 (And.left (by assumption))).mono ?_); rintro e w7 ⟨v7, rfl, hv7, hb7⟩))
  have HB7 := Lib.hid (HB5.out.trans (hb7.mono (by omega)))
  have HB57 := Lib.hid hb7
  have hs7 := hb7.size
  have HV7 := Lib.hid hv7
  clear hb7 hv7 hr6 hb6 hb56 hk6
  have HAF := Lib.hid (show BytesF F0 w7 v7 _ from HV7.out.apart (fun k hk => Nat.lt_of_lt_of_le (HFT.out k hk) hs15))
  have HTM7 := Lib.hid (HT.out.stay HTM5.out hs7 (fun k hk => HB57.out.block k (HT.out.foot HTM5.out k hk)))
  obtain ⟨s2, hrun, hg2'⟩ := shows_same exB_prp exA_prp ⟨blankG 1 2, 0, 0, 0⟩ rfl
  have KW := Lib.hid (HT.out.write p F0 1 2 _ s2 [] [27, 91, 49, 59, 49, 72, 27, 91, 48, 109, 97, 98] (paintT true 1 2 exB exA) [] v7 w.heap.size w7 (HS.out.keep HW.out HB7.out) HTM7.out HAF.out (by decide) (by rw [← ex_bytes, paint_toks]; simp) (.inl rfl) hrun HF0.out HB7.out.size (by omega) (by omega))
  have HG2 := Lib.hid hg2'
  clear hrun hg2'
  go_wp2_with fail
  (with_reducible refine KW.out.mono ?_)
  rintro e w8 ⟨F1, rfl, htm8, hF1, hon8⟩
  have HB8 := Lib.hid (HB7.out.trans hon8.below)
  have HTM8 := Lib.hid htm8
  have HV8 := Lib.hid (HAF.out.only hon8 hF1)
  have hs8 := hon8.below.size
  clear htm8 hF1 hon8 KW
  go_wp2_with fail
  (with_reducible refine (HT.out.grid p F1 1 2 s2 [] w8 (HS.out.keep HW.out HB8.out) HTM8.out (by omega) (by omega)).mono ?_)
  rintro e w9 ⟨a9, n9, k9, rfl, hn9, hk9, ho9, hb9⟩
  obtain rfl : n9 = 2 := hn9
  rw [show ((1 : Nat) : Int) = 1 from rfl, show ((2 : Nat) : Int) = 2 from rfl]
  rw [HG2.out, shown_flat exA_prp] at ho9
  obtain ⟨h9, rfl, hh9⟩ : ∃ g, a9 = some ⟨g, 0, none⟩ ∧ w8.heap.size ≤ g := by
    rcases ho9.2 with ⟨h, _⟩ | ⟨g, cap, cur, h, hB, _⟩
    · simp at h
    · simp only [Value.slice.injEq] at h
      exact ⟨g, h.1, hB⟩
  have r0 := ho9.cells (g := h9) rfl 0 (.int .i32 97) rfl
  rw [Addr.add_lit] at r0
  simp only [Nat.zero_add] at r0
  have hl9 : h9 < w9.heap.size := block_lt_of_cell r0
  have hne9 : h9 ≠ w9.heap.size := by omega
  obtain ⟨a9', c9', hav9, _, _, hr9⟩ := own_row ho9
  cases hav9
  have HB9 := Lib.hid (HB8.out.trans (hb9.mono (by have := HB8.out.size; omega)))
  have HR9 := Lib.hid hr9
  obtain ⟨va, vc, hve, hvl, hvn, hvs, _⟩ := HV8.out
  have HC9 := Lib.hid (show ∀ W, Below w9.heap.size w9 W → (convert 26 9 v7).run Tryz.prog W = .ok (.string { data := #[27, 91, 49, 59, 49, 72, 27, 91, 48, 109, 97, 98] }) W from fun W hb => by
    rw [← ex_str]
    exact conv_bytesV ⟨va, vc, hve, hvl, hvn, (hvs.below hb9).below hb⟩)
  clear ho9 hr9 hb9 hve hvl hvn hvs HV8
  have hcv := HC9.out (w9.alloc (Obj.cells #[.int .i64 1, .int .i64 2, .slice (some ⟨h9, 0, none⟩) 2 k9] 24)) ((Below.refl _ _).alloc (Nat.le_refl _) _)
  have KA := Lib.hid (show ∀ W, Below w9.heap.size w9 W → Calls Tryz.prog 8 #[GridV 1 2 (some ⟨h9, 0, none⟩) 2 k9] W fun e w' => e = .returned (.bool true) ∧ Below w9.heap.size w9 w' from fun W hb =>
    (proper0 HS.out 1 2 (some ⟨h9, 0, none⟩) 2 k9 exA true ⟨fun _ => exA_prp, fun _ => rfl⟩ W (HS.out.keep HW.out (HB9.out.trans (hb.mono HB9.out.size))) (by omega) hk9 (HR9.out.below hb)).mono fun e w' ⟨he, hbw⟩ => ⟨he, hb.trans (hbw.mono hb.size)⟩)
  have KZ := Lib.hid (show ∀ W, Below w9.heap.size w9 W → Calls Tryz.prog 8 #[GridV 0 0 none 0 0] W fun e w' => e = .returned (.bool false) ∧ Below w9.heap.size w9 w' from fun W hb =>
    (proper0 HS.out 0 0 none 0 0 [] false ⟨fun h => (by cases h), fun h => absurd h ex_zero⟩ W (HS.out.keep HW.out (HB9.out.trans (hb.mono HB9.out.size))) (by omega) (Nat.le_refl _) (by unfold RowAt; exact ⟨rfl, .inl rfl⟩)).mono fun e w' ⟨he, hbw⟩ => ⟨he, hb.trans (hbw.mono hb.size)⟩)
  go_wp2_with (first
    | (go_at_call 8; (with_reducible refine (KA.out _ ((Below.refl _ _).alloc (Nat.le_refl _) _)).mono ?_); rintro e w10 ⟨rfl, hb10⟩)
    | (go_at_call 8; (with_reducible refine (KZ.out _ hb10).mono ?_); rintro e w11 ⟨rfl, hb11⟩))
  go_ret
  exact ⟨rfl, HB9.out.trans (hb11.mono HB9.out.size)⟩
end
end Go.Proofs.YtnbpkabnaipimaaGreatDoor
