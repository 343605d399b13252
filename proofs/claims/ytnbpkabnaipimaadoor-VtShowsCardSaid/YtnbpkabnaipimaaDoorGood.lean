/- The law VtShows over contracts of the program's functions: of two proper grids. Conditions: the grids' cells lie in memory. -/
import Derived.Test.YtnbpkabnaipimaaDoorShows
namespace Go.Proofs.YtnbpkabnaipimaaDoor
open Go Go.RowKit Go.Lib

theorem BytesF.empty (F : Nat → Prop) (w : World) (b off : Nat) : BytesF F w (.slice (some ⟨b, off, none⟩) 0 0) [] :=
  ⟨_, 0, rfl, Nat.le_refl _, .inr ⟨_, _, rfl⟩, ⟨rfl, .inl rfl⟩, fun h => absurd rfl h⟩
theorem rowAt_nil (w : World) : RowAt w none 0 [] := by
  unfold RowAt
  exact ⟨rfl, .inl rfl⟩
/-- Paint, of a grid that is proper. -/
theorem paint_is {Wd : World → Prop} (S : Said Wd) (R C : Int) (fa : Option Addr) (fn fc : Nat) (f : List Cl) (q d : Nat) (ta : Option Addr) (tn tc : Nat) (t : List Cl) (same : Bool) (hs : sizeSame R C q d fn tn = same) (hp : Prp q d t) (W : World) (hw : Wd W) (h1 : fn ≤ 300) (h2 : tn ≤ 300) (hfc : fn ≤ fc) (htc : tn ≤ tc) (hf : RowAt W fa fn f) (ht : RowAt W ta tn t) :
    Calls Tryd.prog 7 #[GridV R C fa fn fc, GridV q d ta tn tc] W fun e w' => ∃ v, e = .returned (.tuple #[v, .int .i64 0]) ∧ BytesN W.heap.size w' v (paintP same q d f t) ∧ Below W.heap.size W w' :=
  (S.paint R C fa fn fc f q d ta tn tc t W hw (by omega) (by omega) hfc htc hf ht).mono fun e w' ⟨v, hb, hc⟩ => by
    rcases hc with ⟨hn, _⟩ | ⟨_, he, hv⟩
    · exact absurd hp hn
    · exact ⟨v, he, by simpa [hs] using hv, hb⟩

section
variable {Wd : World → Prop} {Trm : World → Nat → (Nat → Prop) → Nat → Nat → Scr → List Int → Prop} (S : Said Wd) (T : TSaid Wd Trm)
include S T
set_option maxHeartbeats 16000000 in
set_option maxRecDepth 20000 in
theorem shows_good (r c : Nat) (fa : Option Addr) (fn fc : Nat) (f : List Cl) (q d : Nat) (ta : Option Addr) (tn tc : Nat) (t : List Cl) (cu : Int) (w : World) (hw : Wd w) (h1 : fn ≤ 300) (h2 : tn ≤ 300) (hfc : fn ≤ fc) (htc : tn ≤ tc) (hf : RowAt w fa fn f) (ht : RowAt w ta tn t) (hpf : Prp r c f) (hpt : Prp q d t) (hcu : 0 ≤ cu ∧ cu ≤ 65535) :
    Calls Tryd.prog 3 #[GridV r c fa fn fc, GridV q d ta tn tc, .int .u16 cu] w fun e w' => e = .returned (.bool true) ∧ Below w.heap.size w w' := by
  have HW := Lib.hid hw
  have HS := Lib.hid S
  have HTS := Lib.hid T
  have HF := Lib.hid hf
  have HT := Lib.hid ht
  have HPF := Lib.hid hpf
  have HPT := Lib.hid hpt
  have hr1 : 1 ≤ r := by have := hpf.1; omega
  have hr2 : r ≤ 60 := by have := hpf.2.1; omega
  have hc1 : 1 ≤ c := by have := hpf.2.2.1; omega
  have hc2 : c ≤ 60 := by have := hpf.2.2.2.1; omega
  have hq1 : 1 ≤ q := by have := hpt.1; omega
  have hq2 : q ≤ 60 := by have := hpt.2.1; omega
  have hd1 : 1 ≤ d := by have := hpt.2.2.1; omega
  have hd2 : d ≤ 60 := by have := hpt.2.2.2.1; omega
  have hfn : fn = r * c := by rw [← hf.1]; exact (prp_rows hpf).1
  have htn : tn = q * d := by rw [← ht.1]; exact (prp_rows hpt).1
  have HFN := Lib.hid hfn
  have HTN := Lib.hid htn
  clear S T hw hf ht hpf hpt hfn htn
  have h1' : ¬ (300 : Int) < (fn : Int) := by omega
  have h2' : ¬ (300 : Int) < (tn : Int) := by omega
  obtain ⟨V, hV⟩ : ∃ V, V = (w.alloc (Obj.cells #[.int .i64 r, .int .i64 c, .slice fa fn fc] 24)).alloc (Obj.cells #[.int .i64 q, .int .i64 d, .slice ta tn tc] 24) := ⟨_, rfl⟩
  have hbV : Below w.heap.size w V := by rw [hV]; exact ((Below.refl _ _).alloc (Nat.le_refl _) _).alloc (by simp) _
  have x0 : V.cell? ⟨w.heap.size, 0, none⟩ = some (.int .i64 r) := by rw [hV]; go_simp
  have x1 : V.cell? ⟨w.heap.size, 1, none⟩ = some (.int .i64 c) := by rw [hV]; go_simp
  have x2 : V.cell? ⟨w.heap.size, 2, none⟩ = some (.slice fa fn fc) := by rw [hV]; go_simp
  have y0 : V.cell? ⟨w.heap.size + 1, 0, none⟩ = some (.int .i64 q) := by rw [hV]; go_simp
  have y1 : V.cell? ⟨w.heap.size + 1, 1, none⟩ = some (.int .i64 d) := by rw [hV]; go_simp
  have y2 : V.cell? ⟨w.heap.size + 1, 2, none⟩ = some (.slice ta tn tc) := by rw [hV]; go_simp
  have hsV : w.heap.size + 2 = V.heap.size := by rw [hV]; simp
  have HC := Lib.hid (show ∀ W : World, Below V.heap.size V W → (W.cell? ⟨w.heap.size, 0, none⟩ = some (.int .i64 r) ∧ W.cell? ⟨w.heap.size, 1, none⟩ = some (.int .i64 c) ∧ W.cell? ⟨w.heap.size, 2, none⟩ = some (.slice fa fn fc)) ∧ W.cell? ⟨w.heap.size + 1, 0, none⟩ = some (.int .i64 q) ∧ W.cell? ⟨w.heap.size + 1, 1, none⟩ = some (.int .i64 d) ∧ W.cell? ⟨w.heap.size + 1, 2, none⟩ = some (.slice ta tn tc) from fun W hb =>
    ⟨⟨(hb.cell (by show w.heap.size < _; omega)).trans x0, (hb.cell (by show w.heap.size < _; omega)).trans x1, (hb.cell (by show w.heap.size < _; omega)).trans x2⟩, (hb.cell (by show w.heap.size + 1 < _; omega)).trans y0, (hb.cell (by show w.heap.size + 1 < _; omega)).trans y1, (hb.cell (by show w.heap.size + 1 < _; omega)).trans y2⟩)
  have HBV := Lib.hid hbV
  have HWV := Lib.hid (HS.out.keep HW.out hbV)
  have HFV := Lib.hid (HF.out.below hbV)
  have HTV := Lib.hid (HT.out.below hbV)
  clear hbV x0 x1 x2 y0 y1 y2 HF HT HW
  obtain ⟨⟨x0, x1, x2⟩, y0, y1, y2⟩ := HC.out V (Below.refl _ _)
  have KN := Lib.hid (show ∀ W, Below V.heap.size V W → Calls Tryd.prog 5 #[] W fun e w' => e = .returned (.bool true) ∧ Below V.heap.size V w' from fun W hb =>
    (HS.out.knows W (HS.out.keep HWV.out hb)).mono fun e w' ⟨he, hbw⟩ => ⟨he, hb.trans (hbw.mono hb.size)⟩)
  have KF := Lib.hid (fun (W : World) (hb : Below V.heap.size V W) => proper_is HS.out r c fa fn fc f true ⟨fun _ => HPF.out, fun _ => rfl⟩ V W hb (HS.out.keep HWV.out hb) h1 hfc (HFV.out.below hb))
  have KT := Lib.hid (fun (W : World) (hb : Below V.heap.size V W) => proper_is HS.out q d ta tn tc t true ⟨fun _ => HPT.out, fun _ => rfl⟩ V W hb (HS.out.keep HWV.out hb) h2 htc (HTV.out.below hb))
  go_enter Tryd.func3, Tryd.ntmps3
  go_wp2_with fail
  rw [← hV]
  clear hV
  (with_reducible refine (KF.out _ (Below.refl _ _)).mono ?_)
  rintro e w1 ⟨rfl, hb1⟩
  have HB1 := Lib.hid hb1
  obtain ⟨⟨x0, x1, x2⟩, y0, y1, y2⟩ := HC.out w1 hb1
  clear hb1
  go_wp2_with fail
  (with_reducible refine (KT.out _ HB1.out).mono ?_)
  rintro e w2 ⟨rfl, hb2⟩
  have HB2 := Lib.hid hb2
  obtain ⟨⟨x0, x1, x2⟩, y0, y1, y2⟩ := HC.out w2 hb2
  have hs2 := hb2.size
  clear hb2 KF KT HB1
  go_wp2_with fail
  (with_reducible refine (HTS.out.new r c w2 (HS.out.keep HWV.out HB2.out) hr1 hr2 hc1 hc2).mono ?_)
  rintro e w3 ⟨p, F0, rfl, htm, hF0, hb3'⟩
  have hb3 := HB2.out.trans (hb3'.mono hs2)
  have hs3 := hb3'.size
  have HTM3 := Lib.hid htm
  have HF0 := Lib.hid hF0
  have HB3 := Lib.hid hb3
  obtain ⟨⟨x0, x1, x2⟩, y0, y1, y2⟩ := HC.out w3 hb3
  clear htm hF0 hb3 hb3' HB2
  go_wp2_with fail
  (with_reducible refine (paint_is HS.out 0 0 none 0 0 [] r c fa fn fc f false (by simp [sizeSame]; omega) HPF.out w3 (HS.out.keep HWV.out HB3.out) (by omega) h1 (Nat.le_refl _) hfc (rowAt_nil w3) (HFV.out.below HB3.out)).mono ?_)
  rintro e w4 ⟨va, rfl, hva, hb4'⟩
  have hb4 := HB3.out.trans (hb4'.mono (Nat.le_trans hs2 hs3))
  have hs4 := hb4'.size
  have HB34 := Lib.hid hb4'
  have HVA := Lib.hid hva
  have HB4 := Lib.hid hb4
  obtain ⟨⟨x0, x1, x2⟩, y0, y1, y2⟩ := HC.out w4 hb4
  clear hva hb4 hb4'
  go_wp2_with fail
  obtain ⟨same, hsame⟩ : ∃ same, sizeSame r c q d fn tn = same := ⟨_, rfl⟩
  (with_reducible refine (paint_is HS.out r c fa fn fc f q d ta tn tc t same hsame HPT.out w4 (HS.out.keep HWV.out HB4.out) h1 h2 hfc htc (HFV.out.below HB4.out) (HTV.out.below HB4.out)).mono ?_)
  rintro e w5 ⟨vb, rfl, hvb, hb5'⟩
  have hb5 := HB4.out.trans (hb5'.mono (Nat.le_trans hs2 (Nat.le_trans hs3 hs4)))
  have hs5 := hb5'.size
  have HB35 := Lib.hid (HB34.out.trans (hb5'.mono hs4))
  have HVB := Lib.hid hvb
  have HVA5 := Lib.hid (show BytesN w3.heap.size w5 va _ from ⟨HVA.out.1.below hb5', HVA.out.2⟩)
  have HB5 := Lib.hid hb5
  have HSAME := Lib.hid hsame
  obtain ⟨⟨x0, x1, x2⟩, y0, y1, y2⟩ := HC.out w5 hb5
  have HTM5 := Lib.hid (HTS.out.stay HTM3.out (Nat.le_trans hs4 hs5) (fun k hk => HB35.out.block k (HTS.out.foot HTM3.out k hk)))
  clear hvb hb5 hb5' hsame HVA HB34 HB35
  have HAF := Lib.hid (show BytesF F0 w5 va _ from HVA5.out.apart (fun k hk => HTS.out.foot HTM3.out k hk))
  have HBF := Lib.hid (show BytesF F0 w5 vb _ from HVB.out.apart (fun k hk => Nat.lt_of_lt_of_le (HTS.out.foot HTM3.out k hk) hs4))
  obtain ⟨s1, hrun1, hg1⟩ := shows_anew (f := []) HPF.out ⟨blankG r c, 0, 0, 0⟩ (blank_len r c) (blank_width r c)
  have HR1 := Lib.hid hrun1
  have HG1 := Lib.hid hg1
  clear hrun1 hg1
  have KW1 := Lib.hid (HTS.out.write p F0 r c _ s1 [] (paintP false r c [] f) (paintT false r c [] f) [] va V.heap.size w5 (HS.out.keep HWV.out HB5.out) HTM5.out HAF.out (by have := paintP_le false r c [] f hr2 hc2; omega) (by rw [paint_toks]; simp) (.inl rfl) HR1.out (fun k hk => Nat.le_trans hs2 (HF0.out k hk)) (by omega) hr2 hc2)
  go_wp2_with fail
  (with_reducible refine KW1.out.mono ?_)
  rintro e w6 ⟨F1, rfl, htm6, hF1, hon6⟩
  have hb6 := HB5.out.trans hon6.below
  have hs6 := hon6.below.size
  have hv6 : V.heap.size ≤ w6.heap.size := by omega
  have HB6 := Lib.hid hb6
  have HTM6 := Lib.hid htm6
  have HBF6 := Lib.hid (HBF.out.only hon6 hF1)
  have HF1 := Lib.hid (show ∀ k, F1 k → V.heap.size ≤ k from fun k hk => by
    rcases hF1 k hk with h | h
    · exact Nat.le_trans hs2 (HF0.out k h)
    · omega)
  obtain ⟨⟨x0, x1, x2⟩, y0, y1, y2⟩ := HC.out w6 hb6
  clear hb6 htm6 hF1 hon6 HBF HAF KW1
  have KG6 := Lib.hid (show ∀ W, Below w6.heap.size w6 W → Calls Tryd.prog 11 #[.pointer (some ⟨p, 0, none⟩)] W fun e w' => ∃ a m k, e = .returned (GridV r c a m k) ∧ m ≤ 3600 ∧ RowAt w' a m f ∧ Below W.heap.size W w' ∧ Below w6.heap.size w6 w' from fun W hb =>
    (HTS.out.grid p F1 r c s1 [] W (HS.out.keep HWV.out (HB6.out.trans (hb.mono hv6))) (HTS.out.stay HTM6.out hb.size (fun k hk => hb.block k (HTS.out.foot HTM6.out k hk))) (by omega) (by omega)).mono fun e w' ⟨a, m, k, he, hm, hk, ho, hbw⟩ => by
      rw [HG1.out, shown_flat HPF.out] at ho
      obtain ⟨a', k', hav, _, _, hr⟩ := own_row ho
      cases hav
      exact ⟨a, m, k, he, by rw [hm]; exact Nat.mul_le_mul (show r ≤ 60 by omega) (show c ≤ 60 by omega), hr, hbw, hb.trans (hbw.mono hb.size)⟩)
  have KA6 := Lib.hid (show ∀ (X Y : Int) (a : Option Addr) (m k : Nat) (l : List Cl) (W : World), m ≤ 3600 → RowAt W a m l → Below w6.heap.size w6 W → Calls Tryd.prog 10 #[.agg #[.int .i64 X, .int .i64 Y, .slice a m k]] W fun e w' => ∃ a' k', e = .returned (.slice a' m k') ∧ RowAt w' a' m l ∧ Below W.heap.size W w' ∧ Below w6.heap.size w6 w' from fun X Y a m k l W hm hr hb =>
    (asG X Y a m k l W (by omega) hr).mono fun e w' ⟨v, he, ho, hbw⟩ => by
      obtain ⟨a', k', rfl, hk', _, hr'⟩ := own_row ho
      exact ⟨a', k', he, hr', hbw, hb.trans (hbw.mono hb.size)⟩)
  have KL6 := Lib.hid (show ∀ (a : Option Addr) (m k : Nat) (a' : Option Addr) (m' k' : Nat) (W : World), m ≤ 3600 → RowAt W a m f → RowAt W a' m' f → Below w6.heap.size w6 W → Calls Tryd.prog 9 #[.slice a m k, .slice a' m' k'] W fun e w' => e = .returned (.bool true) ∧ Below w6.heap.size w6 w' from fun a m k a' m' k' W hm hr hr' hb =>
    (alike a m k f a' m' k' f W (by omega) hr hr').mono fun e w' ⟨he, hbw⟩ => ⟨by rw [he]; simp, hb.trans (hbw.mono hb.size)⟩)
  have KN6 := Lib.hid (show ∀ W, Below w6.heap.size w6 W → Calls Tryd.prog 5 #[] W fun e w' => e = .returned (.bool true) ∧ Below w6.heap.size w6 w' from fun W hb =>
    (HS.out.knows W (HS.out.keep HWV.out (HB6.out.trans (hb.mono hv6)))).mono fun e w' ⟨he, hbw⟩ => ⟨he, hb.trans (hbw.mono hb.size)⟩)
  have KS6 := Lib.hid (show ∀ W : World, Below w6.heap.size w6 W → (Below w6.heap.size w6 W ∧ W.cell? ⟨w.heap.size, 0, none⟩ = some (.int .i64 r) ∧ W.cell? ⟨w.heap.size, 1, none⟩ = some (.int .i64 c) ∧ W.cell? ⟨w.heap.size, 2, none⟩ = some (.slice fa fn fc) ∧ W.cell? ⟨w.heap.size + 1, 0, none⟩ = some (.int .i64 q) ∧ W.cell? ⟨w.heap.size + 1, 1, none⟩ = some (.int .i64 d) ∧ W.cell? ⟨w.heap.size + 1, 2, none⟩ = some (.slice ta tn tc)) from fun W hb => by
    obtain ⟨⟨a0, a1, a2⟩, b0, b1, b2⟩ := HC.out W (HB6.out.trans (hb.mono hv6))
    exact ⟨hb, a0, a1, a2, b0, b1, b2⟩)
  have HFW6 := Lib.hid (fun (W : World) (hb : Below w6.heap.size w6 W) => HFV.out.below (HB6.out.trans (hb.mono hv6)))
  go_wp2_with fail
  refine wp_region_held_drew (S := (fun W => Below w6.heap.size w6 W ∧ W.cell? ⟨w.heap.size, 0, none⟩ = some (.int .i64 r) ∧ W.cell? ⟨w.heap.size, 1, none⟩ = some (.int .i64 c) ∧ W.cell? ⟨w.heap.size, 2, none⟩ = some (.slice fa fn fc) ∧ W.cell? ⟨w.heap.size + 1, 0, none⟩ = some (.int .i64 q) ∧ W.cell? ⟨w.heap.size + 1, 1, none⟩ = some (.int .i64 d) ∧ W.cell? ⟨w.heap.size + 1, 2, none⟩ = some (.slice ta tn tc))) (by kernel_rfl) ?_ (fun hHeld => ?_)
  · (first | exact KS6.out _ (Below.refl _ _).drew | exact KS6.out _ (by assumption) | assumption)
  refine wpAnyH_take (i := 0) (oi := { dst := some 72, op := Op.move (Operand.tmp 7), type := 28, pos := "law.go:116", after := #[], guard := none }) (v := ?_) rfl (by kernel_rfl) (by kernel_rfl) (by kernel_rfl) (fun _ _ _ h => h) (Or.inl ⟨by rfl, ?_⟩) (by assumption) ?_
  rotate_left
  · (intro w hSw; (try dsimp only at hSw); go_simp; try with_reducible rfl)
  (try simp only [Act.put, List.setIfInBounds_toArray, List.set_cons_zero, List.set_cons_succ])
  refine wpAnyH_take (i := 3) (oi := { dst := some 75, op := Op.load 24 (Operand.tmp 3), type := 24, pos := "law.go:116", after := #[], guard := none }) (v := ?_) rfl (by kernel_rfl) (by kernel_rfl) (by kernel_rfl) (fun _ _ _ h => h) (Or.inl ⟨by rfl, ?_⟩) (by assumption) ?_
  rotate_left
  · (intro w hSw; (try dsimp only at hSw); go_simp; try with_reducible rfl)
  (try simp only [Act.put, List.setIfInBounds_toArray, List.set_cons_zero, List.set_cons_succ])
  refine wpAnyH_ready (rs := [1]) (by kernel_rfl) (by simp) ?_
  refine AllReadyH.cons (o := { dst := some 73, op := Op.call { callee := Callee.value (Operand.func 11), args := #[Operand.tmp 72], argTypes := #[28] }, type := 24, pos := "law.go:116", after := #[{ on := 0, ground := Ground.data }], guard := none }) rfl (fun K hK => ?_) AllReadyH.nil
  (go_simp; go_at_call 11; (with_reducible refine (KG6.out _ hHeld.1).mono ?_); rintro e g1 ⟨ga, gm, gk, rfl, hgm, hgr, hgb, hg6⟩; go_wp2_with fail)
  refine hK.out _ _ ?_ (fun hHeld2 => ?_)
  · (first | exact KS6.out _ (Below.refl _ _).drew | exact KS6.out _ (by assumption) | assumption)
  clear hK K
  (try simp only [Act.put, List.setIfInBounds_toArray, List.set_cons_zero, List.set_cons_succ])
  clear hHeld; have hHeld := hHeld2; clear hHeld2
  refine wpAnyH_ready (rs := [2]) (by kernel_rfl) (by simp) ?_
  refine AllReadyH.cons (o := { dst := some 74, op := Op.call { callee := Callee.value (Operand.func 10), args := #[Operand.tmp 73], argTypes := #[24] }, type := 37, pos := "law.go:116", after := #[{ on := 1, ground := Ground.data }, { on := 1, ground := Ground.chain }], guard := none }) rfl (fun K hK => ?_) AllReadyH.nil
  (go_simp; go_at_call 10; (with_reducible refine (KA6.out _ _ ga gm gk _ _ hgm hgr hHeld.1).mono ?_); rintro e g2 ⟨gb, gl, rfl, hgr2, hgb2, hg62⟩; go_wp2_with fail)
  refine hK.out _ _ ?_ (fun hHeld2 => ?_)
  · (first | exact KS6.out _ (Below.refl _ _).drew | exact KS6.out _ (by assumption) | assumption)
  clear hK K
  (try simp only [Act.put, List.setIfInBounds_toArray, List.set_cons_zero, List.set_cons_succ])
  clear hHeld; have hHeld := hHeld2; clear hHeld2
  refine wpAnyH_ready (rs := [4]) (by kernel_rfl) (by simp) ?_
  refine AllReadyH.cons (o := { dst := some 76, op := Op.call { callee := Callee.value (Operand.func 10), args := #[Operand.tmp 75], argTypes := #[24] }, type := 37, pos := "law.go:116", after := #[{ on := 3, ground := Ground.data }, { on := 2, ground := Ground.chain }], guard := none }) rfl (fun K hK => ?_) AllReadyH.nil
  (go_simp; go_at_call 10; (with_reducible refine (KA6.out _ _ fa fn fc _ _ (by omega) (HFW6.out _ hHeld.1) hHeld.1).mono ?_); rintro e g3 ⟨gc, go, rfl, hgr3, hgb3, hg63⟩; go_wp2_with fail)
  refine hK.out _ _ ?_ (fun hHeld2 => ?_)
  · (first | exact KS6.out _ (Below.refl _ _).drew | exact KS6.out _ (by assumption) | assumption)
  clear hK K
  (try simp only [Act.put, List.setIfInBounds_toArray, List.set_cons_zero, List.set_cons_succ])
  clear hHeld; have hHeld := hHeld2; clear hHeld2
  refine wpAnyH_ready (rs := [5]) (by kernel_rfl) (by simp) ?_
  refine AllReadyH.cons (o := { dst := some 77, op := Op.call { callee := Callee.value (Operand.func 9), args := #[Operand.tmp 74, Operand.tmp 76], argTypes := #[37, 37] }, type := 4, pos := "law.go:116", after := #[{ on := 2, ground := Ground.data }, { on := 4, ground := Ground.data }, { on := 4, ground := Ground.chain }], guard := none }) rfl (fun K hK => ?_) AllReadyH.nil
  (go_simp; go_at_call 9; (with_reducible refine (KL6.out _ _ _ _ _ _ _ hgm (hgr2.below hgb3) hgr3 hHeld.1).mono ?_); rintro e g4 ⟨rfl, hg4⟩; go_wp2_with fail)
  refine hK.out _ _ ?_ (fun hHeld2 => ?_)
  · (first | exact KS6.out _ (Below.refl _ _).drew | exact KS6.out _ (by assumption) | assumption)
  clear hK K
  (try simp only [Act.put, List.setIfInBounds_toArray, List.set_cons_zero, List.set_cons_succ])
  clear hHeld; have hHeld := hHeld2; clear hHeld2
  refine wpAnyH_take (i := 6) (oi := { dst := some 78, op := Op.unOp UnOp.not 4 (Operand.tmp 77), type := 4, pos := "law.go:116", after := #[{ on := 5, ground := Ground.data }], guard := none }) (v := ?_) rfl (by kernel_rfl) (by kernel_rfl) (by kernel_rfl) (fun _ _ _ h => h) (Or.inl ⟨by rfl, ?_⟩) (by assumption) ?_
  rotate_left
  · (intro w hSw; (try dsimp only at hSw); go_simp; try with_reducible rfl)
  (try simp only [Act.put, List.setIfInBounds_toArray, List.set_cons_zero, List.set_cons_succ])
  refine wpAnyH_done (by kernel_rfl) ?_ _
  clear hHeld
  have hbg := HB6.out.trans (hg4.mono hv6)
  have HBG := Lib.hid hbg
  have hsg := hg4.size
  have HTMG := Lib.hid (HTS.out.stay HTM6.out hg4.size (fun k hk => hg4.block k (HTS.out.foot HTM6.out k hk)))
  have HBFG := Lib.hid (HBF6.out.only (Only.of (B := V.heap.size) hg4 hv6) (fun k hk => .inl hk))
  have hfoot := HTS.out.foot HTM6.out
  have HFOOT := Lib.hid hfoot
  obtain ⟨⟨x0, x1, x2⟩, y0, y1, y2⟩ := HC.out g4 hbg
  clear hbg hfoot hg4 HBF6 hgm hgr hgb hg6 hgr2 hgb2 hg62 hgr3 hgb3 hg63
  by_cases hrq : r = q
  · by_cases hcd : c = d
    · have hbr : ((r : Int) != (q : Int)) = false := by simp [hrq]
      have hbc : ((c : Int) != (d : Int)) = false := by simp [hcd]
      have hfe : fn = tn := by rw [HFN.out, HTN.out, hrq, hcd]
      obtain rfl : same = true := by rw [← HSAME.out]; simp [sizeSame, hrq, hcd, hfe]
      have hpt' : Prp r c t := by rw [hrq, hcd]; exact HPT.out
      obtain ⟨s2, hrun2, hg2⟩ := shows_same HPF.out hpt' s1 HG1.out
      rw [hrq, hcd] at hrun2 hg2
      have HR2 := Lib.hid hrun2
      have HG2 := Lib.hid hg2
      clear hrun2 hg2 hpt' hfe hrq hcd
      have hvg : V.heap.size ≤ g4.heap.size := by omega
      obtain ⟨bs, hbs⟩ : ∃ bs, bs = paintP true q d f t := ⟨_, rfl⟩
      have hL := paintP_le true q d f t hq2 hd2
      rw [← hbs] at hL
      have HBS := Lib.hid (hbs.trans (paint_toks true q d f t))
      have HBY := Lib.hid (show BytesF F1 g4 vb bs by rw [hbs]; exact HBFG.out)
      clear hbs
      obtain ⟨ab, cb, hvbe, hLc, hab, _, _⟩ := HBY.out
      subst hvbe
      obtain ⟨L, hLe⟩ : ∃ L, L = bs.length := ⟨_, rfl⟩
      rw [← hLe] at hL hLc hab
      obtain ⟨k, hk⟩ : ∃ k : Nat, cu % ((L : Int) + 1) = (k : Int) := Int.eq_ofNat_of_zero_le (Int.emod_nonneg _ (by omega))
      have hkL : k ≤ L := by
        have := Int.emod_lt_of_pos cu (show (0 : Int) < (L : Int) + 1 by omega)
        omega
      have hki : (k : Int) ≤ (L : Int) := by omega
      have hk0 : (0 : Int) ≤ (k : Int) := by omega
      have hkc : (k : Int) ≤ (cb : Int) := by omega
      have hLci : (L : Int) ≤ (cb : Int) := by omega
      have hwk : IntKind.i64.wrap (k : Int) = (k : Int) := IntWalk.i64_in _ (by omega)
      obtain ⟨hcu0, hcu1⟩ := hcu
      have hL1 : ¬ ((L : Int) + 1 = 0) := by omega
      have HLE := Lib.hid hLe
      obtain ⟨us, vs, p', cm, hru, hrv, ht1, ht2, ht3⟩ := shown_cut HR2.out k (by rw [← HBS.out, ← hLe]; exact hkL)
      rw [← HBS.out] at ht1 ht3
      have HRU := Lib.hid hru
      have HRV := Lib.hid hrv
      have HT1 := Lib.hid ht1
      have HT2 := Lib.hid ht2
      have HT3 := Lib.hid ht3
      rw [← hLe] at HBY ⊢
      clear hru hrv ht1 ht2 ht3 hLe
      rcases hab with ⟨rfl, rfl, rfl⟩ | ⟨b0, o0, rfl⟩
      · obtain rfl : k = 0 := by omega
        have hbs0 : bs = [] := List.eq_nil_of_length_eq_zero HLE.out.symm
        have HV1 := Lib.hid (show BytesF F1 g4 (.slice none 0 0) (bs.take 0) by rw [List.take_zero, ← hbs0]; exact HBY.out)
        have HV2 := Lib.hid (show BytesF F1 g4 (.slice none 0 0) (bs.drop 0) by rw [List.drop_zero]; exact HBY.out)
        clear hbs0
        go_wp2_with fail
        (with_reducible refine (HTS.out.write p F1 r c _ cm [] (bs.take 0) us p' _ V.heap.size g4 (HS.out.keep HWV.out HBG.out) HTMG.out HV1.out (by have := List.length_take_le 0 bs; omega) (by rw [List.nil_append]; exact HT1.out) (by
          rcases HT2.out with h | ⟨t, r, hv, h⟩
          · exact .inl h
          · have hrv := HRV.out
            rw [hv] at hrv
            cases hrv with
            | cons h1 h2 => exact .inr ⟨t, _, h, h1⟩) HRU.out HF1.out hvg (by omega) (by omega)).mono ?_)
        rintro e w12 ⟨F3, rfl, htm12, hF3, hon12⟩
        have hb12 := HBG.out.trans hon12.below
        have hs12 := hon12.below.size
        have HB12 := Lib.hid hb12
        have HTM12 := Lib.hid htm12
        have HV3 := Lib.hid (HV2.out.only hon12 hF3)
        have HF3 := Lib.hid (show ∀ k, F3 k → V.heap.size ≤ k from fun k hk => by
          rcases hF3 k hk with h | h
          · exact HF1.out k h
          · omega)
        obtain ⟨⟨x0, x1, x2⟩, y0, y1, y2⟩ := HC.out w12 hb12
        have hv12 : V.heap.size ≤ w12.heap.size := by omega
        clear hb12 htm12 hF3 hon12 HV2 HV1
        go_wp2_with fail
        (with_reducible refine (HTS.out.write p F3 r c cm s2 p' (bs.drop 0) vs [] _ V.heap.size w12 (HS.out.keep HWV.out HB12.out) HTM12.out HV3.out (by rw [List.length_drop]; have := HLE.out; omega) (by rw [List.append_nil]; exact HT3.out) (.inl rfl) HRV.out HF3.out hv12 (by omega) (by omega)).mono ?_)
        rintro e w13 ⟨F4, rfl, htm13, hF4, hon13⟩
        have hb13 := HB12.out.trans hon13.below
        have hs13 := hon13.below.size
        have HB13 := Lib.hid hb13
        have HTM13 := Lib.hid htm13
        obtain ⟨⟨x0, x1, x2⟩, y0, y1, y2⟩ := HC.out w13 hb13
        have hv13 : V.heap.size ≤ w13.heap.size := by omega
        clear hb13 htm13 hF4 hon13 HV3
        have KG13 := Lib.hid (show ∀ W, Below w13.heap.size w13 W → Calls Tryd.prog 11 #[.pointer (some ⟨p, 0, none⟩)] W fun e w' => ∃ a m k, e = .returned (GridV r c a m k) ∧ m ≤ 3600 ∧ RowAt w' a m t ∧ Below W.heap.size W w' ∧ Below w13.heap.size w13 w' from fun W hb =>
          (HTS.out.grid p F4 r c s2 [] W (HS.out.keep HWV.out (HB13.out.trans (hb.mono hv13))) (HTS.out.stay HTM13.out hb.size (fun k hk => hb.block k (HTS.out.foot HTM13.out k hk))) (by omega) (by omega)).mono fun e w' ⟨a, m, k, he, hm, hk, ho, hbw⟩ => by
            rw [HG2.out, shown_flat HPT.out] at ho
            obtain ⟨a', k', hav, _, _, hr⟩ := own_row ho
            cases hav
            exact ⟨a, m, k, he, by rw [hm]; exact Nat.mul_le_mul (show r ≤ 60 by omega) (show c ≤ 60 by omega), hr, hbw, hb.trans (hbw.mono hb.size)⟩)
        have KA13 := Lib.hid (show ∀ (X Y : Int) (a : Option Addr) (m k : Nat) (l : List Cl) (W : World), m ≤ 3600 → RowAt W a m l → Below w13.heap.size w13 W → Calls Tryd.prog 10 #[.agg #[.int .i64 X, .int .i64 Y, .slice a m k]] W fun e w' => ∃ a' k', e = .returned (.slice a' m k') ∧ RowAt w' a' m l ∧ Below W.heap.size W w' ∧ Below w13.heap.size w13 w' from fun X Y a m k l W hm hr hb =>
          (asG X Y a m k l W (by omega) hr).mono fun e w' ⟨v, he, ho, hbw⟩ => by
            obtain ⟨a', k', rfl, hk', _, hr'⟩ := own_row ho
            exact ⟨a', k', he, hr', hbw, hb.trans (hbw.mono hb.size)⟩)
        have KL13 := Lib.hid (show ∀ (a : Option Addr) (m k : Nat) (a' : Option Addr) (m' k' : Nat) (W : World), m ≤ 3600 → RowAt W a m t → RowAt W a' m' t → Below w13.heap.size w13 W → Calls Tryd.prog 9 #[.slice a m k, .slice a' m' k'] W fun e w' => e = .returned (.bool true) ∧ Below w13.heap.size w13 w' from fun a m k a' m' k' W hm hr hr' hb =>
          (alike a m k t a' m' k' t W (by omega) hr hr').mono fun e w' ⟨he, hbw⟩ => ⟨by rw [he]; simp, hb.trans (hbw.mono hb.size)⟩)
        have KN13 := Lib.hid (show ∀ W, Below w13.heap.size w13 W → Calls Tryd.prog 5 #[] W fun e w' => e = .returned (.bool true) ∧ Below w13.heap.size w13 w' from fun W hb =>
          (HS.out.knows W (HS.out.keep HWV.out (HB13.out.trans (hb.mono hv13)))).mono fun e w' ⟨he, hbw⟩ => ⟨he, hb.trans (hbw.mono hb.size)⟩)
        have KS13 := Lib.hid (show ∀ W : World, Below w13.heap.size w13 W → (Below w13.heap.size w13 W ∧ W.cell? ⟨w.heap.size, 0, none⟩ = some (.int .i64 r) ∧ W.cell? ⟨w.heap.size, 1, none⟩ = some (.int .i64 c) ∧ W.cell? ⟨w.heap.size, 2, none⟩ = some (.slice fa fn fc) ∧ W.cell? ⟨w.heap.size + 1, 0, none⟩ = some (.int .i64 q) ∧ W.cell? ⟨w.heap.size + 1, 1, none⟩ = some (.int .i64 d) ∧ W.cell? ⟨w.heap.size + 1, 2, none⟩ = some (.slice ta tn tc)) from fun W hb => by
          obtain ⟨⟨a0, a1, a2⟩, b0, b1, b2⟩ := HC.out W (HB13.out.trans (hb.mono hv13))
          exact ⟨hb, a0, a1, a2, b0, b1, b2⟩)
        have HTW13 := Lib.hid (fun (W : World) (hb : Below w13.heap.size w13 W) => HTV.out.below (HB13.out.trans (hb.mono hv13)))
        go_wp2_with fail
        refine wp_region_held_drew (S := (fun W => Below w13.heap.size w13 W ∧ W.cell? ⟨w.heap.size, 0, none⟩ = some (.int .i64 r) ∧ W.cell? ⟨w.heap.size, 1, none⟩ = some (.int .i64 c) ∧ W.cell? ⟨w.heap.size, 2, none⟩ = some (.slice fa fn fc) ∧ W.cell? ⟨w.heap.size + 1, 0, none⟩ = some (.int .i64 q) ∧ W.cell? ⟨w.heap.size + 1, 1, none⟩ = some (.int .i64 d) ∧ W.cell? ⟨w.heap.size + 1, 2, none⟩ = some (.slice ta tn tc))) (by kernel_rfl) ?_ (fun hHeld => ?_)
        · (first | exact KS13.out _ (Below.refl _ _).drew | exact KS13.out _ (by assumption) | assumption)
        refine wpAnyH_take (i := 0) (oi := { dst := some 114, op := Op.move (Operand.tmp 7), type := 28, pos := "law.go:127", after := #[], guard := none }) (v := ?_) rfl (by kernel_rfl) (by kernel_rfl) (by kernel_rfl) (fun _ _ _ h => h) (Or.inl ⟨by rfl, ?_⟩) (by assumption) ?_
        rotate_left
        · (intro w hSw; (try dsimp only at hSw); go_simp; try with_reducible rfl)
        (try simp only [Act.put, List.setIfInBounds_toArray, List.set_cons_zero, List.set_cons_succ])
        refine wpAnyH_take (i := 3) (oi := { dst := some 117, op := Op.load 24 (Operand.tmp 4), type := 24, pos := "law.go:127", after := #[], guard := none }) (v := ?_) rfl (by kernel_rfl) (by kernel_rfl) (by kernel_rfl) (fun _ _ _ h => h) (Or.inl ⟨by rfl, ?_⟩) (by assumption) ?_
        rotate_left
        · (intro w hSw; (try dsimp only at hSw); go_simp; try with_reducible rfl)
        (try simp only [Act.put, List.setIfInBounds_toArray, List.set_cons_zero, List.set_cons_succ])
        refine wpAnyH_ready (rs := [1]) (by kernel_rfl) (by simp) ?_
        refine AllReadyH.cons (o := { dst := some 115, op := Op.call { callee := Callee.value (Operand.func 11), args := #[Operand.tmp 114], argTypes := #[28] }, type := 24, pos := "law.go:127", after := #[{ on := 0, ground := Ground.data }], guard := none }) rfl (fun K hK => ?_) AllReadyH.nil
        (go_simp; go_at_call 11; (with_reducible refine (KG13.out _ hHeld.1).mono ?_); rintro e g1 ⟨ga, gm, gk, rfl, hgm, hgr, hgb, hg6⟩; go_wp2_with fail)
        refine hK.out _ _ ?_ (fun hHeld2 => ?_)
        · (first | exact KS13.out _ (Below.refl _ _).drew | exact KS13.out _ (by assumption) | assumption)
        clear hK K
        (try simp only [Act.put, List.setIfInBounds_toArray, List.set_cons_zero, List.set_cons_succ])
        clear hHeld; have hHeld := hHeld2; clear hHeld2
        refine wpAnyH_ready (rs := [2]) (by kernel_rfl) (by simp) ?_
        refine AllReadyH.cons (o := { dst := some 116, op := Op.call { callee := Callee.value (Operand.func 10), args := #[Operand.tmp 115], argTypes := #[24] }, type := 37, pos := "law.go:127", after := #[{ on := 1, ground := Ground.data }, { on := 1, ground := Ground.chain }], guard := none }) rfl (fun K hK => ?_) AllReadyH.nil
        (go_simp; go_at_call 10; (with_reducible refine (KA13.out _ _ ga gm gk _ _ hgm hgr hHeld.1).mono ?_); rintro e g2 ⟨gb, gl, rfl, hgr2, hgb2, hg62⟩; go_wp2_with fail)
        refine hK.out _ _ ?_ (fun hHeld2 => ?_)
        · (first | exact KS13.out _ (Below.refl _ _).drew | exact KS13.out _ (by assumption) | assumption)
        clear hK K
        (try simp only [Act.put, List.setIfInBounds_toArray, List.set_cons_zero, List.set_cons_succ])
        clear hHeld; have hHeld := hHeld2; clear hHeld2
        refine wpAnyH_ready (rs := [4]) (by kernel_rfl) (by simp) ?_
        refine AllReadyH.cons (o := { dst := some 118, op := Op.call { callee := Callee.value (Operand.func 10), args := #[Operand.tmp 117], argTypes := #[24] }, type := 37, pos := "law.go:127", after := #[{ on := 3, ground := Ground.data }, { on := 2, ground := Ground.chain }], guard := none }) rfl (fun K hK => ?_) AllReadyH.nil
        (go_simp; go_at_call 10; (with_reducible refine (KA13.out _ _ ta tn tc _ _ (by omega) (HTW13.out _ hHeld.1) hHeld.1).mono ?_); rintro e g3 ⟨gc, go, rfl, hgr3, hgb3, hg63⟩; go_wp2_with fail)
        refine hK.out _ _ ?_ (fun hHeld2 => ?_)
        · (first | exact KS13.out _ (Below.refl _ _).drew | exact KS13.out _ (by assumption) | assumption)
        clear hK K
        (try simp only [Act.put, List.setIfInBounds_toArray, List.set_cons_zero, List.set_cons_succ])
        clear hHeld; have hHeld := hHeld2; clear hHeld2
        refine wpAnyH_ready (rs := [5]) (by kernel_rfl) (by simp) ?_
        refine AllReadyH.cons (o := { dst := some 119, op := Op.call { callee := Callee.value (Operand.func 9), args := #[Operand.tmp 116, Operand.tmp 118], argTypes := #[37, 37] }, type := 4, pos := "law.go:127", after := #[{ on := 2, ground := Ground.data }, { on := 4, ground := Ground.data }, { on := 4, ground := Ground.chain }], guard := none }) rfl (fun K hK => ?_) AllReadyH.nil
        (go_simp; go_at_call 9; (with_reducible refine (KL13.out _ _ _ _ _ _ _ hgm (hgr2.below hgb3) hgr3 hHeld.1).mono ?_); rintro e g4 ⟨rfl, hg4⟩; go_wp2_with fail)
        refine hK.out _ _ ?_ (fun hHeld2 => ?_)
        · (first | exact KS13.out _ (Below.refl _ _).drew | exact KS13.out _ (by assumption) | assumption)
        clear hK K
        (try simp only [Act.put, List.setIfInBounds_toArray, List.set_cons_zero, List.set_cons_succ])
        clear hHeld; have hHeld := hHeld2; clear hHeld2
        refine wpAnyH_take (i := 6) (oi := { dst := some 120, op := Op.move (Operand.tmp 119), type := 4, pos := "law.go:127", after := #[{ on := 5, ground := Ground.data }, { on := 5, ground := Ground.chain }], guard := none }) (v := ?_) rfl (by kernel_rfl) (by kernel_rfl) (by kernel_rfl) (fun _ _ _ h => h) (Or.inl ⟨by rfl, ?_⟩) (by assumption) ?_
        rotate_left
        · (intro w hSw; (try dsimp only at hSw); go_simp; try with_reducible rfl)
        (try simp only [Act.put, List.setIfInBounds_toArray, List.set_cons_zero, List.set_cons_succ])
        refine wpAnyH_ready (rs := [7]) (by kernel_rfl) (by simp) ?_
        refine AllReadyH.cons (o := { dst := some 121, op := Op.call { callee := Callee.value (Operand.func 5), args := #[], argTypes := #[] }, type := 4, pos := "law.go:127", after := #[{ on := 6, ground := Ground.chain }, { on := 6, ground := Ground.guard }], guard := some (6, true) }) rfl (fun K hK => ?_) AllReadyH.nil
        (go_simp; go_at_call 5; (with_reducible refine (KN13.out _ hHeld.1).mono ?_); rintro e g5 ⟨rfl, hg5⟩; go_wp2_with fail)
        refine hK.out _ _ ?_ (fun hHeld2 => ?_)
        · (first | exact KS13.out _ (Below.refl _ _).drew | exact KS13.out _ (by assumption) | assumption)
        clear hK K
        (try simp only [Act.put, List.setIfInBounds_toArray, List.set_cons_zero, List.set_cons_succ])
        clear hHeld; have hHeld := hHeld2; clear hHeld2
        refine wpAnyH_take (i := 8) (oi := { dst := some 122, op := Op.pick (Operand.tmp 120) (Operand.tmp 121) (Operand.const (Value.bool false)), type := 4, pos := "law.go:127", after := #[{ on := 6, ground := Ground.data }, { on := 7, ground := Ground.data }], guard := none }) (v := ?_) rfl (by kernel_rfl) (by kernel_rfl) (by kernel_rfl) (fun _ _ _ h => h) (Or.inl ⟨by rfl, ?_⟩) (by assumption) ?_
        rotate_left
        · (intro w hSw; (try dsimp only at hSw); go_simp; try with_reducible rfl)
        (try simp only [Act.put, List.setIfInBounds_toArray, List.set_cons_zero, List.set_cons_succ])
        refine wpAnyH_take (i := 9) (oi := { dst := some 6, op := Op.assign (Operand.tmp 122), type := 4, pos := "law.go:127", after := #[{ on := 8, ground := Ground.data }, { on := 7, ground := Ground.chain }, { on := 0, ground := Ground.phase }, { on := 1, ground := Ground.phase }, { on := 2, ground := Ground.phase }, { on := 3, ground := Ground.phase }, { on := 4, ground := Ground.phase }, { on := 5, ground := Ground.phase }, { on := 6, ground := Ground.phase }, { on := 7, ground := Ground.phase }, { on := 8, ground := Ground.phase }], guard := none }) (v := ?_) rfl (by kernel_rfl) (by kernel_rfl) (by kernel_rfl) (fun _ _ _ h => h) (Or.inl ⟨by rfl, ?_⟩) (by assumption) ?_
        rotate_left
        · (intro w hSw; (try dsimp only at hSw); go_simp; try with_reducible rfl)
        (try simp only [Act.put, List.setIfInBounds_toArray, List.set_cons_zero, List.set_cons_succ])
        refine wpAnyH_done (by kernel_rfl) ?_ _
        clear hHeld
        go_wp2
        go_ret
        exact ⟨rfl, HBV.out.trans ((HB13.out.trans (hg5.mono hv13)).mono (by omega))⟩
      · by_cases hkcb : k = cb
        · subst hkcb
          have hLk : L = k := by omega
          have HV1 := Lib.hid (HBY.out.take hkL)
          have HV2 := Lib.hid (show BytesF F1 g4 (.slice (some ⟨b0, o0, none⟩) 0 0) (bs.drop k) by
            rw [List.drop_of_length_le (by have := HLE.out; omega)]
            exact BytesF.empty _ _ _ _)
          clear hLk
          go_wp2_with fail
          (with_reducible refine (HTS.out.write p F1 r c _ cm [] (bs.take k) us p' _ V.heap.size g4 (HS.out.keep HWV.out HBG.out) HTMG.out HV1.out (by have := List.length_take_le k bs; omega) (by rw [List.nil_append]; exact HT1.out) (by
            rcases HT2.out with h | ⟨t, r, hv, h⟩
            · exact .inl h
            · have hrv := HRV.out
              rw [hv] at hrv
              cases hrv with
              | cons h1 h2 => exact .inr ⟨t, _, h, h1⟩) HRU.out HF1.out hvg (by omega) (by omega)).mono ?_)
          rintro e w12 ⟨F3, rfl, htm12, hF3, hon12⟩
          have hb12 := HBG.out.trans hon12.below
          have hs12 := hon12.below.size
          have HB12 := Lib.hid hb12
          have HTM12 := Lib.hid htm12
          have HV3 := Lib.hid (HV2.out.only hon12 hF3)
          have HF3 := Lib.hid (show ∀ k, F3 k → V.heap.size ≤ k from fun k hk => by
            rcases hF3 k hk with h | h
            · exact HF1.out k h
            · omega)
          obtain ⟨⟨x0, x1, x2⟩, y0, y1, y2⟩ := HC.out w12 hb12
          have hv12 : V.heap.size ≤ w12.heap.size := by omega
          clear hb12 htm12 hF3 hon12 HV2 HV1
          go_wp2_with fail
          (with_reducible refine (HTS.out.write p F3 r c cm s2 p' (bs.drop k) vs [] _ V.heap.size w12 (HS.out.keep HWV.out HB12.out) HTM12.out HV3.out (by rw [List.length_drop]; have := HLE.out; omega) (by rw [List.append_nil]; exact HT3.out) (.inl rfl) HRV.out HF3.out hv12 (by omega) (by omega)).mono ?_)
          rintro e w13 ⟨F4, rfl, htm13, hF4, hon13⟩
          have hb13 := HB12.out.trans hon13.below
          have hs13 := hon13.below.size
          have HB13 := Lib.hid hb13
          have HTM13 := Lib.hid htm13
          obtain ⟨⟨x0, x1, x2⟩, y0, y1, y2⟩ := HC.out w13 hb13
          have hv13 : V.heap.size ≤ w13.heap.size := by omega
          clear hb13 htm13 hF4 hon13 HV3
          have KG13 := Lib.hid (show ∀ W, Below w13.heap.size w13 W → Calls Tryd.prog 11 #[.pointer (some ⟨p, 0, none⟩)] W fun e w' => ∃ a m k, e = .returned (GridV r c a m k) ∧ m ≤ 3600 ∧ RowAt w' a m t ∧ Below W.heap.size W w' ∧ Below w13.heap.size w13 w' from fun W hb =>
            (HTS.out.grid p F4 r c s2 [] W (HS.out.keep HWV.out (HB13.out.trans (hb.mono hv13))) (HTS.out.stay HTM13.out hb.size (fun k hk => hb.block k (HTS.out.foot HTM13.out k hk))) (by omega) (by omega)).mono fun e w' ⟨a, m, k, he, hm, hk, ho, hbw⟩ => by
              rw [HG2.out, shown_flat HPT.out] at ho
              obtain ⟨a', k', hav, _, _, hr⟩ := own_row ho
              cases hav
              exact ⟨a, m, k, he, by rw [hm]; exact Nat.mul_le_mul (show r ≤ 60 by omega) (show c ≤ 60 by omega), hr, hbw, hb.trans (hbw.mono hb.size)⟩)
          have KA13 := Lib.hid (show ∀ (X Y : Int) (a : Option Addr) (m k : Nat) (l : List Cl) (W : World), m ≤ 3600 → RowAt W a m l → Below w13.heap.size w13 W → Calls Tryd.prog 10 #[.agg #[.int .i64 X, .int .i64 Y, .slice a m k]] W fun e w' => ∃ a' k', e = .returned (.slice a' m k') ∧ RowAt w' a' m l ∧ Below W.heap.size W w' ∧ Below w13.heap.size w13 w' from fun X Y a m k l W hm hr hb =>
            (asG X Y a m k l W (by omega) hr).mono fun e w' ⟨v, he, ho, hbw⟩ => by
              obtain ⟨a', k', rfl, hk', _, hr'⟩ := own_row ho
              exact ⟨a', k', he, hr', hbw, hb.trans (hbw.mono hb.size)⟩)
          have KL13 := Lib.hid (show ∀ (a : Option Addr) (m k : Nat) (a' : Option Addr) (m' k' : Nat) (W : World), m ≤ 3600 → RowAt W a m t → RowAt W a' m' t → Below w13.heap.size w13 W → Calls Tryd.prog 9 #[.slice a m k, .slice a' m' k'] W fun e w' => e = .returned (.bool true) ∧ Below w13.heap.size w13 w' from fun a m k a' m' k' W hm hr hr' hb =>
            (alike a m k t a' m' k' t W (by omega) hr hr').mono fun e w' ⟨he, hbw⟩ => ⟨by rw [he]; simp, hb.trans (hbw.mono hb.size)⟩)
          have KN13 := Lib.hid (show ∀ W, Below w13.heap.size w13 W → Calls Tryd.prog 5 #[] W fun e w' => e = .returned (.bool true) ∧ Below w13.heap.size w13 w' from fun W hb =>
            (HS.out.knows W (HS.out.keep HWV.out (HB13.out.trans (hb.mono hv13)))).mono fun e w' ⟨he, hbw⟩ => ⟨he, hb.trans (hbw.mono hb.size)⟩)
          have KS13 := Lib.hid (show ∀ W : World, Below w13.heap.size w13 W → (Below w13.heap.size w13 W ∧ W.cell? ⟨w.heap.size, 0, none⟩ = some (.int .i64 r) ∧ W.cell? ⟨w.heap.size, 1, none⟩ = some (.int .i64 c) ∧ W.cell? ⟨w.heap.size, 2, none⟩ = some (.slice fa fn fc) ∧ W.cell? ⟨w.heap.size + 1, 0, none⟩ = some (.int .i64 q) ∧ W.cell? ⟨w.heap.size + 1, 1, none⟩ = some (.int .i64 d) ∧ W.cell? ⟨w.heap.size + 1, 2, none⟩ = some (.slice ta tn tc)) from fun W hb => by
            obtain ⟨⟨a0, a1, a2⟩, b0, b1, b2⟩ := HC.out W (HB13.out.trans (hb.mono hv13))
            exact ⟨hb, a0, a1, a2, b0, b1, b2⟩)
          have HTW13 := Lib.hid (fun (W : World) (hb : Below w13.heap.size w13 W) => HTV.out.below (HB13.out.trans (hb.mono hv13)))
          go_wp2_with fail
          refine wp_region_held_drew (S := (fun W => Below w13.heap.size w13 W ∧ W.cell? ⟨w.heap.size, 0, none⟩ = some (.int .i64 r) ∧ W.cell? ⟨w.heap.size, 1, none⟩ = some (.int .i64 c) ∧ W.cell? ⟨w.heap.size, 2, none⟩ = some (.slice fa fn fc) ∧ W.cell? ⟨w.heap.size + 1, 0, none⟩ = some (.int .i64 q) ∧ W.cell? ⟨w.heap.size + 1, 1, none⟩ = some (.int .i64 d) ∧ W.cell? ⟨w.heap.size + 1, 2, none⟩ = some (.slice ta tn tc))) (by kernel_rfl) ?_ (fun hHeld => ?_)
          · (first | exact KS13.out _ (Below.refl _ _).drew | exact KS13.out _ (by assumption) | assumption)
          refine wpAnyH_take (i := 0) (oi := { dst := some 114, op := Op.move (Operand.tmp 7), type := 28, pos := "law.go:127", after := #[], guard := none }) (v := ?_) rfl (by kernel_rfl) (by kernel_rfl) (by kernel_rfl) (fun _ _ _ h => h) (Or.inl ⟨by rfl, ?_⟩) (by assumption) ?_
          rotate_left
          · (intro w hSw; (try dsimp only at hSw); go_simp; try with_reducible rfl)
          (try simp only [Act.put, List.setIfInBounds_toArray, List.set_cons_zero, List.set_cons_succ])
          refine wpAnyH_take (i := 3) (oi := { dst := some 117, op := Op.load 24 (Operand.tmp 4), type := 24, pos := "law.go:127", after := #[], guard := none }) (v := ?_) rfl (by kernel_rfl) (by kernel_rfl) (by kernel_rfl) (fun _ _ _ h => h) (Or.inl ⟨by rfl, ?_⟩) (by assumption) ?_
          rotate_left
          · (intro w hSw; (try dsimp only at hSw); go_simp; try with_reducible rfl)
          (try simp only [Act.put, List.setIfInBounds_toArray, List.set_cons_zero, List.set_cons_succ])
          refine wpAnyH_ready (rs := [1]) (by kernel_rfl) (by simp) ?_
          refine AllReadyH.cons (o := { dst := some 115, op := Op.call { callee := Callee.value (Operand.func 11), args := #[Operand.tmp 114], argTypes := #[28] }, type := 24, pos := "law.go:127", after := #[{ on := 0, ground := Ground.data }], guard := none }) rfl (fun K hK => ?_) AllReadyH.nil
          (go_simp; go_at_call 11; (with_reducible refine (KG13.out _ hHeld.1).mono ?_); rintro e g1 ⟨ga, gm, gk, rfl, hgm, hgr, hgb, hg6⟩; go_wp2_with fail)
          refine hK.out _ _ ?_ (fun hHeld2 => ?_)
          · (first | exact KS13.out _ (Below.refl _ _).drew | exact KS13.out _ (by assumption) | assumption)
          clear hK K
          (try simp only [Act.put, List.setIfInBounds_toArray, List.set_cons_zero, List.set_cons_succ])
          clear hHeld; have hHeld := hHeld2; clear hHeld2
          refine wpAnyH_ready (rs := [2]) (by kernel_rfl) (by simp) ?_
          refine AllReadyH.cons (o := { dst := some 116, op := Op.call { callee := Callee.value (Operand.func 10), args := #[Operand.tmp 115], argTypes := #[24] }, type := 37, pos := "law.go:127", after := #[{ on := 1, ground := Ground.data }, { on := 1, ground := Ground.chain }], guard := none }) rfl (fun K hK => ?_) AllReadyH.nil
          (go_simp; go_at_call 10; (with_reducible refine (KA13.out _ _ ga gm gk _ _ hgm hgr hHeld.1).mono ?_); rintro e g2 ⟨gb, gl, rfl, hgr2, hgb2, hg62⟩; go_wp2_with fail)
          refine hK.out _ _ ?_ (fun hHeld2 => ?_)
          · (first | exact KS13.out _ (Below.refl _ _).drew | exact KS13.out _ (by assumption) | assumption)
          clear hK K
          (try simp only [Act.put, List.setIfInBounds_toArray, List.set_cons_zero, List.set_cons_succ])
          clear hHeld; have hHeld := hHeld2; clear hHeld2
          refine wpAnyH_ready (rs := [4]) (by kernel_rfl) (by simp) ?_
          refine AllReadyH.cons (o := { dst := some 118, op := Op.call { callee := Callee.value (Operand.func 10), args := #[Operand.tmp 117], argTypes := #[24] }, type := 37, pos := "law.go:127", after := #[{ on := 3, ground := Ground.data }, { on := 2, ground := Ground.chain }], guard := none }) rfl (fun K hK => ?_) AllReadyH.nil
          (go_simp; go_at_call 10; (with_reducible refine (KA13.out _ _ ta tn tc _ _ (by omega) (HTW13.out _ hHeld.1) hHeld.1).mono ?_); rintro e g3 ⟨gc, go, rfl, hgr3, hgb3, hg63⟩; go_wp2_with fail)
          refine hK.out _ _ ?_ (fun hHeld2 => ?_)
          · (first | exact KS13.out _ (Below.refl _ _).drew | exact KS13.out _ (by assumption) | assumption)
          clear hK K
          (try simp only [Act.put, List.setIfInBounds_toArray, List.set_cons_zero, List.set_cons_succ])
          clear hHeld; have hHeld := hHeld2; clear hHeld2
          refine wpAnyH_ready (rs := [5]) (by kernel_rfl) (by simp) ?_
          refine AllReadyH.cons (o := { dst := some 119, op := Op.call { callee := Callee.value (Operand.func 9), args := #[Operand.tmp 116, Operand.tmp 118], argTypes := #[37, 37] }, type := 4, pos := "law.go:127", after := #[{ on := 2, ground := Ground.data }, { on := 4, ground := Ground.data }, { on := 4, ground := Ground.chain }], guard := none }) rfl (fun K hK => ?_) AllReadyH.nil
          (go_simp; go_at_call 9; (with_reducible refine (KL13.out _ _ _ _ _ _ _ hgm (hgr2.below hgb3) hgr3 hHeld.1).mono ?_); rintro e g4 ⟨rfl, hg4⟩; go_wp2_with fail)
          refine hK.out _ _ ?_ (fun hHeld2 => ?_)
          · (first | exact KS13.out _ (Below.refl _ _).drew | exact KS13.out _ (by assumption) | assumption)
          clear hK K
          (try simp only [Act.put, List.setIfInBounds_toArray, List.set_cons_zero, List.set_cons_succ])
          clear hHeld; have hHeld := hHeld2; clear hHeld2
          refine wpAnyH_take (i := 6) (oi := { dst := some 120, op := Op.move (Operand.tmp 119), type := 4, pos := "law.go:127", after := #[{ on := 5, ground := Ground.data }, { on := 5, ground := Ground.chain }], guard := none }) (v := ?_) rfl (by kernel_rfl) (by kernel_rfl) (by kernel_rfl) (fun _ _ _ h => h) (Or.inl ⟨by rfl, ?_⟩) (by assumption) ?_
          rotate_left
          · (intro w hSw; (try dsimp only at hSw); go_simp; try with_reducible rfl)
          (try simp only [Act.put, List.setIfInBounds_toArray, List.set_cons_zero, List.set_cons_succ])
          refine wpAnyH_ready (rs := [7]) (by kernel_rfl) (by simp) ?_
          refine AllReadyH.cons (o := { dst := some 121, op := Op.call { callee := Callee.value (Operand.func 5), args := #[], argTypes := #[] }, type := 4, pos := "law.go:127", after := #[{ on := 6, ground := Ground.chain }, { on := 6, ground := Ground.guard }], guard := some (6, true) }) rfl (fun K hK => ?_) AllReadyH.nil
          (go_simp; go_at_call 5; (with_reducible refine (KN13.out _ hHeld.1).mono ?_); rintro e g5 ⟨rfl, hg5⟩; go_wp2_with fail)
          refine hK.out _ _ ?_ (fun hHeld2 => ?_)
          · (first | exact KS13.out _ (Below.refl _ _).drew | exact KS13.out _ (by assumption) | assumption)
          clear hK K
          (try simp only [Act.put, List.setIfInBounds_toArray, List.set_cons_zero, List.set_cons_succ])
          clear hHeld; have hHeld := hHeld2; clear hHeld2
          refine wpAnyH_take (i := 8) (oi := { dst := some 122, op := Op.pick (Operand.tmp 120) (Operand.tmp 121) (Operand.const (Value.bool false)), type := 4, pos := "law.go:127", after := #[{ on := 6, ground := Ground.data }, { on := 7, ground := Ground.data }], guard := none }) (v := ?_) rfl (by kernel_rfl) (by kernel_rfl) (by kernel_rfl) (fun _ _ _ h => h) (Or.inl ⟨by rfl, ?_⟩) (by assumption) ?_
          rotate_left
          · (intro w hSw; (try dsimp only at hSw); go_simp; try with_reducible rfl)
          (try simp only [Act.put, List.setIfInBounds_toArray, List.set_cons_zero, List.set_cons_succ])
          refine wpAnyH_take (i := 9) (oi := { dst := some 6, op := Op.assign (Operand.tmp 122), type := 4, pos := "law.go:127", after := #[{ on := 8, ground := Ground.data }, { on := 7, ground := Ground.chain }, { on := 0, ground := Ground.phase }, { on := 1, ground := Ground.phase }, { on := 2, ground := Ground.phase }, { on := 3, ground := Ground.phase }, { on := 4, ground := Ground.phase }, { on := 5, ground := Ground.phase }, { on := 6, ground := Ground.phase }, { on := 7, ground := Ground.phase }, { on := 8, ground := Ground.phase }], guard := none }) (v := ?_) rfl (by kernel_rfl) (by kernel_rfl) (by kernel_rfl) (fun _ _ _ h => h) (Or.inl ⟨by rfl, ?_⟩) (by assumption) ?_
          rotate_left
          · (intro w hSw; (try dsimp only at hSw); go_simp; try with_reducible rfl)
          (try simp only [Act.put, List.setIfInBounds_toArray, List.set_cons_zero, List.set_cons_succ])
          refine wpAnyH_done (by kernel_rfl) ?_ _
          clear hHeld
          go_wp2
          go_ret
          exact ⟨rfl, HBV.out.trans ((HB13.out.trans (hg5.mono hv13)).mono (by omega))⟩
        · have hkcb' : ¬ (k : Int) = (cb : Int) := by omega
          have HV1 := Lib.hid (HBY.out.take hkL)
          have HV2 := Lib.hid (HBY.out.drop hkL)
          go_wp2_with fail
          (with_reducible refine (HTS.out.write p F1 r c _ cm [] (bs.take k) us p' _ V.heap.size g4 (HS.out.keep HWV.out HBG.out) HTMG.out HV1.out (by have := List.length_take_le k bs; omega) (by rw [List.nil_append]; exact HT1.out) (by
            rcases HT2.out with h | ⟨t, r, hv, h⟩
            · exact .inl h
            · have hrv := HRV.out
              rw [hv] at hrv
              cases hrv with
              | cons h1 h2 => exact .inr ⟨t, _, h, h1⟩) HRU.out HF1.out hvg (by omega) (by omega)).mono ?_)
          rintro e w12 ⟨F3, rfl, htm12, hF3, hon12⟩
          have hb12 := HBG.out.trans hon12.below
          have hs12 := hon12.below.size
          have HB12 := Lib.hid hb12
          have HTM12 := Lib.hid htm12
          have HV3 := Lib.hid (HV2.out.only hon12 hF3)
          have HF3 := Lib.hid (show ∀ k, F3 k → V.heap.size ≤ k from fun k hk => by
            rcases hF3 k hk with h | h
            · exact HF1.out k h
            · omega)
          obtain ⟨⟨x0, x1, x2⟩, y0, y1, y2⟩ := HC.out w12 hb12
          have hv12 : V.heap.size ≤ w12.heap.size := by omega
          clear hb12 htm12 hF3 hon12 HV2 HV1
          go_wp2_with fail
          (with_reducible refine (HTS.out.write p F3 r c cm s2 p' (bs.drop k) vs [] _ V.heap.size w12 (HS.out.keep HWV.out HB12.out) HTM12.out HV3.out (by rw [List.length_drop]; have := HLE.out; omega) (by rw [List.append_nil]; exact HT3.out) (.inl rfl) HRV.out HF3.out hv12 (by omega) (by omega)).mono ?_)
          rintro e w13 ⟨F4, rfl, htm13, hF4, hon13⟩
          have hb13 := HB12.out.trans hon13.below
          have hs13 := hon13.below.size
          have HB13 := Lib.hid hb13
          have HTM13 := Lib.hid htm13
          obtain ⟨⟨x0, x1, x2⟩, y0, y1, y2⟩ := HC.out w13 hb13
          have hv13 : V.heap.size ≤ w13.heap.size := by omega
          clear hb13 htm13 hF4 hon13 HV3
          have KG13 := Lib.hid (show ∀ W, Below w13.heap.size w13 W → Calls Tryd.prog 11 #[.pointer (some ⟨p, 0, none⟩)] W fun e w' => ∃ a m k, e = .returned (GridV r c a m k) ∧ m ≤ 3600 ∧ RowAt w' a m t ∧ Below W.heap.size W w' ∧ Below w13.heap.size w13 w' from fun W hb =>
            (HTS.out.grid p F4 r c s2 [] W (HS.out.keep HWV.out (HB13.out.trans (hb.mono hv13))) (HTS.out.stay HTM13.out hb.size (fun k hk => hb.block k (HTS.out.foot HTM13.out k hk))) (by omega) (by omega)).mono fun e w' ⟨a, m, k, he, hm, hk, ho, hbw⟩ => by
              rw [HG2.out, shown_flat HPT.out] at ho
              obtain ⟨a', k', hav, _, _, hr⟩ := own_row ho
              cases hav
              exact ⟨a, m, k, he, by rw [hm]; exact Nat.mul_le_mul (show r ≤ 60 by omega) (show c ≤ 60 by omega), hr, hbw, hb.trans (hbw.mono hb.size)⟩)
          have KA13 := Lib.hid (show ∀ (X Y : Int) (a : Option Addr) (m k : Nat) (l : List Cl) (W : World), m ≤ 3600 → RowAt W a m l → Below w13.heap.size w13 W → Calls Tryd.prog 10 #[.agg #[.int .i64 X, .int .i64 Y, .slice a m k]] W fun e w' => ∃ a' k', e = .returned (.slice a' m k') ∧ RowAt w' a' m l ∧ Below W.heap.size W w' ∧ Below w13.heap.size w13 w' from fun X Y a m k l W hm hr hb =>
            (asG X Y a m k l W (by omega) hr).mono fun e w' ⟨v, he, ho, hbw⟩ => by
              obtain ⟨a', k', rfl, hk', _, hr'⟩ := own_row ho
              exact ⟨a', k', he, hr', hbw, hb.trans (hbw.mono hb.size)⟩)
          have KL13 := Lib.hid (show ∀ (a : Option Addr) (m k : Nat) (a' : Option Addr) (m' k' : Nat) (W : World), m ≤ 3600 → RowAt W a m t → RowAt W a' m' t → Below w13.heap.size w13 W → Calls Tryd.prog 9 #[.slice a m k, .slice a' m' k'] W fun e w' => e = .returned (.bool true) ∧ Below w13.heap.size w13 w' from fun a m k a' m' k' W hm hr hr' hb =>
            (alike a m k t a' m' k' t W (by omega) hr hr').mono fun e w' ⟨he, hbw⟩ => ⟨by rw [he]; simp, hb.trans (hbw.mono hb.size)⟩)
          have KN13 := Lib.hid (show ∀ W, Below w13.heap.size w13 W → Calls Tryd.prog 5 #[] W fun e w' => e = .returned (.bool true) ∧ Below w13.heap.size w13 w' from fun W hb =>
            (HS.out.knows W (HS.out.keep HWV.out (HB13.out.trans (hb.mono hv13)))).mono fun e w' ⟨he, hbw⟩ => ⟨he, hb.trans (hbw.mono hb.size)⟩)
          have KS13 := Lib.hid (show ∀ W : World, Below w13.heap.size w13 W → (Below w13.heap.size w13 W ∧ W.cell? ⟨w.heap.size, 0, none⟩ = some (.int .i64 r) ∧ W.cell? ⟨w.heap.size, 1, none⟩ = some (.int .i64 c) ∧ W.cell? ⟨w.heap.size, 2, none⟩ = some (.slice fa fn fc) ∧ W.cell? ⟨w.heap.size + 1, 0, none⟩ = some (.int .i64 q) ∧ W.cell? ⟨w.heap.size + 1, 1, none⟩ = some (.int .i64 d) ∧ W.cell? ⟨w.heap.size + 1, 2, none⟩ = some (.slice ta tn tc)) from fun W hb => by
            obtain ⟨⟨a0, a1, a2⟩, b0, b1, b2⟩ := HC.out W (HB13.out.trans (hb.mono hv13))
            exact ⟨hb, a0, a1, a2, b0, b1, b2⟩)
          have HTW13 := Lib.hid (fun (W : World) (hb : Below w13.heap.size w13 W) => HTV.out.below (HB13.out.trans (hb.mono hv13)))
          go_wp2_with fail
          refine wp_region_held_drew (S := (fun W => Below w13.heap.size w13 W ∧ W.cell? ⟨w.heap.size, 0, none⟩ = some (.int .i64 r) ∧ W.cell? ⟨w.heap.size, 1, none⟩ = some (.int .i64 c) ∧ W.cell? ⟨w.heap.size, 2, none⟩ = some (.slice fa fn fc) ∧ W.cell? ⟨w.heap.size + 1, 0, none⟩ = some (.int .i64 q) ∧ W.cell? ⟨w.heap.size + 1, 1, none⟩ = some (.int .i64 d) ∧ W.cell? ⟨w.heap.size + 1, 2, none⟩ = some (.slice ta tn tc))) (by kernel_rfl) ?_ (fun hHeld => ?_)
          · (first | exact KS13.out _ (Below.refl _ _).drew | exact KS13.out _ (by assumption) | assumption)
          refine wpAnyH_take (i := 0) (oi := { dst := some 114, op := Op.move (Operand.tmp 7), type := 28, pos := "law.go:127", after := #[], guard := none }) (v := ?_) rfl (by kernel_rfl) (by kernel_rfl) (by kernel_rfl) (fun _ _ _ h => h) (Or.inl ⟨by rfl, ?_⟩) (by assumption) ?_
          rotate_left
          · (intro w hSw; (try dsimp only at hSw); go_simp; try with_reducible rfl)
          (try simp only [Act.put, List.setIfInBounds_toArray, List.set_cons_zero, List.set_cons_succ])
          refine wpAnyH_take (i := 3) (oi := { dst := some 117, op := Op.load 24 (Operand.tmp 4), type := 24, pos := "law.go:127", after := #[], guard := none }) (v := ?_) rfl (by kernel_rfl) (by kernel_rfl) (by kernel_rfl) (fun _ _ _ h => h) (Or.inl ⟨by rfl, ?_⟩) (by assumption) ?_
          rotate_left
          · (intro w hSw; (try dsimp only at hSw); go_simp; try with_reducible rfl)
          (try simp only [Act.put, List.setIfInBounds_toArray, List.set_cons_zero, List.set_cons_succ])
          refine wpAnyH_ready (rs := [1]) (by kernel_rfl) (by simp) ?_
          refine AllReadyH.cons (o := { dst := some 115, op := Op.call { callee := Callee.value (Operand.func 11), args := #[Operand.tmp 114], argTypes := #[28] }, type := 24, pos := "law.go:127", after := #[{ on := 0, ground := Ground.data }], guard := none }) rfl (fun K hK => ?_) AllReadyH.nil
          (go_simp; go_at_call 11; (with_reducible refine (KG13.out _ hHeld.1).mono ?_); rintro e g1 ⟨ga, gm, gk, rfl, hgm, hgr, hgb, hg6⟩; go_wp2_with fail)
          refine hK.out _ _ ?_ (fun hHeld2 => ?_)
          · (first | exact KS13.out _ (Below.refl _ _).drew | exact KS13.out _ (by assumption) | assumption)
          clear hK K
          (try simp only [Act.put, List.setIfInBounds_toArray, List.set_cons_zero, List.set_cons_succ])
          clear hHeld; have hHeld := hHeld2; clear hHeld2
          refine wpAnyH_ready (rs := [2]) (by kernel_rfl) (by simp) ?_
          refine AllReadyH.cons (o := { dst := some 116, op := Op.call { callee := Callee.value (Operand.func 10), args := #[Operand.tmp 115], argTypes := #[24] }, type := 37, pos := "law.go:127", after := #[{ on := 1, ground := Ground.data }, { on := 1, ground := Ground.chain }], guard := none }) rfl (fun K hK => ?_) AllReadyH.nil
          (go_simp; go_at_call 10; (with_reducible refine (KA13.out _ _ ga gm gk _ _ hgm hgr hHeld.1).mono ?_); rintro e g2 ⟨gb, gl, rfl, hgr2, hgb2, hg62⟩; go_wp2_with fail)
          refine hK.out _ _ ?_ (fun hHeld2 => ?_)
          · (first | exact KS13.out _ (Below.refl _ _).drew | exact KS13.out _ (by assumption) | assumption)
          clear hK K
          (try simp only [Act.put, List.setIfInBounds_toArray, List.set_cons_zero, List.set_cons_succ])
          clear hHeld; have hHeld := hHeld2; clear hHeld2
          refine wpAnyH_ready (rs := [4]) (by kernel_rfl) (by simp) ?_
          refine AllReadyH.cons (o := { dst := some 118, op := Op.call { callee := Callee.value (Operand.func 10), args := #[Operand.tmp 117], argTypes := #[24] }, type := 37, pos := "law.go:127", after := #[{ on := 3, ground := Ground.data }, { on := 2, ground := Ground.chain }], guard := none }) rfl (fun K hK => ?_) AllReadyH.nil
          (go_simp; go_at_call 10; (with_reducible refine (KA13.out _ _ ta tn tc _ _ (by omega) (HTW13.out _ hHeld.1) hHeld.1).mono ?_); rintro e g3 ⟨gc, go, rfl, hgr3, hgb3, hg63⟩; go_wp2_with fail)
          refine hK.out _ _ ?_ (fun hHeld2 => ?_)
          · (first | exact KS13.out _ (Below.refl _ _).drew | exact KS13.out _ (by assumption) | assumption)
          clear hK K
          (try simp only [Act.put, List.setIfInBounds_toArray, List.set_cons_zero, List.set_cons_succ])
          clear hHeld; have hHeld := hHeld2; clear hHeld2
          refine wpAnyH_ready (rs := [5]) (by kernel_rfl) (by simp) ?_
          refine AllReadyH.cons (o := { dst := some 119, op := Op.call { callee := Callee.value (Operand.func 9), args := #[Operand.tmp 116, Operand.tmp 118], argTypes := #[37, 37] }, type := 4, pos := "law.go:127", after := #[{ on := 2, ground := Ground.data }, { on := 4, ground := Ground.data }, { on := 4, ground := Ground.chain }], guard := none }) rfl (fun K hK => ?_) AllReadyH.nil
          (go_simp; go_at_call 9; (with_reducible refine (KL13.out _ _ _ _ _ _ _ hgm (hgr2.below hgb3) hgr3 hHeld.1).mono ?_); rintro e g4 ⟨rfl, hg4⟩; go_wp2_with fail)
          refine hK.out _ _ ?_ (fun hHeld2 => ?_)
          · (first | exact KS13.out _ (Below.refl _ _).drew | exact KS13.out _ (by assumption) | assumption)
          clear hK K
          (try simp only [Act.put, List.setIfInBounds_toArray, List.set_cons_zero, List.set_cons_succ])
          clear hHeld; have hHeld := hHeld2; clear hHeld2
          refine wpAnyH_take (i := 6) (oi := { dst := some 120, op := Op.move (Operand.tmp 119), type := 4, pos := "law.go:127", after := #[{ on := 5, ground := Ground.data }, { on := 5, ground := Ground.chain }], guard := none }) (v := ?_) rfl (by kernel_rfl) (by kernel_rfl) (by kernel_rfl) (fun _ _ _ h => h) (Or.inl ⟨by rfl, ?_⟩) (by assumption) ?_
          rotate_left
          · (intro w hSw; (try dsimp only at hSw); go_simp; try with_reducible rfl)
          (try simp only [Act.put, List.setIfInBounds_toArray, List.set_cons_zero, List.set_cons_succ])
          refine wpAnyH_ready (rs := [7]) (by kernel_rfl) (by simp) ?_
          refine AllReadyH.cons (o := { dst := some 121, op := Op.call { callee := Callee.value (Operand.func 5), args := #[], argTypes := #[] }, type := 4, pos := "law.go:127", after := #[{ on := 6, ground := Ground.chain }, { on := 6, ground := Ground.guard }], guard := some (6, true) }) rfl (fun K hK => ?_) AllReadyH.nil
          (go_simp; go_at_call 5; (with_reducible refine (KN13.out _ hHeld.1).mono ?_); rintro e g5 ⟨rfl, hg5⟩; go_wp2_with fail)
          refine hK.out _ _ ?_ (fun hHeld2 => ?_)
          · (first | exact KS13.out _ (Below.refl _ _).drew | exact KS13.out _ (by assumption) | assumption)
          clear hK K
          (try simp only [Act.put, List.setIfInBounds_toArray, List.set_cons_zero, List.set_cons_succ])
          clear hHeld; have hHeld := hHeld2; clear hHeld2
          refine wpAnyH_take (i := 8) (oi := { dst := some 122, op := Op.pick (Operand.tmp 120) (Operand.tmp 121) (Operand.const (Value.bool false)), type := 4, pos := "law.go:127", after := #[{ on := 6, ground := Ground.data }, { on := 7, ground := Ground.data }], guard := none }) (v := ?_) rfl (by kernel_rfl) (by kernel_rfl) (by kernel_rfl) (fun _ _ _ h => h) (Or.inl ⟨by rfl, ?_⟩) (by assumption) ?_
          rotate_left
          · (intro w hSw; (try dsimp only at hSw); go_simp; try with_reducible rfl)
          (try simp only [Act.put, List.setIfInBounds_toArray, List.set_cons_zero, List.set_cons_succ])
          refine wpAnyH_take (i := 9) (oi := { dst := some 6, op := Op.assign (Operand.tmp 122), type := 4, pos := "law.go:127", after := #[{ on := 8, ground := Ground.data }, { on := 7, ground := Ground.chain }, { on := 0, ground := Ground.phase }, { on := 1, ground := Ground.phase }, { on := 2, ground := Ground.phase }, { on := 3, ground := Ground.phase }, { on := 4, ground := Ground.phase }, { on := 5, ground := Ground.phase }, { on := 6, ground := Ground.phase }, { on := 7, ground := Ground.phase }, { on := 8, ground := Ground.phase }], guard := none }) (v := ?_) rfl (by kernel_rfl) (by kernel_rfl) (by kernel_rfl) (fun _ _ _ h => h) (Or.inl ⟨by rfl, ?_⟩) (by assumption) ?_
          rotate_left
          · (intro w hSw; (try dsimp only at hSw); go_simp; try with_reducible rfl)
          (try simp only [Act.put, List.setIfInBounds_toArray, List.set_cons_zero, List.set_cons_succ])
          refine wpAnyH_done (by kernel_rfl) ?_ _
          clear hHeld
          go_wp2
          go_ret
          exact ⟨rfl, HBV.out.trans ((HB13.out.trans (hg5.mono hv13)).mono (by omega))⟩
    · have hbr : ((r : Int) != (q : Int)) = false := by simp [hrq]
      have hbc : ((c : Int) != (d : Int)) = true := by simp; omega
      obtain rfl : same = false := by rw [← HSAME.out]; simp [sizeSame]; omega
      clear hrq hcd
      go_wp2_with fail
      (with_reducible refine (HTS.out.size p F1 r c q d s1 [] V.heap.size g4 (HS.out.keep HWV.out HBG.out) HTMG.out hq1 hq2 hd1 hd2 HF1.out (by omega)).mono ?_)
      rintro e w11 ⟨F2, rfl, htm11, hF2, hon11⟩
      have hb11 := HBG.out.trans hon11.below
      have hs11 := hon11.below.size
      have HB11 := Lib.hid hb11
      have HTM11 := Lib.hid htm11
      have HBF11 := Lib.hid (HBFG.out.only hon11 hF2)
      have HF2 := Lib.hid (show ∀ k, F2 k → V.heap.size ≤ k from fun k hk => by
        rcases hF2 k hk with h | h
        · exact HF1.out k h
        · omega)
      obtain ⟨⟨x0, x1, x2⟩, y0, y1, y2⟩ := HC.out w11 hb11
      have hvg : V.heap.size ≤ w11.heap.size := by omega
      clear hb11 htm11 hF2 hon11
      obtain ⟨s2, hrun2, hg2⟩ := shows_anew (f := f) HPT.out ⟨blankG q d, 0, 0, 0⟩ (blank_len q d) (blank_width q d)
      have HR2 := Lib.hid hrun2
      have HG2 := Lib.hid hg2
      clear hrun2 hg2
      obtain ⟨bs, hbs⟩ : ∃ bs, bs = paintP false q d f t := ⟨_, rfl⟩
      have hL := paintP_le false q d f t hq2 hd2
      rw [← hbs] at hL
      have HBS := Lib.hid (hbs.trans (paint_toks false q d f t))
      have HBY := Lib.hid (show BytesF F2 w11 vb bs by rw [hbs]; exact HBF11.out)
      clear hbs
      obtain ⟨ab, cb, hvbe, hLc, hab, _, _⟩ := HBY.out
      subst hvbe
      obtain ⟨L, hLe⟩ : ∃ L, L = bs.length := ⟨_, rfl⟩
      rw [← hLe] at hL hLc hab
      obtain ⟨k, hk⟩ : ∃ k : Nat, cu % ((L : Int) + 1) = (k : Int) := Int.eq_ofNat_of_zero_le (Int.emod_nonneg _ (by omega))
      have hkL : k ≤ L := by
        have := Int.emod_lt_of_pos cu (show (0 : Int) < (L : Int) + 1 by omega)
        omega
      have hki : (k : Int) ≤ (L : Int) := by omega
      have hk0 : (0 : Int) ≤ (k : Int) := by omega
      have hkc : (k : Int) ≤ (cb : Int) := by omega
      have hLci : (L : Int) ≤ (cb : Int) := by omega
      have hwk : IntKind.i64.wrap (k : Int) = (k : Int) := IntWalk.i64_in _ (by omega)
      obtain ⟨hcu0, hcu1⟩ := hcu
      have hL1 : ¬ ((L : Int) + 1 = 0) := by omega
      have HLE := Lib.hid hLe
      obtain ⟨us, vs, p', cm, hru, hrv, ht1, ht2, ht3⟩ := shown_cut HR2.out k (by rw [← HBS.out, ← hLe]; exact hkL)
      rw [← HBS.out] at ht1 ht3
      have HRU := Lib.hid hru
      have HRV := Lib.hid hrv
      have HT1 := Lib.hid ht1
      have HT2 := Lib.hid ht2
      have HT3 := Lib.hid ht3
      rw [← hLe] at HBY ⊢
      clear hru hrv ht1 ht2 ht3 hLe
      rcases hab with ⟨rfl, rfl, rfl⟩ | ⟨b0, o0, rfl⟩
      · obtain rfl : k = 0 := by omega
        have hbs0 : bs = [] := List.eq_nil_of_length_eq_zero HLE.out.symm
        have HV1 := Lib.hid (show BytesF F2 w11 (.slice none 0 0) (bs.take 0) by rw [List.take_zero, ← hbs0]; exact HBY.out)
        have HV2 := Lib.hid (show BytesF F2 w11 (.slice none 0 0) (bs.drop 0) by rw [List.drop_zero]; exact HBY.out)
        clear hbs0
        go_wp2_with fail
        (with_reducible refine (HTS.out.write p F2 q d _ cm [] (bs.take 0) us p' _ V.heap.size w11 (HS.out.keep HWV.out HB11.out) HTM11.out HV1.out (by have := List.length_take_le 0 bs; omega) (by rw [List.nil_append]; exact HT1.out) (by
          rcases HT2.out with h | ⟨t, r, hv, h⟩
          · exact .inl h
          · have hrv := HRV.out
            rw [hv] at hrv
            cases hrv with
            | cons h1 h2 => exact .inr ⟨t, _, h, h1⟩) HRU.out HF2.out hvg (by omega) (by omega)).mono ?_)
        rintro e w12 ⟨F3, rfl, htm12, hF3, hon12⟩
        have hb12 := HB11.out.trans hon12.below
        have hs12 := hon12.below.size
        have HB12 := Lib.hid hb12
        have HTM12 := Lib.hid htm12
        have HV3 := Lib.hid (HV2.out.only hon12 hF3)
        have HF3 := Lib.hid (show ∀ k, F3 k → V.heap.size ≤ k from fun k hk => by
          rcases hF3 k hk with h | h
          · exact HF2.out k h
          · omega)
        obtain ⟨⟨x0, x1, x2⟩, y0, y1, y2⟩ := HC.out w12 hb12
        have hv12 : V.heap.size ≤ w12.heap.size := by omega
        clear hb12 htm12 hF3 hon12 HV2 HV1
        go_wp2_with fail
        (with_reducible refine (HTS.out.write p F3 q d cm s2 p' (bs.drop 0) vs [] _ V.heap.size w12 (HS.out.keep HWV.out HB12.out) HTM12.out HV3.out (by rw [List.length_drop]; have := HLE.out; omega) (by rw [List.append_nil]; exact HT3.out) (.inl rfl) HRV.out HF3.out hv12 (by omega) (by omega)).mono ?_)
        rintro e w13 ⟨F4, rfl, htm13, hF4, hon13⟩
        have hb13 := HB12.out.trans hon13.below
        have hs13 := hon13.below.size
        have HB13 := Lib.hid hb13
        have HTM13 := Lib.hid htm13
        obtain ⟨⟨x0, x1, x2⟩, y0, y1, y2⟩ := HC.out w13 hb13
        have hv13 : V.heap.size ≤ w13.heap.size := by omega
        clear hb13 htm13 hF4 hon13 HV3
        have KG13 := Lib.hid (show ∀ W, Below w13.heap.size w13 W → Calls Tryd.prog 11 #[.pointer (some ⟨p, 0, none⟩)] W fun e w' => ∃ a m k, e = .returned (GridV q d a m k) ∧ m ≤ 3600 ∧ RowAt w' a m t ∧ Below W.heap.size W w' ∧ Below w13.heap.size w13 w' from fun W hb =>
          (HTS.out.grid p F4 q d s2 [] W (HS.out.keep HWV.out (HB13.out.trans (hb.mono hv13))) (HTS.out.stay HTM13.out hb.size (fun k hk => hb.block k (HTS.out.foot HTM13.out k hk))) (by omega) (by omega)).mono fun e w' ⟨a, m, k, he, hm, hk, ho, hbw⟩ => by
            rw [HG2.out, shown_flat HPT.out] at ho
            obtain ⟨a', k', hav, _, _, hr⟩ := own_row ho
            cases hav
            exact ⟨a, m, k, he, by rw [hm]; exact Nat.mul_le_mul (show q ≤ 60 by omega) (show d ≤ 60 by omega), hr, hbw, hb.trans (hbw.mono hb.size)⟩)
        have KA13 := Lib.hid (show ∀ (X Y : Int) (a : Option Addr) (m k : Nat) (l : List Cl) (W : World), m ≤ 3600 → RowAt W a m l → Below w13.heap.size w13 W → Calls Tryd.prog 10 #[.agg #[.int .i64 X, .int .i64 Y, .slice a m k]] W fun e w' => ∃ a' k', e = .returned (.slice a' m k') ∧ RowAt w' a' m l ∧ Below W.heap.size W w' ∧ Below w13.heap.size w13 w' from fun X Y a m k l W hm hr hb =>
          (asG X Y a m k l W (by omega) hr).mono fun e w' ⟨v, he, ho, hbw⟩ => by
            obtain ⟨a', k', rfl, hk', _, hr'⟩ := own_row ho
            exact ⟨a', k', he, hr', hbw, hb.trans (hbw.mono hb.size)⟩)
        have KL13 := Lib.hid (show ∀ (a : Option Addr) (m k : Nat) (a' : Option Addr) (m' k' : Nat) (W : World), m ≤ 3600 → RowAt W a m t → RowAt W a' m' t → Below w13.heap.size w13 W → Calls Tryd.prog 9 #[.slice a m k, .slice a' m' k'] W fun e w' => e = .returned (.bool true) ∧ Below w13.heap.size w13 w' from fun a m k a' m' k' W hm hr hr' hb =>
          (alike a m k t a' m' k' t W (by omega) hr hr').mono fun e w' ⟨he, hbw⟩ => ⟨by rw [he]; simp, hb.trans (hbw.mono hb.size)⟩)
        have KN13 := Lib.hid (show ∀ W, Below w13.heap.size w13 W → Calls Tryd.prog 5 #[] W fun e w' => e = .returned (.bool true) ∧ Below w13.heap.size w13 w' from fun W hb =>
          (HS.out.knows W (HS.out.keep HWV.out (HB13.out.trans (hb.mono hv13)))).mono fun e w' ⟨he, hbw⟩ => ⟨he, hb.trans (hbw.mono hb.size)⟩)
        have KS13 := Lib.hid (show ∀ W : World, Below w13.heap.size w13 W → (Below w13.heap.size w13 W ∧ W.cell? ⟨w.heap.size, 0, none⟩ = some (.int .i64 r) ∧ W.cell? ⟨w.heap.size, 1, none⟩ = some (.int .i64 c) ∧ W.cell? ⟨w.heap.size, 2, none⟩ = some (.slice fa fn fc) ∧ W.cell? ⟨w.heap.size + 1, 0, none⟩ = some (.int .i64 q) ∧ W.cell? ⟨w.heap.size + 1, 1, none⟩ = some (.int .i64 d) ∧ W.cell? ⟨w.heap.size + 1, 2, none⟩ = some (.slice ta tn tc)) from fun W hb => by
          obtain ⟨⟨a0, a1, a2⟩, b0, b1, b2⟩ := HC.out W (HB13.out.trans (hb.mono hv13))
          exact ⟨hb, a0, a1, a2, b0, b1, b2⟩)
        have HTW13 := Lib.hid (fun (W : World) (hb : Below w13.heap.size w13 W) => HTV.out.below (HB13.out.trans (hb.mono hv13)))
        go_wp2_with fail
        refine wp_region_held_drew (S := (fun W => Below w13.heap.size w13 W ∧ W.cell? ⟨w.heap.size, 0, none⟩ = some (.int .i64 r) ∧ W.cell? ⟨w.heap.size, 1, none⟩ = some (.int .i64 c) ∧ W.cell? ⟨w.heap.size, 2, none⟩ = some (.slice fa fn fc) ∧ W.cell? ⟨w.heap.size + 1, 0, none⟩ = some (.int .i64 q) ∧ W.cell? ⟨w.heap.size + 1, 1, none⟩ = some (.int .i64 d) ∧ W.cell? ⟨w.heap.size + 1, 2, none⟩ = some (.slice ta tn tc))) (by kernel_rfl) ?_ (fun hHeld => ?_)
        · (first | exact KS13.out _ (Below.refl _ _).drew | exact KS13.out _ (by assumption) | assumption)
        refine wpAnyH_take (i := 0) (oi := { dst := some 114, op := Op.move (Operand.tmp 7), type := 28, pos := "law.go:127", after := #[], guard := none }) (v := ?_) rfl (by kernel_rfl) (by kernel_rfl) (by kernel_rfl) (fun _ _ _ h => h) (Or.inl ⟨by rfl, ?_⟩) (by assumption) ?_
        rotate_left
        · (intro w hSw; (try dsimp only at hSw); go_simp; try with_reducible rfl)
        (try simp only [Act.put, List.setIfInBounds_toArray, List.set_cons_zero, List.set_cons_succ])
        refine wpAnyH_take (i := 3) (oi := { dst := some 117, op := Op.load 24 (Operand.tmp 4), type := 24, pos := "law.go:127", after := #[], guard := none }) (v := ?_) rfl (by kernel_rfl) (by kernel_rfl) (by kernel_rfl) (fun _ _ _ h => h) (Or.inl ⟨by rfl, ?_⟩) (by assumption) ?_
        rotate_left
        · (intro w hSw; (try dsimp only at hSw); go_simp; try with_reducible rfl)
        (try simp only [Act.put, List.setIfInBounds_toArray, List.set_cons_zero, List.set_cons_succ])
        refine wpAnyH_ready (rs := [1]) (by kernel_rfl) (by simp) ?_
        refine AllReadyH.cons (o := { dst := some 115, op := Op.call { callee := Callee.value (Operand.func 11), args := #[Operand.tmp 114], argTypes := #[28] }, type := 24, pos := "law.go:127", after := #[{ on := 0, ground := Ground.data }], guard := none }) rfl (fun K hK => ?_) AllReadyH.nil
        (go_simp; go_at_call 11; (with_reducible refine (KG13.out _ hHeld.1).mono ?_); rintro e g1 ⟨ga, gm, gk, rfl, hgm, hgr, hgb, hg6⟩; go_wp2_with fail)
        refine hK.out _ _ ?_ (fun hHeld2 => ?_)
        · (first | exact KS13.out _ (Below.refl _ _).drew | exact KS13.out _ (by assumption) | assumption)
        clear hK K
        (try simp only [Act.put, List.setIfInBounds_toArray, List.set_cons_zero, List.set_cons_succ])
        clear hHeld; have hHeld := hHeld2; clear hHeld2
        refine wpAnyH_ready (rs := [2]) (by kernel_rfl) (by simp) ?_
        refine AllReadyH.cons (o := { dst := some 116, op := Op.call { callee := Callee.value (Operand.func 10), args := #[Operand.tmp 115], argTypes := #[24] }, type := 37, pos := "law.go:127", after := #[{ on := 1, ground := Ground.data }, { on := 1, ground := Ground.chain }], guard := none }) rfl (fun K hK => ?_) AllReadyH.nil
        (go_simp; go_at_call 10; (with_reducible refine (KA13.out _ _ ga gm gk _ _ hgm hgr hHeld.1).mono ?_); rintro e g2 ⟨gb, gl, rfl, hgr2, hgb2, hg62⟩; go_wp2_with fail)
        refine hK.out _ _ ?_ (fun hHeld2 => ?_)
        · (first | exact KS13.out _ (Below.refl _ _).drew | exact KS13.out _ (by assumption) | assumption)
        clear hK K
        (try simp only [Act.put, List.setIfInBounds_toArray, List.set_cons_zero, List.set_cons_succ])
        clear hHeld; have hHeld := hHeld2; clear hHeld2
        refine wpAnyH_ready (rs := [4]) (by kernel_rfl) (by simp) ?_
        refine AllReadyH.cons (o := { dst := some 118, op := Op.call { callee := Callee.value (Operand.func 10), args := #[Operand.tmp 117], argTypes := #[24] }, type := 37, pos := "law.go:127", after := #[{ on := 3, ground := Ground.data }, { on := 2, ground := Ground.chain }], guard := none }) rfl (fun K hK => ?_) AllReadyH.nil
        (go_simp; go_at_call 10; (with_reducible refine (KA13.out _ _ ta tn tc _ _ (by omega) (HTW13.out _ hHeld.1) hHeld.1).mono ?_); rintro e g3 ⟨gc, go, rfl, hgr3, hgb3, hg63⟩; go_wp2_with fail)
        refine hK.out _ _ ?_ (fun hHeld2 => ?_)
        · (first | exact KS13.out _ (Below.refl _ _).drew | exact KS13.out _ (by assumption) | assumption)
        clear hK K
        (try simp only [Act.put, List.setIfInBounds_toArray, List.set_cons_zero, List.set_cons_succ])
        clear hHeld; have hHeld := hHeld2; clear hHeld2
        refine wpAnyH_ready (rs := [5]) (by kernel_rfl) (by simp) ?_
        refine AllReadyH.cons (o := { dst := some 119, op := Op.call { callee := Callee.value (Operand.func 9), args := #[Operand.tmp 116, Operand.tmp 118], argTypes := #[37, 37] }, type := 4, pos := "law.go:127", after := #[{ on := 2, ground := Ground.data }, { on := 4, ground := Ground.data }, { on := 4, ground := Ground.chain }], guard := none }) rfl (fun K hK => ?_) AllReadyH.nil
        (go_simp; go_at_call 9; (with_reducible refine (KL13.out _ _ _ _ _ _ _ hgm (hgr2.below hgb3) hgr3 hHeld.1).mono ?_); rintro e g4 ⟨rfl, hg4⟩; go_wp2_with fail)
        refine hK.out _ _ ?_ (fun hHeld2 => ?_)
        · (first | exact KS13.out _ (Below.refl _ _).drew | exact KS13.out _ (by assumption) | assumption)
        clear hK K
        (try simp only [Act.put, List.setIfInBounds_toArray, List.set_cons_zero, List.set_cons_succ])
        clear hHeld; have hHeld := hHeld2; clear hHeld2
        refine wpAnyH_take (i := 6) (oi := { dst := some 120, op := Op.move (Operand.tmp 119), type := 4, pos := "law.go:127", after := #[{ on := 5, ground := Ground.data }, { on := 5, ground := Ground.chain }], guard := none }) (v := ?_) rfl (by kernel_rfl) (by kernel_rfl) (by kernel_rfl) (fun _ _ _ h => h) (Or.inl ⟨by rfl, ?_⟩) (by assumption) ?_
        rotate_left
        · (intro w hSw; (try dsimp only at hSw); go_simp; try with_reducible rfl)
        (try simp only [Act.put, List.setIfInBounds_toArray, List.set_cons_zero, List.set_cons_succ])
        refine wpAnyH_ready (rs := [7]) (by kernel_rfl) (by simp) ?_
        refine AllReadyH.cons (o := { dst := some 121, op := Op.call { callee := Callee.value (Operand.func 5), args := #[], argTypes := #[] }, type := 4, pos := "law.go:127", after := #[{ on := 6, ground := Ground.chain }, { on := 6, ground := Ground.guard }], guard := some (6, true) }) rfl (fun K hK => ?_) AllReadyH.nil
        (go_simp; go_at_call 5; (with_reducible refine (KN13.out _ hHeld.1).mono ?_); rintro e g5 ⟨rfl, hg5⟩; go_wp2_with fail)
        refine hK.out _ _ ?_ (fun hHeld2 => ?_)
        · (first | exact KS13.out _ (Below.refl _ _).drew | exact KS13.out _ (by assumption) | assumption)
        clear hK K
        (try simp only [Act.put, List.setIfInBounds_toArray, List.set_cons_zero, List.set_cons_succ])
        clear hHeld; have hHeld := hHeld2; clear hHeld2
        refine wpAnyH_take (i := 8) (oi := { dst := some 122, op := Op.pick (Operand.tmp 120) (Operand.tmp 121) (Operand.const (Value.bool false)), type := 4, pos := "law.go:127", after := #[{ on := 6, ground := Ground.data }, { on := 7, ground := Ground.data }], guard := none }) (v := ?_) rfl (by kernel_rfl) (by kernel_rfl) (by kernel_rfl) (fun _ _ _ h => h) (Or.inl ⟨by rfl, ?_⟩) (by assumption) ?_
        rotate_left
        · (intro w hSw; (try dsimp only at hSw); go_simp; try with_reducible rfl)
        (try simp only [Act.put, List.setIfInBounds_toArray, List.set_cons_zero, List.set_cons_succ])
        refine wpAnyH_take (i := 9) (oi := { dst := some 6, op := Op.assign (Operand.tmp 122), type := 4, pos := "law.go:127", after := #[{ on := 8, ground := Ground.data }, { on := 7, ground := Ground.chain }, { on := 0, ground := Ground.phase }, { on := 1, ground := Ground.phase }, { on := 2, ground := Ground.phase }, { on := 3, ground := Ground.phase }, { on := 4, ground := Ground.phase }, { on := 5, ground := Ground.phase }, { on := 6, ground := Ground.phase }, { on := 7, ground := Ground.phase }, { on := 8, ground := Ground.phase }], guard := none }) (v := ?_) rfl (by kernel_rfl) (by kernel_rfl) (by kernel_rfl) (fun _ _ _ h => h) (Or.inl ⟨by rfl, ?_⟩) (by assumption) ?_
        rotate_left
        · (intro w hSw; (try dsimp only at hSw); go_simp; try with_reducible rfl)
        (try simp only [Act.put, List.setIfInBounds_toArray, List.set_cons_zero, List.set_cons_succ])
        refine wpAnyH_done (by kernel_rfl) ?_ _
        clear hHeld
        go_wp2
        go_ret
        exact ⟨rfl, HBV.out.trans ((HB13.out.trans (hg5.mono hv13)).mono (by omega))⟩
      · by_cases hkcb : k = cb
        · subst hkcb
          have hLk : L = k := by omega
          have HV1 := Lib.hid (HBY.out.take hkL)
          have HV2 := Lib.hid (show BytesF F2 w11 (.slice (some ⟨b0, o0, none⟩) 0 0) (bs.drop k) by
            rw [List.drop_of_length_le (by have := HLE.out; omega)]
            exact BytesF.empty _ _ _ _)
          clear hLk
          go_wp2_with fail
          (with_reducible refine (HTS.out.write p F2 q d _ cm [] (bs.take k) us p' _ V.heap.size w11 (HS.out.keep HWV.out HB11.out) HTM11.out HV1.out (by have := List.length_take_le k bs; omega) (by rw [List.nil_append]; exact HT1.out) (by
            rcases HT2.out with h | ⟨t, r, hv, h⟩
            · exact .inl h
            · have hrv := HRV.out
              rw [hv] at hrv
              cases hrv with
              | cons h1 h2 => exact .inr ⟨t, _, h, h1⟩) HRU.out HF2.out hvg (by omega) (by omega)).mono ?_)
          rintro e w12 ⟨F3, rfl, htm12, hF3, hon12⟩
          have hb12 := HB11.out.trans hon12.below
          have hs12 := hon12.below.size
          have HB12 := Lib.hid hb12
          have HTM12 := Lib.hid htm12
          have HV3 := Lib.hid (HV2.out.only hon12 hF3)
          have HF3 := Lib.hid (show ∀ k, F3 k → V.heap.size ≤ k from fun k hk => by
            rcases hF3 k hk with h | h
            · exact HF2.out k h
            · omega)
          obtain ⟨⟨x0, x1, x2⟩, y0, y1, y2⟩ := HC.out w12 hb12
          have hv12 : V.heap.size ≤ w12.heap.size := by omega
          clear hb12 htm12 hF3 hon12 HV2 HV1
          go_wp2_with fail
          (with_reducible refine (HTS.out.write p F3 q d cm s2 p' (bs.drop k) vs [] _ V.heap.size w12 (HS.out.keep HWV.out HB12.out) HTM12.out HV3.out (by rw [List.length_drop]; have := HLE.out; omega) (by rw [List.append_nil]; exact HT3.out) (.inl rfl) HRV.out HF3.out hv12 (by omega) (by omega)).mono ?_)
          rintro e w13 ⟨F4, rfl, htm13, hF4, hon13⟩
          have hb13 := HB12.out.trans hon13.below
          have hs13 := hon13.below.size
          have HB13 := Lib.hid hb13
          have HTM13 := Lib.hid htm13
          obtain ⟨⟨x0, x1, x2⟩, y0, y1, y2⟩ := HC.out w13 hb13
          have hv13 : V.heap.size ≤ w13.heap.size := by omega
          clear hb13 htm13 hF4 hon13 HV3
          have KG13 := Lib.hid (show ∀ W, Below w13.heap.size w13 W → Calls Tryd.prog 11 #[.pointer (some ⟨p, 0, none⟩)] W fun e w' => ∃ a m k, e = .returned (GridV q d a m k) ∧ m ≤ 3600 ∧ RowAt w' a m t ∧ Below W.heap.size W w' ∧ Below w13.heap.size w13 w' from fun W hb =>
            (HTS.out.grid p F4 q d s2 [] W (HS.out.keep HWV.out (HB13.out.trans (hb.mono hv13))) (HTS.out.stay HTM13.out hb.size (fun k hk => hb.block k (HTS.out.foot HTM13.out k hk))) (by omega) (by omega)).mono fun e w' ⟨a, m, k, he, hm, hk, ho, hbw⟩ => by
              rw [HG2.out, shown_flat HPT.out] at ho
              obtain ⟨a', k', hav, _, _, hr⟩ := own_row ho
              cases hav
              exact ⟨a, m, k, he, by rw [hm]; exact Nat.mul_le_mul (show q ≤ 60 by omega) (show d ≤ 60 by omega), hr, hbw, hb.trans (hbw.mono hb.size)⟩)
          have KA13 := Lib.hid (show ∀ (X Y : Int) (a : Option Addr) (m k : Nat) (l : List Cl) (W : World), m ≤ 3600 → RowAt W a m l → Below w13.heap.size w13 W → Calls Tryd.prog 10 #[.agg #[.int .i64 X, .int .i64 Y, .slice a m k]] W fun e w' => ∃ a' k', e = .returned (.slice a' m k') ∧ RowAt w' a' m l ∧ Below W.heap.size W w' ∧ Below w13.heap.size w13 w' from fun X Y a m k l W hm hr hb =>
            (asG X Y a m k l W (by omega) hr).mono fun e w' ⟨v, he, ho, hbw⟩ => by
              obtain ⟨a', k', rfl, hk', _, hr'⟩ := own_row ho
              exact ⟨a', k', he, hr', hbw, hb.trans (hbw.mono hb.size)⟩)
          have KL13 := Lib.hid (show ∀ (a : Option Addr) (m k : Nat) (a' : Option Addr) (m' k' : Nat) (W : World), m ≤ 3600 → RowAt W a m t → RowAt W a' m' t → Below w13.heap.size w13 W → Calls Tryd.prog 9 #[.slice a m k, .slice a' m' k'] W fun e w' => e = .returned (.bool true) ∧ Below w13.heap.size w13 w' from fun a m k a' m' k' W hm hr hr' hb =>
            (alike a m k t a' m' k' t W (by omega) hr hr').mono fun e w' ⟨he, hbw⟩ => ⟨by rw [he]; simp, hb.trans (hbw.mono hb.size)⟩)
          have KN13 := Lib.hid (show ∀ W, Below w13.heap.size w13 W → Calls Tryd.prog 5 #[] W fun e w' => e = .returned (.bool true) ∧ Below w13.heap.size w13 w' from fun W hb =>
            (HS.out.knows W (HS.out.keep HWV.out (HB13.out.trans (hb.mono hv13)))).mono fun e w' ⟨he, hbw⟩ => ⟨he, hb.trans (hbw.mono hb.size)⟩)
          have KS13 := Lib.hid (show ∀ W : World, Below w13.heap.size w13 W → (Below w13.heap.size w13 W ∧ W.cell? ⟨w.heap.size, 0, none⟩ = some (.int .i64 r) ∧ W.cell? ⟨w.heap.size, 1, none⟩ = some (.int .i64 c) ∧ W.cell? ⟨w.heap.size, 2, none⟩ = some (.slice fa fn fc) ∧ W.cell? ⟨w.heap.size + 1, 0, none⟩ = some (.int .i64 q) ∧ W.cell? ⟨w.heap.size + 1, 1, none⟩ = some (.int .i64 d) ∧ W.cell? ⟨w.heap.size + 1, 2, none⟩ = some (.slice ta tn tc)) from fun W hb => by
            obtain ⟨⟨a0, a1, a2⟩, b0, b1, b2⟩ := HC.out W (HB13.out.trans (hb.mono hv13))
            exact ⟨hb, a0, a1, a2, b0, b1, b2⟩)
          have HTW13 := Lib.hid (fun (W : World) (hb : Below w13.heap.size w13 W) => HTV.out.below (HB13.out.trans (hb.mono hv13)))
          go_wp2_with fail
          refine wp_region_held_drew (S := (fun W => Below w13.heap.size w13 W ∧ W.cell? ⟨w.heap.size, 0, none⟩ = some (.int .i64 r) ∧ W.cell? ⟨w.heap.size, 1, none⟩ = some (.int .i64 c) ∧ W.cell? ⟨w.heap.size, 2, none⟩ = some (.slice fa fn fc) ∧ W.cell? ⟨w.heap.size + 1, 0, none⟩ = some (.int .i64 q) ∧ W.cell? ⟨w.heap.size + 1, 1, none⟩ = some (.int .i64 d) ∧ W.cell? ⟨w.heap.size + 1, 2, none⟩ = some (.slice ta tn tc))) (by kernel_rfl) ?_ (fun hHeld => ?_)
          · (first | exact KS13.out _ (Below.refl _ _).drew | exact KS13.out _ (by assumption) | assumption)
          refine wpAnyH_take (i := 0) (oi := { dst := some 114, op := Op.move (Operand.tmp 7), type := 28, pos := "law.go:127", after := #[], guard := none }) (v := ?_) rfl (by kernel_rfl) (by kernel_rfl) (by kernel_rfl) (fun _ _ _ h => h) (Or.inl ⟨by rfl, ?_⟩) (by assumption) ?_
          rotate_left
          · (intro w hSw; (try dsimp only at hSw); go_simp; try with_reducible rfl)
          (try simp only [Act.put, List.setIfInBounds_toArray, List.set_cons_zero, List.set_cons_succ])
          refine wpAnyH_take (i := 3) (oi := { dst := some 117, op := Op.load 24 (Operand.tmp 4), type := 24, pos := "law.go:127", after := #[], guard := none }) (v := ?_) rfl (by kernel_rfl) (by kernel_rfl) (by kernel_rfl) (fun _ _ _ h => h) (Or.inl ⟨by rfl, ?_⟩) (by assumption) ?_
          rotate_left
          · (intro w hSw; (try dsimp only at hSw); go_simp; try with_reducible rfl)
          (try simp only [Act.put, List.setIfInBounds_toArray, List.set_cons_zero, List.set_cons_succ])
          refine wpAnyH_ready (rs := [1]) (by kernel_rfl) (by simp) ?_
          refine AllReadyH.cons (o := { dst := some 115, op := Op.call { callee := Callee.value (Operand.func 11), args := #[Operand.tmp 114], argTypes := #[28] }, type := 24, pos := "law.go:127", after := #[{ on := 0, ground := Ground.data }], guard := none }) rfl (fun K hK => ?_) AllReadyH.nil
          (go_simp; go_at_call 11; (with_reducible refine (KG13.out _ hHeld.1).mono ?_); rintro e g1 ⟨ga, gm, gk, rfl, hgm, hgr, hgb, hg6⟩; go_wp2_with fail)
          refine hK.out _ _ ?_ (fun hHeld2 => ?_)
          · (first | exact KS13.out _ (Below.refl _ _).drew | exact KS13.out _ (by assumption) | assumption)
          clear hK K
          (try simp only [Act.put, List.setIfInBounds_toArray, List.set_cons_zero, List.set_cons_succ])
          clear hHeld; have hHeld := hHeld2; clear hHeld2
          refine wpAnyH_ready (rs := [2]) (by kernel_rfl) (by simp) ?_
          refine AllReadyH.cons (o := { dst := some 116, op := Op.call { callee := Callee.value (Operand.func 10), args := #[Operand.tmp 115], argTypes := #[24] }, type := 37, pos := "law.go:127", after := #[{ on := 1, ground := Ground.data }, { on := 1, ground := Ground.chain }], guard := none }) rfl (fun K hK => ?_) AllReadyH.nil
          (go_simp; go_at_call 10; (with_reducible refine (KA13.out _ _ ga gm gk _ _ hgm hgr hHeld.1).mono ?_); rintro e g2 ⟨gb, gl, rfl, hgr2, hgb2, hg62⟩; go_wp2_with fail)
          refine hK.out _ _ ?_ (fun hHeld2 => ?_)
          · (first | exact KS13.out _ (Below.refl _ _).drew | exact KS13.out _ (by assumption) | assumption)
          clear hK K
          (try simp only [Act.put, List.setIfInBounds_toArray, List.set_cons_zero, List.set_cons_succ])
          clear hHeld; have hHeld := hHeld2; clear hHeld2
          refine wpAnyH_ready (rs := [4]) (by kernel_rfl) (by simp) ?_
          refine AllReadyH.cons (o := { dst := some 118, op := Op.call { callee := Callee.value (Operand.func 10), args := #[Operand.tmp 117], argTypes := #[24] }, type := 37, pos := "law.go:127", after := #[{ on := 3, ground := Ground.data }, { on := 2, ground := Ground.chain }], guard := none }) rfl (fun K hK => ?_) AllReadyH.nil
          (go_simp; go_at_call 10; (with_reducible refine (KA13.out _ _ ta tn tc _ _ (by omega) (HTW13.out _ hHeld.1) hHeld.1).mono ?_); rintro e g3 ⟨gc, go, rfl, hgr3, hgb3, hg63⟩; go_wp2_with fail)
          refine hK.out _ _ ?_ (fun hHeld2 => ?_)
          · (first | exact KS13.out _ (Below.refl _ _).drew | exact KS13.out _ (by assumption) | assumption)
          clear hK K
          (try simp only [Act.put, List.setIfInBounds_toArray, List.set_cons_zero, List.set_cons_succ])
          clear hHeld; have hHeld := hHeld2; clear hHeld2
          refine wpAnyH_ready (rs := [5]) (by kernel_rfl) (by simp) ?_
          refine AllReadyH.cons (o := { dst := some 119, op := Op.call { callee := Callee.value (Operand.func 9), args := #[Operand.tmp 116, Operand.tmp 118], argTypes := #[37, 37] }, type := 4, pos := "law.go:127", after := #[{ on := 2, ground := Ground.data }, { on := 4, ground := Ground.data }, { on := 4, ground := Ground.chain }], guard := none }) rfl (fun K hK => ?_) AllReadyH.nil
          (go_simp; go_at_call 9; (with_reducible refine (KL13.out _ _ _ _ _ _ _ hgm (hgr2.below hgb3) hgr3 hHeld.1).mono ?_); rintro e g4 ⟨rfl, hg4⟩; go_wp2_with fail)
          refine hK.out _ _ ?_ (fun hHeld2 => ?_)
          · (first | exact KS13.out _ (Below.refl _ _).drew | exact KS13.out _ (by assumption) | assumption)
          clear hK K
          (try simp only [Act.put, List.setIfInBounds_toArray, List.set_cons_zero, List.set_cons_succ])
          clear hHeld; have hHeld := hHeld2; clear hHeld2
          refine wpAnyH_take (i := 6) (oi := { dst := some 120, op := Op.move (Operand.tmp 119), type := 4, pos := "law.go:127", after := #[{ on := 5, ground := Ground.data }, { on := 5, ground := Ground.chain }], guard := none }) (v := ?_) rfl (by kernel_rfl) (by kernel_rfl) (by kernel_rfl) (fun _ _ _ h => h) (Or.inl ⟨by rfl, ?_⟩) (by assumption) ?_
          rotate_left
          · (intro w hSw; (try dsimp only at hSw); go_simp; try with_reducible rfl)
          (try simp only [Act.put, List.setIfInBounds_toArray, List.set_cons_zero, List.set_cons_succ])
          refine wpAnyH_ready (rs := [7]) (by kernel_rfl) (by simp) ?_
          refine AllReadyH.cons (o := { dst := some 121, op := Op.call { callee := Callee.value (Operand.func 5), args := #[], argTypes := #[] }, type := 4, pos := "law.go:127", after := #[{ on := 6, ground := Ground.chain }, { on := 6, ground := Ground.guard }], guard := some (6, true) }) rfl (fun K hK => ?_) AllReadyH.nil
          (go_simp; go_at_call 5; (with_reducible refine (KN13.out _ hHeld.1).mono ?_); rintro e g5 ⟨rfl, hg5⟩; go_wp2_with fail)
          refine hK.out _ _ ?_ (fun hHeld2 => ?_)
          · (first | exact KS13.out _ (Below.refl _ _).drew | exact KS13.out _ (by assumption) | assumption)
          clear hK K
          (try simp only [Act.put, List.setIfInBounds_toArray, List.set_cons_zero, List.set_cons_succ])
          clear hHeld; have hHeld := hHeld2; clear hHeld2
          refine wpAnyH_take (i := 8) (oi := { dst := some 122, op := Op.pick (Operand.tmp 120) (Operand.tmp 121) (Operand.const (Value.bool false)), type := 4, pos := "law.go:127", after := #[{ on := 6, ground := Ground.data }, { on := 7, ground := Ground.data }], guard := none }) (v := ?_) rfl (by kernel_rfl) (by kernel_rfl) (by kernel_rfl) (fun _ _ _ h => h) (Or.inl ⟨by rfl, ?_⟩) (by assumption) ?_
          rotate_left
          · (intro w hSw; (try dsimp only at hSw); go_simp; try with_reducible rfl)
          (try simp only [Act.put, List.setIfInBounds_toArray, List.set_cons_zero, List.set_cons_succ])
          refine wpAnyH_take (i := 9) (oi := { dst := some 6, op := Op.assign (Operand.tmp 122), type := 4, pos := "law.go:127", after := #[{ on := 8, ground := Ground.data }, { on := 7, ground := Ground.chain }, { on := 0, ground := Ground.phase }, { on := 1, ground := Ground.phase }, { on := 2, ground := Ground.phase }, { on := 3, ground := Ground.phase }, { on := 4, ground := Ground.phase }, { on := 5, ground := Ground.phase }, { on := 6, ground := Ground.phase }, { on := 7, ground := Ground.phase }, { on := 8, ground := Ground.phase }], guard := none }) (v := ?_) rfl (by kernel_rfl) (by kernel_rfl) (by kernel_rfl) (fun _ _ _ h => h) (Or.inl ⟨by rfl, ?_⟩) (by assumption) ?_
          rotate_left
          · (intro w hSw; (try dsimp only at hSw); go_simp; try with_reducible rfl)
          (try simp only [Act.put, List.setIfInBounds_toArray, List.set_cons_zero, List.set_cons_succ])
          refine wpAnyH_done (by kernel_rfl) ?_ _
          clear hHeld
          go_wp2
          go_ret
          exact ⟨rfl, HBV.out.trans ((HB13.out.trans (hg5.mono hv13)).mono (by omega))⟩
        · have hkcb' : ¬ (k : Int) = (cb : Int) := by omega
          have HV1 := Lib.hid (HBY.out.take hkL)
          have HV2 := Lib.hid (HBY.out.drop hkL)
          go_wp2_with fail
          (with_reducible refine (HTS.out.write p F2 q d _ cm [] (bs.take k) us p' _ V.heap.size w11 (HS.out.keep HWV.out HB11.out) HTM11.out HV1.out (by have := List.length_take_le k bs; omega) (by rw [List.nil_append]; exact HT1.out) (by
            rcases HT2.out with h | ⟨t, r, hv, h⟩
            · exact .inl h
            · have hrv := HRV.out
              rw [hv] at hrv
              cases hrv with
              | cons h1 h2 => exact .inr ⟨t, _, h, h1⟩) HRU.out HF2.out hvg (by omega) (by omega)).mono ?_)
          rintro e w12 ⟨F3, rfl, htm12, hF3, hon12⟩
          have hb12 := HB11.out.trans hon12.below
          have hs12 := hon12.below.size
          have HB12 := Lib.hid hb12
          have HTM12 := Lib.hid htm12
          have HV3 := Lib.hid (HV2.out.only hon12 hF3)
          have HF3 := Lib.hid (show ∀ k, F3 k → V.heap.size ≤ k from fun k hk => by
            rcases hF3 k hk with h | h
            · exact HF2.out k h
            · omega)
          obtain ⟨⟨x0, x1, x2⟩, y0, y1, y2⟩ := HC.out w12 hb12
          have hv12 : V.heap.size ≤ w12.heap.size := by omega
          clear hb12 htm12 hF3 hon12 HV2 HV1
          go_wp2_with fail
          (with_reducible refine (HTS.out.write p F3 q d cm s2 p' (bs.drop k) vs [] _ V.heap.size w12 (HS.out.keep HWV.out HB12.out) HTM12.out HV3.out (by rw [List.length_drop]; have := HLE.out; omega) (by rw [List.append_nil]; exact HT3.out) (.inl rfl) HRV.out HF3.out hv12 (by omega) (by omega)).mono ?_)
          rintro e w13 ⟨F4, rfl, htm13, hF4, hon13⟩
          have hb13 := HB12.out.trans hon13.below
          have hs13 := hon13.below.size
          have HB13 := Lib.hid hb13
          have HTM13 := Lib.hid htm13
          obtain ⟨⟨x0, x1, x2⟩, y0, y1, y2⟩ := HC.out w13 hb13
          have hv13 : V.heap.size ≤ w13.heap.size := by omega
          clear hb13 htm13 hF4 hon13 HV3
          have KG13 := Lib.hid (show ∀ W, Below w13.heap.size w13 W → Calls Tryd.prog 11 #[.pointer (some ⟨p, 0, none⟩)] W fun e w' => ∃ a m k, e = .returned (GridV q d a m k) ∧ m ≤ 3600 ∧ RowAt w' a m t ∧ Below W.heap.size W w' ∧ Below w13.heap.size w13 w' from fun W hb =>
            (HTS.out.grid p F4 q d s2 [] W (HS.out.keep HWV.out (HB13.out.trans (hb.mono hv13))) (HTS.out.stay HTM13.out hb.size (fun k hk => hb.block k (HTS.out.foot HTM13.out k hk))) (by omega) (by omega)).mono fun e w' ⟨a, m, k, he, hm, hk, ho, hbw⟩ => by
              rw [HG2.out, shown_flat HPT.out] at ho
              obtain ⟨a', k', hav, _, _, hr⟩ := own_row ho
              cases hav
              exact ⟨a, m, k, he, by rw [hm]; exact Nat.mul_le_mul (show q ≤ 60 by omega) (show d ≤ 60 by omega), hr, hbw, hb.trans (hbw.mono hb.size)⟩)
          have KA13 := Lib.hid (show ∀ (X Y : Int) (a : Option Addr) (m k : Nat) (l : List Cl) (W : World), m ≤ 3600 → RowAt W a m l → Below w13.heap.size w13 W → Calls Tryd.prog 10 #[.agg #[.int .i64 X, .int .i64 Y, .slice a m k]] W fun e w' => ∃ a' k', e = .returned (.slice a' m k') ∧ RowAt w' a' m l ∧ Below W.heap.size W w' ∧ Below w13.heap.size w13 w' from fun X Y a m k l W hm hr hb =>
            (asG X Y a m k l W (by omega) hr).mono fun e w' ⟨v, he, ho, hbw⟩ => by
              obtain ⟨a', k', rfl, hk', _, hr'⟩ := own_row ho
              exact ⟨a', k', he, hr', hbw, hb.trans (hbw.mono hb.size)⟩)
          have KL13 := Lib.hid (show ∀ (a : Option Addr) (m k : Nat) (a' : Option Addr) (m' k' : Nat) (W : World), m ≤ 3600 → RowAt W a m t → RowAt W a' m' t → Below w13.heap.size w13 W → Calls Tryd.prog 9 #[.slice a m k, .slice a' m' k'] W fun e w' => e = .returned (.bool true) ∧ Below w13.heap.size w13 w' from fun a m k a' m' k' W hm hr hr' hb =>
            (alike a m k t a' m' k' t W (by omega) hr hr').mono fun e w' ⟨he, hbw⟩ => ⟨by rw [he]; simp, hb.trans (hbw.mono hb.size)⟩)
          have KN13 := Lib.hid (show ∀ W, Below w13.heap.size w13 W → Calls Tryd.prog 5 #[] W fun e w' => e = .returned (.bool true) ∧ Below w13.heap.size w13 w' from fun W hb =>
            (HS.out.knows W (HS.out.keep HWV.out (HB13.out.trans (hb.mono hv13)))).mono fun e w' ⟨he, hbw⟩ => ⟨he, hb.trans (hbw.mono hb.size)⟩)
          have KS13 := Lib.hid (show ∀ W : World, Below w13.heap.size w13 W → (Below w13.heap.size w13 W ∧ W.cell? ⟨w.heap.size, 0, none⟩ = some (.int .i64 r) ∧ W.cell? ⟨w.heap.size, 1, none⟩ = some (.int .i64 c) ∧ W.cell? ⟨w.heap.size, 2, none⟩ = some (.slice fa fn fc) ∧ W.cell? ⟨w.heap.size + 1, 0, none⟩ = some (.int .i64 q) ∧ W.cell? ⟨w.heap.size + 1, 1, none⟩ = some (.int .i64 d) ∧ W.cell? ⟨w.heap.size + 1, 2, none⟩ = some (.slice ta tn tc)) from fun W hb => by
            obtain ⟨⟨a0, a1, a2⟩, b0, b1, b2⟩ := HC.out W (HB13.out.trans (hb.mono hv13))
            exact ⟨hb, a0, a1, a2, b0, b1, b2⟩)
          have HTW13 := Lib.hid (fun (W : World) (hb : Below w13.heap.size w13 W) => HTV.out.below (HB13.out.trans (hb.mono hv13)))
          go_wp2_with fail
          refine wp_region_held_drew (S := (fun W => Below w13.heap.size w13 W ∧ W.cell? ⟨w.heap.size, 0, none⟩ = some (.int .i64 r) ∧ W.cell? ⟨w.heap.size, 1, none⟩ = some (.int .i64 c) ∧ W.cell? ⟨w.heap.size, 2, none⟩ = some (.slice fa fn fc) ∧ W.cell? ⟨w.heap.size + 1, 0, none⟩ = some (.int .i64 q) ∧ W.cell? ⟨w.heap.size + 1, 1, none⟩ = some (.int .i64 d) ∧ W.cell? ⟨w.heap.size + 1, 2, none⟩ = some (.slice ta tn tc))) (by kernel_rfl) ?_ (fun hHeld => ?_)
          · (first | exact KS13.out _ (Below.refl _ _).drew | exact KS13.out _ (by assumption) | assumption)
          refine wpAnyH_take (i := 0) (oi := { dst := some 114, op := Op.move (Operand.tmp 7), type := 28, pos := "law.go:127", after := #[], guard := none }) (v := ?_) rfl (by kernel_rfl) (by kernel_rfl) (by kernel_rfl) (fun _ _ _ h => h) (Or.inl ⟨by rfl, ?_⟩) (by assumption) ?_
          rotate_left
          · (intro w hSw; (try dsimp only at hSw); go_simp; try with_reducible rfl)
          (try simp only [Act.put, List.setIfInBounds_toArray, List.set_cons_zero, List.set_cons_succ])
          refine wpAnyH_take (i := 3) (oi := { dst := some 117, op := Op.load 24 (Operand.tmp 4), type := 24, pos := "law.go:127", after := #[], guard := none }) (v := ?_) rfl (by kernel_rfl) (by kernel_rfl) (by kernel_rfl) (fun _ _ _ h => h) (Or.inl ⟨by rfl, ?_⟩) (by assumption) ?_
          rotate_left
          · (intro w hSw; (try dsimp only at hSw); go_simp; try with_reducible rfl)
          (try simp only [Act.put, List.setIfInBounds_toArray, List.set_cons_zero, List.set_cons_succ])
          refine wpAnyH_ready (rs := [1]) (by kernel_rfl) (by simp) ?_
          refine AllReadyH.cons (o := { dst := some 115, op := Op.call { callee := Callee.value (Operand.func 11), args := #[Operand.tmp 114], argTypes := #[28] }, type := 24, pos := "law.go:127", after := #[{ on := 0, ground := Ground.data }], guard := none }) rfl (fun K hK => ?_) AllReadyH.nil
          (go_simp; go_at_call 11; (with_reducible refine (KG13.out _ hHeld.1).mono ?_); rintro e g1 ⟨ga, gm, gk, rfl, hgm, hgr, hgb, hg6⟩; go_wp2_with fail)
          refine hK.out _ _ ?_ (fun hHeld2 => ?_)
          · (first | exact KS13.out _ (Below.refl _ _).drew | exact KS13.out _ (by assumption) | assumption)
          clear hK K
          (try simp only [Act.put, List.setIfInBounds_toArray, List.set_cons_zero, List.set_cons_succ])
          clear hHeld; have hHeld := hHeld2; clear hHeld2
          refine wpAnyH_ready (rs := [2]) (by kernel_rfl) (by simp) ?_
          refine AllReadyH.cons (o := { dst := some 116, op := Op.call { callee := Callee.value (Operand.func 10), args := #[Operand.tmp 115], argTypes := #[24] }, type := 37, pos := "law.go:127", after := #[{ on := 1, ground := Ground.data }, { on := 1, ground := Ground.chain }], guard := none }) rfl (fun K hK => ?_) AllReadyH.nil
          (go_simp; go_at_call 10; (with_reducible refine (KA13.out _ _ ga gm gk _ _ hgm hgr hHeld.1).mono ?_); rintro e g2 ⟨gb, gl, rfl, hgr2, hgb2, hg62⟩; go_wp2_with fail)
          refine hK.out _ _ ?_ (fun hHeld2 => ?_)
          · (first | exact KS13.out _ (Below.refl _ _).drew | exact KS13.out _ (by assumption) | assumption)
          clear hK K
          (try simp only [Act.put, List.setIfInBounds_toArray, List.set_cons_zero, List.set_cons_succ])
          clear hHeld; have hHeld := hHeld2; clear hHeld2
          refine wpAnyH_ready (rs := [4]) (by kernel_rfl) (by simp) ?_
          refine AllReadyH.cons (o := { dst := some 118, op := Op.call { callee := Callee.value (Operand.func 10), args := #[Operand.tmp 117], argTypes := #[24] }, type := 37, pos := "law.go:127", after := #[{ on := 3, ground := Ground.data }, { on := 2, ground := Ground.chain }], guard := none }) rfl (fun K hK => ?_) AllReadyH.nil
          (go_simp; go_at_call 10; (with_reducible refine (KA13.out _ _ ta tn tc _ _ (by omega) (HTW13.out _ hHeld.1) hHeld.1).mono ?_); rintro e g3 ⟨gc, go, rfl, hgr3, hgb3, hg63⟩; go_wp2_with fail)
          refine hK.out _ _ ?_ (fun hHeld2 => ?_)
          · (first | exact KS13.out _ (Below.refl _ _).drew | exact KS13.out _ (by assumption) | assumption)
          clear hK K
          (try simp only [Act.put, List.setIfInBounds_toArray, List.set_cons_zero, List.set_cons_succ])
          clear hHeld; have hHeld := hHeld2; clear hHeld2
          refine wpAnyH_ready (rs := [5]) (by kernel_rfl) (by simp) ?_
          refine AllReadyH.cons (o := { dst := some 119, op := Op.call { callee := Callee.value (Operand.func 9), args := #[Operand.tmp 116, Operand.tmp 118], argTypes := #[37, 37] }, type := 4, pos := "law.go:127", after := #[{ on := 2, ground := Ground.data }, { on := 4, ground := Ground.data }, { on := 4, ground := Ground.chain }], guard := none }) rfl (fun K hK => ?_) AllReadyH.nil
          (go_simp; go_at_call 9; (with_reducible refine (KL13.out _ _ _ _ _ _ _ hgm (hgr2.below hgb3) hgr3 hHeld.1).mono ?_); rintro e g4 ⟨rfl, hg4⟩; go_wp2_with fail)
          refine hK.out _ _ ?_ (fun hHeld2 => ?_)
          · (first | exact KS13.out _ (Below.refl _ _).drew | exact KS13.out _ (by assumption) | assumption)
          clear hK K
          (try simp only [Act.put, List.setIfInBounds_toArray, List.set_cons_zero, List.set_cons_succ])
          clear hHeld; have hHeld := hHeld2; clear hHeld2
          refine wpAnyH_take (i := 6) (oi := { dst := some 120, op := Op.move (Operand.tmp 119), type := 4, pos := "law.go:127", after := #[{ on := 5, ground := Ground.data }, { on := 5, ground := Ground.chain }], guard := none }) (v := ?_) rfl (by kernel_rfl) (by kernel_rfl) (by kernel_rfl) (fun _ _ _ h => h) (Or.inl ⟨by rfl, ?_⟩) (by assumption) ?_
          rotate_left
          · (intro w hSw; (try dsimp only at hSw); go_simp; try with_reducible rfl)
          (try simp only [Act.put, List.setIfInBounds_toArray, List.set_cons_zero, List.set_cons_succ])
          refine wpAnyH_ready (rs := [7]) (by kernel_rfl) (by simp) ?_
          refine AllReadyH.cons (o := { dst := some 121, op := Op.call { callee := Callee.value (Operand.func 5), args := #[], argTypes := #[] }, type := 4, pos := "law.go:127", after := #[{ on := 6, ground := Ground.chain }, { on := 6, ground := Ground.guard }], guard := some (6, true) }) rfl (fun K hK => ?_) AllReadyH.nil
          (go_simp; go_at_call 5; (with_reducible refine (KN13.out _ hHeld.1).mono ?_); rintro e g5 ⟨rfl, hg5⟩; go_wp2_with fail)
          refine hK.out _ _ ?_ (fun hHeld2 => ?_)
          · (first | exact KS13.out _ (Below.refl _ _).drew | exact KS13.out _ (by assumption) | assumption)
          clear hK K
          (try simp only [Act.put, List.setIfInBounds_toArray, List.set_cons_zero, List.set_cons_succ])
          clear hHeld; have hHeld := hHeld2; clear hHeld2
          refine wpAnyH_take (i := 8) (oi := { dst := some 122, op := Op.pick (Operand.tmp 120) (Operand.tmp 121) (Operand.const (Value.bool false)), type := 4, pos := "law.go:127", after := #[{ on := 6, ground := Ground.data }, { on := 7, ground := Ground.data }], guard := none }) (v := ?_) rfl (by kernel_rfl) (by kernel_rfl) (by kernel_rfl) (fun _ _ _ h => h) (Or.inl ⟨by rfl, ?_⟩) (by assumption) ?_
          rotate_left
          · (intro w hSw; (try dsimp only at hSw); go_simp; try with_reducible rfl)
          (try simp only [Act.put, List.setIfInBounds_toArray, List.set_cons_zero, List.set_cons_succ])
          refine wpAnyH_take (i := 9) (oi := { dst := some 6, op := Op.assign (Operand.tmp 122), type := 4, pos := "law.go:127", after := #[{ on := 8, ground := Ground.data }, { on := 7, ground := Ground.chain }, { on := 0, ground := Ground.phase }, { on := 1, ground := Ground.phase }, { on := 2, ground := Ground.phase }, { on := 3, ground := Ground.phase }, { on := 4, ground := Ground.phase }, { on := 5, ground := Ground.phase }, { on := 6, ground := Ground.phase }, { on := 7, ground := Ground.phase }, { on := 8, ground := Ground.phase }], guard := none }) (v := ?_) rfl (by kernel_rfl) (by kernel_rfl) (by kernel_rfl) (fun _ _ _ h => h) (Or.inl ⟨by rfl, ?_⟩) (by assumption) ?_
          rotate_left
          · (intro w hSw; (try dsimp only at hSw); go_simp; try with_reducible rfl)
          (try simp only [Act.put, List.setIfInBounds_toArray, List.set_cons_zero, List.set_cons_succ])
          refine wpAnyH_done (by kernel_rfl) ?_ _
          clear hHeld
          go_wp2
          go_ret
          exact ⟨rfl, HBV.out.trans ((HB13.out.trans (hg5.mono hv13)).mono (by omega))⟩
  · have hbr : ((r : Int) != (q : Int)) = true := by simp; omega
    obtain rfl : same = false := by rw [← HSAME.out]; simp [sizeSame]; omega
    clear hrq
    go_wp2_with fail
    (with_reducible refine (HTS.out.size p F1 r c q d s1 [] V.heap.size g4 (HS.out.keep HWV.out HBG.out) HTMG.out hq1 hq2 hd1 hd2 HF1.out (by omega)).mono ?_)
    rintro e w11 ⟨F2, rfl, htm11, hF2, hon11⟩
    have hb11 := HBG.out.trans hon11.below
    have hs11 := hon11.below.size
    have HB11 := Lib.hid hb11
    have HTM11 := Lib.hid htm11
    have HBF11 := Lib.hid (HBFG.out.only hon11 hF2)
    have HF2 := Lib.hid (show ∀ k, F2 k → V.heap.size ≤ k from fun k hk => by
      rcases hF2 k hk with h | h
      · exact HF1.out k h
      · omega)
    obtain ⟨⟨x0, x1, x2⟩, y0, y1, y2⟩ := HC.out w11 hb11
    have hvg : V.heap.size ≤ w11.heap.size := by omega
    clear hb11 htm11 hF2 hon11
    obtain ⟨s2, hrun2, hg2⟩ := shows_anew (f := f) HPT.out ⟨blankG q d, 0, 0, 0⟩ (blank_len q d) (blank_width q d)
    have HR2 := Lib.hid hrun2
    have HG2 := Lib.hid hg2
    clear hrun2 hg2
    obtain ⟨bs, hbs⟩ : ∃ bs, bs = paintP false q d f t := ⟨_, rfl⟩
    have hL := paintP_le false q d f t hq2 hd2
    rw [← hbs] at hL
    have HBS := Lib.hid (hbs.trans (paint_toks false q d f t))
    have HBY := Lib.hid (show BytesF F2 w11 vb bs by rw [hbs]; exact HBF11.out)
    clear hbs
    obtain ⟨ab, cb, hvbe, hLc, hab, _, _⟩ := HBY.out
    subst hvbe
    obtain ⟨L, hLe⟩ : ∃ L, L = bs.length := ⟨_, rfl⟩
    rw [← hLe] at hL hLc hab
    obtain ⟨k, hk⟩ : ∃ k : Nat, cu % ((L : Int) + 1) = (k : Int) := Int.eq_ofNat_of_zero_le (Int.emod_nonneg _ (by omega))
    have hkL : k ≤ L := by
      have := Int.emod_lt_of_pos cu (show (0 : Int) < (L : Int) + 1 by omega)
      omega
    have hki : (k : Int) ≤ (L : Int) := by omega
    have hk0 : (0 : Int) ≤ (k : Int) := by omega
    have hkc : (k : Int) ≤ (cb : Int) := by omega
    have hLci : (L : Int) ≤ (cb : Int) := by omega
    have hwk : IntKind.i64.wrap (k : Int) = (k : Int) := IntWalk.i64_in _ (by omega)
    obtain ⟨hcu0, hcu1⟩ := hcu
    have hL1 : ¬ ((L : Int) + 1 = 0) := by omega
    have HLE := Lib.hid hLe
    obtain ⟨us, vs, p', cm, hru, hrv, ht1, ht2, ht3⟩ := shown_cut HR2.out k (by rw [← HBS.out, ← hLe]; exact hkL)
    rw [← HBS.out] at ht1 ht3
    have HRU := Lib.hid hru
    have HRV := Lib.hid hrv
    have HT1 := Lib.hid ht1
    have HT2 := Lib.hid ht2
    have HT3 := Lib.hid ht3
    rw [← hLe] at HBY ⊢
    clear hru hrv ht1 ht2 ht3 hLe
    rcases hab with ⟨rfl, rfl, rfl⟩ | ⟨b0, o0, rfl⟩
    · obtain rfl : k = 0 := by omega
      have hbs0 : bs = [] := List.eq_nil_of_length_eq_zero HLE.out.symm
      have HV1 := Lib.hid (show BytesF F2 w11 (.slice none 0 0) (bs.take 0) by rw [List.take_zero, ← hbs0]; exact HBY.out)
      have HV2 := Lib.hid (show BytesF F2 w11 (.slice none 0 0) (bs.drop 0) by rw [List.drop_zero]; exact HBY.out)
      clear hbs0
      go_wp2_with fail
      (with_reducible refine (HTS.out.write p F2 q d _ cm [] (bs.take 0) us p' _ V.heap.size w11 (HS.out.keep HWV.out HB11.out) HTM11.out HV1.out (by have := List.length_take_le 0 bs; omega) (by rw [List.nil_append]; exact HT1.out) (by
        rcases HT2.out with h | ⟨t, r, hv, h⟩
        · exact .inl h
        · have hrv := HRV.out
          rw [hv] at hrv
          cases hrv with
          | cons h1 h2 => exact .inr ⟨t, _, h, h1⟩) HRU.out HF2.out hvg (by omega) (by omega)).mono ?_)
      rintro e w12 ⟨F3, rfl, htm12, hF3, hon12⟩
      have hb12 := HB11.out.trans hon12.below
      have hs12 := hon12.below.size
      have HB12 := Lib.hid hb12
      have HTM12 := Lib.hid htm12
      have HV3 := Lib.hid (HV2.out.only hon12 hF3)
      have HF3 := Lib.hid (show ∀ k, F3 k → V.heap.size ≤ k from fun k hk => by
        rcases hF3 k hk with h | h
        · exact HF2.out k h
        · omega)
      obtain ⟨⟨x0, x1, x2⟩, y0, y1, y2⟩ := HC.out w12 hb12
      have hv12 : V.heap.size ≤ w12.heap.size := by omega
      clear hb12 htm12 hF3 hon12 HV2 HV1
      go_wp2_with fail
      (with_reducible refine (HTS.out.write p F3 q d cm s2 p' (bs.drop 0) vs [] _ V.heap.size w12 (HS.out.keep HWV.out HB12.out) HTM12.out HV3.out (by rw [List.length_drop]; have := HLE.out; omega) (by rw [List.append_nil]; exact HT3.out) (.inl rfl) HRV.out HF3.out hv12 (by omega) (by omega)).mono ?_)
      rintro e w13 ⟨F4, rfl, htm13, hF4, hon13⟩
      have hb13 := HB12.out.trans hon13.below
      have hs13 := hon13.below.size
      have HB13 := Lib.hid hb13
      have HTM13 := Lib.hid htm13
      obtain ⟨⟨x0, x1, x2⟩, y0, y1, y2⟩ := HC.out w13 hb13
      have hv13 : V.heap.size ≤ w13.heap.size := by omega
      clear hb13 htm13 hF4 hon13 HV3
      have KG13 := Lib.hid (show ∀ W, Below w13.heap.size w13 W → Calls Tryd.prog 11 #[.pointer (some ⟨p, 0, none⟩)] W fun e w' => ∃ a m k, e = .returned (GridV q d a m k) ∧ m ≤ 3600 ∧ RowAt w' a m t ∧ Below W.heap.size W w' ∧ Below w13.heap.size w13 w' from fun W hb =>
        (HTS.out.grid p F4 q d s2 [] W (HS.out.keep HWV.out (HB13.out.trans (hb.mono hv13))) (HTS.out.stay HTM13.out hb.size (fun k hk => hb.block k (HTS.out.foot HTM13.out k hk))) (by omega) (by omega)).mono fun e w' ⟨a, m, k, he, hm, hk, ho, hbw⟩ => by
          rw [HG2.out, shown_flat HPT.out] at ho
          obtain ⟨a', k', hav, _, _, hr⟩ := own_row ho
          cases hav
          exact ⟨a, m, k, he, by rw [hm]; exact Nat.mul_le_mul (show q ≤ 60 by omega) (show d ≤ 60 by omega), hr, hbw, hb.trans (hbw.mono hb.size)⟩)
      have KA13 := Lib.hid (show ∀ (X Y : Int) (a : Option Addr) (m k : Nat) (l : List Cl) (W : World), m ≤ 3600 → RowAt W a m l → Below w13.heap.size w13 W → Calls Tryd.prog 10 #[.agg #[.int .i64 X, .int .i64 Y, .slice a m k]] W fun e w' => ∃ a' k', e = .returned (.slice a' m k') ∧ RowAt w' a' m l ∧ Below W.heap.size W w' ∧ Below w13.heap.size w13 w' from fun X Y a m k l W hm hr hb =>
        (asG X Y a m k l W (by omega) hr).mono fun e w' ⟨v, he, ho, hbw⟩ => by
          obtain ⟨a', k', rfl, hk', _, hr'⟩ := own_row ho
          exact ⟨a', k', he, hr', hbw, hb.trans (hbw.mono hb.size)⟩)
      have KL13 := Lib.hid (show ∀ (a : Option Addr) (m k : Nat) (a' : Option Addr) (m' k' : Nat) (W : World), m ≤ 3600 → RowAt W a m t → RowAt W a' m' t → Below w13.heap.size w13 W → Calls Tryd.prog 9 #[.slice a m k, .slice a' m' k'] W fun e w' => e = .returned (.bool true) ∧ Below w13.heap.size w13 w' from fun a m k a' m' k' W hm hr hr' hb =>
        (alike a m k t a' m' k' t W (by omega) hr hr').mono fun e w' ⟨he, hbw⟩ => ⟨by rw [he]; simp, hb.trans (hbw.mono hb.size)⟩)
      have KN13 := Lib.hid (show ∀ W, Below w13.heap.size w13 W → Calls Tryd.prog 5 #[] W fun e w' => e = .returned (.bool true) ∧ Below w13.heap.size w13 w' from fun W hb =>
        (HS.out.knows W (HS.out.keep HWV.out (HB13.out.trans (hb.mono hv13)))).mono fun e w' ⟨he, hbw⟩ => ⟨he, hb.trans (hbw.mono hb.size)⟩)
      have KS13 := Lib.hid (show ∀ W : World, Below w13.heap.size w13 W → (Below w13.heap.size w13 W ∧ W.cell? ⟨w.heap.size, 0, none⟩ = some (.int .i64 r) ∧ W.cell? ⟨w.heap.size, 1, none⟩ = some (.int .i64 c) ∧ W.cell? ⟨w.heap.size, 2, none⟩ = some (.slice fa fn fc) ∧ W.cell? ⟨w.heap.size + 1, 0, none⟩ = some (.int .i64 q) ∧ W.cell? ⟨w.heap.size + 1, 1, none⟩ = some (.int .i64 d) ∧ W.cell? ⟨w.heap.size + 1, 2, none⟩ = some (.slice ta tn tc)) from fun W hb => by
        obtain ⟨⟨a0, a1, a2⟩, b0, b1, b2⟩ := HC.out W (HB13.out.trans (hb.mono hv13))
        exact ⟨hb, a0, a1, a2, b0, b1, b2⟩)
      have HTW13 := Lib.hid (fun (W : World) (hb : Below w13.heap.size w13 W) => HTV.out.below (HB13.out.trans (hb.mono hv13)))
      go_wp2_with fail
      refine wp_region_held_drew (S := (fun W => Below w13.heap.size w13 W ∧ W.cell? ⟨w.heap.size, 0, none⟩ = some (.int .i64 r) ∧ W.cell? ⟨w.heap.size, 1, none⟩ = some (.int .i64 c) ∧ W.cell? ⟨w.heap.size, 2, none⟩ = some (.slice fa fn fc) ∧ W.cell? ⟨w.heap.size + 1, 0, none⟩ = some (.int .i64 q) ∧ W.cell? ⟨w.heap.size + 1, 1, none⟩ = some (.int .i64 d) ∧ W.cell? ⟨w.heap.size + 1, 2, none⟩ = some (.slice ta tn tc))) (by kernel_rfl) ?_ (fun hHeld => ?_)
      · (first | exact KS13.out _ (Below.refl _ _).drew | exact KS13.out _ (by assumption) | assumption)
      refine wpAnyH_take (i := 0) (oi := { dst := some 114, op := Op.move (Operand.tmp 7), type := 28, pos := "law.go:127", after := #[], guard := none }) (v := ?_) rfl (by kernel_rfl) (by kernel_rfl) (by kernel_rfl) (fun _ _ _ h => h) (Or.inl ⟨by rfl, ?_⟩) (by assumption) ?_
      rotate_left
      · (intro w hSw; (try dsimp only at hSw); go_simp; try with_reducible rfl)
      (try simp only [Act.put, List.setIfInBounds_toArray, List.set_cons_zero, List.set_cons_succ])
      refine wpAnyH_take (i := 3) (oi := { dst := some 117, op := Op.load 24 (Operand.tmp 4), type := 24, pos := "law.go:127", after := #[], guard := none }) (v := ?_) rfl (by kernel_rfl) (by kernel_rfl) (by kernel_rfl) (fun _ _ _ h => h) (Or.inl ⟨by rfl, ?_⟩) (by assumption) ?_
      rotate_left
      · (intro w hSw; (try dsimp only at hSw); go_simp; try with_reducible rfl)
      (try simp only [Act.put, List.setIfInBounds_toArray, List.set_cons_zero, List.set_cons_succ])
      refine wpAnyH_ready (rs := [1]) (by kernel_rfl) (by simp) ?_
      refine AllReadyH.cons (o := { dst := some 115, op := Op.call { callee := Callee.value (Operand.func 11), args := #[Operand.tmp 114], argTypes := #[28] }, type := 24, pos := "law.go:127", after := #[{ on := 0, ground := Ground.data }], guard := none }) rfl (fun K hK => ?_) AllReadyH.nil
      (go_simp; go_at_call 11; (with_reducible refine (KG13.out _ hHeld.1).mono ?_); rintro e g1 ⟨ga, gm, gk, rfl, hgm, hgr, hgb, hg6⟩; go_wp2_with fail)
      refine hK.out _ _ ?_ (fun hHeld2 => ?_)
      · (first | exact KS13.out _ (Below.refl _ _).drew | exact KS13.out _ (by assumption) | assumption)
      clear hK K
      (try simp only [Act.put, List.setIfInBounds_toArray, List.set_cons_zero, List.set_cons_succ])
      clear hHeld; have hHeld := hHeld2; clear hHeld2
      refine wpAnyH_ready (rs := [2]) (by kernel_rfl) (by simp) ?_
      refine AllReadyH.cons (o := { dst := some 116, op := Op.call { callee := Callee.value (Operand.func 10), args := #[Operand.tmp 115], argTypes := #[24] }, type := 37, pos := "law.go:127", after := #[{ on := 1, ground := Ground.data }, { on := 1, ground := Ground.chain }], guard := none }) rfl (fun K hK => ?_) AllReadyH.nil
      (go_simp; go_at_call 10; (with_reducible refine (KA13.out _ _ ga gm gk _ _ hgm hgr hHeld.1).mono ?_); rintro e g2 ⟨gb, gl, rfl, hgr2, hgb2, hg62⟩; go_wp2_with fail)
      refine hK.out _ _ ?_ (fun hHeld2 => ?_)
      · (first | exact KS13.out _ (Below.refl _ _).drew | exact KS13.out _ (by assumption) | assumption)
      clear hK K
      (try simp only [Act.put, List.setIfInBounds_toArray, List.set_cons_zero, List.set_cons_succ])
      clear hHeld; have hHeld := hHeld2; clear hHeld2
      refine wpAnyH_ready (rs := [4]) (by kernel_rfl) (by simp) ?_
      refine AllReadyH.cons (o := { dst := some 118, op := Op.call { callee := Callee.value (Operand.func 10), args := #[Operand.tmp 117], argTypes := #[24] }, type := 37, pos := "law.go:127", after := #[{ on := 3, ground := Ground.data }, { on := 2, ground := Ground.chain }], guard := none }) rfl (fun K hK => ?_) AllReadyH.nil
      (go_simp; go_at_call 10; (with_reducible refine (KA13.out _ _ ta tn tc _ _ (by omega) (HTW13.out _ hHeld.1) hHeld.1).mono ?_); rintro e g3 ⟨gc, go, rfl, hgr3, hgb3, hg63⟩; go_wp2_with fail)
      refine hK.out _ _ ?_ (fun hHeld2 => ?_)
      · (first | exact KS13.out _ (Below.refl _ _).drew | exact KS13.out _ (by assumption) | assumption)
      clear hK K
      (try simp only [Act.put, List.setIfInBounds_toArray, List.set_cons_zero, List.set_cons_succ])
      clear hHeld; have hHeld := hHeld2; clear hHeld2
      refine wpAnyH_ready (rs := [5]) (by kernel_rfl) (by simp) ?_
      refine AllReadyH.cons (o := { dst := some 119, op := Op.call { callee := Callee.value (Operand.func 9), args := #[Operand.tmp 116, Operand.tmp 118], argTypes := #[37, 37] }, type := 4, pos := "law.go:127", after := #[{ on := 2, ground := Ground.data }, { on := 4, ground := Ground.data }, { on := 4, ground := Ground.chain }], guard := none }) rfl (fun K hK => ?_) AllReadyH.nil
      (go_simp; go_at_call 9; (with_reducible refine (KL13.out _ _ _ _ _ _ _ hgm (hgr2.below hgb3) hgr3 hHeld.1).mono ?_); rintro e g4 ⟨rfl, hg4⟩; go_wp2_with fail)
      refine hK.out _ _ ?_ (fun hHeld2 => ?_)
      · (first | exact KS13.out _ (Below.refl _ _).drew | exact KS13.out _ (by assumption) | assumption)
      clear hK K
      (try simp only [Act.put, List.setIfInBounds_toArray, List.set_cons_zero, List.set_cons_succ])
      clear hHeld; have hHeld := hHeld2; clear hHeld2
      refine wpAnyH_take (i := 6) (oi := { dst := some 120, op := Op.move (Operand.tmp 119), type := 4, pos := "law.go:127", after := #[{ on := 5, ground := Ground.data }, { on := 5, ground := Ground.chain }], guard := none }) (v := ?_) rfl (by kernel_rfl) (by kernel_rfl) (by kernel_rfl) (fun _ _ _ h => h) (Or.inl ⟨by rfl, ?_⟩) (by assumption) ?_
      rotate_left
      · (intro w hSw; (try dsimp only at hSw); go_simp; try with_reducible rfl)
      (try simp only [Act.put, List.setIfInBounds_toArray, List.set_cons_zero, List.set_cons_succ])
      refine wpAnyH_ready (rs := [7]) (by kernel_rfl) (by simp) ?_
      refine AllReadyH.cons (o := { dst := some 121, op := Op.call { callee := Callee.value (Operand.func 5), args := #[], argTypes := #[] }, type := 4, pos := "law.go:127", after := #[{ on := 6, ground := Ground.chain }, { on := 6, ground := Ground.guard }], guard := some (6, true) }) rfl (fun K hK => ?_) AllReadyH.nil
      (go_simp; go_at_call 5; (with_reducible refine (KN13.out _ hHeld.1).mono ?_); rintro e g5 ⟨rfl, hg5⟩; go_wp2_with fail)
      refine hK.out _ _ ?_ (fun hHeld2 => ?_)
      · (first | exact KS13.out _ (Below.refl _ _).drew | exact KS13.out _ (by assumption) | assumption)
      clear hK K
      (try simp only [Act.put, List.setIfInBounds_toArray, List.set_cons_zero, List.set_cons_succ])
      clear hHeld; have hHeld := hHeld2; clear hHeld2
      refine wpAnyH_take (i := 8) (oi := { dst := some 122, op := Op.pick (Operand.tmp 120) (Operand.tmp 121) (Operand.const (Value.bool false)), type := 4, pos := "law.go:127", after := #[{ on := 6, ground := Ground.data }, { on := 7, ground := Ground.data }], guard := none }) (v := ?_) rfl (by kernel_rfl) (by kernel_rfl) (by kernel_rfl) (fun _ _ _ h => h) (Or.inl ⟨by rfl, ?_⟩) (by assumption) ?_
      rotate_left
      · (intro w hSw; (try dsimp only at hSw); go_simp; try with_reducible rfl)
      (try simp only [Act.put, List.setIfInBounds_toArray, List.set_cons_zero, List.set_cons_succ])
      refine wpAnyH_take (i := 9) (oi := { dst := some 6, op := Op.assign (Operand.tmp 122), type := 4, pos := "law.go:127", after := #[{ on := 8, ground := Ground.data }, { on := 7, ground := Ground.chain }, { on := 0, ground := Ground.phase }, { on := 1, ground := Ground.phase }, { on := 2, ground := Ground.phase }, { on := 3, ground := Ground.phase }, { on := 4, ground := Ground.phase }, { on := 5, ground := Ground.phase }, { on := 6, ground := Ground.phase }, { on := 7, ground := Ground.phase }, { on := 8, ground := Ground.phase }], guard := none }) (v := ?_) rfl (by kernel_rfl) (by kernel_rfl) (by kernel_rfl) (fun _ _ _ h => h) (Or.inl ⟨by rfl, ?_⟩) (by assumption) ?_
      rotate_left
      · (intro w hSw; (try dsimp only at hSw); go_simp; try with_reducible rfl)
      (try simp only [Act.put, List.setIfInBounds_toArray, List.set_cons_zero, List.set_cons_succ])
      refine wpAnyH_done (by kernel_rfl) ?_ _
      clear hHeld
      go_wp2
      go_ret
      exact ⟨rfl, HBV.out.trans ((HB13.out.trans (hg5.mono hv13)).mono (by omega))⟩
    · by_cases hkcb : k = cb
      · subst hkcb
        have hLk : L = k := by omega
        have HV1 := Lib.hid (HBY.out.take hkL)
        have HV2 := Lib.hid (show BytesF F2 w11 (.slice (some ⟨b0, o0, none⟩) 0 0) (bs.drop k) by
          rw [List.drop_of_length_le (by have := HLE.out; omega)]
          exact BytesF.empty _ _ _ _)
        clear hLk
        go_wp2_with fail
        (with_reducible refine (HTS.out.write p F2 q d _ cm [] (bs.take k) us p' _ V.heap.size w11 (HS.out.keep HWV.out HB11.out) HTM11.out HV1.out (by have := List.length_take_le k bs; omega) (by rw [List.nil_append]; exact HT1.out) (by
          rcases HT2.out with h | ⟨t, r, hv, h⟩
          · exact .inl h
          · have hrv := HRV.out
            rw [hv] at hrv
            cases hrv with
            | cons h1 h2 => exact .inr ⟨t, _, h, h1⟩) HRU.out HF2.out hvg (by omega) (by omega)).mono ?_)
        rintro e w12 ⟨F3, rfl, htm12, hF3, hon12⟩
        have hb12 := HB11.out.trans hon12.below
        have hs12 := hon12.below.size
        have HB12 := Lib.hid hb12
        have HTM12 := Lib.hid htm12
        have HV3 := Lib.hid (HV2.out.only hon12 hF3)
        have HF3 := Lib.hid (show ∀ k, F3 k → V.heap.size ≤ k from fun k hk => by
          rcases hF3 k hk with h | h
          · exact HF2.out k h
          · omega)
        obtain ⟨⟨x0, x1, x2⟩, y0, y1, y2⟩ := HC.out w12 hb12
        have hv12 : V.heap.size ≤ w12.heap.size := by omega
        clear hb12 htm12 hF3 hon12 HV2 HV1
        go_wp2_with fail
        (with_reducible refine (HTS.out.write p F3 q d cm s2 p' (bs.drop k) vs [] _ V.heap.size w12 (HS.out.keep HWV.out HB12.out) HTM12.out HV3.out (by rw [List.length_drop]; have := HLE.out; omega) (by rw [List.append_nil]; exact HT3.out) (.inl rfl) HRV.out HF3.out hv12 (by omega) (by omega)).mono ?_)
        rintro e w13 ⟨F4, rfl, htm13, hF4, hon13⟩
        have hb13 := HB12.out.trans hon13.below
        have hs13 := hon13.below.size
        have HB13 := Lib.hid hb13
        have HTM13 := Lib.hid htm13
        obtain ⟨⟨x0, x1, x2⟩, y0, y1, y2⟩ := HC.out w13 hb13
        have hv13 : V.heap.size ≤ w13.heap.size := by omega
        clear hb13 htm13 hF4 hon13 HV3
        have KG13 := Lib.hid (show ∀ W, Below w13.heap.size w13 W → Calls Tryd.prog 11 #[.pointer (some ⟨p, 0, none⟩)] W fun e w' => ∃ a m k, e = .returned (GridV q d a m k) ∧ m ≤ 3600 ∧ RowAt w' a m t ∧ Below W.heap.size W w' ∧ Below w13.heap.size w13 w' from fun W hb =>
          (HTS.out.grid p F4 q d s2 [] W (HS.out.keep HWV.out (HB13.out.trans (hb.mono hv13))) (HTS.out.stay HTM13.out hb.size (fun k hk => hb.block k (HTS.out.foot HTM13.out k hk))) (by omega) (by omega)).mono fun e w' ⟨a, m, k, he, hm, hk, ho, hbw⟩ => by
            rw [HG2.out, shown_flat HPT.out] at ho
            obtain ⟨a', k', hav, _, _, hr⟩ := own_row ho
            cases hav
            exact ⟨a, m, k, he, by rw [hm]; exact Nat.mul_le_mul (show q ≤ 60 by omega) (show d ≤ 60 by omega), hr, hbw, hb.trans (hbw.mono hb.size)⟩)
        have KA13 := Lib.hid (show ∀ (X Y : Int) (a : Option Addr) (m k : Nat) (l : List Cl) (W : World), m ≤ 3600 → RowAt W a m l → Below w13.heap.size w13 W → Calls Tryd.prog 10 #[.agg #[.int .i64 X, .int .i64 Y, .slice a m k]] W fun e w' => ∃ a' k', e = .returned (.slice a' m k') ∧ RowAt w' a' m l ∧ Below W.heap.size W w' ∧ Below w13.heap.size w13 w' from fun X Y a m k l W hm hr hb =>
          (asG X Y a m k l W (by omega) hr).mono fun e w' ⟨v, he, ho, hbw⟩ => by
            obtain ⟨a', k', rfl, hk', _, hr'⟩ := own_row ho
            exact ⟨a', k', he, hr', hbw, hb.trans (hbw.mono hb.size)⟩)
        have KL13 := Lib.hid (show ∀ (a : Option Addr) (m k : Nat) (a' : Option Addr) (m' k' : Nat) (W : World), m ≤ 3600 → RowAt W a m t → RowAt W a' m' t → Below w13.heap.size w13 W → Calls Tryd.prog 9 #[.slice a m k, .slice a' m' k'] W fun e w' => e = .returned (.bool true) ∧ Below w13.heap.size w13 w' from fun a m k a' m' k' W hm hr hr' hb =>
          (alike a m k t a' m' k' t W (by omega) hr hr').mono fun e w' ⟨he, hbw⟩ => ⟨by rw [he]; simp, hb.trans (hbw.mono hb.size)⟩)
        have KN13 := Lib.hid (show ∀ W, Below w13.heap.size w13 W → Calls Tryd.prog 5 #[] W fun e w' => e = .returned (.bool true) ∧ Below w13.heap.size w13 w' from fun W hb =>
          (HS.out.knows W (HS.out.keep HWV.out (HB13.out.trans (hb.mono hv13)))).mono fun e w' ⟨he, hbw⟩ => ⟨he, hb.trans (hbw.mono hb.size)⟩)
        have KS13 := Lib.hid (show ∀ W : World, Below w13.heap.size w13 W → (Below w13.heap.size w13 W ∧ W.cell? ⟨w.heap.size, 0, none⟩ = some (.int .i64 r) ∧ W.cell? ⟨w.heap.size, 1, none⟩ = some (.int .i64 c) ∧ W.cell? ⟨w.heap.size, 2, none⟩ = some (.slice fa fn fc) ∧ W.cell? ⟨w.heap.size + 1, 0, none⟩ = some (.int .i64 q) ∧ W.cell? ⟨w.heap.size + 1, 1, none⟩ = some (.int .i64 d) ∧ W.cell? ⟨w.heap.size + 1, 2, none⟩ = some (.slice ta tn tc)) from fun W hb => by
          obtain ⟨⟨a0, a1, a2⟩, b0, b1, b2⟩ := HC.out W (HB13.out.trans (hb.mono hv13))
          exact ⟨hb, a0, a1, a2, b0, b1, b2⟩)
        have HTW13 := Lib.hid (fun (W : World) (hb : Below w13.heap.size w13 W) => HTV.out.below (HB13.out.trans (hb.mono hv13)))
        go_wp2_with fail
        refine wp_region_held_drew (S := (fun W => Below w13.heap.size w13 W ∧ W.cell? ⟨w.heap.size, 0, none⟩ = some (.int .i64 r) ∧ W.cell? ⟨w.heap.size, 1, none⟩ = some (.int .i64 c) ∧ W.cell? ⟨w.heap.size, 2, none⟩ = some (.slice fa fn fc) ∧ W.cell? ⟨w.heap.size + 1, 0, none⟩ = some (.int .i64 q) ∧ W.cell? ⟨w.heap.size + 1, 1, none⟩ = some (.int .i64 d) ∧ W.cell? ⟨w.heap.size + 1, 2, none⟩ = some (.slice ta tn tc))) (by kernel_rfl) ?_ (fun hHeld => ?_)
        · (first | exact KS13.out _ (Below.refl _ _).drew | exact KS13.out _ (by assumption) | assumption)
        refine wpAnyH_take (i := 0) (oi := { dst := some 114, op := Op.move (Operand.tmp 7), type := 28, pos := "law.go:127", after := #[], guard := none }) (v := ?_) rfl (by kernel_rfl) (by kernel_rfl) (by kernel_rfl) (fun _ _ _ h => h) (Or.inl ⟨by rfl, ?_⟩) (by assumption) ?_
        rotate_left
        · (intro w hSw; (try dsimp only at hSw); go_simp; try with_reducible rfl)
        (try simp only [Act.put, List.setIfInBounds_toArray, List.set_cons_zero, List.set_cons_succ])
        refine wpAnyH_take (i := 3) (oi := { dst := some 117, op := Op.load 24 (Operand.tmp 4), type := 24, pos := "law.go:127", after := #[], guard := none }) (v := ?_) rfl (by kernel_rfl) (by kernel_rfl) (by kernel_rfl) (fun _ _ _ h => h) (Or.inl ⟨by rfl, ?_⟩) (by assumption) ?_
        rotate_left
        · (intro w hSw; (try dsimp only at hSw); go_simp; try with_reducible rfl)
        (try simp only [Act.put, List.setIfInBounds_toArray, List.set_cons_zero, List.set_cons_succ])
        refine wpAnyH_ready (rs := [1]) (by kernel_rfl) (by simp) ?_
        refine AllReadyH.cons (o := { dst := some 115, op := Op.call { callee := Callee.value (Operand.func 11), args := #[Operand.tmp 114], argTypes := #[28] }, type := 24, pos := "law.go:127", after := #[{ on := 0, ground := Ground.data }], guard := none }) rfl (fun K hK => ?_) AllReadyH.nil
        (go_simp; go_at_call 11; (with_reducible refine (KG13.out _ hHeld.1).mono ?_); rintro e g1 ⟨ga, gm, gk, rfl, hgm, hgr, hgb, hg6⟩; go_wp2_with fail)
        refine hK.out _ _ ?_ (fun hHeld2 => ?_)
        · (first | exact KS13.out _ (Below.refl _ _).drew | exact KS13.out _ (by assumption) | assumption)
        clear hK K
        (try simp only [Act.put, List.setIfInBounds_toArray, List.set_cons_zero, List.set_cons_succ])
        clear hHeld; have hHeld := hHeld2; clear hHeld2
        refine wpAnyH_ready (rs := [2]) (by kernel_rfl) (by simp) ?_
        refine AllReadyH.cons (o := { dst := some 116, op := Op.call { callee := Callee.value (Operand.func 10), args := #[Operand.tmp 115], argTypes := #[24] }, type := 37, pos := "law.go:127", after := #[{ on := 1, ground := Ground.data }, { on := 1, ground := Ground.chain }], guard := none }) rfl (fun K hK => ?_) AllReadyH.nil
        (go_simp; go_at_call 10; (with_reducible refine (KA13.out _ _ ga gm gk _ _ hgm hgr hHeld.1).mono ?_); rintro e g2 ⟨gb, gl, rfl, hgr2, hgb2, hg62⟩; go_wp2_with fail)
        refine hK.out _ _ ?_ (fun hHeld2 => ?_)
        · (first | exact KS13.out _ (Below.refl _ _).drew | exact KS13.out _ (by assumption) | assumption)
        clear hK K
        (try simp only [Act.put, List.setIfInBounds_toArray, List.set_cons_zero, List.set_cons_succ])
        clear hHeld; have hHeld := hHeld2; clear hHeld2
        refine wpAnyH_ready (rs := [4]) (by kernel_rfl) (by simp) ?_
        refine AllReadyH.cons (o := { dst := some 118, op := Op.call { callee := Callee.value (Operand.func 10), args := #[Operand.tmp 117], argTypes := #[24] }, type := 37, pos := "law.go:127", after := #[{ on := 3, ground := Ground.data }, { on := 2, ground := Ground.chain }], guard := none }) rfl (fun K hK => ?_) AllReadyH.nil
        (go_simp; go_at_call 10; (with_reducible refine (KA13.out _ _ ta tn tc _ _ (by omega) (HTW13.out _ hHeld.1) hHeld.1).mono ?_); rintro e g3 ⟨gc, go, rfl, hgr3, hgb3, hg63⟩; go_wp2_with fail)
        refine hK.out _ _ ?_ (fun hHeld2 => ?_)
        · (first | exact KS13.out _ (Below.refl _ _).drew | exact KS13.out _ (by assumption) | assumption)
        clear hK K
        (try simp only [Act.put, List.setIfInBounds_toArray, List.set_cons_zero, List.set_cons_succ])
        clear hHeld; have hHeld := hHeld2; clear hHeld2
        refine wpAnyH_ready (rs := [5]) (by kernel_rfl) (by simp) ?_
        refine AllReadyH.cons (o := { dst := some 119, op := Op.call { callee := Callee.value (Operand.func 9), args := #[Operand.tmp 116, Operand.tmp 118], argTypes := #[37, 37] }, type := 4, pos := "law.go:127", after := #[{ on := 2, ground := Ground.data }, { on := 4, ground := Ground.data }, { on := 4, ground := Ground.chain }], guard := none }) rfl (fun K hK => ?_) AllReadyH.nil
        (go_simp; go_at_call 9; (with_reducible refine (KL13.out _ _ _ _ _ _ _ hgm (hgr2.below hgb3) hgr3 hHeld.1).mono ?_); rintro e g4 ⟨rfl, hg4⟩; go_wp2_with fail)
        refine hK.out _ _ ?_ (fun hHeld2 => ?_)
        · (first | exact KS13.out _ (Below.refl _ _).drew | exact KS13.out _ (by assumption) | assumption)
        clear hK K
        (try simp only [Act.put, List.setIfInBounds_toArray, List.set_cons_zero, List.set_cons_succ])
        clear hHeld; have hHeld := hHeld2; clear hHeld2
        refine wpAnyH_take (i := 6) (oi := { dst := some 120, op := Op.move (Operand.tmp 119), type := 4, pos := "law.go:127", after := #[{ on := 5, ground := Ground.data }, { on := 5, ground := Ground.chain }], guard := none }) (v := ?_) rfl (by kernel_rfl) (by kernel_rfl) (by kernel_rfl) (fun _ _ _ h => h) (Or.inl ⟨by rfl, ?_⟩) (by assumption) ?_
        rotate_left
        · (intro w hSw; (try dsimp only at hSw); go_simp; try with_reducible rfl)
        (try simp only [Act.put, List.setIfInBounds_toArray, List.set_cons_zero, List.set_cons_succ])
        refine wpAnyH_ready (rs := [7]) (by kernel_rfl) (by simp) ?_
        refine AllReadyH.cons (o := { dst := some 121, op := Op.call { callee := Callee.value (Operand.func 5), args := #[], argTypes := #[] }, type := 4, pos := "law.go:127", after := #[{ on := 6, ground := Ground.chain }, { on := 6, ground := Ground.guard }], guard := some (6, true) }) rfl (fun K hK => ?_) AllReadyH.nil
        (go_simp; go_at_call 5; (with_reducible refine (KN13.out _ hHeld.1).mono ?_); rintro e g5 ⟨rfl, hg5⟩; go_wp2_with fail)
        refine hK.out _ _ ?_ (fun hHeld2 => ?_)
        · (first | exact KS13.out _ (Below.refl _ _).drew | exact KS13.out _ (by assumption) | assumption)
        clear hK K
        (try simp only [Act.put, List.setIfInBounds_toArray, List.set_cons_zero, List.set_cons_succ])
        clear hHeld; have hHeld := hHeld2; clear hHeld2
        refine wpAnyH_take (i := 8) (oi := { dst := some 122, op := Op.pick (Operand.tmp 120) (Operand.tmp 121) (Operand.const (Value.bool false)), type := 4, pos := "law.go:127", after := #[{ on := 6, ground := Ground.data }, { on := 7, ground := Ground.data }], guard := none }) (v := ?_) rfl (by kernel_rfl) (by kernel_rfl) (by kernel_rfl) (fun _ _ _ h => h) (Or.inl ⟨by rfl, ?_⟩) (by assumption) ?_
        rotate_left
        · (intro w hSw; (try dsimp only at hSw); go_simp; try with_reducible rfl)
        (try simp only [Act.put, List.setIfInBounds_toArray, List.set_cons_zero, List.set_cons_succ])
        refine wpAnyH_take (i := 9) (oi := { dst := some 6, op := Op.assign (Operand.tmp 122), type := 4, pos := "law.go:127", after := #[{ on := 8, ground := Ground.data }, { on := 7, ground := Ground.chain }, { on := 0, ground := Ground.phase }, { on := 1, ground := Ground.phase }, { on := 2, ground := Ground.phase }, { on := 3, ground := Ground.phase }, { on := 4, ground := Ground.phase }, { on := 5, ground := Ground.phase }, { on := 6, ground := Ground.phase }, { on := 7, ground := Ground.phase }, { on := 8, ground := Ground.phase }], guard := none }) (v := ?_) rfl (by kernel_rfl) (by kernel_rfl) (by kernel_rfl) (fun _ _ _ h => h) (Or.inl ⟨by rfl, ?_⟩) (by assumption) ?_
        rotate_left
        · (intro w hSw; (try dsimp only at hSw); go_simp; try with_reducible rfl)
        (try simp only [Act.put, List.setIfInBounds_toArray, List.set_cons_zero, List.set_cons_succ])
        refine wpAnyH_done (by kernel_rfl) ?_ _
        clear hHeld
        go_wp2
        go_ret
        exact ⟨rfl, HBV.out.trans ((HB13.out.trans (hg5.mono hv13)).mono (by omega))⟩
      · have hkcb' : ¬ (k : Int) = (cb : Int) := by omega
        have HV1 := Lib.hid (HBY.out.take hkL)
        have HV2 := Lib.hid (HBY.out.drop hkL)
        go_wp2_with fail
        (with_reducible refine (HTS.out.write p F2 q d _ cm [] (bs.take k) us p' _ V.heap.size w11 (HS.out.keep HWV.out HB11.out) HTM11.out HV1.out (by have := List.length_take_le k bs; omega) (by rw [List.nil_append]; exact HT1.out) (by
          rcases HT2.out with h | ⟨t, r, hv, h⟩
          · exact .inl h
          · have hrv := HRV.out
            rw [hv] at hrv
            cases hrv with
            | cons h1 h2 => exact .inr ⟨t, _, h, h1⟩) HRU.out HF2.out hvg (by omega) (by omega)).mono ?_)
        rintro e w12 ⟨F3, rfl, htm12, hF3, hon12⟩
        have hb12 := HB11.out.trans hon12.below
        have hs12 := hon12.below.size
        have HB12 := Lib.hid hb12
        have HTM12 := Lib.hid htm12
        have HV3 := Lib.hid (HV2.out.only hon12 hF3)
        have HF3 := Lib.hid (show ∀ k, F3 k → V.heap.size ≤ k from fun k hk => by
          rcases hF3 k hk with h | h
          · exact HF2.out k h
          · omega)
        obtain ⟨⟨x0, x1, x2⟩, y0, y1, y2⟩ := HC.out w12 hb12
        have hv12 : V.heap.size ≤ w12.heap.size := by omega
        clear hb12 htm12 hF3 hon12 HV2 HV1
        go_wp2_with fail
        (with_reducible refine (HTS.out.write p F3 q d cm s2 p' (bs.drop k) vs [] _ V.heap.size w12 (HS.out.keep HWV.out HB12.out) HTM12.out HV3.out (by rw [List.length_drop]; have := HLE.out; omega) (by rw [List.append_nil]; exact HT3.out) (.inl rfl) HRV.out HF3.out hv12 (by omega) (by omega)).mono ?_)
        rintro e w13 ⟨F4, rfl, htm13, hF4, hon13⟩
        have hb13 := HB12.out.trans hon13.below
        have hs13 := hon13.below.size
        have HB13 := Lib.hid hb13
        have HTM13 := Lib.hid htm13
        obtain ⟨⟨x0, x1, x2⟩, y0, y1, y2⟩ := HC.out w13 hb13
        have hv13 : V.heap.size ≤ w13.heap.size := by omega
        clear hb13 htm13 hF4 hon13 HV3
        have KG13 := Lib.hid (show ∀ W, Below w13.heap.size w13 W → Calls Tryd.prog 11 #[.pointer (some ⟨p, 0, none⟩)] W fun e w' => ∃ a m k, e = .returned (GridV q d a m k) ∧ m ≤ 3600 ∧ RowAt w' a m t ∧ Below W.heap.size W w' ∧ Below w13.heap.size w13 w' from fun W hb =>
          (HTS.out.grid p F4 q d s2 [] W (HS.out.keep HWV.out (HB13.out.trans (hb.mono hv13))) (HTS.out.stay HTM13.out hb.size (fun k hk => hb.block k (HTS.out.foot HTM13.out k hk))) (by omega) (by omega)).mono fun e w' ⟨a, m, k, he, hm, hk, ho, hbw⟩ => by
            rw [HG2.out, shown_flat HPT.out] at ho
            obtain ⟨a', k', hav, _, _, hr⟩ := own_row ho
            cases hav
            exact ⟨a, m, k, he, by rw [hm]; exact Nat.mul_le_mul (show q ≤ 60 by omega) (show d ≤ 60 by omega), hr, hbw, hb.trans (hbw.mono hb.size)⟩)
        have KA13 := Lib.hid (show ∀ (X Y : Int) (a : Option Addr) (m k : Nat) (l : List Cl) (W : World), m ≤ 3600 → RowAt W a m l → Below w13.heap.size w13 W → Calls Tryd.prog 10 #[.agg #[.int .i64 X, .int .i64 Y, .slice a m k]] W fun e w' => ∃ a' k', e = .returned (.slice a' m k') ∧ RowAt w' a' m l ∧ Below W.heap.size W w' ∧ Below w13.heap.size w13 w' from fun X Y a m k l W hm hr hb =>
          (asG X Y a m k l W (by omega) hr).mono fun e w' ⟨v, he, ho, hbw⟩ => by
            obtain ⟨a', k', rfl, hk', _, hr'⟩ := own_row ho
            exact ⟨a', k', he, hr', hbw, hb.trans (hbw.mono hb.size)⟩)
        have KL13 := Lib.hid (show ∀ (a : Option Addr) (m k : Nat) (a' : Option Addr) (m' k' : Nat) (W : World), m ≤ 3600 → RowAt W a m t → RowAt W a' m' t → Below w13.heap.size w13 W → Calls Tryd.prog 9 #[.slice a m k, .slice a' m' k'] W fun e w' => e = .returned (.bool true) ∧ Below w13.heap.size w13 w' from fun a m k a' m' k' W hm hr hr' hb =>
          (alike a m k t a' m' k' t W (by omega) hr hr').mono fun e w' ⟨he, hbw⟩ => ⟨by rw [he]; simp, hb.trans (hbw.mono hb.size)⟩)
        have KN13 := Lib.hid (show ∀ W, Below w13.heap.size w13 W → Calls Tryd.prog 5 #[] W fun e w' => e = .returned (.bool true) ∧ Below w13.heap.size w13 w' from fun W hb =>
          (HS.out.knows W (HS.out.keep HWV.out (HB13.out.trans (hb.mono hv13)))).mono fun e w' ⟨he, hbw⟩ => ⟨he, hb.trans (hbw.mono hb.size)⟩)
        have KS13 := Lib.hid (show ∀ W : World, Below w13.heap.size w13 W → (Below w13.heap.size w13 W ∧ W.cell? ⟨w.heap.size, 0, none⟩ = some (.int .i64 r) ∧ W.cell? ⟨w.heap.size, 1, none⟩ = some (.int .i64 c) ∧ W.cell? ⟨w.heap.size, 2, none⟩ = some (.slice fa fn fc) ∧ W.cell? ⟨w.heap.size + 1, 0, none⟩ = some (.int .i64 q) ∧ W.cell? ⟨w.heap.size + 1, 1, none⟩ = some (.int .i64 d) ∧ W.cell? ⟨w.heap.size + 1, 2, none⟩ = some (.slice ta tn tc)) from fun W hb => by
          obtain ⟨⟨a0, a1, a2⟩, b0, b1, b2⟩ := HC.out W (HB13.out.trans (hb.mono hv13))
          exact ⟨hb, a0, a1, a2, b0, b1, b2⟩)
        have HTW13 := Lib.hid (fun (W : World) (hb : Below w13.heap.size w13 W) => HTV.out.below (HB13.out.trans (hb.mono hv13)))
        go_wp2_with fail
        refine wp_region_held_drew (S := (fun W => Below w13.heap.size w13 W ∧ W.cell? ⟨w.heap.size, 0, none⟩ = some (.int .i64 r) ∧ W.cell? ⟨w.heap.size, 1, none⟩ = some (.int .i64 c) ∧ W.cell? ⟨w.heap.size, 2, none⟩ = some (.slice fa fn fc) ∧ W.cell? ⟨w.heap.size + 1, 0, none⟩ = some (.int .i64 q) ∧ W.cell? ⟨w.heap.size + 1, 1, none⟩ = some (.int .i64 d) ∧ W.cell? ⟨w.heap.size + 1, 2, none⟩ = some (.slice ta tn tc))) (by kernel_rfl) ?_ (fun hHeld => ?_)
        · (first | exact KS13.out _ (Below.refl _ _).drew | exact KS13.out _ (by assumption) | assumption)
        refine wpAnyH_take (i := 0) (oi := { dst := some 114, op := Op.move (Operand.tmp 7), type := 28, pos := "law.go:127", after := #[], guard := none }) (v := ?_) rfl (by kernel_rfl) (by kernel_rfl) (by kernel_rfl) (fun _ _ _ h => h) (Or.inl ⟨by rfl, ?_⟩) (by assumption) ?_
        rotate_left
        · (intro w hSw; (try dsimp only at hSw); go_simp; try with_reducible rfl)
        (try simp only [Act.put, List.setIfInBounds_toArray, List.set_cons_zero, List.set_cons_succ])
        refine wpAnyH_take (i := 3) (oi := { dst := some 117, op := Op.load 24 (Operand.tmp 4), type := 24, pos := "law.go:127", after := #[], guard := none }) (v := ?_) rfl (by kernel_rfl) (by kernel_rfl) (by kernel_rfl) (fun _ _ _ h => h) (Or.inl ⟨by rfl, ?_⟩) (by assumption) ?_
        rotate_left
        · (intro w hSw; (try dsimp only at hSw); go_simp; try with_reducible rfl)
        (try simp only [Act.put, List.setIfInBounds_toArray, List.set_cons_zero, List.set_cons_succ])
        refine wpAnyH_ready (rs := [1]) (by kernel_rfl) (by simp) ?_
        refine AllReadyH.cons (o := { dst := some 115, op := Op.call { callee := Callee.value (Operand.func 11), args := #[Operand.tmp 114], argTypes := #[28] }, type := 24, pos := "law.go:127", after := #[{ on := 0, ground := Ground.data }], guard := none }) rfl (fun K hK => ?_) AllReadyH.nil
        (go_simp; go_at_call 11; (with_reducible refine (KG13.out _ hHeld.1).mono ?_); rintro e g1 ⟨ga, gm, gk, rfl, hgm, hgr, hgb, hg6⟩; go_wp2_with fail)
        refine hK.out _ _ ?_ (fun hHeld2 => ?_)
        · (first | exact KS13.out _ (Below.refl _ _).drew | exact KS13.out _ (by assumption) | assumption)
        clear hK K
        (try simp only [Act.put, List.setIfInBounds_toArray, List.set_cons_zero, List.set_cons_succ])
        clear hHeld; have hHeld := hHeld2; clear hHeld2
        refine wpAnyH_ready (rs := [2]) (by kernel_rfl) (by simp) ?_
        refine AllReadyH.cons (o := { dst := some 116, op := Op.call { callee := Callee.value (Operand.func 10), args := #[Operand.tmp 115], argTypes := #[24] }, type := 37, pos := "law.go:127", after := #[{ on := 1, ground := Ground.data }, { on := 1, ground := Ground.chain }], guard := none }) rfl (fun K hK => ?_) AllReadyH.nil
        (go_simp; go_at_call 10; (with_reducible refine (KA13.out _ _ ga gm gk _ _ hgm hgr hHeld.1).mono ?_); rintro e g2 ⟨gb, gl, rfl, hgr2, hgb2, hg62⟩; go_wp2_with fail)
        refine hK.out _ _ ?_ (fun hHeld2 => ?_)
        · (first | exact KS13.out _ (Below.refl _ _).drew | exact KS13.out _ (by assumption) | assumption)
        clear hK K
        (try simp only [Act.put, List.setIfInBounds_toArray, List.set_cons_zero, List.set_cons_succ])
        clear hHeld; have hHeld := hHeld2; clear hHeld2
        refine wpAnyH_ready (rs := [4]) (by kernel_rfl) (by simp) ?_
        refine AllReadyH.cons (o := { dst := some 118, op := Op.call { callee := Callee.value (Operand.func 10), args := #[Operand.tmp 117], argTypes := #[24] }, type := 37, pos := "law.go:127", after := #[{ on := 3, ground := Ground.data }, { on := 2, ground := Ground.chain }], guard := none }) rfl (fun K hK => ?_) AllReadyH.nil
        (go_simp; go_at_call 10; (with_reducible refine (KA13.out _ _ ta tn tc _ _ (by omega) (HTW13.out _ hHeld.1) hHeld.1).mono ?_); rintro e g3 ⟨gc, go, rfl, hgr3, hgb3, hg63⟩; go_wp2_with fail)
        refine hK.out _ _ ?_ (fun hHeld2 => ?_)
        · (first | exact KS13.out _ (Below.refl _ _).drew | exact KS13.out _ (by assumption) | assumption)
        clear hK K
        (try simp only [Act.put, List.setIfInBounds_toArray, List.set_cons_zero, List.set_cons_succ])
        clear hHeld; have hHeld := hHeld2; clear hHeld2
        refine wpAnyH_ready (rs := [5]) (by kernel_rfl) (by simp) ?_
        refine AllReadyH.cons (o := { dst := some 119, op := Op.call { callee := Callee.value (Operand.func 9), args := #[Operand.tmp 116, Operand.tmp 118], argTypes := #[37, 37] }, type := 4, pos := "law.go:127", after := #[{ on := 2, ground := Ground.data }, { on := 4, ground := Ground.data }, { on := 4, ground := Ground.chain }], guard := none }) rfl (fun K hK => ?_) AllReadyH.nil
        (go_simp; go_at_call 9; (with_reducible refine (KL13.out _ _ _ _ _ _ _ hgm (hgr2.below hgb3) hgr3 hHeld.1).mono ?_); rintro e g4 ⟨rfl, hg4⟩; go_wp2_with fail)
        refine hK.out _ _ ?_ (fun hHeld2 => ?_)
        · (first | exact KS13.out _ (Below.refl _ _).drew | exact KS13.out _ (by assumption) | assumption)
        clear hK K
        (try simp only [Act.put, List.setIfInBounds_toArray, List.set_cons_zero, List.set_cons_succ])
        clear hHeld; have hHeld := hHeld2; clear hHeld2
        refine wpAnyH_take (i := 6) (oi := { dst := some 120, op := Op.move (Operand.tmp 119), type := 4, pos := "law.go:127", after := #[{ on := 5, ground := Ground.data }, { on := 5, ground := Ground.chain }], guard := none }) (v := ?_) rfl (by kernel_rfl) (by kernel_rfl) (by kernel_rfl) (fun _ _ _ h => h) (Or.inl ⟨by rfl, ?_⟩) (by assumption) ?_
        rotate_left
        · (intro w hSw; (try dsimp only at hSw); go_simp; try with_reducible rfl)
        (try simp only [Act.put, List.setIfInBounds_toArray, List.set_cons_zero, List.set_cons_succ])
        refine wpAnyH_ready (rs := [7]) (by kernel_rfl) (by simp) ?_
        refine AllReadyH.cons (o := { dst := some 121, op := Op.call { callee := Callee.value (Operand.func 5), args := #[], argTypes := #[] }, type := 4, pos := "law.go:127", after := #[{ on := 6, ground := Ground.chain }, { on := 6, ground := Ground.guard }], guard := some (6, true) }) rfl (fun K hK => ?_) AllReadyH.nil
        (go_simp; go_at_call 5; (with_reducible refine (KN13.out _ hHeld.1).mono ?_); rintro e g5 ⟨rfl, hg5⟩; go_wp2_with fail)
        refine hK.out _ _ ?_ (fun hHeld2 => ?_)
        · (first | exact KS13.out _ (Below.refl _ _).drew | exact KS13.out _ (by assumption) | assumption)
        clear hK K
        (try simp only [Act.put, List.setIfInBounds_toArray, List.set_cons_zero, List.set_cons_succ])
        clear hHeld; have hHeld := hHeld2; clear hHeld2
        refine wpAnyH_take (i := 8) (oi := { dst := some 122, op := Op.pick (Operand.tmp 120) (Operand.tmp 121) (Operand.const (Value.bool false)), type := 4, pos := "law.go:127", after := #[{ on := 6, ground := Ground.data }, { on := 7, ground := Ground.data }], guard := none }) (v := ?_) rfl (by kernel_rfl) (by kernel_rfl) (by kernel_rfl) (fun _ _ _ h => h) (Or.inl ⟨by rfl, ?_⟩) (by assumption) ?_
        rotate_left
        · (intro w hSw; (try dsimp only at hSw); go_simp; try with_reducible rfl)
        (try simp only [Act.put, List.setIfInBounds_toArray, List.set_cons_zero, List.set_cons_succ])
        refine wpAnyH_take (i := 9) (oi := { dst := some 6, op := Op.assign (Operand.tmp 122), type := 4, pos := "law.go:127", after := #[{ on := 8, ground := Ground.data }, { on := 7, ground := Ground.chain }, { on := 0, ground := Ground.phase }, { on := 1, ground := Ground.phase }, { on := 2, ground := Ground.phase }, { on := 3, ground := Ground.phase }, { on := 4, ground := Ground.phase }, { on := 5, ground := Ground.phase }, { on := 6, ground := Ground.phase }, { on := 7, ground := Ground.phase }, { on := 8, ground := Ground.phase }], guard := none }) (v := ?_) rfl (by kernel_rfl) (by kernel_rfl) (by kernel_rfl) (fun _ _ _ h => h) (Or.inl ⟨by rfl, ?_⟩) (by assumption) ?_
        rotate_left
        · (intro w hSw; (try dsimp only at hSw); go_simp; try with_reducible rfl)
        (try simp only [Act.put, List.setIfInBounds_toArray, List.set_cons_zero, List.set_cons_succ])
        refine wpAnyH_done (by kernel_rfl) ?_ _
        clear hHeld
        go_wp2
        go_ret
        exact ⟨rfl, HBV.out.trans ((HB13.out.trans (hg5.mono hv13)).mono (by omega))⟩
end
end Go.Proofs.YtnbpkabnaipimaaDoor
